import PyProof.Rows.All
import Wide.All
import OpenK.AllK
import Wide.FinOn
import PyProof.ReprRoads
import HandS.ForMost
import HandS.ForExc
import HandS.Property
import HandS.ClsMeth
import HandS.Defaults
import HandS.IsInst
import HandS.Wide
import HandS.WideBits
import HandS.Ends
import HandS.HeadEnd
import HandS.Head0
import HandS.Head1
import HandS.Head2
import HandS.HeadHook1
import HandS.HeadHook2
import HandS.Flow
import HandS.Style
import PyProof.LongRange
import HandS.ExcInit
import HandS.ExcField
import HandS.ExcIs
import HandS.TryOnly
import HandS.OwnEq
import KE.KExcInit
import PyProof.ExcBaseAll.ArithmeticError
import PyProof.ExcBaseAll.LookupError
import PyProof.ExcBaseAll.RuntimeError
import HandS.TryMany
import HandS.EndTab
import HandS.Iter
import HandS.Walk
import HandS.GenYield
import HandS.Text
import HandS.Comp
import HandS.Dict
import HandS.Zip
import HandS.More
import HandS.Star
import PyProof.EnumMake
import KE.GoesZip
import KE.KDictLaws
import HandS.TupAny
import HandS.List
import PyProof.EqAt
import HandS.HeadHook3
import KE.KStateDown
import Lean
import PySem.Challenge.RW_exactroom_k81_whole_programs_judged
set_option Elab.async false
set_option linter.all false
set_option maxRecDepth 100000
set_option maxHeartbeats 4000000
/-! Own layer: defs that are called where no repr is under way (the guards are known to be none), so that repr of data can be walked. -/
namespace Gu
open PySem PySem.Spec PyProof.Rows L2
structure RoomG (k : Nat) (A : Around) : Prop where
  r : Room k A
  g : A.guards = some []
theorem RoomG.mono {j k : Nat} {A : Around} (x : RoomG k A) (h : j ≤ k) : RoomG j A := ⟨x.r.mono h, x.g⟩
theorem RoomG.down {k : Nat} {A : Around} (x : RoomG (k + 1) A) (env : Env) : RoomG k (A.deeper env) := ⟨x.r.deeper env, x.g⟩
structure FnG (P : Program) (w : World) (K : PySem.W.Frag) (mg : Str → Option Value) (base : Heap) (CX : CXT) (k : Nat) (f : Addr) (fd : FuncData) (ps : List Str) (sp : Sp) : Prop where
  len : ∀ vs H Q E, sp vs H Q E → vs.length = ps.length
  run : ∀ (A : Around) (outer : List Env) (s : Shared) (H : Hp) (args : Args) (us : List Value) (vs : List V) (Q : VK) (E : XK),
    RoomG k A → Env0 P w K mg base A outer s H → BindsTo s fd args (ps.zip us) → Vals vs us → sp vs H Q E →
    codeAny (model P w) A (.call (.ref f) args) (CR CX outer P w H s Q E) s
section
variable {P : Program} {w : World} {K : PySem.W.Frag} {mg : Str → Option Value} {base : Heap} {CX : CXT} {k : Nat} {f : Addr} {fd : FuncData} {ps : List Str} {sp : Sp}
theorem FnG.of (F : FnOk P w K mg base CX k f fd ps sp) : FnG P w K mg base CX k f fd ps sp :=
  ⟨F.len, fun A outer s H args us vs Q E hr => F.run A outer s H args us vs Q E hr.r⟩
/-- a def by its body -/
theorem okG {x qual : Str} {params : Arguments} {body : List Stmt} {scope : Scope} {dvs : List V} {kws : List (Str × V)} {N : List Str}
    (F : FunD K x qual params body scope dvs kws f fd) (S : FnScope N ps scope) (len : ∀ vs H Q E, sp vs H Q E → vs.length = ps.length)
    (hbody : ∀ (cdv : Value) (A : Around) (outer : List Env) (s : Shared) (H : Hp) (vs : List V) (Q : VK) (E : XK),
      RoomG k (A.deeper (envOfC qual scope s.heap.objs.size f cdv)) → sp vs H Q E →
      ∃ t, PSs (cxOf CX P w K mg base N qual scope f cdv A outer s H E) body t ∧ t { nx := fun _ H' => Q .non H', rt := Q } (start N vs) H) :
    FnG P w K mg base CX (k + 1) f fd ps sp := by
  obtain ⟨oc, od, dV, kV, doc, pm, an, cdv, ct, osl, rfl, lk, hcd, _, _⟩ := F.ex
  refine ⟨len, fun A outer s H args us vs Q E hr e0 hb rv hsp => ?_⟩
  have KX : K.In s.heap := e0.mod.kin.keeps fun b o e => (e0.bs b o e).1
  have hkinds : ∀ y ∈ ps.zip us, scope.names.lookup y.1 = some .local ∨
      (scope.names.lookup y.1 = some .cell ∧ ((cellsFrom (s.heap.objs.size + 1) scope.names []).lookup y.1).isSome = true) := by
    rintro ⟨n, v⟩ hy
    rcases S.par n (List.of_mem_zip hy).1 with q | q
    · exact .inl q
    · exact .inr ⟨q, PySem.W.cellsFrom_some _ _ _ (.inl q)⟩
  refine codeAny_call_function hr.r.depth (KX _ _ lk) rfl S.co S.gen rfl (PySem.W.codeRec_of KX hcd) (hb _ _ _ _ ?_)
  refine wpAny_newFunctionEnv_cells S.kind hkinds fun env he s1 x => ?_
  subst he
  refine ⟨(e0.mod.nolimit.keeps fun b o e => (e0.bs b o e).1).keeps x.toInCall.keep, codeAny_func ?_⟩
  obtain ⟨t, ht, hq⟩ := hbody cdv A outer s H vs Q E (hr.down _) hsp
  have I := inv_start (CX := CX) (E := E) (N := N) (qual := qual) (f := f) (cd := cdv) S hr.r.hd e0 (len _ _ _ _ hsp) rv x
  refine wpAny_mono (ht.run [] s1 (start N vs) H _ I hq) (fun fl s' hs => ?_) fun e s' hs => hs
  cases fl with
  | ret u =>
    obtain ⟨v, σ', H', J, rv', q⟩ := hs
    exact ⟨v, H', J.os, J.bare, J.base, J.hok, rv', q⟩
  | next =>
    obtain ⟨σ', H', J, q⟩ := hs
    exact ⟨V.non, H', J.os, J.bare, J.base, J.hok, rfl, q⟩
  | brk => exact hs.elim fun _ z => z.elim fun _ z => z.2.elim
  | cont => exact hs.elim fun _ z => z.elim fun _ z => z.2.elim
end
section
variable {X : Cx} {CX : CXT} {k : Nat} {f : Addr} {fd : FuncData} {ps : List Str} {sp : Sp} {dvs : List V} {ds : List Value} {E : XK} {x : Str} {p pos : Pos} {e : Expr} {es : List Expr} {t : TA}
theorem runG {pins : List (Addr × Obj)} {σ : L2.St} {H : Hp} {s : Shared} {Q : VK} {us : List Value} {vs : List V} (F : FnG X.prog X.w X.K X.mg X.base CX k f fd ps sp)
    (hr : RoomG k X.A) (hb : Binds X.K fd ps ds) (hd : Vals dvs ds) (hx : Passes CX X E) (I : Inv X pins σ H s) (r : Vals vs us) (h : sp (vs ++ dvs) H Q E) :
    wpAny (model X.prog X.w) X.A (call (.ref f) us) (EP X pins σ Q) X.xe s := by
  have r2 := r.append hd
  have hl : (us ++ ds).length = ps.length := r2.length.symm.trans (F.len _ _ _ _ h)
  refine wpAny_call (codeAny_mono (F.run X.A X.stack s H ⟨us, []⟩ _ _ Q E hr I.env0 (hb s us I.kIn hl) r2 h) fun r s' hq => ?_)
  match r, hq with
  | .error e, hq => exact hx pins σ H s e s' I hq
  | .ok (.ret u), hq => exact I.after hq
/-- f(e, ..) -/
theorem pe_callG (F : FnG X.prog X.w X.K X.mg X.base CX k f fd ps sp) (hr : RoomG k X.A) (hg : Gl X x) (hm : X.mg x = some (.ref f)) (hk : PySem.W.keepIn X.K (.ref f) = true)
    (hb : Binds X.K fd ps ds) (hd : Vals dvs ds) (hx : Passes CX X E) (ha : PA X (e :: es) t) (hdb : (x == ("__debug__" : Str)) = false := by decide)
    (he : starEach (e :: es) X.env = (false, eval e X.env) :: starEach es X.env := by rfl) (hpl : (backTo pos (starEach es X.env)).any (·.1) = false := by rfl) :
    PE X (.Call (.Name x p) (e :: es) [] pos) (tCall sp dvs E t) :=
  ⟨fun pins s σ H Q I h => wpAny_Call_Name_kw (ld_glob I hg hm (PySem.W.callWith_K (h₀ := X.base) I.ok.mod.kin hk
    (thn (ha.run pos pins s σ H _ I h) fun us s1 ⟨vs, H1, I1, r, q⟩ => ⟨I1.kIn, runG F hr hb hd hx I1 r q⟩) he hpl) hdb)⟩
/-- repr of a list or a tuple of data -/
def rReprD (K : PySem.W.Frag) : List V → Hp → VK → Prop := fun xs H Q => ∃ (a : Addr) (d : PyData), xs = [.ref a] ∧ Dp K H (.ref a) d ∧ d.showable = true ∧ d.hasDict = false ∧ d.depth ≤ 60 ∧ d.shown.length ≤ sizeLine ∧ Q (.str d.shown) H
theorem call_reprD (hr : RoomG k X.A) : CallR X (.builtin "repr") (rReprD X.K) := by
  intro pins s σ H xs us Q I r h
  obtain ⟨a, d, rfl, hd, hs, hn, hdep, hz, q⟩ := h
  obtain ⟨u, rfl, ru⟩ := vals1 r
  obtain rfl : u = Value.ref a := ru
  obtain ⟨as, rd⟩ := Dp.reads I d (.ref a) (.ref a) hd rfl
  have hu := hr.r.units
  exact repr_of_reads' rd hs (PyData.noDict_hsm hn) hr.g (by omega) (fun _ _ e => e) (fun h' u tk hk => ⟨.str d.shown, H, I.kept hk, ⟨u, rfl⟩, q⟩) hz
end
/-- the law's call, from its promise where no repr is under way -/
theorem law_go {P : Program} {w : World} {K : PySem.W.Frag} {mg mb : Str → Option Value} {CX : CXT} {k : Nat} {fa a : Addr} {fd : FuncData} {x : Str} {sp : Sp} {s₁ : Shared} {vs : List Value} {H : Hp}
    (KX : K.In s₁.heap) (hns : s₁.heap.Ns mainGlobals mg) (hb : s₁.heap.Ns builtinsNs mb) (hbb : ∀ x : Str, x ≠ "__name__" → mb x = bootBuiltins x) (hlim : s₁.heap.NoLimit) (hg : s₁.gens = #[])
    (ha : s₁.heap.get? a = some { cls := .type "list", data := .seq vs.toArray }) (hr : RoomG k callerA)
    (F : ∀ base : Heap, K.In base → base.Ns mainGlobals mg → FnG P w K mg base CX k fa fd [x] sp) (hbind : ∀ (s : Shared) (u : Value), BindsTo s fd ⟨[u], []⟩ [(x, u)])
    (hsp : sp [.ref a] H (fun v _ => v = .bl true) fun _ _ _ => False) (hCX : ∀ e s', CX [] H s₁ (fun _ _ _ => False) e s' → False)
    (hO : Only H) (hok : HOk P w H s₁.heap) (hA : ∀ b, H b ≠ none → b = a) (hK : H a ≠ none → K.lookup a = none) :
    codeAny (model P w) callerA (.call (.ref fa) ⟨[.ref a], []⟩) (fun r s' => r = .ok (.ret (.bool true)) ∧ OldK s₁.heap s'.heap ∧ s'.os = s₁.os ∧ AllBare s'.gens) s₁ := by
  have free : ∀ {b : Addr} {o : Obj}, s₁.heap.get? b = some o → (b = a → False) → (hidT s₁.heap H).get? b = some o := fun {b o} e n => hidT_get e (by
    cases q : H b with
    | none => rfl
    | some u => exact (n (hA b (by rw [q]; exact fun z => nomatch z))).elim)
  have nsK : ∀ {b : Addr} {m : Str → Option Value}, s₁.heap.Ns b m → (hidT s₁.heap H).Ns b m := fun {b m} ⟨o, es, ep, e, d, r⟩ => ⟨o, es, ep, free e (fun z => by
    rw [z, ha] at e
    have e' := Option.some.inj e
    rw [← e'] at d
    exact nomatch d), d, r⟩
  have hKb : K.In (hidT s₁.heap H) := fun b o e => hidT_get (KX b o e) (by
    cases q : H b with
    | none => rfl
    | some u =>
      have z : b = a := hA b (by rw [q]; exact fun z => nomatch z)
      rw [z] at e q
      rw [hK (by rw [q]; exact fun z => nomatch z)] at e
      exact nomatch e)
  obtain ⟨mc, l1, l2⟩ := hlim
  have e0 : Env0 P w K mg (hidT s₁.heap H) callerA [] s₁ H :=
    ⟨rfl, ⟨hKb, nsK hns, ⟨mb, nsK hb, hbb⟩, ⟨mc, nsK l1, l2⟩⟩, fun b o e => of_hidT e, Nat.le_of_eq (hidT_size _ _), trivial, fun b hb => absurd (show b ∈ ([] : List Addr) from hb) List.not_mem_nil, hok, .of_eq hg⟩
  refine codeAny_mono ((F _ hKb (nsK hns)).run callerA [] s₁ H ⟨[.ref a], []⟩ [.ref a] [.ref a] _ _ hr e0 (hbind s₁ (.ref a)) (.cons rfl .nil) hsp) fun r s' h => ?_
  match r, h with
  | .error e, h => exact (hCX e s' h).elim
  | .ok (.ret u), h =>
    obtain ⟨v, H', os, bare, un, hok', r', q⟩ := h
    obtain rfl : v = .bl true := q
    obtain rfl : u = Value.bool true := r'
    refine ⟨rfl, OldK.of_keep fun b o e => ?_, os, bare⟩
    cases q : H b with
    | none => exact un.keep b o e q (fun z => absurd (show b ∈ ([] : List Addr) from z) List.not_mem_nil) (fun z => absurd (show b ∈ ([] : List Addr) from z) List.not_mem_nil)
    | some u =>
      rcases hO b with z | ⟨ob, xs, z⟩
      · rw [q] at z
        exact nomatch z
      · obtain ⟨e1, _⟩ := hok b _ z
        obtain ⟨e2, _⟩ := hok' b _ (un.frzs b ob _ z)
        rw [e] at e1
        rw [Option.some.inj e1]
        exact e2
theorem law_callG {P : Program} {w : World} {K : PySem.W.Frag} {mg mb : Str → Option Value} {CX : CXT} {k : Nat} {fa a : Addr} {fd : FuncData} {x : Str} {sp : Sp} {s₁ : Shared} {vs : List Value} {ns : List Int}
    (KX : K.In s₁.heap) (hns : s₁.heap.Ns mainGlobals mg) (hb : s₁.heap.Ns builtinsNs mb) (hbb : ∀ x : Str, x ≠ "__name__" → mb x = bootBuiltins x) (hlim : s₁.heap.NoLimit) (hg : s₁.gens = #[])
    (ha : s₁.heap.get? a = some { cls := .type "list", data := .seq vs.toArray }) (hi : IntsAre vs ns) (hl : ns.length ≤ sizeLine) (hr : RoomG k callerA)
    (F : ∀ base : Heap, K.In base → base.Ns mainGlobals mg → FnG P w K mg base CX k fa fd [x] sp) (hbind : ∀ (s : Shared) (u : Value), BindsTo s fd ⟨[u], []⟩ [(x, u)])
    (hsp : ∀ H : Hp, Only H → SqL K H a (ns.map V.int) → sp [.ref a] H (fun v _ => v = .bl true) fun _ _ _ => False) (hCX : ∀ H e s', CX [] H s₁ (fun _ _ _ => False) e s' → False) :
    codeAny (model P w) callerA (.call (.ref fa) ⟨[.ref a], []⟩) (fun r s' => r = .ok (.ret (.bool true)) ∧ OldK s₁.heap s'.heap ∧ s'.os = s₁.os ∧ AllBare s'.gens) s₁ := by
  have rv := vals_ints hi
  have lenV := hi.length
  cases hk : K.lookup a with
  | some o =>
    have e := (KX a o hk).symm.trans ha
    obtain rfl := Option.some.inj e
    have hO : Only (fun _ => none) := fun _ => .inl rfl
    exact law_go (H := fun _ => none) KX hns hb hbb hlim hg ha hr F hbind
      (hsp _ hO (.inr ⟨_, vs.toArray, _, hk, rfl, rfl, rfl, by rw [List.size_toArray, lenV]; exact hl, by simpa using rv⟩)) (hCX _) hO
      (fun b u z => nomatch (show (none : Option HO) = some u from z)) (fun b z => (z rfl).elim) (fun z => (z rfl).elim)
  | none =>
    let H0 : Hp := fun b => if b = a then some (.frz { cls := .type "list", data := .seq vs.toArray } (.lst (ns.map V.int))) else none
    have at_ : H0 a = some (.frz { cls := .type "list", data := .seq vs.toArray } (.lst (ns.map V.int))) := if_pos rfl
    have off : ∀ b, b ≠ a → H0 b = none := fun b h => if_neg h
    have hO : Only H0 := fun b => by
      by_cases h : b = a
      · rw [h]
        exact .inr ⟨_, _, at_⟩
      · exact .inl (off b h)
    refine law_go (H := H0) KX hns hb hbb hlim hg ha hr F hbind (hsp _ hO (.inl (.inr ⟨_, at_⟩))) (hCX _) hO (fun b u z => ?_) (fun b z => ?_) (fun _ => hk)
    · by_cases h : b = a
      · rw [h, at_] at z
        obtain rfl := Option.some.inj z
        rw [h]
        exact ⟨ha, by rw [List.length_map]; exact hl, vs, _, rv, ha⟩
      · rw [off b h] at z
        exact nomatch z
    · by_cases h : b = a
      · exact h
      · exact (z (off b h)).elim
/-- the end of a law, over a head by facts -/
theorem walkG {l : PySem.W.OpenLaw} {n k : Nat} {q : Program} {loose : List Str} {XP : (Str → Option Value) → Heap → Prop} {YP : World → Heap → Prop} {d : DefRec} {CX : CXT} {x : Str}
    (hn : l.most = some n) (hn2 : n ≤ sizeLine) (hdf : d.params.defaults = []) (hr : RoomG k callerA)
    (F : ∀ (w : World) (mg : Str → Option Value) (fa : Addr) (h : Heap), YP w h → h.Ns mainGlobals mg → mg d.name = some (.ref fa) →
      ∃ (K : PySem.W.Frag) (fd : FuncData) (sp : Sp), K.In h ∧ (∀ (s : Shared) (u : Value), BindsTo s fd ⟨[u], []⟩ [(x, u)]) ∧
        (∀ (H : Hp) (a : Addr) (ns : List Int), ns.length ≤ n → Only H → SqL K H a (ns.map V.int) → sp [.ref a] H (fun v _ => v = .bl true) fun _ _ _ => False) ∧
        ∀ base : Heap, K.In base → base.Ns mainGlobals mg → FnG l.prog w K mg base CX k fa fd [x] sp)
    (hCX : ∀ (H : Hp) (s : Shared) (e : Value) (s' : Shared), CX [] H s (fun _ _ _ => False) e s' → False) :
    PySem.W.WalkO q loose XP YP l.row.toRowW d [] (fun f vs => PySem.call f vs) := by
  refine Att.attach_call hn hdf fun w s₀ s₁ mg mb fa o pm cd doc a vs ns G Y ho hd hcd hmg hobj hints hlen hg => ?_
  obtain ⟨K, fd, sp, KX, hb, hsp, hF⟩ := F w mg fa _ Y G.T.g hmg
  exact law_callG KX G.T.g G.T.b G.T.builtins G.T.nolimit hg hobj hints (Nat.le_trans hlen hn2) hr hF hb (fun H hO hS => hsp H a ns hlen hO hS) fun H e s' => hCX H s₁ e s'
end Gu

set_option Elab.async false
set_option linter.all false
set_option maxRecDepth 100000
set_option maxHeartbeats 4000000
/-! Own layer: defs, methods, makers and properties by their names. -/
namespace Ex
open PySem PySem.Spec PyProof.Rows L2 Gu
section
variable (P : Program) (w : World) (K : PySem.W.Frag) (mg : Str → Option Value) (base : Heap)
/-- the module's def x keeps sp -/
structure Df (k : Nat) (x : Str) (ps : List Str) (sp : Sp) : Prop where
  ex : ∃ fd, FnOk P w K mg base CX0 k (He.ga K x) fd ps sp ∧ Binds K fd ps []
  gl : mg x = some (.ref (He.ga K x))
  kp : PySem.W.keepIn K (.ref (He.ga K x)) = true
structure DfG (k : Nat) (x : Str) (ps : List Str) (sp : Sp) : Prop where
  ex : ∃ fd, FnG P w K mg base CX0 k (He.ga K x) fd ps sp ∧ Binds K fd ps []
  gl : mg x = some (.ref (He.ga K x))
  kp : PySem.W.keepIn K (.ref (He.ga K x)) = true
/-- .. called by keywords ks alone; j: the places of the parameters among the keywords -/
structure DfK (k : Nat) (x : Str) (ps ks : List Str) (j : List Nat) (sp : Sp) : Prop where
  ex : ∃ fd, FnOk P w K mg base CX0 k (He.ga K x) fd ps sp ∧ ∀ (s : Shared) (ws : List Value), ws.length = ks.length → BindsTo s fd ⟨[], ks.zip ws⟩ (ps.zip (j.filterMap fun i => ws[i]?))
  gl : mg x = some (.ref (He.ga K x))
  kp : PySem.W.keepIn K (.ref (He.ga K x)) = true
structure Mf (k : Nat) (c m : Str) (ps : List Str) (sp : Sp) : Prop where
  ex : ∃ fd, FnOk P w K mg base CX0 k (He.ma K (He.ga K c) m) fd ps sp ∧ Binds K fd ps []
  cl : Cls K (He.ga K c)
  me : Meth K (He.ga K c) m (He.ma K (He.ga K c) m)
structure Pf (k : Nat) (c m : Str) (sp : Sp) : Prop where
  cl : Cls K (He.ga K c)
  ex : ∃ (p g : Addr) (fd : FuncData), PropOf K (He.ga K c) m p g ∧ FnOk P w K mg base CX0 k g fd ["self"] sp ∧ Binds K fd ["self"] []
structure Kf (k : Nat) (c : Str) (ps : List Str) (sp : Sp) : Prop where
  ex : ∃ fd, FnOk P w K mg base CX0 k (He.ma K (He.ga K c) "__init__") fd ps sp ∧ Binds K fd ps []
  gl : mg c = some (.ref (He.ga K c))
  mkr : Mk K (He.ga K c) (He.ma K (He.ga K c) "__init__")
end
section
variable {X : Cx} {k j : Nat} {x c m : Str} {ps ks : List Str} {ji : List Nat} {sp : Sp} {p pos apos : Pos} {e o : Expr} {es : List Expr} {kws : List Keyword} {t tk : TA} {ta : TE}
theorem pcall (D : Df X.prog X.w X.K X.mg X.base k x ps sp) (hr : Room j X.A) (ha : PA X (e :: es) t) (hj : k ≤ j := by decide) (hg : Gl X x := by rfl) (hdb : (x == ("__debug__" : Str)) = false := by decide)
    (he : starEach (e :: es) X.env = (false, eval e X.env) :: starEach es X.env := by rfl) (hpl : (backTo pos (starEach es X.env)).any (·.1) = false := by rfl) :
    PE X (.Call (.Name x p) (e :: es) [] pos) (tCall sp [] E0 t) := by
  obtain ⟨fd, F, b⟩ := D.ex
  exact pe_call F (hr.mono hj) hg D.gl D.kp b .nil pass0 ha hdb he hpl
theorem pcallG (D : DfG X.prog X.w X.K X.mg X.base k x ps sp) (hr : RoomG j X.A) (ha : PA X (e :: es) t) (hj : k ≤ j := by decide) (hg : Gl X x := by rfl) (hdb : (x == ("__debug__" : Str)) = false := by decide)
    (he : starEach (e :: es) X.env = (false, eval e X.env) :: starEach es X.env := by rfl) (hpl : (backTo pos (starEach es X.env)).any (·.1) = false := by rfl) :
    PE X (.Call (.Name x p) (e :: es) [] pos) (tCall sp [] E0 t) := by
  obtain ⟨fd, F, b⟩ := D.ex
  exact pe_callG F (hr.mono hj) hg D.gl D.kp b .nil pass0 ha hdb he hpl
def tKw (sp : Sp) (n : Nat) (j : List Nat) (tk : TA) : TE := fun σ H Q => tk σ H fun zs H2 => zs.length = n ∧ sp (j.filterMap fun i => zs[i]?) H2 Q E0
theorem vals_pick {zs : List V} {ws : List Value} (r : Vals zs ws) : ∀ j : List Nat, Vals (j.filterMap fun i => zs[i]?) (j.filterMap fun i => ws[i]?)
  | [] => .nil
  | i :: j => by
    rw [List.filterMap_cons, List.filterMap_cons]
    cases e : zs[i]? with
    | none =>
      rw [r.none_of e]
      exact vals_pick r j
    | some z =>
      obtain ⟨u, hu, ru⟩ := r.get e
      rw [hu]
      exact .cons ru (vals_pick r j)
theorem pcallK (D : DfK X.prog X.w X.K X.mg X.base k x ps ks ji sp) (hr : Room j X.A) (hkw : PK X kws tk) (hj : k ≤ j := by decide) (hg : Gl X x := by rfl)
    (hall : (backToKw pos (keywordEach kws X.env)).all (·.1.isSome) = true := by rfl) (hks : (backToKw pos (keywordEach kws X.env)).filterMap (·.1) = ks := by rfl)
    (hdb : (x == ("__debug__" : Str)) = false := by decide)
    (hpl : ((backTo pos (starEach [] X.env)).any (·.1) || (backToKw pos (keywordEach kws X.env)).any (·.1.isNone)) = false := by rfl) :
    PE X (.Call (.Name x p) [] kws pos) (tKw sp ks.length ji tk) := by
  obtain ⟨fd, F, b⟩ := D.ex
  refine ⟨fun pins s σ H Q I h => wpAny_Call_Name_kw (ld_glob I hg D.gl ?_ hdb)⟩
  refine PySem.W.callWith_KW0 (h₀ := X.base) I.ok.mod.kin D.kp hall (thn (hkw.run pos pins s σ H _ I h) fun ws s2 ⟨zs, H2, I2, rz, l2, q2⟩ => ⟨I2.kIn, ?_⟩) hpl
  rw [hks]
  refine wpAny_call (codeAny_mono (F.run X.A X.stack s2 H2 ⟨[], ks.zip ws⟩ _ _ Q E0 (hr.mono hj) I2.env0 (b s2 ws (rz.length.symm.trans l2)) (vals_pick rz ji) q2) fun r s' hq => ?_)
  match r, hq with
  | .ok (.ret u), hq => exact I2.after hq
theorem pmeth {pl : Sem Bool} (D : Mf X.prog X.w X.K X.mg X.base k c m ps sp) (hr : Room j X.A) (he : PE X o ta) (ha : PA X (e :: es) t) (hj : k ≤ j := by decide)
    (hst : starEach (e :: es) X.env = (false, eval e X.env) :: starEach es X.env := by rfl) (hpl : (backTo pos (starEach es X.env)).any (·.1) = false := by rfl)
    (ht : eval (.Call (.Attribute o m apos) (e :: es) [] pos) X.env = (do
      let ov ← eval o X.env
      standAt apos.atName
      let (f, first) ← holding [ov] (getMethod ov m pl)
      callWith pos f first (backTo pos (starEach (e :: es) X.env)) (backToKw pos (keywordEach [] X.env))) := by rfl) :
    PE X (.Call (.Attribute o m apos) (e :: es) [] pos) (tMeth (He.ga X.K c) m sp [] E0 ta t) := by
  obtain ⟨fd, F, b⟩ := D.ex
  exact pe_meth he D.cl D.me F (hr.mono hj) b .nil pass0 ha hst hpl ht
theorem pmeth0 {pl : Sem Bool} (D : Mf X.prog X.w X.K X.mg X.base k c m ps sp) (hr : Room j X.A) (he : PE X o ta) (hj : k ≤ j := by decide)
    (ht : eval (.Call (.Attribute o m apos) [] [] pos) X.env = (do
      let ov ← eval o X.env
      standAt apos.atName
      let (f, first) ← holding [ov] (getMethod ov m pl)
      callWith pos f first (backTo pos (starEach [] X.env)) (backToKw pos (keywordEach [] X.env))) := by rfl) :
    PE X (.Call (.Attribute o m apos) [] [] pos) (tMeth (He.ga X.K c) m sp [] E0 ta tNil) := by
  obtain ⟨fd, F, b⟩ := D.ex
  exact pe_meth0 he D.cl D.me F (hr.mono hj) b .nil pass0 ht
theorem pprop (D : Pf X.prog X.w X.K X.mg X.base k c m sp) (hr : Room j X.A) (he : PE X o ta) (hj : k + 1 ≤ j := by decide) (hab : attributeBase o m X.env (eval o X.env) = eval o X.env := by rfl) :
    PE X (.Attribute o m pos) (tProp (He.ga X.K c) sp [] E0 ta) := by
  obtain ⟨p, g, fd, hp, F, b⟩ := D.ex
  exact pe_prop he D.cl hp F (hr.mono hj) b .nil pass0 hab
theorem pmake (D : Kf X.prog X.w X.K X.mg X.base k c ps sp) (hr : Room j X.A) (ha : PA X (e :: es) t) (hj : k + 1 ≤ j := by decide) (hg : Gl X c := by rfl) (hdb : (c == ("__debug__" : Str)) = false := by decide)
    (he : starEach (e :: es) X.env = (false, eval e X.env) :: starEach es X.env := by rfl) (hpl : (backTo pos (starEach es X.env)).any (·.1) = false := by rfl) :
    PE X (.Call (.Name c p) (e :: es) [] pos) (tMake (He.ga X.K c) sp [] E0 t) := by
  obtain ⟨fd, F, b⟩ := D.ex
  exact pe_make D.mkr F (hr.mono hj) hg D.gl b .nil pass0 ha hdb he hpl
end
end Ex

set_option Elab.async false
set_option linter.all false
set_option maxRecDepth 100000
set_option maxHeartbeats 4000000
/-! Own layer: range(a, b) of any whole numbers (walked by one or the other iterator of the machine). -/
namespace Ex
open PySem PySem.Spec PyProof.Rows L2 Gu
theorem turn_long {P : Program} {w : World} {K : PySem.W.Frag} {tg : Expr} (it : Addr) (lo : Int) (n : Nat) :
    Turn P w K tg (Itr lo n) [it] it (fun i h => IsLongIter h it (lo + (i : Nat) * 1) ((n : Int) - (i : Nat)) 1) where
  mem := List.mem_singleton.mpr rfl
  obj := fun i h st b hb => by
    obtain rfl := List.mem_singleton.mp hb
    exact ⟨_, st, fun v z => nomatch (show Data.fields _ = Data.cell v from z)⟩
  keep := fun i h h' st k => k it (List.mem_singleton.mpr rfl) _ st
  item := by
    rintro X rfl rfl rfl hc i pins s σ H E I hf st hg
    obtain ⟨f0, f1, f2, f3, f4, f5⟩ := hf it (List.mem_singleton.mpr rfl)
    refine (Walks.longrange (prog := X.prog) (w := X.w) (I.ok.hd hc) it lo 1 n).item i s _ _ hg st fun v h' tk hv st' kk => ?_
    obtain ⟨t, rfl⟩ := hv
    have J : Inv X pins σ H { s with heap := h', toks := tk } := I.turned (fun b o hb e => kk b o (fun z => hb (List.mem_singleton.mp z)) e) f0 f1 f3 f4 f5
    refine ⟨_, rfl, go_of (s := { s with heap := h', toks := tk }) (n := "longrange_iterator") st' rfl rfl (by decide) ⟨.int (lo + i), H, J, ⟨t, ?_⟩, ⟨rfl, rfl⟩, st', fun b hb => (hf b hb).1⟩⟩
    rw [Int.mul_one]
  done := by
    rintro X rfl rfl rfl hc i pins s σ H E I hf st hg
    obtain ⟨f0, f1, f2, f3, f4, f5⟩ := hf it (List.mem_singleton.mpr rfl)
    have hn : n ≤ i := hg
    exact wpAny_pyNext_long_end (I.ok.hd hc) st (by omega) fun h' eb => ⟨rfl, I.turned (t' := s.toks) (fun b o hb e => eb b o hb e) f0 f1 f3 f4 f5⟩
  self := fun _ _ _ _ _ st h => wpAny_pyIter_longiter st h
section
variable {X : Cx} {tg : Expr}
theorem range_any {pins : List (Addr × Obj)} {σ : L2.St} {H : Hp} {s : Shared} {R : It → Hp → Prop} {E : Value → Shared → Prop} {lo hi : Int} {t u v : Tok} {tk : Nat} (I : Inv X pins σ H s) (q : R (Itr lo (hi - lo).toNat) H) :
    wpAny (model X.prog X.w) X.A (pyIter (.ref s.heap.objs.size)) (PIE X pins σ tg R) E { s with heap := s.heap.push { cls := .type "range", data := .fields #[.int lo t, .int hi u, .int 1 v] }, toks := tk } := by
  have J : Inv X pins σ H { s with heap := s.heap.push { cls := .type "range", data := .fields #[.int lo t, .int hi u, .int 1 v] }, toks := tk } := I.kept fun b o e => Heap.get?_push_of_some _ e
  have e1 : lo + ((0 : Nat) : Int) * 1 = lo := by simp
  have e2 : (((hi - lo).toNat : Nat) : Int) - ((0 : Nat) : Int) = Builtin.Range.rangeSize lo hi 1 := by rw [rangeSize_one]; split <;> omega
  have fr : ∀ b ∈ [(s.heap.push { cls := .type "range", data := .fields #[.int lo t, .int hi u, .int 1 v] }).objs.size], _ := fun b hb => by
    obtain rfl := List.mem_singleton.mp hb
    exact J.fpOk (Nat.le_refl _) (J.hok.fresh (Nat.le_refl _))
  cases hs : Builtin.Range.small lo hi 1 with
  | true =>
    refine wpAny_pyIter_range (IsRange.new ..) hs ⟨_, [_], _, _, H, rfl, J.kept (t' := tk) fun b o e => Heap.get?_push_of_some _ e, turn_range _ lo (hi - lo).toNat, ?_, fr, q⟩
    show IsRangeIter _ _ (lo + ((0 : Nat) : Int) * 1) ((((hi - lo).toNat : Nat) : Int) - ((0 : Nat) : Int)) 1
    rw [e1, e2]
    exact Heap.get?_push_size _ rfl
  | false =>
    refine wpAny_pyIter_longrange (IsRange.new ..) hs ⟨_, [_], _, _, H, rfl, J.kept (t' := tk) fun b o e => Heap.get?_push_of_some _ e, turn_long _ lo (hi - lo).toNat, ?_, fr, q⟩
    show IsLongIter _ _ (lo + ((0 : Nat) : Int) * 1) ((((hi - lo).toNat : Nat) : Int) - ((0 : Nat) : Int)) 1
    rw [e1, e2]
    exact Heap.get?_push_size _ rfl
def iRngA (ta : TA) : TI := fun σ H R => ta σ H fun vs H1 => ∃ i j : Int, vs = [.int i, .int j] ∧ R (Itr i (j - i).toNat) H1
theorem pi_rangeA {a b : Expr} {ta : TA} {p pos : Pos} (hg : Gl X "range") (hm : X.mg "range" = none) (ha : PA X [a, b] ta) (hs : starEach [a, b] X.env = [(false, eval a X.env), (false, eval b X.env)] := by rfl)
    (hs2 : starEach [b] X.env = [(false, eval b X.env)] := by rfl) : PI X tg (.Call (.Name "range" p) [a, b] [] pos) (iRngA ta) := by
  refine ⟨fun pins s σ H R I h => Call_ (ld_blt I hg hm boot_range (PyProof.Rows.callWith_type1 (thn (ha.run pos pins s σ H _ I h) fun us s1 ⟨vs, H1, I1, r1, q1⟩ => ?_) (by rw [hs, hs2]) (by rw [hs2]; rfl)))⟩
  obtain ⟨i, j, rfl, q⟩ := q1
  obtain ⟨u, z, rfl, ⟨t, rfl⟩, ⟨t', rfl⟩⟩ := vals2 r1
  exact call_range_2 (range_any I1 q)
end
end Ex

set_option Elab.async false
set_option linter.all false
set_option maxRecDepth 100000
set_option maxHeartbeats 4000000
/-! Own layer: data of any depth, dicts among it, as repr shows it. -/
namespace Ex
open PySem PySem.Spec PyProof.Rows L2 Gu
mutual
inductive Dq (K : PySem.W.Frag) (H : Hp) : V → PyData → Prop
  | non : Dq K H .non .none
  | bl (b : Bool) : Dq K H (.bl b) (.bool b)
  | int (i : Int) : Dq K H (.int i) (.int i)
  | str (x : Str) : Dq K H (.str x) (.str x)
  | lst {a : Addr} {xs : List V} {ds : List PyData} : SqL K H a xs → DqAll K H xs ds → Dq K H (.ref a) (.list ds)
  | tup {a : Addr} {xs : List V} {ds : List PyData} : SqT K H a xs → DqAll K H xs ds → Dq K H (.ref a) (.tuple ds)
  | dct {a : Addr} {kvs : List (Key × V)} {ds : List (PyData × PyData)} : H a = some (.dK kvs) → DqAll K H (kvs.map fun p => kV p.1) (ds.map (·.1)) → DqAll K H (kvs.map (·.2)) (ds.map (·.2)) → Dq K H (.ref a) (.dict ds)
inductive DqAll (K : PySem.W.Frag) (H : Hp) : List V → List PyData → Prop
  | nil : DqAll K H [] []
  | cons {v : V} {vs : List V} {d : PyData} {ds : List PyData} : Dq K H v d → DqAll K H vs ds → DqAll K H (v :: vs) (d :: ds)
end
/-- the table of modules stands in the written part: no list lies there -/
def SysOk (K : PySem.W.Frag) : Prop := ∃ o, K.lookup sysModules = some o ∧ o.cls ≠ .type "list"
section
variable {X : Cx} {pins : List (Addr × Obj)} {σ : L2.St} {H : Hp} {s : Shared}
theorem key_rel {k : Key} {v : Value} (h : keyIs k v = true) : RelV (kV k) v := by
  rcases keyIs_shape h with ⟨i, t, rfl, rfl⟩ | ⟨x, t, rfl, rfl⟩
  · exact ⟨t, rfl⟩
  · exact ⟨t, rfl⟩
theorem not_sys {a : Addr} {o : Obj} (hs : SysOk X.K) (I : Inv X pins σ H s) (ho : s.heap.get? a = some o) (hc : o.cls = .type "list") : a ≠ sysModules := fun z => by
  obtain ⟨u, e, n⟩ := hs
  have h2 := I.kIn _ _ e
  rw [z, h2] at ho
  rw [Option.some.inj ho] at n
  exact n hc
theorem pairs_rel {es : List DictEntry} {vs : List (Key × Value)} (h : Pairs (mixKind X.prog X.w) es vs) : ∀ {kvs : List (Key × V)}, KV kvs vs → Vals (kvs.map fun p => kV p.1) (es.map (·.key)) ∧ Vals (kvs.map (·.2)) (es.map (·.val)) := by
  induction h with
  | nil =>
    intro kvs r
    cases r
    exact ⟨.nil, .nil⟩
  | @cons e kv es vs h1 h2 h3 ih =>
    intro kvs r
    cases r with
    | @cons p _ l _ r1 r2 =>
      obtain ⟨i1, i2⟩ := ih r2
      have k1 : RelV (kV p.1) e.key := by
        rw [r1.1]
        exact key_rel h1
      have k2 : RelV p.2 e.val := by
        rw [h2]
        exact r1.2
      exact ⟨.cons k1 i1, .cons k2 i2⟩
mutual
theorem Dq.reads (hs : SysOk X.K) (I : Inv X pins σ H s) : ∀ {v : V} {d : PyData}, Dq X.K H v d → ∀ u, RelV v u → ∃ as, Reads s.heap u d as ∧ sysModules ∉ as
  | _, _, .non, u, r => by
    cases r
    exact ⟨_, Reads.none, List.not_mem_nil⟩
  | _, _, .bl b, u, r => by
    cases r
    exact ⟨_, Reads.bool b, List.not_mem_nil⟩
  | _, _, .int i, u, r => by
    obtain ⟨t, rfl⟩ := r
    exact ⟨_, Reads.int i t, List.not_mem_nil⟩
  | _, _, .str x, u, r => by
    obtain ⟨t, rfl⟩ := r
    exact ⟨_, Reads.str x t, List.not_mem_nil⟩
  | _, _, .lst (a := a) hq ha, u, r => by
    cases r
    obtain ⟨its, rv, ⟨o, n, ho, hc, _, hd⟩, _⟩ := I.list hq
    obtain ⟨as, hr, na⟩ := Dq.readsAll hs I ha its rv
    refine ⟨_, Reads.list ho hc hd hr, fun hm => ?_⟩
    rcases List.mem_cons.mp hm with z | z
    · exact not_sys hs I ho hc z.symm
    · exact na z
  | _, _, .tup (a := a) hq ha, u, r => by
    cases r
    obtain ⟨its, rv, ⟨o, ho, hc, n, hd⟩, _⟩ := I.tuple hq
    obtain ⟨as, hr, na⟩ := Dq.readsAll hs I ha its rv
    exact ⟨_, Reads.tuple ho hc hd hr, na⟩
  | _, _, .dct (a := a) (kvs := kvs) hq h1 h2, u, r => by
    cases r
    obtain ⟨_, ns, vs, rk, o, es, ep, ho, hx, hd, _, hp, _⟩ := (show ObjOk X.prog X.w H s.heap a (.dK kvs) from I.hok a _ hq)
    obtain ⟨r1, r2⟩ := pairs_rel hp rk
    obtain ⟨as, q1, n1⟩ := Dq.readsAll hs I h1 _ r1
    obtain ⟨bs, q2, n2⟩ := Dq.readsAll hs I h2 _ r2
    refine ⟨_, Reads.dict ho hx.1 hd q1 q2, fun hm => ?_⟩
    rcases List.mem_append.mp hm with z | z
    · rcases List.mem_cons.mp z with z | z
      · rw [← z, beq_self_eq_true] at ns
        cases ns
      · exact n1 z
    · exact n2 z
theorem Dq.readsAll (hs : SysOk X.K) (I : Inv X pins σ H s) : ∀ {vs : List V} {ds : List PyData}, DqAll X.K H vs ds → ∀ us : List Value, Vals vs us → ∃ as, ReadsAll s.heap us ds as ∧ sysModules ∉ as
  | _, _, .nil, us, r => by
    cases r
    exact ⟨_, ReadsAll.nil, List.not_mem_nil⟩
  | _, _, .cons h1 h2, us, r => by
    cases r with
    | cons r1 r2 =>
      obtain ⟨as, q1, n1⟩ := Dq.reads hs I h1 _ r1
      obtain ⟨bs, q2, n2⟩ := Dq.readsAll hs I h2 _ r2
      refine ⟨_, ReadsAll.cons q1 q2, fun hm => ?_⟩
      rcases List.mem_append.mp hm with z | z
      · exact n1 z
      · exact n2 z
end
end
section
variable {X : Cx} {k : Nat}
/-- repr of any data -/
def rReprQ (K : PySem.W.Frag) : List V → Hp → VK → Prop := fun xs H Q => ∃ (v : V) (d : PyData), xs = [v] ∧ Dq K H v d ∧ d.showable = true ∧ d.depth ≤ 60 ∧ d.shown.length ≤ sizeLine ∧ Q (.str d.shown) H
theorem call_reprQ (hr : RoomG k X.A) (hs : SysOk X.K) : CallR X (.builtin "repr") (rReprQ X.K) := by
  intro pins s σ H xs us Q I r h
  obtain ⟨v, d, rfl, hd, hsh, hdep, hz, q⟩ := h
  obtain ⟨u, rfl, ru⟩ := vals1 r
  obtain ⟨as, rd, na⟩ := Dq.reads hs I hd u ru
  have hu := hr.r.units
  cases hd with
  | non =>
    cases ru
    exact PySem.P.repr_of_none ⟨.str _, H, I.tok _, ⟨_, rfl⟩, by simpa only [PyData.shown] using q⟩
  | bl b =>
    cases ru
    exact PySem.P.repr_of_bool ⟨.str _, H, I.tok _, ⟨_, rfl⟩, by simpa only [PyData.shown] using q⟩
  | int i =>
    obtain ⟨t, rfl⟩ := ru
    exact PySem.P.repr_of_int (by simpa [PyData.showable] using hsh) ⟨.str _, H, I.tok _, ⟨_, rfl⟩, by simpa only [PyData.shown] using q⟩
  | str x =>
    obtain ⟨t, rfl⟩ := ru
    exact PySem.P.repr_of_str ⟨.str _, H, I.tok _, ⟨_, rfl⟩, by simpa only [PyData.shown] using q⟩ (by simpa only [PyData.shown] using hz)
  | @lst a xs ds hq ha =>
    obtain rfl : u = Value.ref a := ru
    exact repr_of_reads' rd hsh (fun _ => na) hr.g (by omega) (fun _ _ e => e) (fun h' u tk hk => ⟨.str _, H, I.kept hk, ⟨u, rfl⟩, q⟩) hz
  | @tup a xs ds hq ha =>
    obtain rfl : u = Value.ref a := ru
    exact repr_of_reads' rd hsh (fun _ => na) hr.g (by omega) (fun _ _ e => e) (fun h' u tk hk => ⟨.str _, H, I.kept hk, ⟨u, rfl⟩, q⟩) hz
  | @dct a kvs ds hq h1 h2 =>
    obtain rfl : u = Value.ref a := ru
    exact repr_of_reads' rd hsh (fun _ => na) hr.g (by omega) (fun _ _ e => e) (fun h' u tk hk => ⟨.str _, H, I.kept hk, ⟨u, rfl⟩, q⟩) hz
/-- x is not True, x is not False, of any scalar -/
def rNotBA : R2 := fun x y H Q => ∃ b : Bool, y = .bl b ∧ ((∃ a : Bool, x = .bl a ∧ Q (.bl (!decide (a = b))) H) ∨ (∃ i : Int, x = .int i ∧ Q (.bl true) H))
theorem op_notBA : OpR X (compareOp .IsNot) rNotBA := by
  intro pins s σ H x y v u Q I rx ry h
  obtain ⟨b, rfl, h⟩ := h
  rcases h with ⟨a, rfl, q⟩ | ⟨i, rfl, q⟩
  · exact op_notBl pins s σ H _ _ v u Q I rx ry ⟨a, b, rfl, rfl, q⟩
  · cases (show u = Value.bool b from ry)
    obtain ⟨t, rfl⟩ := (show ∃ t, v = Value.int i t from rx)
    exact wpAny_isNot_other rfl (fun z => nomatch z) ⟨.bl true, H, I, rfl, q⟩
end
end Ex

set_option Elab.async false
set_option linter.all false
set_option maxRecDepth 100000
set_option maxHeartbeats 4000000
/-! Own layer: isinstance of a caught error that has a dict of its own; errors with fields, raised. -/
namespace Ex
open PySem PySem.Spec PySem.Calls PyProof.Rows L2 Gu
section
variable {prog : Program} {w : World} {A : Around} {E : Value → Shared → Prop} {s : Shared} {K : PySem.W.Frag} {x D : Addr} {ox od : Obj}
theorem class_of_exc {Q : Option Value → Shared → Prop} (c : ExcC K D) (X : K.In s.heap) (I : PySem.W.InstAt s.heap x ox D (some od)) (h : Q (some (.ref D)) { s with toks := s.toks + 1 }) :
    wpAny (model prog w) A (getAttr? (.ref x) "__class__") Q E s := by
  have found : PySem.W.findObj K D (some od) "__class__" = some (.bind (.builtin "getset_descriptor.__get__") (.builtin "object.__class__")) :=
    PySem.W.findObj_data (by obtain ⟨cd, e, _⟩ := PySem.W.any_some c.hd; rw [e]; rfl) c.ha c.hn c.ht
  obtain ⟨hp, g, d, t, os⟩ := s
  have lt := I.type (M := model prog w)
  have lg := PySem.W.looks_findIn (M := model prog w) X c.hg
  have lk := PySem.W.looks_findIn (M := model prog w) X c.hk
  have lf := PySem.W.looks_find (M := model prog w) X I found
  have other : (onTheHeap (Value.ref D) && Value.builtin "BaseException.__getattribute__" == Value.builtin "object.__getattribute__") = false := by
    rw [show (Value.builtin "BaseException.__getattribute__" == Value.builtin "object.__getattribute__") = false by decide +kernel]
    rfl
  unfold getAttr? getAttrBy? getAttrBy
  refine wpAny_bind (wpAny_mkText (wpAny_bind (wpAny_attempt (wpAny_holding (wpAny_bind (lt.at (wpAny_bind (lg.at ?own))))))))
  case own =>
    show wpAny _ _ (if (onTheHeap (Value.ref D) && Value.builtin "BaseException.__getattribute__" == Value.builtin "object.__getattribute__") = true then _ else _) _ _ _
    rw [other, if_neg Bool.false_ne_true]
    unfold getAttrByItsOwn hookBefore
    refine wpAny_bind ?_
    rw [if_pos (show onTheHeap (Value.ref D) = true from rfl)]
    refine lk.at (wpAny_bind (wpAny_attempt (wpAny_holding ?_)))
    unfold callGetattribute
    rw [show (false && onTheHeap (Value.builtin "BaseException.__getattribute__")) = false from rfl, if_neg Bool.false_ne_true]
    unfold boundAndCalled
    rw [PySem.F.excAttr_ValueError.ga.bind (.ref x)]
    refine wpAny_bind (wpAny_pure ?_)
    show wpAny _ _ (call (.builtin "BaseException.__getattribute__") [.ref x, .str "__class__" t]) _ _ _
    refine wpAny_call (codeAny_call_builtin PySem.F.excAttr_ValueError.ga.plain PySem.F.entry_bexc_ga
      (@PySem.W.check_slot (model prog w) _ _ ⟨hp, g, d, t + 1, os⟩ "BaseException.__getattribute__" "BaseException" "__getattribute__" (.ref x) [.str "__class__" t] [] _
        (by decide +kernel) (by decide +kernel) (lt.andThen (PySem.W.looks_subIn X c.hs)) (PySem.F.args_bexc_ga (.ref x) (.str "__class__" t)) ?_))
    unfold Builtin.«object.__getattribute__»
    refine wpAny_bind (wpAny_of_eq (a := ((Value.ref x : Value), [Value.str "__class__" t])) (by first | rfl | (simp only [slotArgs]; rfl)) (wpAny_bind (wpAny_pure (wpAny_bind (lt.at (wpAny_bind (lf.at ?_)))))))
    show wpAny _ _ (holding [Value.builtin "object.__class__"] (call (.builtin "getset_descriptor.__get__") [.builtin "object.__class__", .ref x, .ref D]) >>= ret) _ _ _
    refine wpAny_bind (wpAny_holding (wpAny_call (PySem.W.class_get (s := ⟨hp, g, d, t + 1, os⟩) (ox := ox) (od := some od) X I c.hm (wpAny_pure ?_))))
    show wpAny _ _ (handedOut (.ref D)) _ _ _
    rw [PySem.W.handedOut_of (v := .ref D) rfl]
    first
      | exact wpAny_pure (wpAny_pure h)
      | exact wpAny_pure h
      | exact wpAny_pure (wpAny_bind (wpAny_pure (wpAny_pure h)))
theorem kitx_exc (c : ExcC K D) : PySem.W.KitX K (.ref x) (.ref D) (fun h => PySem.W.InstAt h x ox D (some od)) where
  ty := fun _ _ _ I => I.type
  it := fun _ _ X _ => by
    obtain ⟨cd, e, _⟩ := PySem.W.any_some c.hd
    unfold PySem.W.clsIn at e
    split at e
    · rename_i ho
      exact fun A' Q' E' s' k q => by
        unfold isType loadHead
        exact wpAny_bind (wpAny_loadPart (k _ _ (X _ _ ho)) (wpAny_pure q))
    · cases e
  ne := fun h tp dd its n sl X htp => by
    obtain ⟨cd, e, _⟩ := PySem.W.any_some c.hd
    cases q : (Value.ref D == Value.ref tp) with
    | false => rfl
    | true =>
      have z : D = tp := Value.ref.inj (beq_iff_eq.mp q)
      rw [← z] at htp
      unfold PySem.W.clsIn at e
      split at e
      · rename_i ho
        have y := (X _ _ ho).symm.trans htp
        cases y
      · cases e
  ca := fun X I k => class_of_exc c X I k
end
section
variable {X : Cx} {a D : Addr} {oe : Obj} {d : Addr} {pn : List (Addr × Obj)}
/-- the caught error as the machine sees it -/
theorem inst_exc {pins : List (Addr × Obj)} {σ : L2.St} {H : Hp} {s : Shared} {fs : List (Str × V)} (I : Inv (X.suite a ((a, oe) :: pn)) pins σ H s) (hz : Zc (.ref D) (some d) oe) (hf : ∃ vs, oe.data = .fields vs) (hd : H d = some (.xd fs)) :
    ∃ od, PySem.W.InstAt s.heap a oe D (some od) := by
  obtain ⟨hget, _⟩ := I.pin (a, oe) (List.mem_append_left _ List.mem_cons_self)
  obtain ⟨vs, hv⟩ := hf
  obtain ⟨mA, hns, _⟩ := (show ObjOk X.prog X.w H s.heap d (.xd fs) from I.hok d _ hd)
  obtain ⟨od, ho, _⟩ := lookIn_ns hns
  exact ⟨od, hget, hz.1, by unfold PySem.W.notCls; rw [hv] <;> rfl, by rw [hz.2]; exact ho⟩
/-- isinstance(e, c) -/
def rIsX (K : PySem.W.Frag) (D a : Addr) (cls : Value) (d : Option Addr) : List V → Hp → VK → Prop := fun xs H Q => ∃ (c : V) (u : Value) (b : Bool) (dd : Addr) (fs : List (Str × V)), xs = [.ref a, c] ∧ cls = .ref D ∧ d = some dd ∧ ClsV c u ∧ H dd = some (.xd fs) ∧ PySem.W.kitOne K (.ref D) u = some b ∧ Q (.bl b) H
theorem call_isX {cls : Value} {d : Option Addr} (c : ExcC X.K D) (hz : Zc cls d oe) (hf : ∃ vs, oe.data = .fields vs) : CallR (X.suite a ((a, oe) :: pn)) (.builtin "isinstance") (rIsX X.K D a cls d) := by
  intro pins s σ H xs us Q I r h
  obtain ⟨cv, u, b, dd, fs, rfl, rfl, rfl, k, hd, e, q⟩ := h
  obtain ⟨u1, u2, rfl, r1, r2⟩ := vals2 r
  obtain rfl : u1 = Value.ref a := r1
  have e2 := k.eq r2
  subst e2
  obtain ⟨od, J⟩ := inst_exc I hz hf hd
  exact PySem.W.kia_one (kitx_exc c) I.kIn J e (fun z => nomatch z) fun tk => ⟨.bl b, H, I.tok tk, rfl, q⟩
/-- isinstance(e, (c1, c2, ..)) -/
def rIsXT (K : PySem.W.Frag) (D a : Addr) (cls : Value) (d : Option Addr) : List V → Hp → VK → Prop := fun xs H Q => ∃ (tp : Addr) (cs : List V) (us : List Value) (b : Bool) (dd : Addr) (fs : List (Str × V)), xs = [.ref a, .ref tp] ∧ cls = .ref D ∧ d = some dd ∧
  H tp = some (.tup cs) ∧ Paired ClsV cs us ∧ H dd = some (.xd fs) ∧ PySem.W.kitAny K (.ref D) us = some b ∧ Q (.bl b) H
theorem call_isXT {cls : Value} {d : Option Addr} (c : ExcC X.K D) (hz : Zc cls d oe) (hf : ∃ vs, oe.data = .fields vs) : CallR (X.suite a ((a, oe) :: pn)) (.builtin "isinstance") (rIsXT X.K D a cls d) := by
  intro pins s σ H xs us Q I r h
  obtain ⟨tp, cs, ws, b, dd, fs, rfl, rfl, rfl, hT, k, hd, e, q⟩ := h
  obtain ⟨u1, u2, rfl, r1, r2⟩ := vals2 r
  obtain rfl : u1 = Value.ref a := r1
  obtain rfl : u2 = Value.ref tp := r2
  obtain ⟨od, J⟩ := inst_exc I hz hf hd
  obtain ⟨_, its, rv, o, h1, h2, n, h3⟩ := (show ObjOk X.prog X.w H s.heap tp (.tup cs) from I.hok tp _ hT)
  have e3 := ClsV.all k rv
  subst e3
  obtain ⟨oc, odd, dt, sl⟩ := o
  simp only at h2 h3
  subst h2 h3
  exact PySem.W.kia_tup (kitx_exc c) I.kIn J h1 e (fun z => nomatch z) fun tk => ⟨.bl b, H, I.tok tk, rfl, q⟩
end
section
variable {X : Cx}
/-- repr of any data, also while an error is handled -/
theorem call_reprH (hg : X.A.guards = some []) (hu : X.A.units + 64 < cLine) (hs : SysOk X.K) : CallR X (.builtin "repr") (rReprQ X.K) := by
  intro pins s σ H xs us Q I r h
  obtain ⟨v, d, rfl, hd, hsh, hdep, hz, q⟩ := h
  obtain ⟨u, rfl, ru⟩ := vals1 r
  obtain ⟨as, rd, na⟩ := Dq.reads hs I hd u ru
  have viaRef : ∀ {a : Addr}, u = Value.ref a → wpAny (model X.prog X.w) X.A (call (.builtin "repr") [u]) (EP X pins σ Q) X.xe s := fun {a} e => by
    subst e
    exact repr_of_reads' rd hsh (fun _ => na) hg (by omega) (fun _ _ e => e) (fun h' u tk hk => ⟨.str _, H, I.kept hk, ⟨u, rfl⟩, q⟩) hz
  cases hd with
  | non =>
    cases ru
    exact PySem.P.repr_of_none ⟨.str _, H, I.tok _, ⟨_, rfl⟩, by simpa only [PyData.shown] using q⟩
  | bl b =>
    cases ru
    exact PySem.P.repr_of_bool ⟨.str _, H, I.tok _, ⟨_, rfl⟩, by simpa only [PyData.shown] using q⟩
  | int i =>
    obtain ⟨t, rfl⟩ := ru
    exact PySem.P.repr_of_int (by simpa [PyData.showable] using hsh) ⟨.str _, H, I.tok _, ⟨_, rfl⟩, by simpa only [PyData.shown] using q⟩
  | str x =>
    obtain ⟨t, rfl⟩ := ru
    exact PySem.P.repr_of_str ⟨.str _, H, I.tok _, ⟨_, rfl⟩, by simpa only [PyData.shown] using q⟩ (by simpa only [PyData.shown] using hz)
  | lst hq ha => exact viaRef ru
  | tup hq ha => exact viaRef ru
  | dct hq h1 h2 => exact viaRef ru
end
end Ex

set_option Elab.async false
set_option linter.all false
set_option maxRecDepth 100000
set_option maxHeartbeats 4000000
/-! Own layer: len(o) by an own __len__; what repr shows, within bounds; both law-free. -/
namespace Ex
open PySem PySem.Spec PySem.Calls PyProof.Rows L2 Gu
section
variable {X : Cx} {k j : Nat} {c : Str} {ps : List Str} {sp : Sp}
/-- len(o) by the class's own __len__ -/
def rLenO (C : Addr) (sp : Sp) : List V → Hp → VK → Prop := fun xs H Q => ∃ (a dx : Addr) (fs : List (Str × V)), xs = [.ref a] ∧ H a = some (.ins C dx fs) ∧ sp [.ref a] H (fun v H' => ∃ n : Nat, v = .int n ∧ n ≤ sizeLine ∧ Q (.int n) H') E0
theorem call_lenO (D : Mf X.prog X.w X.K X.mg X.base k c "__len__" ps sp) (hr : Room j X.A) (hj : k + 1 ≤ j := by decide) : CallR X (.builtin "len") (rLenO (He.ga X.K c) sp) := by
  intro pins s σ H xs us Q I r h
  obtain ⟨a, dx, fs, rfl, ha, hq⟩ := h
  obtain ⟨u, rfl, ru⟩ := vals1 r
  obtain rfl : u = Value.ref a := ru
  obtain ⟨fd, F, b⟩ := D.ex
  obtain ⟨mA, J, _⟩ := ins_get I.hok ha
  obtain ⟨od, J, _⟩ := J.look
  have rm : Room k X.A.in1 := (hr.mono hj).in1
  refine Calls.call_function_entry kind_len plain_len entry_len (args_len1 _) ?_
  unfold Builtin.«len»
  refine wpAny_bind (m := oneArg "len" _) (wpAny_pure ?_)
  refine wpAny_bind (m := callSpecial? (.ref a) (Str.ofString "__len__")) (PySem.W.special_fn (name := Str.ofString "__len__") (args := []) I.kIn J D.me.at_ (beq_iff_eq.mp D.me.fn) ?_)
  have e0 : Env0 X.prog X.w X.K X.mg X.base X.A.in1 X.stack s H := by
    have e := I.env0
    exact ⟨e.frames, e.mod, e.bs, e.bsz, e.funs, e.frf, e.hok, e.bare⟩
  have hl := F.len _ _ _ _ hq
  refine wpAny_call (codeAny_mono (F.run X.A.in1 X.stack s H ⟨[.ref a], []⟩ [.ref a] [.ref a] _ E0 rm e0 (by
    have := b s [.ref a] I.kIn (by simpa using hl)
    simpa using this) (.cons rfl .nil) hq) fun r s' hq' => ?_)
  match r, hq' with
  | .ok (.ret u), hq' =>
    obtain ⟨v, H', I', rv, n, rfl, hn, q⟩ := I.after hq'
    obtain ⟨t, rfl⟩ := rv
    have hs : sizeLine = 16777216 := sizeLine_eq
    refine wpAny_bind (wpAny_holding (wpAny_pure ?_))
    refine wpAny_bind (wpAny_letGo ?_)
    show wpAny _ _ (if ((n : Nat) : Int) < 0 then _ else _) _ _ _
    rw [if_neg (by omega)]
    show wpAny _ _ (if ((n : Nat) : Int) ≥ 2 ^ 63 then _ else _) _ _ _
    rw [if_neg (by omega)]
    exact wpAny_bind (wpAny_mkInt (wpAny_pure ⟨_, rfl, ⟨.int n, H', I'.tok _, ⟨_, rfl⟩, q⟩⟩))
end
theorem seqT {K : PySem.W.Frag} {H H' : Hp} {a : Addr} {xs : List V} (e : Same H H') (h : SqT K H a xs) : SqT K H' a xs := by
  rcases h with (h | ⟨o, h⟩) | h
  · exact .inl (.inl (e _ _ h))
  · exact .inl (.inr ⟨o, e _ _ h⟩)
  · exact .inr h
mutual
theorem dq_same {K : PySem.W.Frag} {H H' : Hp} (e : Same H H') : ∀ {v : V} {d : PyData}, Dq K H v d → Dq K H' v d
  | _, _, .non => .non
  | _, _, .bl b => .bl b
  | _, _, .int i => .int i
  | _, _, .str x => .str x
  | _, _, .lst hq ha => .lst (e.seq hq) (dqAll_same e ha)
  | _, _, .tup hq ha => .tup (seqT e hq) (dqAll_same e ha)
  | _, _, .dct hq h1 h2 => .dct (e _ _ hq) (dqAll_same e h1) (dqAll_same e h2)
theorem dqAll_same {K : PySem.W.Frag} {H H' : Hp} (e : Same H H') : ∀ {vs : List V} {ds : List PyData}, DqAll K H vs ds → DqAll K H' vs ds
  | _, _, .nil => .nil
  | _, _, .cons h1 h2 => .cons (dq_same e h1) (dqAll_same e h2)
end
/-- a value as repr shows it: nested at most n deep, at most m signs -/
structure Tq (K : PySem.W.Frag) (H : Hp) (v : V) (d : PyData) (n m : Nat) : Prop where
  dq : Dq K H v d
  sh : d.showable = true
  dp : d.depth ≤ n
  ln : d.shown.length ≤ m
structure TqAll (K : PySem.W.Frag) (H : Hp) (xs : List V) (ds : List PyData) (n m : Nat) : Prop where
  dq : DqAll K H xs ds
  sh : PyData.showableAll ds = true
  dp : PyData.depthAll ds ≤ n
  ln : ((PyData.shownAll ds).map (·.length)).sum + 2 * (PyData.shownAll ds).length ≤ xs.length * (m + 2)
section
variable {K : PySem.W.Frag} {H H' : Hp} {n m : Nat}
theorem Tq.same {v : V} {d : PyData} (t : Tq K H v d n m) (e : Same H H') : Tq K H' v d n m := ⟨dq_same e t.dq, t.sh, t.dp, t.ln⟩
theorem Tq.mono {v : V} {d : PyData} {n' m' : Nat} (t : Tq K H v d n m) (h1 : n ≤ n') (h2 : m ≤ m') : Tq K H v d n' m' := ⟨t.dq, t.sh, Nat.le_trans t.dp h1, Nat.le_trans t.ln h2⟩
theorem TqAll.same {xs : List V} {ds : List PyData} (t : TqAll K H xs ds n m) (e : Same H H') : TqAll K H' xs ds n m := ⟨dqAll_same e t.dq, t.sh, t.dp, t.ln⟩
theorem tq_all : ∀ {xs : List V}, (∀ v ∈ xs, ∃ d, Tq K H v d n m) → ∃ ds, TqAll K H xs ds n m
  | [], _ => ⟨[], .nil, rfl, Nat.zero_le _, Nat.zero_le _⟩
  | v :: xs, h => by
    obtain ⟨d, t⟩ := h v List.mem_cons_self
    obtain ⟨ds, a, b, c, e⟩ := tq_all (xs := xs) fun u hu => h u (List.mem_cons_of_mem _ hu)
    refine ⟨d :: ds, .cons t.dq a, ?_, ?_, ?_⟩
    · show (d.showable && PyData.showableAll ds) = true
      rw [t.sh, b]
      rfl
    · show max d.depth (PyData.depthAll ds) ≤ n
      have := t.dp
      omega
    · show (d.shown.length + ((PyData.shownAll ds).map (·.length)).sum) + 2 * ((PyData.shownAll ds).length + 1) ≤ (xs.length + 1) * (m + 2)
      have := t.ln
      rw [Nat.add_mul, Nat.one_mul]
      omega
theorem TqAll.lst {a : Addr} {xs : List V} {ds : List PyData} (t : TqAll K H xs ds n m) (h : H a = some (.lst xs)) : Tq K H (.ref a) (.list ds) (n + 1) (xs.length * (m + 2) + 3) := by
  refine ⟨.lst (SqL.of h) t.dq, t.sh, ?_, ?_⟩
  · show PyData.depthAll ds + 1 ≤ n + 1
    have := t.dp
    omega
  · have e := listText_len_le (PyData.shownAll ds)
    show (listText (PyData.shownAll ds)).length ≤ _
    have := t.ln
    omega
theorem TqAll.tup {a : Addr} {xs : List V} {ds : List PyData} (t : TqAll K H xs ds n m) (h : H a = some (.tup xs)) : Tq K H (.ref a) (.tuple ds) (n + 1) (xs.length * (m + 2) + 3) := by
  refine ⟨.tup (SqT.of h) t.dq, t.sh, ?_, ?_⟩
  · show PyData.depthAll ds + 1 ≤ n + 1
    have := t.dp
    omega
  · have e := tupleText_len_le (PyData.shownAll ds)
    show (tupleText (PyData.shownAll ds)).length ≤ _
    have := t.ln
    omega
theorem tq_non : Tq K H .non .none 0 41 := ⟨.non, rfl, Nat.le_refl _, by decide +kernel⟩
theorem tq_bl (b : Bool) : Tq K H (.bl b) (.bool b) 0 41 := ⟨.bl b, rfl, Nat.le_refl _, by cases b <;> decide +kernel⟩
theorem tq_int {i : Int} (h1 : -(10 ^ 39) ≤ i) (h2 : i ≤ 10 ^ 39) : Tq K H (.int i) (.int i) 0 41 := by
  have b39 : (10 : Int) ^ 39 = 1000000000000000000000000000000000000000 := by decide
  have e : i.natAbs < 10 ^ 40 := by
    have z : (10 : Nat) ^ 40 = 10000000000000000000000000000000000000000 := by decide
    omega
  have a : i.natAbs.log2 < 1920 := Nat.lt_of_lt_of_le (PySem.Flt.log2_lt_of (k := 200) (by decide) (Nat.lt_trans e (by decide))) (by decide)
  refine ⟨.int i, decide_eq_true a, Nat.le_refl _, ?_⟩
  have z := int_text_length_le10 (k := 40) (by decide) e
  show (Str.ofString (toString i)).length ≤ 41
  rw [PySem.ofString_length]
  exact z
theorem tq_text (z : String) (h : (reprText (Str.ofString z)).length ≤ 41) : Tq K H (.str (Str.ofString z)) (.str (Str.ofString z)) 0 41 := ⟨.str _, rfl, Nat.le_refl _, h⟩
theorem tq_dct {a : Addr} (h : H a = some (.dK [])) : Tq K H (.ref a) (.dict []) 1 41 := ⟨.dct h .nil .nil, rfl, by decide, by decide +kernel⟩
end
theorem code_lt {z : String} {c : Nat} (hc : c ∈ (Str.ofString z).cps.toList) : c < 1114112 := by
  have hc2 : c ∈ z.toList.map Char.toNat := by
    rw [← cpsOfBytes_string]
    simpa [Str.ofString] using hc
  obtain ⟨ch, _, rfl⟩ := List.mem_map.mp hc2
  have v : ch.val.toNat < 55296 ∨ (57343 < ch.val.toNat ∧ ch.val.toNat < 1114112) := ch.valid
  show ch.val.toNat < 1114112
  omega
/-- repr of such a value -/
theorem repr_tq {K : PySem.W.Frag} {H : Hp} {v : V} {d : PyData} {n m : Nat} {Q : VK} (t : Tq K H v d n m) (q : Q (.str d.shown) H) (hn : n ≤ 60 := by decide) (hm : m ≤ sizeLine := by decide) : rReprQ K [v] H Q :=
  ⟨v, d, rfl, t.dq, t.sh, Nat.le_trans t.dp hn, Nat.le_trans t.ln hm, q⟩
end Ex

set_option Elab.async false
set_option linter.all false
set_option maxRecDepth 100000
set_option maxHeartbeats 4000000
/-! Own layer: errors with a field over any built-in base (ArithmeticError, LookupError, RuntimeError, ValueError), made and raised. -/
namespace Ex
open PySem PySem.Spec PySem.Calls PyProof.Rows L2 Gu
/-- own classes, then the mro of a built-in base -/
def refsB (tl : List Value) : List Value → Bool
  | .ref _ :: r => refsB tl r
  | l => l == tl
theorem refsB_two (tl : List Value) (l : List Value) (e : refsB tl l = true) : (∃ c r, l = .ref c :: r ∧ refsB tl r = true) ∨ l = tl := by
  cases l with
  | nil => exact .inr (beq_iff_eq.mp e)
  | cons v r => cases v with
    | ref c => exact .inl ⟨c, r, rfl, e⟩
    | _ => exact .inr (beq_iff_eq.mp e)
/-- a built-in base of errors -/
structure BaseE (B : String) (tl : List Value) : Prop where
  ex : ExcBaseFacts B (B ++ ".__new__") (B ++ ".__init__") tl
  pa : ∀ self : Value, refuseLoop self "__setattr__" tl = pure ()
  ob : tl.contains (.type "object") = true
  ne : tl.isEmpty = false
abbrev tailE (B : String) : List Value := [.type B, .type "Exception", .type "BaseException", .type "object"]
theorem base_AE : BaseE "ArithmeticError" (tailE "ArithmeticError") := ⟨F.excBase_ArithmeticError, F.store_ArithmeticError.passes, by decide +kernel, rfl⟩
theorem base_LE : BaseE "LookupError" (tailE "LookupError") := ⟨F.excBase_LookupError, F.store_LookupError.passes, by decide +kernel, rfl⟩
theorem base_RE : BaseE "RuntimeError" (tailE "RuntimeError") := ⟨F.excBase_RuntimeError, F.store_RuntimeError.passes, by decide +kernel, rfl⟩
theorem base_VE : BaseE "ValueError" (tailE "ValueError") := ⟨F.excBase_ValueError, F.store_ValueError.passes, by decide +kernel, rfl⟩
section
variable {B : String} {tl : List Value}
theorem BaseE.pass (b : BaseE B tl) (self : Value) : ∀ l, refsB tl l = true → refuseLoop self "__setattr__" l = pure ()
  | [], e => by
    have z : ([] : List Value) = tl := beq_iff_eq.mp e
    have n := b.ne
    rw [← z] at n
    cases n
  | v :: r, e => by
    rcases refsB_two tl _ e with ⟨c, r', q, h⟩ | q
    · cases q
      rw [refuseLoop_ref]
      exact b.pass self r h
    · rw [q]
      exact b.pa self
theorem BaseE.has (b : BaseE B tl) (Y : String) : ∀ l, refsB tl l = true → l.contains (.type Y) = tl.contains (.type Y)
  | [], e => by
    have z : ([] : List Value) = tl := beq_iff_eq.mp e
    rw [z]
  | v :: r, e => by
    rcases refsB_two tl _ e with ⟨c, r', q, h⟩ | q
    · cases q
      rw [List.contains_cons, b.has Y r h]
      rfl
    · rw [q]
theorem BaseE.some (b : BaseE B tl) {l : List Value} (e : refsB tl l = true) : l.isEmpty = false := by
  cases l with
  | cons _ _ => rfl
  | nil =>
    have z : ([] : List Value) = tl := beq_iff_eq.mp e
    have n := b.ne
    rw [← z] at n
    exact n
end
section
open Builtin Builtin.ObjectAttr
variable {prog : Program} {w : World} {A : Around} {R : Result → Shared → Prop} {hp : Heap} {g : Array GenState} {d : Drawn} {t : Nat} {os : OsState}
/-- the first field of an error is stored by object.__setattr__ -/
theorem first_field {B : String} {tl : List Value} (b : BaseE B tl) {K : W.Frag} {nm : Str} {tk : Tok} {v : Value} {x C : Addr} {fv : Array Value} {cd : ClassData}
    (KX : K.In hp) (hx : hp.get? x = some { cls := .ref C, data := .fields fv }) (hcd : W.clsIn K C = some cd) (mr : refsB tl cd.mro = true) (hdt : cd.hasDict = true) (no : W.findIn K (.ref C) nm = some none)
    (go : ∀ h' tk' dx, (∀ b o, b ≠ x → hp.get? b = some o → h'.get? b = some o) → hp.objs.size ≤ dx → dx ≠ x → h'.get? x = some { cls := .ref C, dict := some dx, data := .fields fv } →
      h'.Ns1 dx (fun y => if y = nm then some v else none) → R (.ok (.ret .none)) ⟨h', g, d, tk', os⟩) :
    codeAny (model prog w) A (.call (.builtin "object.__setattr__") ⟨[.ref x, .str nm tk, v], []⟩) R ⟨hp, g, d, t, os⟩ := by
  have IA : W.InstAt hp x { cls := .ref C, data := .fields fv } C none := ⟨hx, rfl, rfl, trivial⟩
  have so := F.store_object
  have nE := b.some mr
  have isO : cd.mro.contains (.type "object") = true := (b.has "object" _ mr).trans b.ob
  have far : x ≠ hp.objs.size := Nat.ne_of_lt (Heap.lt_size hx)
  have isI : W.Looks (model prog w) hp (isInstance (.ref x) (.type "object")) true := IA.type.andThen (W.looks_mroIn KX (by unfold W.mroIn; rw [hcd, Option.bind_some, if_neg (by rw [nE]; decide), isO]))
  refine codeAny_call_builtin so.slot.plain so.entry (@W.check_slot (model prog w) _ _ ⟨hp, g, d, t, os⟩ "object.__setattr__" "object" "__setattr__" (.ref x) [.str nm tk, v] [] _ so.kind so.split isI (so.args (.ref x) (.str nm tk) v) ?_)
  have lm : W.Looks (model prog w) hp (mroOf (.ref C)) cd.mro := (W.looks_clsIn KX hcd).andThen .now
  have ln : W.Looks (model prog w) hp (storeTaker? none) none := .now
  have lc : W.Looks (model prog w) hp (classData C) cd := W.looks_clsIn KX hcd
  rw [W.osa_eq, refuse_eq]
  refine wpAny_bind (wpAny_bind (IA.type.at (wpAny_bind (lm.at ?_))))
  rw [b.pass _ _ mr]
  refine wpAny_pure (wpAny_bind (IA.type.at (wpAny_bind ((W.looks_findIn KX no).at (wpAny_bind (ln.at ?_))))))
  show wpAny _ _ (storeInOwnDict (.ref x) (.ref C) (.str nm tk) nm v false) _ _ _
  obtain ⟨n1, n2, n3, n4, n5, hd, n7, n8, n9, n10, n11⟩ := cd
  dsimp only at hdt
  subst hdt
  unfold storeInOwnDict ownDictForStores
  repeat (first | with_reducible refine HandSPX.store_in_new ?_ ?_ | with_reducible refine wpAny_loadPart_at hx ?_ | with_reducible refine lc.at ?_ | wp_step)
  · exact ⟨_, #[], _, (Heap.get?_update_ne _ _ _ _ far.symm).trans (Heap.get?_push_at rfl rfl), rfl, fun e he => absurd he (by simp), fun _ => rfl⟩
  · intro h' tk' nn' sb
    have hx1 : (hp.push { cls := .type "dict", data := .dict #[] }).get? x = some { cls := .ref C, data := .fields fv } := Heap.get?_push_of_some _ hx
    exact go h' tk' hp.objs.size (fun c o hc ho => (sb.2 c (Nat.ne_of_lt (Heap.lt_size ho))).trans ((Heap.get?_update_ne _ _ _ _ hc).trans (Heap.get?_push_of_some _ ho))) (Nat.le_refl _) far.symm
      ((sb.2 x far).trans (Heap.get?_update_self _ hx1 rfl)) nn'
end
/-- what the written part says of an error's class over the base B -/
structure OexG (B : String) (tl : List Value) (K : PySem.W.Frag) (C : Addr) : Prop where
  base : BaseE B tl
  cls : ∃ nm q N bs bm sn sub ab col dd k0 k1 k2 k3 k5, K.lookup C = some (excClassObj nm q C N bs bm true sn sub ab col dd k0 k1 k2 k3 k5 (B ++ ".__new__")) ∧ refsB tl bm = true
  sa : PySem.W.findIn K (.ref C) "__setattr__" = some (some (.builtin "object.__setattr__"))
  exC : PySem.W.subIn K (.ref C) (.type "BaseException") = some true
  tyC : PySem.W.typeIn K (.ref C) = some (.type "type")
  kC : PySem.W.keepIn K (.ref C) = true
section
variable {X : Cx} {pins : List (Addr × Obj)} {σ : L2.St} {H : Hp} {s : Shared} {a C dx : Addr} {f : Str} {y : V} {u : Value} {Q : Unit → Shared → Prop} {E : Value → Shared → Prop} {A : Around} {B : String} {tl : List Value}
/-- self.f = y, the first one -/
theorem field_new (T : OexG B tl X.K C) (I : Inv X pins σ H s) (e : H a = some (exo a C none)) (no : PySem.W.findIn X.K (.ref C) f = some none) (ry : RelV y u)
    (go : ∀ dx s', H dx = none → dx ≠ a → Inv X pins σ (upd (upd H dx (exd dx [(f, y)])) a (exo a C (some dx))) s' → Q () s') : wpAny (model X.prog X.w) A (setAttr (.ref a) f u) Q E s := by
  obtain ⟨nm, q, N, bs, bm, sn, sub, ab, col, dd, k0, k1, k2, k3, k5, hC, mr⟩ := T.cls
  have hcl : PySem.W.clsIn X.K C = some { name := nm, bases := bs, mro := .ref C :: bm, ns := N, qualname := q, hasDict := true, slotNames := sn, subclasses := sub, abstract := ab, collection := col, hasDel := false } := by
    unfold PySem.W.clsIn
    rw [hC] <;> rfl
  obtain ⟨t1, at1⟩ := exo_at I.hok e
  obtain ⟨hp, g, dr, tk, os⟩ := s
  refine PySem.W.set_plain I.kIn (ox := { cls := .ref C, dict := none, data := .fields #[.ref t1, .none, .none, .none, .bool false, .none] }) (od := none) ⟨at1, rfl, rfl, trivial⟩ T.sa ?_
  refine first_field T.base I.kIn at1 hcl (show refsB tl (.ref C :: bm) = true from mr) rfl no (fun h' tk' dx k dn dne hx hn => ?_)
  have free : H dx = none := I.hok.fresh dn
  have far : ∀ {b : Addr} {o : Obj}, hp.get? b = some o → b ≠ dx := fun {b o} q => Nat.ne_of_lt (Nat.lt_of_lt_of_le (Heap.lt_size q) dn)
  have na : ∀ {b : Addr}, H b = none → b ≠ a := fun {b} n z => by
    rw [z, e] at n
    cases n
  have at2 : ∀ {b : Addr} {o : HO}, H b = some o → b ≠ a → upd (upd H dx (exd dx [(f, y)])) a (exo a C (some dx)) b = some o := fun {b o} q n => by
    rw [upd_ne n, upd_ne (ne_of_none q free)]
    exact q
  have U : Un X.fs [] H (upd (upd H dx (exd dx [(f, y)])) a (exo a C (some dx))) hp h' := {
    keep := fun b o q n _ _ => k b o (na n) q
    slot := fun b o q n _ _ => ⟨o.slots, k b o (na n) q⟩
    free := fun b o q n _ => (upd_ne (na n)).trans ((upd_ne (far q)).trans n)
    there := fun b o q _ => by
      by_cases hb : b = a
      · rw [hb]
        exact ⟨_, hx⟩
      · exact ⟨o, k b o hb q⟩
    tups := fun b xs q => at2 q (at_ne e q exo_tup)
    frzs := fun b o v q => at2 q (at_ne e q exo_frz)
    tbls := fun b ps q => ⟨#[], by rw [at2 q (at_ne e q exo_tbl)]; simp⟩ }
  refine go dx _ free dne (I.un (t' := tk') U fun b o q => ?_)
  by_cases hb : b = a
  · subst hb
    rw [upd_same] at q
    cases q
    exact exo_ok hx
  · rw [upd_ne hb] at q
    by_cases hd : b = dx
    · subst hd
      rw [upd_same] at q
      cases q
      exact exd_ok hn (relO_put (fs := []) ry fun g => True.intro)
    · rw [upd_ne hd] at q
      refine (I.hok b o q).stay (fun c v hc z => k c v ?_ z) (fun c hc => at2 hc (at_ne e hc exo_own)) (fun c xs hc => at2 hc (at_ne e hc exo_tup))
      rcases hc with hc | hc
      · rw [hc]
        exact hb
      · exact at_ne e hc exo_own
end
/-- self.f = e, the first field of an error -/
def tFst (B : String) (tl : List Value) (K : PySem.W.Frag) (f : Str) (to te : TE) : TS := fun D σ H => te σ H fun y H1 => to σ H1 fun x H2 => ∃ a C : Addr, x = .ref a ∧ OexG B tl K C ∧ PySem.W.findIn K (.ref C) f = some none ∧
  H2 a = some (exo a C none) ∧ ∀ dx, H2 dx = none → dx ≠ a → D.nx σ (upd (upd H2 dx (exd dx [(f, y)])) a (exo a C (some dx)))
section
variable {X : Cx} {o e : Expr} {es : List Expr} {to te : TE} {ta : TA} {f : Str} {p p' pos : Pos} {B : String} {tl : List Value}
theorem ps_fst (ho : PE X o to) (he : PE X e te) (hs : swapsWith e (some (.Attribute o f p')) pos.line X.env = pure false := by rfl) : PS X (.Assign [.Attribute o f p'] e pos) (tFst B tl X.K f to te) := by
  refine ⟨fun pins s σ H D I h => plainObj_wpAny_Assign_Attribute (thn (he.run pins s σ H _ I h) fun v s1 ⟨y, H1, I1, r1, q1⟩ => thn (ho.run pins s1 σ H1 _ I1 q1) fun u s2 ⟨x, H2, I2, r2, a, C, ex, T, no, ea, q⟩ => ?_) hs⟩
  subst ex
  obtain rfl : u = Value.ref a := r2
  exact field_new T I2 ea no r1 fun dx s' n ne J => ⟨σ, _, J, q dx n ne⟩
/-- C(e, ..) for a raise, C's own __init__ keeping sp -/
theorem pmk_oexG {CX : CXT} {x : Str} {C fI : Addr} {k : Nat} {fd : FuncData} {ps : List Str} {sp : Sp} {ds : List Value} {dvs : List V} (T : OexG B tl X.K C) (iC : PySem.W.findIn X.K (.ref C) "__init__" = some (some (.ref fI))) (tI : PySem.W.typeIn X.K (.ref fI) = some (.type "function"))
    (F1 : FnOk X.prog X.w X.K X.mg X.base CX k fI fd ps sp) (hr : Room (k + 1) X.A) (hb : Binds X.K fd ps ds) (hd : Vals dvs ds) (hx : Passes CX X (fun _ _ _ => False)) (hg : Gl X x) (hm : X.mg x = some (.ref C)) (ha : PA X (e :: es) ta)
    (hdb : (x == ("__debug__" : Str)) = false := by decide) (he : starEach (e :: es) X.env = (false, eval e X.env) :: starEach es X.env := by rfl) (hpl : (backTo pos (starEach es X.env)).any (·.1) = false := by rfl) :
    PMk X (.Call (.Name x p) (e :: es) [] pos) (tMkO C sp dvs ta) := by
  intro pins s σ H Q I h
  obtain ⟨nm, q, N, bs, bm, sn, sub, ab, col, dd, k0, k1, k2, k3, k5, hC, mr⟩ := T.cls
  refine wpAny_Call_Name_kw (ld_glob I hg hm (PySem.W.callWith_K (h₀ := X.base) I.ok.mod.kin T.kC (thn (ha.run pos pins s σ H _ I h) fun us s1 ⟨vs, H1, I1, r1, hz, q1⟩ => ⟨I1.kIn, ?_⟩) he hpl) hdb)
  show wpAny _ _ (call (.ref C) us) _ _ _
  obtain ⟨hp, g, dr, tk, os⟩ := s1
  generalize en : hp.objs.size + 1 = n
  have sz : hp.objs.size ≤ n := by omega
  have hq := q1 n (I1.hok.fresh sz)
  generalize ehp : (hp.push (PySem.W.kdv_tup us)).push (PySem.HandSPX.excO C hp.objs.size) = hp2
  have kk : ∀ b o, hp.get? b = some o → hp2.get? b = some o := fun b o e => by
    rw [← ehp]
    exact Heap.get?_push_of_some _ (Heap.get?_push_of_some _ e)
  have hget : hp2.get? n = some (PySem.HandSPX.excO C hp.objs.size) := by
    rw [← ehp, ← en]
    heap_get
  have I2 : Inv X pins σ (upd H1 n (exo n C none)) ⟨hp2, g, dr, tk, os⟩ := I1.laid (t' := tk) kk sz (exo_ok hget)
  have r2 : Vals (V.ref n :: (vs ++ dvs)) (Value.ref n :: (us ++ ds)) := .cons rfl (r1.append hd)
  have hl : (Value.ref n :: us ++ ds).length = ps.length := r2.length.symm.trans (F1.len _ _ _ _ hq)
  have few : us.length ≤ sizeLine := by
    rw [← Paired.length r1, sizeLine_eq]
    omega
  refine wpAny_call (PySem.HandSPX.call_own T.base.ex (fun Y => T.base.has Y bm mr) (I1.kIn _ _ hC) (PySem.W.looks_findIn I1.kIn iC) (fun self => PySem.W.bind_fn I1.kIn self tI) few ?_)
  rw [en, ehp]
  refine codeAny_mono (F1.run _ X.stack _ _ ⟨Value.ref n :: us, []⟩ (Value.ref n :: (us ++ ds)) _ _ (fun _ _ _ => False) (hr.make C us []) (I2.env0.make C us []) (hb _ (Value.ref n :: us) I2.kIn hl) r2 hq) fun r s' hq' => ?_
  match r, hq' with
  | .error er, hq' => exact hx pins σ _ _ er s' I2 hq'
  | .ok (.ret u), hq' =>
    obtain ⟨v, H2, os2, bare2, un2, hok2, rv, ev, d, fs, ea, ed, hd1, q2⟩ := hq'
    subst ev
    obtain ⟨h2, g2, d2, t2, os'⟩ := s'
    exact ⟨rv, mk_end (raises_own T.exC T.tyC) I1 sz kk un2 hok2 os2 bare2 ea ed hd1 q2⟩
end
end Ex

set_option Elab.async false
set_option linter.all false
set_option maxRecDepth 100000
set_option maxHeartbeats 4000000
/-! Own layer: several clauses 'except x as n' of one try, all with the same name n. -/
namespace Ex
open PySem PySem.Spec PySem.Calls PyProof.Rows L2 Gu
abbrev Suites : Type := List (Value × (Addr → Value → Option Addr → TS))
/-- what the clauses wish of an error of the body, one after the other: slot i is n's -/
def wAsAll (K : PySem.W.Frag) (i : Nat) (Wout : WX) (D : Ends) : Suites → WX
  | [] => Wout
  | (c, ts) :: r => wAs K c i ts (wAsAll K i Wout D r) D
inductive HdAs (X : Cx) (n : Str) : List ExceptHandler → Suites → Prop
  | nil : HdAs X n [] []
  | cons {x : Str} {c : Value} {ts : Addr → Value → Option Addr → TS} {b0 : Stmt} {su : List Stmt} {np p2 : Pos} {hs : List ExceptHandler} {l : Suites} (hc : Names X x c)
      (hsu : ∀ (a : Addr) (oe : Obj) (cls : Value) (d : Option Addr) (pn : List (Addr × Obj)), Zc cls d oe → (∃ vs, oe.data = .fields vs) → PSs (X.suite a ((a, oe) :: pn)) (b0 :: su) (ts a cls d)) (r : HdAs X n hs l) :
      HdAs X n (.ExceptHandler (some (.Name x np)) (some n) (b0 :: su) p2 :: hs) ((c, ts) :: l)
section
variable {X : Cx} {n : Str} {i : Nat} {body : List Stmt} {h0 : ExceptHandler} {hds : List ExceptHandler} {l : Suites} {pos : Pos} {tb : WX → TS} {Wout : WX}
theorem ps_try_asAll (hs : X.stack = X.env :: X.outer) (hf : X.env.frame = some X.env.locals) (hN : X.N.Nodup) (hi : X.N[i]? = some n) (hln : X.env.kindOf n = some .local) (tk : Takes X Wout)
    (hb : ∀ (W : WX) (pn : List (Addr × Obj)) (xe : Value → Shared → Prop), Takes (X.tr pn xe) W → PassesOwn (model X.prog X.w) X.A X.env xe → PSs (X.tr pn xe) body (tb W))
    (hh : HdAs X n (h0 :: hds) l) : PS X (.Try body (h0 :: hds) [] [] pos) (fun D σ H => tb (wAsAll X.K i Wout D l) D σ H) := by
  refine ⟨fun pins s σ H D I h => ?_⟩
  have ok := I.ok
  have fr : X.A.frames = some (X.env :: X.outer) := by
    rw [ok.frames, hs]
  refine wpAny_Try_except (wpAny_mono ((hb (wAsAll X.K i Wout D l) (X.pn ++ pins) (fun e s1 => wpAny (model X.prog X.w) X.A (noteFrame e X.env) (fun _ s2 => wpAny (model X.prog X.w) X.A (setFlight e none) (fun _ s3 =>
    wpAny (model X.prog X.w) X.A (handleBy e X.env (h0 :: hds)) (SP X pins D) X.xe s3) X.xe s2) X.xe s1) (fun u s' xx => ?_) PassesOwn.looking).run [] s σ H D (I.toTry _) h) (fun f s1 hsp => ?_) (fun e s1 he => he))
  · obtain ⟨a, B, sI, pins', σ1, H1, cls, d, rfl, J0, nb, up, sky, na, os, ag, w⟩ := xx
    have J : Inv X pins σ1 H1 sI := J0.ofTry ok
    rw [hs] at sky
    show wpAny (model X.prog X.w) X.A (noteFrame (.ref a) X.env) _ _ _
    refine Sky.land Zc.steady fr hf sky fun h3 fl up3 => ?_
    have J3 : Inv X pins σ1 H1 { s' with heap := h3 } := J.landed nb fl.1 (up.trans up3) os ag
    obtain ⟨o3, v3, he3, hz3, hd3⟩ := fl.there
    have nfr : a ∉ frs (X.env :: X.outer) := fun hm => by
      obtain ⟨_, o', e', hnf⟩ := fl.2.2.1.mem hm
      rw [he3] at e'
      cases e'
      exact hnf _ hd3
    have nL : a ≠ X.env.locals := fun z => nfr (List.mem_filterMap.mpr ⟨X.env, List.mem_cons_self, by rw [hf, z]⟩)
    have nF : a ∉ X.fs := fun hm => by
      obtain ⟨e, he, q⟩ := List.mem_filterMap.mp hm
      exact nfr (List.mem_filterMap.mpr ⟨e, List.mem_cons_of_mem _ he, q⟩)
    have S3 := J3.suite he3 hd3 na nL nF
    have go : ∀ {hs2 : List ExceptHandler} {l2 : Suites}, HdAs X n hs2 l2 → wAsAll X.K i Wout D l2 cls d σ1 H1 → wpAny (model X.prog X.w) X.A (handleBy (.ref a) X.env hs2) (SP X pins D) X.xe { s' with heap := h3 } := by
      intro hs2 l2 hk
      induction hk with
      | nil =>
        intro w
        refine wpAny_handleBy_nil ?_
        obtain ⟨_, _, _, oe, vs, Tb, oT, tsT, he, hz, hd, h1, hr⟩ := id fl
        unfold PySem.passOn
        refine wpAny_bind (wpAny_field he hd h1 ?_)
        rw [if_neg (show ¬ ((Value.ref Tb == Value.none) = true) from by simp)]
        have fin : wpAny (model X.prog X.w) X.A (setFlight (.ref a) X.env.frame) (fun _ s4 => wpAny (model X.prog X.w) X.A (throw (.ref a) : Sem Flow) (SP X pins D) X.xe s4) X.xe { s' with heap := h3 } := by
          rw [hf]
          exact HandSPX.setFlight_upZ fl fun h4 hh4 up4 => wpAny_throw (tk _ _ ⟨a, B, sI, pins, σ1, H1, cls, d, rfl, J, nb, (up.trans up3).trans up4, .inr (.inr (by rw [hs]; exact hh4)), na, os, ag, w⟩)
        first
          | exact wpAny_bind (wpAny_pure (wpAny_bind fin))
          | exact wpAny_bind fin
      | @cons x c ts b0 su np p2 hs3 l3 hc hsu r ih =>
        intro w
        obtain ⟨b, hb1, yes, no⟩ := w
        refine wpAny_handleBy_cons (codeAny_handlers_test ?_) (by intro q; cases q)
        have lt : PySem.W.Looks (model X.prog X.w) h3 (typeOf (.ref a)) cls := fun A Q E s k q => wpAny_typeOf_ref (k _ _ he3) (by rw [hz3.1]; exact q)
        have lm := PySem.W.exm_one (M := model X.prog X.w) J3.kIn lt hb1
        have name : ∀ {Q : Value → Shared → Prop} {E : Value → Shared → Prop}, Q c { s' with heap := h3 } → wpAny (model X.prog X.w) (X.A.mark (some (.ref a))) (eval (.Name x np) X.env) Q E { s' with heap := h3 } := fun {Q E} q => by
          obtain ⟨hg, hdbg, hm | ⟨hm, hv, hnn⟩⟩ := hc
          · exact ld_glob (X := X.suite a ((a, o3) :: (X.pn ++ pins))) S3 hg hm q hdbg
          · exact ld_blt (X := X.suite a ((a, o3) :: (X.pn ++ pins))) S3 hg hm hv q hnn hdbg
        refine name (lm.here ?_)
        cases b with
        | false =>
          show wpAny _ X.A (handleBy (.ref a) X.env hs3) _ _ _
          exact ih (no rfl)
        | true =>
          refine codeAny_handlers_suite_as (HandSPX.lands_againZ fl fun h4 fl4 up4 => ?_)
          have J4 : Inv X pins σ1 H1 { s' with heap := h4 } := J.landed nb fl4.1 ((up.trans up3).trans up4) os ag
          obtain ⟨o4, v4, he4, hz4, hd4⟩ := fl4.there
          have S4 := J4.suite he4 hd4 na nL nF
          refine store_ok (X := X.suite a ((a, o4) :: (X.pn ++ pins))) (v := .ref a) S4 hN hi (.inl hln) rfl (fun s5 S5 => ?_) (.inr hln)
          refine wpAny_mono ((hsu a o4 cls d (X.pn ++ pins) hz4 ⟨_, hd4⟩).run [] s5 _ H1 _ S5 (yes rfl a na)) (fun f s6 hsp => ?_) (fun _ _ z => False.elim z)
          have out : ∀ {σ6 : L2.St} {H6 : Hp} {Q : Shared → Prop}, Inv (X.suite a ((a, o4) :: (X.pn ++ pins))) [] σ6 H6 s6 → (∀ s7, Inv X pins (σ6.set i none) H6 s7 → Q s7) →
              wpAny (model X.prog X.w) X.A (do bindName X.env n .none; unbindBehindTheSuite X.env n p2) (fun _ s7 => Q s7) X.xe s6 := fun {σ6 H6 Q} S6 hq => gone_ok (S6.unsuite ok) hN hi hln hq
          match f, hsp with
          | .next, ⟨σ6, H6, S6, q6⟩ => exact out S6 fun s7 J7 => ⟨_, _, J7, q6⟩
          | .brk, ⟨σ6, H6, S6, q6⟩ => exact out S6 fun s7 J7 => ⟨_, _, J7, q6⟩
          | .cont, ⟨σ6, H6, S6, q6⟩ => exact out S6 fun s7 J7 => ⟨_, _, J7, q6⟩
          | .ret u, ⟨v6, σ6, H6, S6, r6, q6⟩ => exact out S6 fun s7 J7 => ⟨_, _, _, J7, r6, q6⟩
    exact go hh w
  · match f, hsp with
    | .next, ⟨σ1, H1, J1, q⟩ => exact wpAny_execs_nil ⟨σ1, H1, J1.ofTry ok, q⟩
    | .brk, ⟨σ1, H1, J1, q⟩ => exact ⟨σ1, H1, J1.ofTry ok, q⟩
    | .cont, ⟨σ1, H1, J1, q⟩ => exact ⟨σ1, H1, J1.ofTry ok, q⟩
    | .ret u, ⟨v, σ1, H1, J1, r, q⟩ => exact ⟨v, σ1, H1, J1.ofTry ok, r, q⟩
end
end Ex

set_option Elab.async false
set_option linter.all false
set_option maxRecDepth 100000
set_option maxHeartbeats 4000000
/-! Own layer: defs that make lambdas; the end of a law whose defs write the tables of their code objects, where no repr is under way. -/
namespace Gu
open PySem PySem.Spec PyProof.Rows L2
section
variable {P : Program} {w : World} {K : PySem.W.Frag} {mg : Str → Option Value} {base : Heap} {CX : CXT} {k : Nat} {f : Addr} {fd : FuncData} {ps : List Str} {sp : Sp}
/-- a def by its body, its code object known -/
theorem okGc {x qual : Str} {params : Arguments} {body : List Stmt} {scope : Scope} {dvs : List V} {kws : List (Str × V)} {N : List Str}
    (F : FunD K x qual params body scope dvs kws f fd) (S : FnScope N ps scope) (len : ∀ vs H Q E, sp vs H Q E → vs.length = ps.length)
    (hbody : ∀ (A : Around) (outer : List Env) (s : Shared) (H : Hp) (vs : List V) (Q : VK) (E : XK),
      RoomG k (A.deeper (envOfC qual scope s.heap.objs.size f fd.code)) → sp vs H Q E →
      ∃ t, PSs (cxOf CX P w K mg base N qual scope f fd.code A outer s H E) body t ∧ t { nx := fun _ H' => Q .non H', rt := Q } (start N vs) H) :
    FnG P w K mg base CX (k + 1) f fd ps sp := by
  obtain ⟨oc, od, dV, kV, doc, pm, an, cdv, ct, osl, rfl, lk, hcd, _, _⟩ := F.ex
  refine ⟨len, fun A outer s H args us vs Q E hr e0 hb rv hsp => ?_⟩
  have KX : K.In s.heap := e0.mod.kin.keeps fun b o e => (e0.bs b o e).1
  have kinds : ∀ y ∈ ps.zip us, scope.names.lookup y.1 = some .local ∨
      (scope.names.lookup y.1 = some .cell ∧ ((cellsFrom (s.heap.objs.size + 1) scope.names []).lookup y.1).isSome = true) := fun ⟨n, v⟩ hy => by
    rcases S.par n (List.of_mem_zip hy).1 with q | q
    · exact .inl q
    · exact .inr ⟨q, PySem.W.cellsFrom_some _ _ _ (.inl q)⟩
  refine codeAny_call_function hr.r.depth (KX _ _ lk) rfl S.co S.gen rfl (PySem.W.codeRec_of KX hcd) (hb _ _ _ _ ?_)
  refine wpAny_newFunctionEnv_cells S.kind kinds fun env he s1 x => ?_
  subst he
  refine ⟨(e0.mod.nolimit.keeps fun b o e => (e0.bs b o e).1).keeps x.toInCall.keep, codeAny_func ?_⟩
  obtain ⟨t, ht, hq⟩ := hbody A outer s H vs Q E (hr.down _) hsp
  have I := inv_start (CX := CX) (E := E) (N := N) (qual := qual) (f := f) (cd := cdv) S hr.r.hd e0 (len _ _ _ _ hsp) rv x
  refine wpAny_mono (ht.run [] s1 (start N vs) H _ I hq) (fun fl s' hs => ?_) fun e s' hs => hs
  match fl, hs with
  | .ret u, ⟨v, σ', H', J, rv', q⟩ => exact ⟨v, H', J.os, J.bare, J.base, J.hok, rv', q⟩
  | .next, ⟨σ', H', J, q⟩ => exact ⟨V.non, H', J.os, J.bare, J.base, J.hok, rfl, q⟩
  | .brk, ⟨_, _, z⟩ => exact z.2.elim
  | .cont, ⟨_, _, z⟩ => exact z.2.elim
end
/-- what stands in the heap before the law's call: the script, and the tables of the code objects cs -/
structure Tab0 (cs : List (Addr × Addr)) (H : Hp) : Prop where
  at_ : ∀ p ∈ cs, H p.2 = some (.tbl #[])
theorem law_goT {P : Program} {w : World} {K : PySem.W.Frag} {mg mb : Str → Option Value} {CX : CXT} {k : Nat} {fa a : Addr} {cs : List (Addr × Addr)} {fd : FuncData} {x : Str} {sp : Sp} {s₁ : Shared} {vs : List Value} {H : Hp}
    (KX : K.In s₁.heap) (hns : s₁.heap.Ns mainGlobals mg) (hb : s₁.heap.Ns builtinsNs mb) (hbb : ∀ x : Str, x ≠ "__name__" → mb x = bootBuiltins x) (hlim : s₁.heap.NoLimit) (hg : s₁.gens = #[])
    (tab : ∀ p ∈ cs, s₁.heap.get? p.2 = some { cls := .none, data := .fields #[] }) (cod : ∀ p ∈ cs, PySem.W.CodeHd s₁.heap p.1 p.2)
    (hbm : ∃ (bm : Addr) (ob : Obj), mg "__builtins__" = some (.ref bm) ∧ bm ≠ builtinsNs ∧ s₁.heap.get? bm = some ob ∧ ob.cls = .type "module" ∧ ob.dict = some builtinsNs ∧ ob.data = .plain)
    (ha : s₁.heap.get? a = some { cls := .type "list", data := .seq vs.toArray }) (hr : RoomG k callerA)
    (F : ∀ base : Heap, K.In base → base.Ns mainGlobals mg → (∀ p ∈ cs, LamX.TabB base mg p.1 p.2) → FnG P w K mg base CX k fa fd [x] sp) (hbind : ∀ (s : Shared) (u : Value), BindsTo s fd ⟨[u], []⟩ [(x, u)])
    (hsp : sp [.ref a] H (fun v _ => v = .bl true) fun _ _ _ => False) (hCX : ∀ e s', CX [] H s₁ (fun _ _ _ => False) e s' → False)
    (hT : Tab0 cs H) (hO : ∀ b, H b = none ∨ b ∈ cs.map (·.2) ∨ ∃ o xs, H b = some (.frz o (.lst xs))) (hok : HOk P w H s₁.heap) (hA : ∀ b, H b ≠ none → b = a ∨ b ∈ cs.map (·.2)) (hK : ∀ b, H b ≠ none → K.lookup b = none) :
    codeAny (model P w) callerA (.call (.ref fa) ⟨[.ref a], []⟩) (fun r s' => r = .ok (.ret (.bool true)) ∧ OldK s₁.heap s'.heap ∧ s'.os = s₁.os ∧ AllBare s'.gens) s₁ := by
  have isT : ∀ b : Addr, b ∈ cs.map (·.2) → s₁.heap.get? b = some { cls := .none, data := .fields #[] } := fun b hb => by
    obtain ⟨p, hp, e⟩ := List.mem_map.mp hb
    rw [← e]
    exact tab p hp
  have un : ∀ {b : Addr} {o : Obj}, s₁.heap.get? b = some o → (∀ zs n, o.data ≠ .seq zs n) → o.data ≠ .fields #[] → H b = none := fun {b o} e h1 h2 => by
    cases q : H b with
    | none => rfl
    | some u =>
      rcases hA b (by rw [q]; exact fun z => nomatch z) with z | z
      · rw [z, ha] at e
        exact (h1 _ _ (congrArg Obj.data (Option.some.inj e)).symm).elim
      · rw [isT b z] at e
        exact (h2 (congrArg Obj.data (Option.some.inj e)).symm).elim
  have nsK : ∀ {b : Addr} {m : Str → Option Value}, s₁.heap.Ns b m → (hidT s₁.heap H).Ns b m := fun {b m} ⟨o, es, ep, e, d, r⟩ =>
    ⟨o, es, ep, hidT_get e (un e (fun zs n z => by rw [d] at z; cases z) (fun z => by rw [d] at z; cases z)), d, r⟩
  have kb : K.In (hidT s₁.heap H) := fun b o e => hidT_get (KX b o e) (by
    cases q : H b with
    | none => rfl
    | some u =>
      rw [hK b (by rw [q]; exact fun z => nomatch z)] at e
      cases e)
  obtain ⟨mc, l1, l2⟩ := hlim
  have tb : ∀ p ∈ cs, LamX.TabB (hidT s₁.heap H) mg p.1 p.2 := fun p hp => by
    refine ⟨?_, ?_, fun z => ?_⟩
    · obtain ⟨o, us, file, tf, flags, tg, inF, text, tt, e1, r1, r2, r3, r4⟩ := cod p hp
      refine ⟨o, us, file, tf, flags, tg, inF, text, tt, hidT_get e1 (un e1 (fun zs n z => by rw [r2] at z; cases z) fun z => ?_), r1, r2, r3, r4⟩
      rw [r2] at z
      cases z
      simp at r3
    · obtain ⟨bm, ob, b1, b2, b3, b4, b5, b6⟩ := hbm
      refine ⟨bm, ob, b1, b2, fun q => ?_, fun q => ?_, hidT_get b3 (un b3 (fun zs n z => by rw [b6] at z; cases z) fun z => by rw [b6] at z; cases z), b4, b5, b6⟩
      · obtain ⟨o, es, ep, e, hd, _⟩ := hns
        rw [q, e] at b3
        cases b3
        rw [hd] at b6
        cases b6
      · rw [q, tab p hp] at b3
        cases b3
        cases b6
    · obtain ⟨o, es, ep, e, hd, _⟩ := hns
      rw [z, tab p hp] at e
      cases e
      cases hd
  have e0 : Env0 P w K mg (hidT s₁.heap H) callerA [] s₁ H :=
    ⟨rfl, ⟨kb, nsK hns, ⟨mb, nsK hb, hbb⟩, ⟨mc, nsK l1, l2⟩⟩, fun b o e => of_hidT e, Nat.le_of_eq (hidT_size _ _), trivial, fun b hb => absurd (show b ∈ ([] : List Addr) from hb) List.not_mem_nil, hok, .of_eq hg⟩
  refine codeAny_mono ((F _ kb (nsK hns) tb).run callerA [] s₁ H ⟨[.ref a], []⟩ [.ref a] [.ref a] _ _ hr e0 (hbind s₁ (.ref a)) (.cons rfl .nil) hsp) fun r s' h => ?_
  match r, h with
  | .error e, h => exact (hCX e s' h).elim
  | .ok (.ret u), h =>
    obtain ⟨v, H', os, bare, un', hok', r', q⟩ := h
    obtain rfl : v = .bl true := q
    obtain rfl : u = Value.bool true := r'
    have key : ∀ b o, b ∉ cs.map (·.2) → s₁.heap.get? b = some o → s'.heap.get? b = some o := fun b o nb e => by
      rcases hO b with z | z | ⟨ob, xs, z⟩
      · exact un'.keep b o e z (fun z => absurd (show b ∈ ([] : List Addr) from z) List.not_mem_nil) (fun z => absurd (show b ∈ ([] : List Addr) from z) List.not_mem_nil)
      · exact absurd z nb
      · obtain ⟨e1, _⟩ := hok b _ z
        obtain ⟨e2, _⟩ := hok' b _ (un'.frzs b ob _ z)
        rw [e] at e1
        rw [Option.some.inj e1]
        exact e2
    have more : ∀ p ∈ cs, ∃ m : Array Value, s'.heap.get? p.2 = some { cls := .none, data := .fields m } := fun p hp => by
      obtain ⟨m, z⟩ := un'.tbls p.2 #[] (hT.at_ p hp)
      exact ⟨_, hok' p.2 _ z⟩
    refine ⟨rfl, ⟨fun b o e => ?_, fun b o e => ?_⟩, os, bare⟩
    · by_cases hb : b ∈ cs.map (·.2)
      · obtain ⟨p, hp, ep⟩ := List.mem_map.mp hb
        obtain ⟨m, hm⟩ := more p hp
        rw [← ep] at e ⊢
        rw [tab p hp] at e
        cases e
        exact .inr (.inl ⟨((cod p hp).tab (tab p hp)).isCodeTable, rfl, #[], m, rfl, by rw [Array.empty_append]; exact hm⟩)
      · exact .inl (key b o hb e)
    · by_cases hb : b ∈ cs.map (·.2)
      · obtain ⟨p, hp, ep⟩ := List.mem_map.mp hb
        obtain ⟨m, hm⟩ := more p hp
        rw [← ep]
        exact ⟨_, hm⟩
      · exact ⟨o, key b o hb e⟩
theorem law_callTG {P : Program} {w : World} {K : PySem.W.Frag} {mg mb : Str → Option Value} {CX : CXT} {k : Nat} {fa a : Addr} {cs : List (Addr × Addr)} {fd : FuncData} {x : Str} {sp : Sp} {s₁ : Shared} {vs : List Value} {ns : List Int}
    (KX : K.In s₁.heap) (hns : s₁.heap.Ns mainGlobals mg) (hb : s₁.heap.Ns builtinsNs mb) (hbb : ∀ x : Str, x ≠ "__name__" → mb x = bootBuiltins x) (hlim : s₁.heap.NoLimit) (hg : s₁.gens = #[])
    (tab : ∀ p ∈ cs, s₁.heap.get? p.2 = some { cls := .none, data := .fields #[] }) (nT : ∀ p ∈ cs, K.lookup p.2 = none) (cod : ∀ p ∈ cs, PySem.W.CodeHd s₁.heap p.1 p.2)
    (hbm : ∃ (bm : Addr) (ob : Obj), mg "__builtins__" = some (.ref bm) ∧ bm ≠ builtinsNs ∧ s₁.heap.get? bm = some ob ∧ ob.cls = .type "module" ∧ ob.dict = some builtinsNs ∧ ob.data = .plain)
    (ha : s₁.heap.get? a = some { cls := .type "list", data := .seq vs.toArray }) (hi : IntsAre vs ns) (hl : ns.length ≤ sizeLine) (hr : RoomG k callerA)
    (F : ∀ base : Heap, K.In base → base.Ns mainGlobals mg → (∀ p ∈ cs, LamX.TabB base mg p.1 p.2) → FnG P w K mg base CX k fa fd [x] sp) (hbind : ∀ (s : Shared) (u : Value), BindsTo s fd ⟨[u], []⟩ [(x, u)])
    (hsp : ∀ H : Hp, Tab0 cs H → SqL K H a (ns.map V.int) → sp [.ref a] H (fun v _ => v = .bl true) fun _ _ _ => False) (hCX : ∀ H e s', CX [] H s₁ (fun _ _ _ => False) e s' → False) :
    codeAny (model P w) callerA (.call (.ref fa) ⟨[.ref a], []⟩) (fun r s' => r = .ok (.ret (.bool true)) ∧ OldK s₁.heap s'.heap ∧ s'.os = s₁.os ∧ AllBare s'.gens) s₁ := by
  have rv := vals_ints hi
  have lenV := hi.length
  have isT : ∀ b : Addr, b ∈ cs.map (·.2) → s₁.heap.get? b = some { cls := .none, data := .fields #[] } ∧ K.lookup b = none := fun b hb => by
    obtain ⟨p, hp, e⟩ := List.mem_map.mp hb
    rw [← e]
    exact ⟨tab p hp, nT p hp⟩
  have aT : a ∉ cs.map (·.2) := fun z => by
    have q := (isT a z).1
    rw [ha] at q
    cases congrArg Obj.data (Option.some.inj q)
  have memT : ∀ p ∈ cs, p.2 ∈ cs.map (·.2) := fun p hp => List.mem_map.mpr ⟨p, hp, rfl⟩
  let H0 : Option HO → Hp := fun z b => if b = a then z else if b ∈ cs.map (·.2) then some (.tbl #[]) else none
  have h_a : ∀ z, H0 z a = z := fun z => if_pos rfl
  have h_t : ∀ z b, b ∈ cs.map (·.2) → H0 z b = some (.tbl #[]) := fun z b hb => (if_neg fun e => aT (by rw [← e]; exact hb)).trans (if_pos hb)
  have h_n : ∀ z b, b ≠ a → b ∉ cs.map (·.2) → H0 z b = none := fun z b n hb => (if_neg n).trans (if_neg hb)
  have t0 : ∀ z, Tab0 cs (H0 z) := fun z => ⟨fun p hp => h_t z _ (memT p hp)⟩
  have two : ∀ z b, H0 z b ≠ none → b = a ∨ b ∈ cs.map (·.2) := fun z b h => by
    by_cases h1 : b = a
    · exact .inl h1
    · by_cases h2 : b ∈ cs.map (·.2)
      · exact .inr h2
      · exact (h (h_n z b h1 h2)).elim
  have tok : ∀ z b u, b ∈ cs.map (·.2) → H0 z b = some u → ObjOk P w (H0 z) s₁.heap b u := fun z b u hb e => by
    rw [h_t z b hb] at e
    cases e
    exact (isT b hb).1
  cases hk : K.lookup a with
  | some o =>
    have e := (KX a o hk).symm.trans ha
    obtain rfl := Option.some.inj e
    refine law_goT (H := H0 none) KX hns hb hbb hlim hg tab cod hbm ha hr F hbind (hsp _ (t0 _) (.inr ⟨_, vs.toArray, _, hk, rfl, rfl, rfl, by rw [List.size_toArray, lenV]; exact hl, by simpa using rv⟩)) (hCX _) (t0 _) (fun b => ?_) (fun b u z => ?_) (two _) (fun b z => ?_)
    · by_cases h2 : b ∈ cs.map (·.2)
      · exact .inr (.inl h2)
      · by_cases h1 : b = a
        · exact .inl (by rw [h1]; exact h_a none)
        · exact .inl (h_n _ b h1 h2)
    · rcases two _ b (by rw [z]; exact fun y => nomatch y) with h1 | h2
      · rw [h1, h_a] at z
        cases z
      · exact tok _ b u h2 z
    · rcases two _ b z with h1 | h2
      · rw [h1, h_a] at z
        exact (z rfl).elim
      · exact (isT b h2).2
  | none =>
    refine law_goT (H := H0 (some (.frz { cls := .type "list", data := .seq vs.toArray } (.lst (ns.map V.int))))) KX hns hb hbb hlim hg tab cod hbm ha hr F hbind (hsp _ (t0 _) (.inl (.inr ⟨_, h_a _⟩))) (hCX _) (t0 _) (fun b => ?_) (fun b u z => ?_) (two _) (fun b z => ?_)
    · by_cases h2 : b ∈ cs.map (·.2)
      · exact .inr (.inl h2)
      · by_cases h1 : b = a
        · exact .inr (.inr ⟨_, _, by rw [h1]; exact h_a _⟩)
        · exact .inl (h_n _ b h1 h2)
    · rcases two _ b (by rw [z]; exact fun y => nomatch y) with h1 | h2
      · rw [h1, h_a] at z
        obtain rfl := Option.some.inj z
        rw [h1]
        exact ⟨ha, by rw [List.length_map]; exact hl, vs, _, rv, ha⟩
      · exact tok _ b u h2 z
    · rcases two _ b z with h1 | h2
      · rw [h1]
        exact hk
      · exact (isT b h2).2
/-- the end of a law with tables, over a head by facts -/
theorem walkGT {l : PySem.W.OpenLaw} {n k : Nat} {q : Program} {loose : List Str} {XP : (Str → Option Value) → Heap → Prop} {YP : World → Heap → Prop} {d : DefRec} {CX : CXT} {x : Str}
    (hn : l.most = some n) (hn2 : n ≤ sizeLine) (hdf : d.params.defaults = []) (hr : RoomG k callerA)
    (F : ∀ (w : World) (mg : Str → Option Value) (fa : Addr) (h : Heap), YP w h → h.Ns mainGlobals mg → mg d.name = some (.ref fa) →
      ∃ (K : PySem.W.Frag) (fd : FuncData) (sp : Sp) (cs : List (Addr × Addr)), K.In h ∧ (∀ p ∈ cs, h.get? p.2 = some { cls := .none, data := .fields #[] }) ∧ (∀ p ∈ cs, K.lookup p.2 = none) ∧ (∀ p ∈ cs, PySem.W.CodeHd h p.1 p.2) ∧ (∀ (s : Shared) (u : Value), BindsTo s fd ⟨[u], []⟩ [(x, u)]) ∧
        (∀ (H : Hp) (a : Addr) (ns : List Int), ns.length ≤ n → Tab0 cs H → SqL K H a (ns.map V.int) → sp [.ref a] H (fun v _ => v = .bl true) fun _ _ _ => False) ∧
        ∀ base : Heap, K.In base → base.Ns mainGlobals mg → (∀ p ∈ cs, LamX.TabB base mg p.1 p.2) → FnG l.prog w K mg base CX k fa fd [x] sp)
    (hCX : ∀ (H : Hp) (s : Shared) (e : Value) (s' : Shared), CX [] H s (fun _ _ _ => False) e s' → False) :
    PySem.W.WalkO q loose XP YP l.row.toRowW d [] (fun f vs => PySem.call f vs) := by
  refine Att.attach_call hn hdf fun w s₀ s₁ mg mb fa o pm cd doc a vs ns G Y ho hd hcd hmg hobj hints hlen hg => ?_
  obtain ⟨K, fd, sp, cs, KX, h1, h2, h3, hb, hsp, hF⟩ := F w mg fa _ Y G.T.g hmg
  exact law_callTG KX G.T.g G.T.b G.T.builtins G.T.nolimit hg h1 h2 h3 G.T.bmain hobj hints (Nat.le_trans hlen hn2) hr hF hb (fun H hT hS => hsp H a ns hlen hT hS) fun H e s' => hCX H s₁ e s'
end Gu

set_option Elab.async false
set_option linter.all false
set_option maxRecDepth 100000
set_option maxHeartbeats 4000000
/-! Own layer: defs and methods that may raise, by their names: called where nothing is let out, in a def that lets errors out, in a try's body; by position and by keywords. -/
namespace Ex
open PySem PySem.Spec PySem.Calls PyProof.Rows L2 Gu
theorem passN {X : Cx} : Passes (L2.CX X.prog X.w) X E0 := fun _ _ _ _ _ _ _ ⟨_, _, _, _, _, _, _, _, _, _, _, _, z⟩ => z.elim
theorem passX {X : Cx} {E : XK} (tk : Takes X (fun cls d _ H => E cls d H)) : Passes (L2.CX X.prog X.w) X E := passes_call tk fun _ _ _ _ h => h
structure DfX (P : Program) (w : World) (K : PySem.W.Frag) (mg : Str → Option Value) (base : Heap) (k : Nat) (x : Str) (ps : List Str) (sp : Sp) : Prop where
  ex : ∃ fd, FnOk P w K mg base (L2.CX P w) k (He.ga K x) fd ps sp ∧ Binds K fd ps []
  gl : mg x = some (.ref (He.ga K x))
  kp : PySem.W.keepIn K (.ref (He.ga K x)) = true
structure MfX (P : Program) (w : World) (K : PySem.W.Frag) (mg : Str → Option Value) (base : Heap) (k : Nat) (c m : Str) (ps : List Str) (sp : Sp) : Prop where
  ex : ∃ fd, FnOk P w K mg base (L2.CX P w) k (He.ma K (He.ga K c) m) fd ps sp ∧ Binds K fd ps []
  cl : Cls K (He.ga K c)
  me : Meth K (He.ga K c) m (He.ma K (He.ga K c) m)
/-- .. called by the keywords ks alone behind self; j: the places of the other parameters among the keywords -/
structure MfXK (P : Program) (w : World) (K : PySem.W.Frag) (mg : Str → Option Value) (base : Heap) (k : Nat) (c m : Str) (ps ks : List Str) (j : List Nat) (sp : Sp) : Prop where
  ex : ∃ fd, FnOk P w K mg base (L2.CX P w) k (He.ma K (He.ga K c) m) fd ps sp ∧ ∀ (s : Shared) (u : Value) (ws : List Value), ws.length = ks.length → BindsTo s fd ⟨[u], ks.zip ws⟩ (ps.zip (u :: j.filterMap fun i => ws[i]?))
  cl : Cls K (He.ga K c)
  me : Meth K (He.ga K c) m (He.ma K (He.ga K c) m)
section
variable {X : Cx} {k j : Nat} {x c m : Str} {ps ks : List Str} {ji : List Nat} {sp : Sp} {p pos apos : Pos} {e o : Expr} {es : List Expr} {kws : List Keyword} {t tk : TA} {ta : TE} {E : XK} {W : WX}
theorem pcallX (D : DfX X.prog X.w X.K X.mg X.base k x ps sp) (hr : Room j X.A) (px : Passes (L2.CX X.prog X.w) X E) (ha : PA X (e :: es) t) (hj : k ≤ j := by decide) (hg : Gl X x := by rfl) (hdb : (x == ("__debug__" : Str)) = false := by decide)
    (he : starEach (e :: es) X.env = (false, eval e X.env) :: starEach es X.env := by rfl) (hpl : (backTo pos (starEach es X.env)).any (·.1) = false := by rfl) :
    PE X (.Call (.Name x p) (e :: es) [] pos) (tCall sp [] E t) := by
  obtain ⟨fd, F, b⟩ := D.ex
  exact pe_call F (hr.mono hj) hg D.gl D.kp b .nil px ha hdb he hpl
theorem pmethX {pl : Sem Bool} (D : MfX X.prog X.w X.K X.mg X.base k c m ps sp) (hr : Room j X.A) (px : Passes (L2.CX X.prog X.w) X E) (he : PE X o ta) (ha : PA X (e :: es) t) (hj : k ≤ j := by decide)
    (hst : starEach (e :: es) X.env = (false, eval e X.env) :: starEach es X.env := by rfl) (hpl : (backTo pos (starEach es X.env)).any (·.1) = false := by rfl)
    (ht : eval (.Call (.Attribute o m apos) (e :: es) [] pos) X.env = (do
      let ov ← eval o X.env
      standAt apos.atName
      let (f, first) ← holding [ov] (getMethod ov m pl)
      callWith pos f first (backTo pos (starEach (e :: es) X.env)) (backToKw pos (keywordEach [] X.env))) := by rfl) :
    PE X (.Call (.Attribute o m apos) (e :: es) [] pos) (tMeth (He.ga X.K c) m sp [] E ta t) := by
  obtain ⟨fd, F, b⟩ := D.ex
  exact pe_meth he D.cl D.me F (hr.mono hj) b .nil px ha hst hpl ht
/-- within a comprehension's block the reading names K by hand -/
theorem pmethXB {pl : Sem Bool} (K : PySem.W.Frag) (D : MfX X.prog X.w X.K X.mg X.base k c m ps sp) (hr : Room j X.A) (px : Passes (L2.CX X.prog X.w) X E) (he : PE X o ta) (ha : PA X (e :: es) t) (hj : k ≤ j := by decide) (hK : X.K = K := by rfl)
    (hst : starEach (e :: es) X.env = (false, eval e X.env) :: starEach es X.env := by rfl) (hpl : (backTo pos (starEach es X.env)).any (·.1) = false := by rfl)
    (ht : eval (.Call (.Attribute o m apos) (e :: es) [] pos) X.env = (do
      let ov ← eval o X.env
      standAt apos.atName
      let (f, first) ← holding [ov] (getMethod ov m pl)
      callWith pos f first (backTo pos (starEach (e :: es) X.env)) (backToKw pos (keywordEach [] X.env))) := by rfl) :
    PE X (.Call (.Attribute o m apos) (e :: es) [] pos) (tMeth (He.ga K c) m sp [] E ta t) := by
  subst hK
  exact pmethX D hr px he ha hj hst hpl ht
def tMethKw (C : Addr) (m : Str) (sp : Sp) (n : Nat) (j : List Nat) (E : XK) (ta : TE) (tk : TA) : TE := fun σ H Q => ta σ H fun x H1 => ∃ a dx fs, x = .ref a ∧ H1 a = some (.ins C dx fs) ∧ fs.lookup m = none ∧
  tk σ H1 fun zs H2 => zs.length = n ∧ sp (x :: j.filterMap fun i => zs[i]?) H2 Q E
theorem pmethXK {pl : Sem Bool} (D : MfXK X.prog X.w X.K X.mg X.base k c m ps ks ji sp) (hr : Room j X.A) (px : Passes (L2.CX X.prog X.w) X E) (he : PE X o ta) (hkw : PK X kws tk) (hj : k ≤ j := by decide)
    (hall : (backToKw pos (keywordEach kws X.env)).all (·.1.isSome) = true := by rfl) (hks : (backToKw pos (keywordEach kws X.env)).filterMap (·.1) = ks := by rfl)
    (hpl : ((backTo pos (starEach [] X.env)).any (·.1) || (backToKw pos (keywordEach kws X.env)).any (·.1.isNone)) = false := by rfl)
    (ht : eval (.Call (.Attribute o m apos) [] kws pos) X.env = (do
      let ov ← eval o X.env
      standAt apos.atName
      let (f, first) ← holding [ov] (getMethod ov m pl)
      callWith pos f first (backTo pos (starEach [] X.env)) (backToKw pos (keywordEach kws X.env))) := by rfl) :
    PE X (.Call (.Attribute o m apos) [] kws pos) (tMethKw (He.ga X.K c) m sp ks.length ji E ta tk) := by
  obtain ⟨fd, F, b⟩ := D.ex
  refine ⟨fun pins s σ H Q I h => PySem.W.methodCall_KW (pl := pl) (thn (he.run pins s σ H _ I h) fun u s1 ⟨x, H1, I1, rx, a, dx, fs, ex, ea, l, q⟩ => ?_) ht⟩
  subst ex
  obtain rfl : u = Value.ref a := rx
  refine getmeth_ok I1 ea D.cl D.me l (PySem.W.callWith_KW0 (first := [.ref a]) (h₀ := X.base) I.ok.mod.kin D.me.kp hall (thn (hkw.run pos pins s1 σ H1 _ I1 q) fun ws s2 ⟨zs, H2, I2, rz, hz, q2⟩ => ⟨I2.kIn, ?_⟩) hpl)
  rw [hks]
  have rv : Vals (V.ref a :: ji.filterMap fun i => zs[i]?) (Value.ref a :: ji.filterMap fun i => ws[i]?) := .cons rfl (vals_pick rz ji)
  refine wpAny_call (codeAny_mono (F.run X.A X.stack s2 H2 ⟨[Value.ref a] ++ [], ks.zip ws⟩ _ _ Q E (hr.mono hj) I2.env0 (b s2 (.ref a) ws (rz.length.symm.trans hz)) rv q2) fun r s' hq => ?_)
  match r, hq with
  | .error e, hq => exact px pins σ H2 s2 e s' I2 hq
  | .ok (.ret u), hq => exact I2.after hq
end
section
variable {X : Cx} {k j : Nat} {c m : Str} {ps : List Str} {sp : Sp} {pos apos : Pos} {e o : Expr} {es : List Expr} {t : TA} {ta : TE} {W : WX}
/-- o.m(e, ..) in a try's body -/
def tMethT (C : Addr) (m : Str) (sp : Sp) (E : L2.St → XK) (ta : TE) (t : TA) : TE := fun σ H Q => ta σ H fun x H1 => ∃ a dx fs, x = .ref a ∧ H1 a = some (.ins C dx fs) ∧ fs.lookup m = none ∧ t σ H1 fun vs H2 => sp (x :: vs) H2 Q (E σ)
theorem pmethT {pl : Sem Bool} (D : MfX X.prog X.w X.K X.mg X.base k c m ps sp) (hr : Room j X.A) (tk : Takes X W) (he : PE X o ta) (ha : PA X (e :: es) t) (hj : k ≤ j := by decide)
    (hst : starEach (e :: es) X.env = (false, eval e X.env) :: starEach es X.env := by rfl) (hpl : (backTo pos (starEach es X.env)).any (·.1) = false := by rfl)
    (ht : eval (.Call (.Attribute o m apos) (e :: es) [] pos) X.env = (do
      let ov ← eval o X.env
      standAt apos.atName
      let (f, first) ← holding [ov] (getMethod ov m pl)
      callWith pos f first (backTo pos (starEach (e :: es) X.env)) (backToKw pos (keywordEach [] X.env))) := by rfl) :
    PE X (.Call (.Attribute o m apos) (e :: es) [] pos) (tMethT (He.ga X.K c) m sp (WE W) ta t) := by
  obtain ⟨fd, F, b⟩ := D.ex
  refine ⟨fun pins s σ H Q I h => PySem.W.methodCall_KW (pl := pl) (thn (he.run pins s σ H _ I h) fun u s1 ⟨x, H1, I1, rx, a, dx, fs, ex, ea, l, q⟩ => ?_) ht⟩
  subst ex
  obtain rfl : u = Value.ref a := rx
  refine getmeth_ok I1 ea D.cl D.me l (PySem.W.callWith_K (first := [.ref a]) (h₀ := X.base) I.ok.mod.kin D.me.kp (thn (ha.run pos pins s1 σ H1 _ I1 q) fun us s2 ⟨vs, H2, I2, r, q2⟩ => ⟨I2.kIn, ?_⟩) hst hpl)
  exact run_fnS (E := WE W) (us := .ref a :: us) (vs := .ref a :: vs) F (hr.mono hj) b (passAt tk σ) I2 (.cons rfl r) q2
end
/-! ### facts of an error's class over any base -/
def oexGB (B : String) (K : PySem.W.Frag) (C : Addr) : Bool := match K.lookup C with
  | some ⟨.type "type", _, .cls cd, sl⟩ => (match cd.mro, sl.toList with
    | .ref c :: bm, [_, _, _, _, some (.builtin n), _] => (c == C && n == B ++ ".__new__") && ((!cd.hasDel && cd.hasDict) && refsB (tailE B) bm)
    | _, _ => false)
  | _ => false
theorem oexGB_ok {B : String} {K : PySem.W.Frag} {C : Addr} (h : oexGB B K C = true) :
    ∃ nm q N bs bm sn sub ab col dd k0 k1 k2 k3 k5, K.lookup C = some (excClassObj nm q C N bs bm true sn sub ab col dd k0 k1 k2 k3 k5 (B ++ ".__new__")) ∧ refsB (tailE B) bm = true := by
  unfold oexGB at h
  split at h
  · rename_i dd cd sl ho
    split at h
    · rename_i c bm k0 k1 k2 k3 n k5 hm hs
      obtain ⟨⟨h1, h2⟩, h3⟩ := (He.ba h).imp_left He.ba
      obtain ⟨h4, h5⟩ := He.ba h3
      obtain ⟨h6, h7⟩ := He.ba h4
      have e1 : c = C := beq_iff_eq.mp h1
      have e2 : n = B ++ ".__new__" := beq_iff_eq.mp h2
      have e3 : cd.hasDel = false := by simpa using h6
      subst e1 e2
      obtain ⟨nm, bs, mro, ns, qn, hd, sn, sub, ab, col, del⟩ := cd
      dsimp only at hm e3 h7
      subst hm e3 h7
      have e4 : sl = #[k0, k1, k2, k3, some (.builtin (B ++ ".__new__")), k5] := by
        obtain ⟨l⟩ := sl
        simp only at hs
        rw [hs]
      subst e4
      exact ⟨nm, qn, ns, bs, bm, sn, sub, ab, col, dd, k0, k1, k2, k3, k5, ho, h5⟩
    · cases h
  · cases h
def bOf (a : Option Bool) (b : Bool) : Bool := decide (a = some b)
theorem bOf_ok {a : Option Bool} {b : Bool} (h : bOf a b = true) : a = some b := of_decide_eq_true h
/-- what the rules ask of an error's class at C, over B, with the field n -/
def errG (B : String) (K : PySem.W.Frag) (C : Addr) (n : Str) : Bool := oexGB B K C && (He.eqO (PySem.W.findIn K (.ref C) "__setattr__") (some (some (.builtin "object.__setattr__"))) && (bOf (PySem.W.subIn K (.ref C) (.type "BaseException")) true &&
  (decide (PySem.W.typeIn K (.ref C) = some (.type "type")) && (PySem.W.keepIn K (.ref C) && (xfB K C && (He.eqO (PySem.W.findIn K (.ref C) "__class__") (some (some (.builtin "object.__class__"))) &&
  (He.eqO (PySem.W.specialIn K (.builtin "object.__class__") "__get__") (some (some (.builtin "getset_descriptor.__get__"))) && (bOf (PySem.W.takesIn K (.builtin "object.__class__")) true && (bOf (PySem.W.mroIn K C (.type "object")) true &&
  (He.eqO (PySem.W.findIn K (.ref C) n) (some none) && (He.eqO (PySem.W.findIn K (.ref C) "__init__") (some (some (.ref (He.ma K C "__init__")))) && (decide (PySem.W.typeIn K (.ref (He.ma K C "__init__")) = some (.type "function")) && bOf (PySem.W.exmOne K (.ref C) (.ref C)) true))))))))))))
structure ErrG (B : String) (K : PySem.W.Frag) (C : Addr) (n : Str) : Prop where
  ox : OexG B (tailE B) K C
  xf : XfC K C
  ec : ExcC K C
  no : PySem.W.findIn K (.ref C) n = some none
  ii : PySem.W.findIn K (.ref C) "__init__" = some (some (.ref (He.ma K C "__init__")))
  ti : PySem.W.typeIn K (.ref (He.ma K C "__init__")) = some (.type "function")
  em : PySem.W.exmOne K (.ref C) (.ref C) = some true
theorem errG_ok {B : String} {K : PySem.W.Frag} {C : Addr} {n : Str} (b : BaseE B (tailE B)) (h : errG B K C n = true) : ErrG B K C n := by
  obtain ⟨a1, h⟩ := He.ba h
  obtain ⟨a2, h⟩ := He.ba h
  obtain ⟨a3, h⟩ := He.ba h
  obtain ⟨a4, h⟩ := He.ba h
  obtain ⟨a5, h⟩ := He.ba h
  obtain ⟨a6, h⟩ := He.ba h
  obtain ⟨a7, h⟩ := He.ba h
  obtain ⟨a8, h⟩ := He.ba h
  obtain ⟨a9, h⟩ := He.ba h
  obtain ⟨a10, h⟩ := He.ba h
  obtain ⟨a11, h⟩ := He.ba h
  obtain ⟨a12, h⟩ := He.ba h
  obtain ⟨a13, a14⟩ := He.ba h
  have x := xfB_ok a6
  exact ⟨⟨b, oexGB_ok a1, He.eqO_ok a2, bOf_ok a3, of_decide_eq_true a4, a5⟩, x, ⟨x.ga, x.gg, x.exC, x.hdC, He.eqO_ok a7, He.eqO_ok a8, bOf_ok a9, bOf_ok a10⟩, He.eqO_ok a11, He.eqO_ok a12, of_decide_eq_true a13, bOf_ok a14⟩
/-- an error's __init__ with one field -/
def spErr (C : Addr) (n : Str) : Sp := fun vs H Q _ => ∃ (a : Addr) (v : V), vs = [.ref a, v] ∧ H a = some (exo a C none) ∧ ∀ dx, H dx = none → dx ≠ a → Q .non (upd (upd H dx (exd dx [(n, v)])) a (exo a C (some dx)))
/-- the error's maker, for a raise -/
structure Ei (P : Program) (w : World) (K : PySem.W.Frag) (mg : Str → Option Value) (base : Heap) (c n : Str) : Prop where
  ex : ∃ fd, FnOk P w K mg base CX0 1 (He.ma K (He.ga K c) "__init__") fd ["self", n] (spErr (He.ga K c) n) ∧ Binds K fd ["self", n] []
theorem heap_err {H : Hp} {a dx : Addr} {fs : List (Str × V)} {o1 o2 o3 : HO} (ha : H a = none) (hd : H dx = none) : Same H (upd (del (upd (upd (upd H a o1) dx o2) a o3) a) dx (.xd fs)) := fun b o e => by
  have nb : b ≠ a := ne_of_none e ha
  have nd : b ≠ dx := ne_of_none e hd
  rw [upd_ne nd, del_ne nb, upd_ne nb, upd_ne nd, upd_ne nb]
  exact e
/-- what is asked at a raise of C(v): that the def's own wish of errors holds of it -/
theorem raise_ok {K : PySem.W.Frag} {c n : Str} {v : V} {H : Hp} {E : XK} (q : ∀ d H', H d = none → Same H H' → H' d = some (.xd [(n, v)]) → E (.ref (He.ga K c)) (some d) H') :
    ∀ a, H a = none → spErr (He.ga K c) n (.ref a :: ([v] ++ [])) (upd H a (exo a (He.ga K c) none))
      (fun u H2 => u = .non ∧ ∃ (d : Addr) (fs : List (Str × V)), H2 a = some (exo a (He.ga K c) (some d)) ∧ H2 d = some (exd d fs) ∧ H d = none ∧ E (.ref (He.ga K c)) (some d) (upd (del H2 a) d (.xd fs))) (fun _ _ _ => False) := fun a ha => by
  refine ⟨a, v, rfl, upd_same, fun dx hdx ne => ⟨rfl, dx, [(n, v)], upd_same, ?_, ?_, ?_⟩⟩
  · rw [upd_ne ne, upd_same]
  · rw [upd_ne ne] at hdx
    exact hdx
  · rw [upd_ne ne] at hdx
    exact q dx _ hdx (heap_err ha hdx) upd_same
end Ex

set_option Elab.async false
set_option linter.all false
set_option maxRecDepth 100000
set_option maxHeartbeats 4000000
/-! enumerate over a tuple -/
namespace PySem
open Sem (wp)
open AutoSeq1 (wpAny_loadPart')
theorem meets_enumerate_newT (l : Addr) (items : Array Value) (n : Nat) (dct : Option Addr) (sl : Array (Option Value)) :
    Meets (Builtin.«enumerate.__new__» ⟨[.type "enumerate", .ref l], []⟩) (fun _ R s => s.heap.get? l = some { cls := .type "tuple", dict := dct, data := .seq items n, slots := sl } ∧
      R (.ok (.ret (.ref (s.heap.push { cls := .type "tuple_iterator", data := .fields #[.ref l, .int 0 0] }).objs.size)))
        { s with heap := (s.heap.push { cls := .type "tuple_iterator", data := .fields #[.ref l, .int 0 0] }).push { cls := .type "enumerate", data := .fields #[.none, .bool false, .ref s.heap.objs.size, rawInt 0, .none, .none] } }) :=
  .of_wp fun prog w A R s h => by
    obtain ⟨hp, g, d, tk, os⟩ := s; obtain ⟨hl, h⟩ := h
    have hsub := sub_enumerate
    have hL : Heap.IsTuple (Shared.heap ⟨hp, g, d, tk, os⟩) l items := ⟨_, hl, rfl, n, rfl⟩
    wp_walk using wpAny_loadPart' hl
    refine wpAny_stack_any fun st => wpAny_pure ?_
    split
    · rename_i c _ _ _ _ _
      cases (c == Value.type "enumerate")
      · wp_walk using wpAny_loadPart' hl, wpAny_pyIter_tuple hL
        exact ⟨_, rfl, h⟩
      · wp_walk using wpAny_loadPart' hl, wpAny_pyIter_tuple hL
        exact ⟨_, rfl, h⟩
    · wp_walk using wpAny_loadPart' hl, wpAny_pyIter_tuple hL
      exact ⟨_, rfl, h⟩
section
variable {prog : Program} {w : World} {A : Around} {E : Value → Shared → Prop} {s : Shared}
theorem call_enumerate_tuple {l : Addr} {items : Array Value} {Q : Value → Shared → Prop} (hL : s.heap.IsTuple l items)
    (h : ∀ h', IsEnum h' (s.heap.objs.size + 1) s.heap.objs.size 0 .none → h'.IsTupleIter s.heap.objs.size l 0 → h'.objs.size = s.heap.objs.size + 2 →
      (∀ b o, s.heap.get? b = some o → h'.get? b = some o) → Q (.ref (s.heap.objs.size + 1)) { s with heap := h' }) :
    wpAny (model prog w) A (call (.type "enumerate") [.ref l]) Q E s := by
  obtain ⟨⟨c, dct, dt, sl⟩, hl, hc, n, hd⟩ := hL
  replace hc : c = .type "tuple" := hc
  replace hd : dt = .seq items n := hd
  subst hc hd
  refine callType_new F.called_enumerate (by decide) (F.typeCall_enumerate_1 _) (F.newCall_enumerate_1 _) (fun obj => F.args_object_init_2 obj _) F.entry_enumerate_new
    (meets_enumerate_newT l items n dct sl) ⟨hl, ?_⟩
  have hz : (s.heap.push { cls := .type "tuple_iterator", data := .fields #[.ref l, .int 0 0] }).objs.size = s.heap.objs.size + 1 := Heap.size_push ..
  show _ ∧ _
  rw [hz]
  have he : IsEnum ((s.heap.push { cls := .type "tuple_iterator", data := .fields #[.ref l, .int 0 0] }).push
      { cls := .type "enumerate", data := .fields #[.none, .bool false, .ref s.heap.objs.size, rawInt 0, .none, .none] }) (s.heap.objs.size + 1) s.heap.objs.size 0 .none := by
    have := Heap.get?_push_size (s.heap.push { cls := .type "tuple_iterator", data := .fields #[.ref l, .int 0 0] })
      (o := { cls := .type "enumerate", data := .fields #[.none, .bool false, .ref s.heap.objs.size, rawInt 0, .none, .none] }) rfl
    rw [hz] at this; exact this
  refine ⟨⟨_, he, rfl⟩, h _ he ⟨_, Heap.get?_push_of_some _ (Heap.get?_push_size _ rfl), rfl, rfl⟩ (by rw [Heap.size_push, hz]) fun b o x => Heap.get?_push_of_some _ (Heap.get?_push_of_some _ x)⟩
end
theorem Draws.tuple {prog : Program} {w : World} {A : Around} (hh : A.handled = none) (it l : Addr) (hne : l ≠ it) (items : Array Value) :
    Draws prog w A it [it, l] items.size (fun i v => items[i]? = some v) (fun i h => h.IsTupleIter it l i ∧ h.IsTuple l items) where
  live := fun _ _ st => let ⟨o, ho, _⟩ := st.1; ⟨o, ho⟩
  frame := fun _ _ _ st hk => ⟨st.1.at fun o e => hk it (by simp) o e, st.2.at fun o e => hk l (by simp) o e⟩
  item := fun i s Q E hi st hQ => by
    unfold Builtin.SmallTypes.nextOf
    refine wpAny_bind (L2.special_tup_item st.1 st.2 (x := items[i]) (by simp [hi]) fun h' hit' hs' => ?_)
    exact wpAny_pure (hQ _ h' s.toks (by simp [hi]) ⟨hit', st.2.extBut hs'.extBut hne⟩ hs')
  done := fun s Q E st hE => by
    unfold Builtin.SmallTypes.nextOf
    refine wpAny_bind (L2.special_tup_end hh st.1 st.2 (by simp) fun e h' hx hk => ?_)
    obtain ⟨a, o, vs, rfl, ho, hc, _⟩ := hx
    exact hE h' a hk ⟨o, ho, hc⟩
theorem enum_endT {prog : Program} {w : World} {A : Around} {E : Value → Shared → Prop} {s : Shared} {e it l : Addr} {i : Nat} {items : Array Value} {old : Value} {Q : Option Value → Shared → Prop} (hh : A.handled = none)
    (he : IsEnum s.heap e it i old) (hit : s.heap.IsTupleIter it l i) (hl : s.heap.IsTuple l items) (hx : items[i]? = none)
    (hQ : ∀ h', Heap.ExtBut it s.heap h' → Q none { s with heap := h' }) : wpAny (model prog w) A (pyNext (.ref e)) Q E s := by
  have hT : s.TypeIs (.ref e) "enumerate" := ⟨_, he, rfl⟩
  unfold pyNext
  refine wpAny_bind (wpAny_attempt (wpAny_callSpecial?_slot (name := Str.ofString "__next__") hT F.slot_enumerate_next
    (wpAny_call_entry F.slot_enumerate_next hT F.entry_enumerate_next ?_ (F.args_enumerate_next_1 _))))
  show wpAny _ _ (field (.ref e) 2 >>= _) _ _ _
  refine wpAny_bind (wpAny_field he rfl (x := .ref it) rfl ?_)
  refine wpAny_bind ?_
  unfold Builtin.SmallTypes.nextOf
  refine wpAny_bind (L2.special_tup_end (A := A.in1) hh hit hl hx fun x h' hx' hk => ?_)
  obtain ⟨a, o, vs, rfl, ho, hc, _⟩ := hx'
  refine wpAny_bind (wpAny_isInstance (T := "StopIteration") (b := true) ⟨o, ho, hc⟩ isSubtype_stop ?_)
  exact wpAny_pure (hQ _ hk)
end PySem

set_option Elab.async false
set_option linter.all false
set_option maxRecDepth 100000
set_option maxHeartbeats 4000000
namespace L2
open PySem PySem.Spec PyProof.Rows
/-- the tuple at a, each item in a new pair -/
def IteT (K : PySem.W.Frag) (a : Addr) : It :=
  ⟨fun i H => ∃ (xs : List V) (x : V), SqT K H a xs ∧ xs[i]? = some x, fun i H v H' => ∃ T x, v = .ref T ∧ H T = none ∧ H' = upd H T (.tup [.int (i : Nat), x]) ∧ ∀ xs, SqT K H a xs → xs[i]? = some x, fun i H => ∃ xs : List V, SqT K H a xs ∧ xs.length ≤ i⟩
theorem turn_enumT {P : Program} {w : World} {K : PySem.W.Frag} {elts : List Expr} {kk : Nat} {tpos : Pos} (a e it : Addr) :
    Turn P w K (.Tuple elts kk tpos) (IteT K a) [e, it] e (fun i h => (∃ old, IsEnum h e it ((i : Nat) : Int) old) ∧ h.IsTupleIter it a i ∧ e ≠ it) where
  mem := by simp
  obj := fun i h st b hb => by
    obtain ⟨⟨old, he⟩, ⟨o, ho, hc, hd⟩, _⟩ := st
    have e' : b = e ∨ b = it := by simpa using hb
    rcases e' with z | z
    · rw [z]; exact ⟨_, he, fun v q => nomatch q⟩
    · rw [z]; exact ⟨o, ho, fun v q => by rw [hd] at q; cases q⟩
  keep := fun i h h' st k => let ⟨⟨old, he⟩, hi, hne⟩ := st; ⟨⟨old, k e (by simp) _ he⟩, hi.at fun o q => k it (by simp) o q, hne⟩
  item := by
    intro X hP hw hK hc i pins s σ H E I hf st hg
    subst hP hw hK
    obtain ⟨⟨old, he⟩, hit, hne⟩ := st
    obtain ⟨xs, x, hq, hx⟩ := hg
    obtain ⟨its, rv, p, hz⟩ := I.tuple hq
    obtain ⟨u, hu, ru⟩ := rv.get hx
    have hel : e < s.heap.objs.size := Heap.lt_size he
    have hil : it < s.heap.objs.size := by obtain ⟨_, q, _⟩ := hit; exact Heap.lt_size q
    have hT' : s.heap.IsTuple a its.toArray := p
    have nae : e ≠ a := fun z => by
      obtain ⟨o, ho, hc', _⟩ := hT'
      rw [← z] at ho
      have := Option.some.inj (he.symm.trans ho)
      rw [← this] at hc'
      exact absurd (Value.type.inj hc') (by decide)
    have nai : a ≠ it := fun z => by
      obtain ⟨o, ho, hc', _⟩ := hT'
      obtain ⟨o2, ho2, hc2, _⟩ := hit
      rw [z] at ho
      have := Option.some.inj (ho.symm.trans ho2)
      rw [this, hc2] at hc'
      exact absurd (Value.type.inj hc') (by decide)
    have D := Draws.tuple (prog := X.prog) (w := X.w) (A := X.A.in1) (I.ok.hd hc) it a nai its.toArray
    have hul : its.toArray[i]? = some u := by simpa using hu
    have hlt : i < its.toArray.size := (Array.getElem?_eq_some_iff.mp hul).1
    refine wpAny_pyNext_enum_itemD D he ⟨hit, hT'⟩ hlt hne (by simp [hne, nae]) fun y h' tk hy ho hst hT hsz hk => ?_
    have ey : y = u := Option.some.inj (hy.symm.trans hul)
    subst ey
    refine ⟨_, rfl, wpAny_letOwnedTupleGo_enum (s := { s with heap := h', toks := tk + 1 }) ho fun h'' he' sb => ?_⟩
    have hT2 : h''.get? s.heap.objs.size = some { cls := .type "tuple", data := .seq #[.int i tk, y] } := (sb.2 _ (Nat.ne_of_gt hel)).trans hT
    have new : ObjOk X.prog X.w (upd H s.heap.objs.size (.tup [.int (i : Nat), x])) h'' s.heap.objs.size (.tup [.int (i : Nat), x]) :=
      ⟨by show 2 ≤ sizeLine; decide, [.int i tk, y], .cons ⟨_, rfl⟩ (.cons ru .nil), ⟨_, hT2, rfl, _, rfl⟩⟩
    have I1 : Inv X pins σ (upd H s.heap.objs.size (.tup [.int (i : Nat), x])) { s with heap := h'', toks := tk + 1 } :=
      I.turnedNew (ch := [e, it]) (fun b ob hb q => (sb.2 b (fun z => hb (by simp [z]))).trans (hk b ob (fun z => hb (by simp [z])) (fun z => hb (by simp [z])) q)) hf (Nat.le_refl _) new
    refine ⟨.ref s.heap.objs.size, _, I1, rfl, ⟨_, x, rfl, I.hok.fresh (Nat.le_refl _), rfl, fun ys hy => by rw [I.tuple_inj hy hq]; exact hx⟩, ⟨⟨y, ?_⟩, hst.1.at fun o q => (sb.2 it (Ne.symm hne)).trans q, hne⟩, fun b hb => ?_⟩
    · have e1 : ((i + 1 : Nat) : Int) = (i : Int) + 1 := by omega
      rw [e1]; exact he'
    · have hb' : b < s.heap.objs.size := by
        have e' : b = e ∨ b = it := by simpa using hb
        rcases e' with z | z
        · rw [z]; exact hel
        · rw [z]; exact hil
      rw [upd_ne (Nat.ne_of_lt hb')]
      exact (hf b hb).1
  done := by
    intro X hP hw hK hc i pins s σ H E I hf st hg
    subst hP hw hK
    obtain ⟨⟨old, he⟩, hit, hne⟩ := st
    obtain ⟨xs, hq, hx⟩ := hg
    obtain ⟨its, rv, p, hz⟩ := I.tuple hq
    obtain ⟨f0, f1, f2, f3, f4, f5⟩ := hf it (by simp)
    have hl := rv.length
    have hT' : s.heap.IsTuple a its.toArray := p
    have nai : a ≠ it := fun z => by
      obtain ⟨o, ho, hc', _⟩ := hT'
      obtain ⟨o2, ho2, hc2, _⟩ := hit
      rw [z] at ho
      have := Option.some.inj (ho.symm.trans ho2)
      rw [this, hc2] at hc'
      exact absurd (Value.type.inj hc') (by decide)
    have hTn : its.toArray[i]? = none := by simp; omega
    exact enum_endT (I.ok.hd hc) he hit hT' hTn fun h' eb => ⟨rfl, I.turned (t' := s.toks) (fun b o hb q => eb b o hb q) f0 f1 f3 f4 f5⟩
  self := fun A i s Q E st h => let ⟨⟨_, he⟩, _⟩ := st; wpAny_pyIter_enum he h
def iEnumT (K : PySem.W.Frag) (ta : TA) : TI := fun σ H R => ta σ H fun vs H1 => ∃ a xs, vs = [.ref a] ∧ SqT K H1 a xs ∧ R (IteT K a) H1
theorem pi_enumT {X : Cx} {e : Expr} {ta : TA} {p pos tpos : Pos} {elts : List Expr} {kk : Nat} (hg : Gl X "enumerate") (hm : X.mg "enumerate" = none) (ha : PA X [e] ta) (hs : starEach [e] X.env = [(false, eval e X.env)] := by rfl) :
    PI X (.Tuple elts kk tpos) (.Call (.Name "enumerate" p) [e] [] pos) (iEnumT X.K ta) := by
  refine ⟨fun pins s σ H R I h => ?_⟩
  refine Call_ (ld_blt I hg hm boot_enumerate (PyProof.Rows.callWith_type1 (thn (ha.run pos pins s σ H _ I h) fun us s1 ⟨vs, H1, I1, r1, q1⟩ => ?_) hs rfl))
  obtain ⟨a, xs, ex, hq, q⟩ := q1
  subst ex
  cases r1 with
  | cons r rr =>
    cases rr
    cases r
    obtain ⟨its, rv, p', hz⟩ := I1.tuple hq
    refine call_enumerate_tuple (show s1.heap.IsTuple a its.toArray from p') fun h' he hit hsz hk => wpAny_pyIter_enum he ?_
    have I2 : Inv X pins σ H1 { s1 with heap := h' } := I1.kept (t' := s1.toks) hk
    refine ⟨s1.heap.objs.size + 1, [s1.heap.objs.size + 1, s1.heap.objs.size], _, _, H1, rfl, I2, turn_enumT a (s1.heap.objs.size + 1) s1.heap.objs.size, ⟨⟨.none, he⟩, hit, Nat.succ_ne_self _⟩, fun b hb => ?_, q⟩
    have e' : b = s1.heap.objs.size + 1 ∨ b = s1.heap.objs.size := by simpa using hb
    have hle : s1.heap.objs.size ≤ b := by
      rcases e' with z | z
      · rw [z]; exact Nat.le_add_right _ _
      · rw [z]; exact Nat.le_refl _
    exact I1.fpOk hle (I1.hok.fresh hle)
theorem walk_enumT {K : PySem.W.Frag} {a : Addr} {xs : List V} : Walk (IteT K a) xs.length (fun H => SqT K H a xs) (YPair (fun i => some (.int (i : Nat))) (fun i => xs[i]?)) := by
  refine ⟨fun i _ hi q => ⟨xs, xs[i], q, by simp [hi]⟩, fun _ q => ⟨xs, q, Nat.le_refl _⟩, fun i H v H' _ q y => ?_⟩
  obtain ⟨T, x, h1, h2, h3, h4⟩ := y
  exact ⟨T, .int (i : Nat), x, h1, h2, h3, rfl, h4 xs q⟩
/-- the one way or the other -/
def iOr (t1 t2 : TI) : TI := fun σ H R => t1 σ H R ∨ t2 σ H R
theorem pi_or {X : Cx} {tg e : Expr} {t1 t2 : TI} (h1 : PI X tg e t1) (h2 : PI X tg e t2) : PI X tg e (iOr t1 t2) := ⟨fun pins s σ H R I h => h.elim (h1.run pins s σ H R I) (h2.run pins s σ H R I)⟩
end L2

set_option Elab.async false
set_option linter.all false
set_option maxRecDepth 100000
set_option maxHeartbeats 4000000
namespace K81
open PySem PySem.Spec PyProof.Rows L2 Gu Ex
def top (i : Nat) : Stmt := PySem.Challenge.pw_exactroom_k81_whole_programs_judged.main.body.getD i (.Pass ⟨0, 0, 0, 0⟩)
abbrev FnP (K : PySem.W.Frag) (x qual : Str) (st : Stmt) (f : Addr) (fd : FuncData) : Prop := FunD K x qual (defArgs st) (defBody st) (defScope st) [] [] f fd
def letters : Str := "abcdefghijklmnopqrstuvwxyz"
/-- the instructions' forms -/
def forms : List (Str × List Str) := [("new", ["name", "expression"]), ("drop", ["name"]), ("resize", ["name", "expression"]), ("store", ["name", "expression", "expression"]), ("load", ["name", "name", "expression"]), ("set", ["name", "expression"]), ("out", ["expression"]), ("reserve", ["expression"]), ("if", ["expression", "body", "body"]), ("repeat", ["expression", "body"]), ("attempt", ["body", "name", "body"])]
def formIn (x : Str) : List (Str × List Str) → Option (List Str)
  | [] => none
  | (y, ks) :: r => if y = x then some ks else formIn x r
def formOf (x : Str) : Option (List Str) := formIn x forms
/-- what the top has left -/
structure Tx (w : World) (K : PySem.W.Frag) (mg : Str → Option Value) : Prop where
  n_len : mg "len" = none
  n_isinstance : mg "isinstance" = none
  n_int : mg "int" = none
  n_bool : mg "bool" = none
  n_str : mg "str" = none
  n_tuple : mg "tuple" = none
  n_list : mg "list" = none
  n_range : mg "range" = none
  n_divmod : mg "divmod" = none
  n_abs : mg "abs" = none
  n_max : mg "max" = none
  n_min : mg "min" = none
  n_all : mg "all" = none
  n_repr : mg "repr" = none
  n_enumerate : mg "enumerate" = none
  n_zip : mg "zip" = none
  n_dict : mg "dict" = none
  gL : ∃ t, mg "LETTERS" = some (.str letters t)
  gN : ∃ t, mg "MAX_NAME" = some (.int 8 t)
  gD : ∃ t, mg "MAX_DEPTH" = some (.int 6 t)
  gI : ∃ t, mg "MAX_INSTRUCTIONS" = some (.int 200 t)
  gM : ∃ t, mg "MAX_NUMBER" = some (.int 1000000000000 t)
  g_OPERATORS : mg "OPERATORS" = some (.ref (He.ga K "OPERATORS"))
  kO : ∀ H : Hp, SqT K H (He.ga K "OPERATORS") [.str "add", .str "sub", .str "less", .str "equal"]
  g_FORMS : mg "FORMS" = some (.ref (He.ga K "FORMS"))
  kF : ∃ es n, KDict K w (He.ga K "FORMS") es n
  kG : ∀ x : Str, match formOf x with
    | some ks => ∃ fo : Addr, PySem.W.nsIn K (He.ga K "FORMS") x = some (some (.ref fo)) ∧ ∀ H : Hp, SqT K H fo (ks.map V.str)
    | none => PySem.W.nsIn K (He.ga K "FORMS") x = some none
  sys : SysOk K
theorem bT {c : Prop} [Decidable c] (h : c) : V.bl (decide c) = V.bl true := congrArg V.bl (decide_eq_true h)
theorem bF {c : Prop} [Decidable c] (h : ¬ c) : V.bl (decide c) = V.bl false := congrArg V.bl (decide_eq_false h)
theorem ifT {c : Bool} {A B : Prop} (h : c = true) (x : A) : if c = true then A else B := by rw [h]; exact iteT x
theorem ifF {c : Bool} {A B : Prop} (h : c = false) (x : B) : if c = true then A else B := by rw [h]; exact iteF x
theorem vT {a b : Int} (h : a = b) : decide (V.int a = V.int b) = true := decide_eq_true (by rw [h])
theorem vF {a b : Int} (h : a ≠ b) : decide (V.int a = V.int b) = false := decide_eq_false fun z => h (V.int.inj z)
theorem same_upd {H : Hp} {p : Addr} {o : HO} (h : H p = none) : Same H (upd H p o) := fun b x e => by
  rw [upd_ne (ne_of_none e h)]
  exact e
/-! ### values: what the law draws -/
mutual
inductive Tr (H : Hp) : V → PyData → Prop
  | non : Tr H .non .none
  | bl (b : Bool) : Tr H (.bl b) (.bool b)
  | int (i : Int) : Tr H (.int i) (.int i)
  | str (x : Str) : (x.length ≤ 60 ∧ ∀ c ∈ x.cps.toList, c < 1114112) → Tr H (.str x) (.str x)
  | lst {a : Addr} {xs : List V} {ds : List PyData} : H a = some (.lst xs) → TrAll H xs ds → Tr H (.ref a) (.list ds)
  | tup {a : Addr} {xs : List V} {ds : List PyData} : H a = some (.tup xs) → TrAll H xs ds → Tr H (.ref a) (.tuple ds)
  | dct {a : Addr} : H a = some (.dK []) → Tr H (.ref a) (.dict [])
inductive TrAll (H : Hp) : List V → List PyData → Prop
  | nil : TrAll H [] []
  | cons {v : V} {vs : List V} {d : PyData} {ds : List PyData} : Tr H v d → TrAll H vs ds → TrAll H (v :: vs) (d :: ds)
end
mutual
theorem Tr.same {H H' : Hp} (s : Same H H') : ∀ {v : V} {d : PyData}, Tr H v d → Tr H' v d
  | _, _, .non => .non
  | _, _, .bl b => .bl b
  | _, _, .int i => .int i
  | _, _, .str x h => .str x h
  | _, _, .lst e h => .lst (s _ _ e) (TrAll.same s h)
  | _, _, .tup e h => .tup (s _ _ e) (TrAll.same s h)
  | _, _, .dct e => .dct (s _ _ e)
theorem TrAll.same {H H' : Hp} (s : Same H H') : ∀ {vs : List V} {ds : List PyData}, TrAll H vs ds → TrAll H' vs ds
  | _, _, .nil => .nil
  | _, _, .cons h1 h2 => .cons (Tr.same s h1) (TrAll.same s h2)
end
mutual
theorem Tr.dq {K : PySem.W.Frag} {H : Hp} : ∀ {v : V} {d : PyData}, Tr H v d → Dq K H v d
  | _, _, .non => .non
  | _, _, .bl b => .bl b
  | _, _, .int i => .int i
  | _, _, .str x _ => .str x
  | _, _, .lst e h => .lst (SqL.of e) (TrAll.dq h)
  | _, _, .tup e h => .tup (SqT.of e) (TrAll.dq h)
  | _, _, .dct e => .dct e .nil .nil
theorem TrAll.dq {K : PySem.W.Frag} {H : Hp} : ∀ {vs : List V} {ds : List PyData}, TrAll H vs ds → DqAll K H vs ds
  | _, _, .nil => .nil
  | _, _, .cons h1 h2 => .cons (Tr.dq h1) (TrAll.dq h2)
end
theorem TrAll.len {H : Hp} : ∀ {vs : List V} {ds : List PyData}, TrAll H vs ds → vs.length = ds.length
  | _, _, .nil => rfl
  | _, _, .cons _ h => by rw [List.length_cons, List.length_cons, TrAll.len h]
theorem TrAll.get {H : Hp} : ∀ {vs : List V} {ds : List PyData}, TrAll H vs ds → ∀ {i : Nat} {d : PyData}, ds[i]? = some d → ∃ v, vs[i]? = some v ∧ Tr H v d
  | _, _, .nil, i, d, e => by cases e
  | _, _, .cons h1 h2, i, d, e => by
    cases i with
    | zero =>
      cases e
      exact ⟨_, rfl, h1⟩
    | succ i => exact TrAll.get h2 e
def dI : PyData → Bool
  | .int _ => true
  | _ => false
def dB : PyData → Bool
  | .bool _ => true
  | _ => false
def dS : PyData → Bool
  | .str _ => true
  | _ => false
def dT : PyData → Bool
  | .tuple _ => true
  | _ => false
def dL : PyData → Bool
  | .list _ => true
  | _ => false
theorem Tr.ty {K : PySem.W.Frag} {H : Hp} {v : V} {d : PyData} (h : Tr H v d) : ∃ T, TyX K H v (.type T) ∧ kitB T "int" = some (dI d || dB d) ∧ kitB T "bool" = some (dB d) ∧ kitB T "str" = some (dS d) ∧ kitB T "tuple" = some (dT d) ∧ kitB T "list" = some (dL d) := by
  cases h with
  | non => exact ⟨"NoneType", .base .non, (show kitB "NoneType" "int" = some false by decide +kernel), (show kitB "NoneType" "bool" = some false by decide +kernel), (show kitB "NoneType" "str" = some false by decide +kernel), (show kitB "NoneType" "tuple" = some false by decide +kernel), (show kitB "NoneType" "list" = some false by decide +kernel)⟩
  | bl b => exact ⟨"bool", .base (.bl b), (show kitB "bool" "int" = some true by decide +kernel), (show kitB "bool" "bool" = some true by decide +kernel), (show kitB "bool" "str" = some false by decide +kernel), (show kitB "bool" "tuple" = some false by decide +kernel), (show kitB "bool" "list" = some false by decide +kernel)⟩
  | int i => exact ⟨"int", .base (.int i), (show kitB "int" "int" = some true by decide +kernel), (show kitB "int" "bool" = some false by decide +kernel), (show kitB "int" "str" = some false by decide +kernel), (show kitB "int" "tuple" = some false by decide +kernel), (show kitB "int" "list" = some false by decide +kernel)⟩
  | str x _ => exact ⟨"str", .base (.str x), (show kitB "str" "int" = some false by decide +kernel), (show kitB "str" "bool" = some false by decide +kernel), (show kitB "str" "str" = some true by decide +kernel), (show kitB "str" "tuple" = some false by decide +kernel), (show kitB "str" "list" = some false by decide +kernel)⟩
  | lst e _ => exact ⟨"list", .base (.lst e), (show kitB "list" "int" = some false by decide +kernel), (show kitB "list" "bool" = some false by decide +kernel), (show kitB "list" "str" = some false by decide +kernel), (show kitB "list" "tuple" = some false by decide +kernel), (show kitB "list" "list" = some true by decide +kernel)⟩
  | tup e _ => exact ⟨"tuple", .base (.tup e), (show kitB "tuple" "int" = some false by decide +kernel), (show kitB "tuple" "bool" = some false by decide +kernel), (show kitB "tuple" "str" = some false by decide +kernel), (show kitB "tuple" "tuple" = some true by decide +kernel), (show kitB "tuple" "list" = some false by decide +kernel)⟩
  | dct e => exact ⟨"dict", .base (.dK e), (show kitB "dict" "int" = some false by decide +kernel), (show kitB "dict" "bool" = some false by decide +kernel), (show kitB "dict" "str" = some false by decide +kernel), (show kitB "dict" "tuple" = some false by decide +kernel), (show kitB "dict" "list" = some false by decide +kernel)⟩
def nameD : PyData → Bool
  | .str x => decide (1 ≤ x.length ∧ x.length ≤ 8) && x.cps.toList.all fun c => decide (c ∈ letters.cps.toList)
  | _ => false
/-- a comprehension over a text's signs -/
theorem lc_text {x : Str} {g : TG} {tt : TT} {te : TE} {vs : List Nat} {σ : L2.St} {H1 : Hp} {D : Addr} {Qd : Hp → Prop} (Pv : Nat → Hp → Prop) (h0 : Pv 0 (upd H1 D (.lst [])))
    (hs : ∀ i c H, x.cps.toList[i]? = some c → Pv i H → g (.str ⟨#[c]⟩) (wipe σ vs) H fun σ2 H2 => wipe σ2 vs = wipe σ vs ∧ tt σ2 H2 fun b H3 =>
      if b = true then te σ2 H3 fun y H4 => ∃ acc, H4 D = some (.lst acc) ∧ acc.length < sizeLine ∧ Pv (i + 1) (upd H4 D (.lst (acc ++ [y]))) else Pv (i + 1) H3) (hd : ∀ H, Pv x.cps.toList.length H → Qd H) :
    ∃ W : Nat → Nat → Hp → Prop, (∃ m, W 0 m (upd H1 D (.lst []))) ∧ ∀ i m H, W i m H →
      ((Its x).stop i H ∧ Qd H) ∨ ((Its x).go i H ∧ ∃ Nx : Hp → Prop, (∀ H', Nx H' → ∃ m', m' < m ∧ W (i + 1) m' H') ∧ ∀ v H', (Its x).yld i H v H' → g v (wipe σ vs) H' fun σ2 H2 => wipe σ2 vs = wipe σ vs ∧ tt σ2 H2 fun b H3 =>
        if b = true then te σ2 H3 fun y H4 => ∃ acc, H4 D = some (.lst acc) ∧ acc.length < sizeLine ∧ Nx (upd H4 D (.lst (acc ++ [y]))) else Nx H3) := by
  have hsz : x.cps.size = x.cps.toList.length := (Array.length_toList ..).symm
  refine ⟨fun i m H => m = x.cps.size - i ∧ i ≤ x.cps.size ∧ Pv i H, ⟨x.cps.size, by simp, Nat.zero_le _, h0⟩, ?_⟩
  rintro i m H ⟨rfl, hi, p⟩
  by_cases hlt : i < x.cps.size
  · refine .inr ⟨hlt, Pv (i + 1), fun H' p' => ⟨x.cps.size - (i + 1), by omega, rfl, hlt, p'⟩, fun v H' y => ?_⟩
    obtain ⟨rfl, c, hc, rfl⟩ := y
    exact hs i c _ (by rw [Array.getElem?_toList]; exact hc) p
  · have e : i = x.cps.size := by omega
    subst e
    refine .inl ⟨Nat.le_refl _, hd H (by rw [← hsz]; exact p)⟩
section
variable {P : Program} {w : World} {K : PySem.W.Frag} {mg : Str → Option Value} {base : Heap} {f : Addr} {fd : FuncData}
def spInt : Sp := fun vs H Q _ => ∃ (v : V) (d : PyData), vs = [v] ∧ Tr H v d ∧ Q (.bl (dI d)) H
theorem sc_is_integer : FnScope ["value"] ["value"] (defScope (top 3)) := ⟨rfl, rfl, rfl, by decide +kernel, rfl, by decide +kernel, by decide +kernel⟩
theorem ok_is_integer (T : Tx w K mg) (F : FnP K "is_integer" "is_integer" (top 3) f fd) : FnOk P w K mg base CX0 1 f fd ["value"] spInt := by
  refine F.ok sc_is_integer (fun vs H Q E h => ?_) (fun cdv A outer s H vs Q E hr h => ⟨_, PSs.nox (pss_one (ps_ret (pe_and (pe_callB call_isi (by rfl) T.n_isinstance (by decide +kernel) (pa_cons (pv 0) (pa_cons (pe_bltn (v := .ty "int") (by rfl) T.n_int (by decide +kernel) rfl) pa_nil))) (pe_one (pe_not (pe_callB call_isi (by rfl) T.n_isinstance (by decide +kernel) (pa_cons (pv 0) (pa_cons (pe_bltn (v := .ty "bool") (by rfl) T.n_bool (by decide +kernel) rfl) pa_nil)))))))), ?_⟩)
  · obtain ⟨v, d, rfl, _⟩ := h
    rfl
  · obtain ⟨v, d, rfl, hv, q⟩ := h
    obtain ⟨Ty, ty, k1, k2, _⟩ := hv.ty (K := K)
    refine ⟨_, rfl, _, _, _, _, _, rfl, .ty "int", ty, kit_ty k1, _, rfl, ?_⟩
    cases e : (dI d || dB d) with
    | true =>
      refine iteT ⟨_, rfl, _, _, _, _, _, rfl, .ty "bool", ty, kit_ty k2, _, rfl, ?_⟩
      have e2 : (!dB d) = dI d := by cases d <;> first | rfl | cases e
      rw [e2]
      exact q
    | false =>
      have e2 : dI d = false := by cases d <;> first | rfl | cases e
      rw [e2] at q
      exact iteF q
def spName : Sp := fun vs H Q _ => ∃ (v : V) (d : PyData), vs = [v] ∧ Tr H v d ∧ ∀ H', Same H H' → Q (.bl (nameD d)) H'
theorem sc_is_name : FnScope ["value", "letter"] ["value"] (defScope (top 4)) := ⟨rfl, rfl, rfl, by decide +kernel, rfl, by decide +kernel, by decide +kernel⟩
theorem ok_is_name (T : Tx w K mg) (F : FnP K "is_name" "is_name" (top 4) f fd) : FnOk P w K mg base CX0 1 f fd ["value"] spName := by
  obtain ⟨tl, hLT⟩ := T.gL
  obtain ⟨tn, hMN⟩ := T.gN
  refine F.ok sc_is_name (fun vs H Q E h => ?_) (fun cdv A outer s H vs Q E hr h => ⟨_, PSs.nox (pss_cons (ps_if (PW.pt (pw_or (pt_not (pt_val (pe_callB call_isi (by rfl) T.n_isinstance (by decide +kernel) (pa_cons (pv 0) (pa_cons (pe_bltn (v := .ty "str") (by rfl) T.n_str (by decide +kernel) rfl) pa_nil))))) (pw_or1 (pt_not (pt_chain op_le op_le pe_int (pe_callB call_len_str (by rfl) T.n_len (by decide +kernel) (pa_cons (pv 0) pa_nil)) (pe_glob (v := .int 8) rfl hMN ⟨_, rfl⟩)))))) (pss_one (ps_ret pe_bl)) pss_nil) (pss_one (ps_ret (pe_callB (cr_all rfl) (by rfl) T.n_all (by decide +kernel) (pa_cons (pe_lc (own := [("letter", 1)]) (g := gName 1) rfl sc_is_name.nd (pi_str (pv 0)) (blkOk_by (own := [("letter", 1)]) (N := ["value", "letter"]) (sc := defScope (top 4)) (by decide +kernel)) (fun _ _ _ _ _ => pg_name (i := 1) sc_is_name.nd rfl (Or.inl rfl)) (fun _ _ _ _ _ => pts_nil) (fun _ _ _ _ _ => (pe_cmpR op_in_sign (pv 1) (pe_glob (v := .str letters) rfl hLT ⟨_, rfl⟩) (by rfl)))) pa_nil))))), ?_⟩)
  · obtain ⟨v, d, rfl, _⟩ := h
    rfl
  · obtain ⟨v, d, rfl, hv, q⟩ := h
    obtain ⟨Ty, ty, _, _, k3, _⟩ := hv.ty (K := K)
    have sr : Same H H := fun _ _ e => e
    refine ⟨_, rfl, _, _, _, _, _, rfl, .ty "str", ty, kit_ty k3, _, rfl, ?_⟩
    cases hv with
    | str x hl =>
      have hz : x.length ≤ sizeLine := Nat.le_trans hl.1 (by decide)
      have hl1 := hl.1
      refine iteF ⟨_, rfl, x, rfl, hz, _, _, rfl, rfl, _, rfl, ?_⟩
      by_cases h1 : (1 : Int) ≤ (x.length : Int)
      · refine ifT (decide_eq_true h1) ⟨_, _, rfl, rfl, _, rfl, ?_⟩
        by_cases h2 : (x.length : Int) ≤ 8
        · refine ifF (by rw [decide_eq_true h2]; rfl) ?_
          refine ⟨_, rfl, x, rfl, fun D hD => ?_⟩
          refine lc_text (fun i H' => H' D = some (.lst (((x.cps.toList.take i).map fun c => decide (c ∈ letters.cps.toList)).map V.bl)) ∧ Same H H') ⟨upd_same, same_upd hD⟩ ?_ ?_
          · rintro i c H' hc ⟨hD', sm⟩
            have hi : i < x.cps.toList.length := (List.getElem?_eq_some_iff.mp hc).1
            refine ⟨rfl, _, rfl, c, letters, rfl, rfl, _, hD', small1000 ?_, ?_, fun b o e => ?_⟩
            · rw [List.length_map, List.length_map, List.length_take]
              have : x.cps.toList.length = x.length := Array.length_toList ..
              omega
            · rw [upd_same, List.take_add_one, hc, List.map_append, List.map_append]
              rfl
            · rw [upd_ne (ne_of_none e hD)]
              exact sm b o e
          · rintro H' ⟨hD', sm⟩
            rw [List.take_length] at hD'
            refine ⟨D, _, rfl, SqL.of hD', ?_⟩
            have e : (List.map (fun c => decide (c ∈ letters.cps.toList)) x.cps.toList).all id = nameD (.str x) := by
              show _ = (decide (1 ≤ x.length ∧ x.length ≤ 8) && x.cps.toList.all fun c => decide (c ∈ letters.cps.toList))
              rw [decide_eq_true ⟨by omega, by omega⟩, Bool.true_and, List.all_map]
              rfl
            rw [e]
            exact q H' sm
        · have e : nameD (.str x) = false := by
            show (decide (1 ≤ x.length ∧ x.length ≤ 8) && _) = false
            rw [decide_eq_false fun z => h2 (by omega), Bool.false_and]
          rw [e] at q
          exact ifT (by rw [decide_eq_false h2]; rfl) (q H sr)
      · have e : nameD (.str x) = false := by
          show (decide (1 ≤ x.length ∧ x.length ≤ 8) && _) = false
          rw [decide_eq_false fun z => h1 (by omega), Bool.false_and]
        rw [e] at q
        exact ifF (decide_eq_false h1) ⟨_, rfl, iteT (q H sr)⟩
    | _ => exact iteT (iteT (q H sr))
end
end K81

set_option Elab.async false
set_option linter.all false
set_option maxRecDepth 100000
set_option maxHeartbeats 4000000
namespace K81
open PySem PySem.Spec PyProof.Rows L2 Gu Ex
/-- the drawing list at r -/
def Rng (H : Hp) (r : Addr) : Prop := ∃ a b : Int, H r = some (.lst [.int a, .int b]) ∧ 0 ≤ a ∧ 0 ≤ b ∧ b < 2147483587
/-- only the drawing list at r may have changed -/
def Stp (r : Addr) (H H' : Hp) : Prop := Rng H' r ∧ ∀ b o, b ≠ r → H b = some o → H' b = some o
theorem Stp.trans {r : Addr} {H H1 H2 : Hp} (a : Stp r H H1) (b : Stp r H1 H2) : Stp r H H2 := ⟨b.1, fun c o n e => b.2 c o n (a.2 c o n e)⟩
theorem Stp.refl {r : Addr} {H : Hp} (h : Rng H r) : Stp r H H := ⟨h, fun _ _ _ e => e⟩
/-- the ways of a choice come together: what holds of every value -/
theorem join {α : Type} {G : Prop} (Pc : α → Prop) {R : α → Prop} (h1 : (∀ c, Pc c → R c) → G) (h2 : ∀ c, Pc c → R c) : G := h1 h2
theorem Rng.ne {H : Hp} {r p : Addr} (h : Rng H r) (hp : H p = none) : r ≠ p := fun z => by
  obtain ⟨_, _, e, _⟩ := h
  rw [z, hp] at e
  cases e
theorem Stp.new {r p : Addr} {H H1 : Hp} {o : HO} (a : Stp r H H1) (hp : H1 p = none) : Stp r H (upd H1 p o) := by
  obtain ⟨⟨x, y, e, z⟩, k⟩ := a
  refine ⟨⟨x, y, ?_, z⟩, fun b u n e2 => ?_⟩
  · rw [upd_ne (ne_of_none e hp)]
    exact e
  · rw [upd_ne (ne_of_none (k b u n e2) hp)]
    exact k b u n e2
theorem Stp.free {r p : Addr} {H H1 : Hp} (a : Stp r H H1) (h : H1 p = none) : H p = none := by
  cases e : H p with
  | none => rfl
  | some o =>
    have n : p ≠ r := fun z => (a.1.ne h) z.symm
    rw [a.2 p o n e] at h
    cases h
theorem at_map {ns : List Int} {p : Nat} {x : Int} (h : ns[p]? = some x) : atI (ns.map V.int) (p : Int) = some (.int x) := atI_nat (by rw [List.getElem?_map, h]; rfl)
section
variable {P : Program} {w : World} {K : PySem.W.Frag} {mg : Str → Option Value} {base : Heap} {f : Addr} {fd : FuncData}
def spRng (K : PySem.W.Frag) : Sp := fun vs H Q _ => ∃ (a : Addr) (ns : List Int) (k : Nat), vs = [.ref a, .int k] ∧ SqL K H a (ns.map V.int) ∧ k ≤ 63 ∧ ∀ p H', H p = none → Same H H' → Rng H' p → Q (.ref p) H'
theorem sc__law_rng : FnScope ["_law_script", "_law_k", "_law_cell"] ["_law_script", "_law_k"] (defScope (top 21)) := ⟨rfl, rfl, rfl, by decide +kernel, rfl, by decide +kernel, by decide +kernel⟩
theorem ok_rng (T : Tx w K mg) (F : FnP K "_law_rng" "_law_rng" (top 21) f fd) : FnOk P w K mg base CX0 1 f fd ["_law_script", "_law_k"] (spRng K) := by
  refine F.ok sc__law_rng (fun vs H Q E h => ?_) (fun cdv A outer s H vs Q E hr h => ⟨_, PSs.nox (pss_cons (ps_set (i := 2) sc__law_rng.nd rfl (by first | exact Or.inl rfl | exact Or.inr rfl) (pe_ifExp (pt_cmpR op_lt (pv 1) (pe_callB call_len_seq (by rfl) T.n_len (by decide +kernel) (pa_cons (pv 0) pa_nil)) (nomark _)) (pe_callB call_abs (by rfl) T.n_abs (by decide +kernel) (pa_cons (pe_ix ix_list (pv 0) (pv 1) (fun _ _ => rfl)) pa_nil)) pe_int)) (pss_one (ps_ret (pe_lst (pa_cons (pe_callB (call_max2 rfl) (by rfl) T.n_max (by decide +kernel) (pa_cons pe_int (pa_cons (pe_op op_sub (pv 2) (pe_op op_pow pe_int pe_int)) pa_nil))) (pa_cons (pe_op op_add (pe_op op_mod (pe_op op_pow (pe_op op_add (pe_op op_add (pe_op op_mod (pv 2) pe_int) (pe_op op_mul pe_int (pv 1))) pe_int) pe_int) pe_int) pe_int) pa_nil)))))), ?_⟩)
  · obtain ⟨a, ns, k, rfl, _⟩ := h
    rfl
  · obtain ⟨a, ns, k, rfl, hS, hk, q⟩ := h
    refine join (fun c : Int => 0 ≤ c) (R := ?R) (fun tail => ?main) ?tl
    case main =>
      refine ⟨_, rfl, _, rfl, a, _, rfl, .inl hS, _, _, rfl, rfl, _, rfl, ?_⟩
      by_cases hl : (k : Int) < (((ns.map V.int).length : Nat) : Int)
      · have hk2 : k < ns.length := by rw [List.length_map] at hl; omega
        refine ifT (decide_eq_true hl) ?_
        refine ⟨_, rfl, _, rfl, a, _, _, _, rfl, rfl, hS, at_map (List.getElem?_eq_getElem hk2), _, rfl, ?_⟩
        obtain ⟨c, hc, ec⟩ : ∃ c : Int, 0 ≤ c ∧ (if ns[k] < 0 then -ns[k] else ns[k]) = c := ⟨if ns[k] < 0 then -ns[k] else ns[k], by split <;> omega, rfl⟩
        rw [ec]
        exact tail c hc
      · refine ifF (decide_eq_false hl) ?_
        exact tail 0 (by decide)
    case tl =>
      intro c hc
      have c0 := Int.emod_nonneg c (show (2147483543 : Int) ≠ 0 by decide)
      have c1 := Int.emod_lt_of_pos c (show (0 : Int) < 2147483543 by decide)
      refine ⟨_, rfl, _, _, rfl, rfl, ⟨by decide, by decide, by decide⟩, _, _, rfl, rfl, _, _, rfl, ?_⟩
      refine ⟨_, rfl, _, _, rfl, rfl, (by show (0 : Int) < 2147483543; decide), _, rfl, _, _, rfl, rfl, .inl ⟨by decide, by decide⟩, _, _, rfl, rfl, _, _, rfl, rfl, _, _, rfl, rfl, ⟨by decide, by decide, by omega⟩, _, _, rfl, rfl, (by show (0 : Int) < 2147483497; decide), _, _, rfl, rfl, ?_⟩
      refine ⟨(by show 2 ≤ sizeLine; decide), fun p hp => q p _ hp (fun b o e => by rw [upd_ne (ne_of_none e hp)]; exact e) ⟨_, _, upd_same, ?_, ?_, ?_⟩⟩
      · split <;> omega
      · have := Int.emod_nonneg ((c % 2147483543 + 101 * (k : Int) + 7) ^ (2 : Int).toNat) (show (2147483497 : Int) ≠ 0 by decide)
        omega
      · have := Int.emod_lt_of_pos ((c % 2147483543 + 101 * (k : Int) + 7) ^ (2 : Int).toNat) (show (0 : Int) < 2147483497 by decide)
        omega
def spDraw : Sp := fun vs H Q _ => ∃ (r : Addr) (m : Int), vs = [.ref r, .int m] ∧ Rng H r ∧ 1 ≤ m ∧ m ≤ 10 ^ 40 ∧ ∀ d H', 0 ≤ d → d < m → Stp r H H' → Q (.int d) H'
theorem sc__law_draw : FnScope ["_law_rng_here", "_law_many", "_law_mixed", "_law_digit"] ["_law_rng_here", "_law_many"] (defScope (top 22)) := ⟨rfl, rfl, rfl, by decide +kernel, rfl, by decide +kernel, by decide +kernel⟩
theorem ok_draw (T : Tx w K mg) (F : FnP K "_law_draw" "_law_draw" (top 22) f fd) : FnOk P w K mg base CX0 1 f fd ["_law_rng_here", "_law_many"] spDraw := by
  refine F.ok sc__law_draw (fun vs H Q E h => ?_) (fun cdv A outer s H vs Q E hr h => ⟨_, PSs.nox (pss_cons (ps_if (pt_cmpR op_gt (pe_ix ix_list (pv 0) pe_int (fun _ _ => rfl)) pe_int (nomark _)) (pss_cons (ps_asg (pe_callB call_divmodW (by rfl) T.n_divmod (by decide +kernel) (pa_cons (pe_ix ix_list (pv 0) pe_int (fun _ _ => rfl)) (pa_cons (pv 1) pa_nil))) (pg_tup (by rfl) (pgs_cons (pg_sub (pv 0) pe_int set_list) (pgs_cons (pg_name (i := 3) sc__law_draw.nd rfl (by first | exact Or.inl rfl | exact Or.inr rfl)) pgs_nil)))) (pss_one (ps_ret (pv 3)))) pss_nil) (pss_cons (ps_asg (pe_op op_mod (pe_op op_add (pe_op op_mul (pe_ix ix_list (pv 0) pe_int (fun _ _ => rfl)) pe_int) pe_int) pe_int) (pg_sub (pv 0) pe_int set_list)) (pss_cons (ps_set (i := 2) sc__law_draw.nd rfl (by first | exact Or.inl rfl | exact Or.inr rfl) (pe_op op_fdivW (pe_op op_mod (pe_op op_mul (pe_ix ix_list (pv 0) pe_int (fun _ _ => rfl)) (pe_ix ix_list (pv 0) pe_int (fun _ _ => rfl))) pe_int) pe_int)) (pss_one (ps_ret (pe_ifExp (pt_cmpR op_lt (pv 1) (pe_op op_pow pe_int pe_int) (nomark _)) (pe_op op_mod (pv 2) (pv 1)) (pe_op op_mod (pe_op op_mul (pe_op op_add (pe_op op_mul (pv 2) pe_int) (pe_ix ix_list (pv 0) pe_int (fun _ _ => rfl))) pe_int) (pv 1)))))))), ?_⟩)
  · obtain ⟨r, m, rfl, _⟩ := h
    rfl
  · obtain ⟨r, m, rfl, ⟨a, b, hR, ha, hb, hb2⟩, m1, m2, q⟩ := h
    have mb : m.natAbs < 2 ^ 200 := by
      have : (10 : Int) ^ 40 < 2 ^ 200 := by decide
      have e : ((2 : Nat) ^ 200 : Nat) = ((2 : Int) ^ 200).natAbs := by decide
      omega
    refine ⟨_, rfl, r, _, _, _, rfl, rfl, SqL.of hR, rfl, _, _, rfl, rfl, _, rfl, ?_⟩
    by_cases h0 : 0 < a
    · refine ifT (decide_eq_true h0) ?_
      refine ⟨_, rfl, r, _, _, _, rfl, rfl, SqL.of hR, rfl, _, rfl, _, _, rfl, ⟨by omega, PyProof.noPylong_of_log2 (Nat.lt_of_lt_of_le (PySem.Flt.log2_lt_of (by decide) mb) (by decide))⟩, fun p hp => ?_⟩
      have nrp : r ≠ p := ne_of_none hR hp
      have hR2 : (upd H p (.tup [.int (a / m), .int (a % m)])) r = some (.lst [.int a, .int b]) := by rw [upd_ne nrp]; exact hR
      refine ⟨p, _, rfl, .inl (.inl upd_same), rfl, _, _, rfl, _, rfl, r, _, _, 0, rfl, rfl, hR2, rfl, _, _, rfl, rfl, ?_⟩
      refine ⟨_, rfl, q _ _ (Int.emod_nonneg _ (by omega)) (Int.emod_lt_of_pos _ (by omega)) ⟨⟨a / m, b, upd_same, Int.ediv_nonneg (by omega) (by omega), hb, hb2⟩, fun c o n e => ?_⟩⟩
      rw [upd_ne n, upd_ne (ne_of_none e hp)]
      exact e
    · refine ifF (decide_eq_false h0) ?_
      have b0 := Int.emod_nonneg (b * 48271 + 10007) (show (2147483587 : Int) ≠ 0 by decide)
      have b1 := Int.emod_lt_of_pos (b * 48271 + 10007) (show (0 : Int) < 2147483587 by decide)
      refine ⟨_, rfl, r, _, _, _, rfl, rfl, SqL.of hR, rfl, _, _, rfl, rfl, .inr ⟨by decide, by decide⟩, _, _, rfl, rfl, _, _, rfl, rfl, (by show (0 : Int) < 2147483587; decide), _, rfl, r, _, _, 1, rfl, rfl, hR, rfl, ?_⟩
      dsimp only
      generalize hB : (b * 48271 + 10007) % 2147483587 = B at *
      have hR2 : (upd H r (.lst [.int a, .int B])) r = some (.lst [.int a, .int B]) := upd_same
      have st : Stp r H (upd H r (.lst [.int a, .int B])) := ⟨⟨a, B, upd_same, ha, b0, b1⟩, fun c o n e => by rw [upd_ne n]; exact e⟩
      refine ⟨_, rfl, r, _, _, _, rfl, rfl, SqL.of hR2, rfl, _, rfl, r, _, _, _, rfl, rfl, SqL.of hR2, rfl, _, _, rfl, rfl, .inl ⟨by omega, by omega⟩, _, _, rfl, rfl, (by show (0 : Int) < 2147483549; decide), _, _, rfl, rfl, wide_div (b := 64) (by decide) (by decide) (by decide) (by decide), ?_⟩
      refine ⟨_, rfl, _, _, rfl, rfl, ⟨by decide, by decide, by decide⟩, _, _, rfl, rfl, _, rfl, ite2 (fun _ => ?_) (fun _ => ?_)⟩
      · exact ⟨_, rfl, _, rfl, _, _, rfl, rfl, (by show (0 : Int) < m; omega), q _ _ (Int.emod_nonneg _ (by omega)) (Int.emod_lt_of_pos _ (by omega)) st⟩
      · refine ⟨_, rfl, _, _, rfl, rfl, .inr ⟨by decide, by decide⟩, _, rfl, r, _, _, _, rfl, rfl, SqL.of hR2, rfl, _, _, rfl, rfl, _, _, rfl, rfl, .inr ⟨by decide, by decide⟩, _, rfl, _, _, rfl, rfl, (by show (0 : Int) < m; omega), ?_⟩
        exact q _ _ (Int.emod_nonneg _ (by omega)) (Int.emod_lt_of_pos _ (by omega)) st
theorem at_of {α : Type} {xs : List α} {d : Int} (h0 : 0 ≤ d) (h1 : d < xs.length) : ∃ v, atI xs d = some v ∧ v ∈ xs := by
  obtain ⟨n, rfl⟩ := Int.eq_ofNat_of_zero_le h0
  have hn : n < xs.length := by omega
  exact ⟨xs[n], atI_nat (List.getElem?_eq_getElem hn), List.getElem_mem hn⟩
def spChoice : Sp := fun vs H Q _ => ∃ (r o : Addr) (xs : List V), vs = [.ref r, .ref o] ∧ Rng H r ∧ H o = some (.lst xs) ∧ o ≠ r ∧ 1 ≤ xs.length ∧ xs.length ≤ 1000 ∧ ∀ v H', v ∈ xs → Stp r H H' → Q v H'
theorem sc__law_choice : FnScope ["_law_rng_here", "_law_options"] ["_law_rng_here", "_law_options"] (defScope (top 23)) := ⟨rfl, rfl, rfl, by decide +kernel, rfl, by decide +kernel, by decide +kernel⟩
theorem ok_choice (T : Tx w K mg) (D__law_draw : Df P w K mg base 1 "_law_draw" ["_law_rng_here", "_law_many"] spDraw) (F : FnP K "_law_choice" "_law_choice" (top 23) f fd) : FnOk P w K mg base CX0 2 f fd ["_law_rng_here", "_law_options"] spChoice := by
  refine F.ok sc__law_choice (fun vs H Q E h => ?_) (fun cdv A outer s H vs Q E hr h => ⟨_, PSs.nox (pss_one (ps_ret (pe_ix ix_list (pv 1) (pcall D__law_draw hr (pa_cons (pv 0) (pa_cons (pe_callB call_len_seq (by rfl) T.n_len (by decide +kernel) (pa_cons (pv 1) pa_nil)) pa_nil))) (fun _ _ => rfl)))), ?_⟩)
  · obtain ⟨r, o, xs, rfl, _⟩ := h
    rfl
  · obtain ⟨r, o, xs, rfl, hR, hO, ne, l1, l2, q⟩ := h
    refine ⟨_, rfl, _, rfl, _, rfl, o, _, rfl, .inl (SqL.of hO), r, _, rfl, hR, by omega, ?_, fun d H1 d0 d1 st => ?_⟩
    · have : (1000 : Int) ≤ 10 ^ 40 := by decide
      omega
    · obtain ⟨v, hv, hm⟩ := at_of d0 d1
      exact ⟨o, _, _, v, rfl, rfl, SqL.of (st.2 o _ ne hO), hv, q v H1 hm st⟩
theorem Stp.same {r : Addr} {H H' : Hp} (h : Rng H r) (s : Same H H') : Stp r H H' := by
  obtain ⟨a, b, e, z⟩ := h
  exact ⟨⟨a, b, s _ _ e, z⟩, fun c o _ e => s c o e⟩
theorem Stp.at {r D : Addr} {M H' : Hp} {o : HO} (s : Stp r M H') (hD : M D = none) (n : D ≠ r) : Stp r M (upd H' D o) := by
  obtain ⟨⟨a, b, e, z⟩, k⟩ := s
  refine ⟨⟨a, b, by rw [upd_ne n.symm]; exact e, z⟩, fun c u m h => ?_⟩
  rw [upd_ne (ne_of_none h hD)]
  exact k c u m h
def trues (i : Nat) : List V := (List.replicate i true).map V.bl
theorem trues_more (i : Nat) : trues i ++ [V.bl true] = trues (i + 1) := by
  unfold trues
  rw [List.replicate_succ', List.map_append]
  rfl
theorem trues_len (i : Nat) : (trues i).length = i := by
  unfold trues
  rw [List.length_map, List.length_replicate]
theorem all_trues (i : Nat) : (List.replicate i true).all id = true := by
  rw [List.all_replicate]
  split <;> rfl
end
end K81

set_option Elab.async false
set_option linter.all false
set_option maxRecDepth 100000
set_option maxHeartbeats 4000000
set_option pp.maxSteps 900
namespace K81
open PySem PySem.Spec PyProof.Rows L2 Gu Ex
def ops : List Str := ["add", "sub", "less", "equal"]
theorem inV_strs (x : Str) : ∀ os : List Str, inV (.str x) (os.map V.str) = decide (x ∈ os)
  | [] => rfl
  | b :: r => by
    show ((b == x) || inV (.str x) (r.map V.str)) = _
    rw [inV_strs x r]
    by_cases h1 : b = x
    · subst h1
      simp
    · have h2 : ¬ x = b := fun z => h1 z.symm
      have h3 : (b == x) = false := by simpa using h1
      simp [h2, h3]
theorem flat_strs (os : List Str) : (os.map V.str).all flatV = true := by
  rw [List.all_map, List.all_eq_true]
  intro z _
  rfl
/-- is it a tuple of a word and two parts -/
def shape3 : List PyData → Option (Str × PyData × PyData)
  | [.str w, a, b] => some (w, a, b)
  | _ => none
/-- an expression of at most this depth -/
def withinB : Nat → PyData → Bool
  | 0, _ => false
  | k + 1, d => match d with
    | .tuple ds => (match shape3 ds with
      | some (w, a, b) => decide (w ∈ ops) && (withinB k a && withinB k b)
      | none => false)
    | .int i => decide (-1000000000000 ≤ i ∧ i ≤ 1000000000000)
    | d => nameD d
section
variable {P : Program} {w : World} {K : PySem.W.Frag} {mg : Str → Option Value} {base : Heap} {f : Addr} {fd : FuncData}
def spW (n : Nat) : Sp := fun vs H Q _ => ∃ (m : Nat) (v : V) (d : PyData), m < n ∧ vs = [v, .int (m : Nat)] ∧ Tr H v d ∧ ∀ H', Same H H' → Q (.bl (withinB m d)) H'
theorem sc_is_expression_within : FnScope ["value", "depth"] ["value", "depth"] (defScope (top 11)) := ⟨rfl, rfl, rfl, by decide +kernel, rfl, by decide +kernel, by decide +kernel⟩
theorem ok_within0 (F : FnP K "is_expression_within" "is_expression_within" (top 11) f fd) : FnOk P w K mg base CX0 2 f fd ["value", "depth"] (spW 0) :=
  F.ok sc_is_expression_within (fun vs H Q E h => by obtain ⟨m, _, _, h, _⟩ := h; exact absurd h (Nat.not_lt_zero m)) (fun cdv A outer s H vs Q E hr h => by obtain ⟨m, _, _, h, _⟩ := h; exact absurd h (Nat.not_lt_zero m))
theorem ok_within {n : Nat} (T : Tx w K mg) (D_is_integer : Df P w K mg base 1 "is_integer" ["value"] spInt) (D_is_name : Df P w K mg base 1 "is_name" ["value"] spName) (D_is_expression_within : Df P w K mg base (n + 2) "is_expression_within" ["value", "depth"] (spW n))
    (F : FnP K "is_expression_within" "is_expression_within" (top 11) f fd) : FnOk P w K mg base CX0 (n + 3) f fd ["value", "depth"] (spW (n + 1)) := by
  obtain ⟨tm, hGM⟩ := T.gM
  refine F.ok sc_is_expression_within (fun vs H Q E h => ?_) (fun cdv A outer s H vs Q E hr h => ⟨_, PSs.nox (pss_cons (ps_if (pt_cmpR op_eq (pv 1) pe_int (nomark _)) (pss_one (ps_ret pe_bl)) pss_nil) (pss_cons (ps_if (pt_not (pt_val (pe_callB call_isi (by rfl) T.n_isinstance (by decide +kernel) (pa_cons (pv 0) (pa_cons (pe_bltn (v := .ty "tuple") (by rfl) T.n_tuple (by decide +kernel) rfl) pa_nil))))) (pss_one (ps_ret (pe_or (pcall D_is_name hr (pa_cons (pv 0) pa_nil) (by omega)) (pe_one (pe_and (pcall D_is_integer hr (pa_cons (pv 0) pa_nil) (by omega)) (pe_one (pe_cmpR op_le (pe_callB call_abs (by rfl) T.n_abs (by decide +kernel) (pa_cons (pv 0) pa_nil)) (pe_glob (v := .int 1000000000000) rfl hGM ⟨_, rfl⟩) (nomark _)))))))) pss_nil) (pss_cons (ps_if (PW.pt (pw_or (pt_cmpR op_ne (pe_callB call_len_seq (by rfl) T.n_len (by decide +kernel) (pa_cons (pv 0) pa_nil)) pe_int (nomark _)) (pw_or (pt_not (pt_val (pe_callB call_isi (by rfl) T.n_isinstance (by decide +kernel) (pa_cons (pe_ix ix_tup (pv 0) pe_int (fun _ _ => rfl)) (pa_cons (pe_bltn (v := .ty "str") (by rfl) T.n_str (by decide +kernel) rfl) pa_nil))))) (pw_or1 (pt_cmpR (r := rIn K true) op_notIn_seq (pe_ix ix_tup (pv 0) pe_int (fun _ _ => rfl)) (pe_glob (v := .ref _) rfl T.g_OPERATORS rfl) rfl))))) (pss_one (ps_ret pe_bl)) pss_nil) (pss_one (ps_ret (pe_and (pcall D_is_expression_within hr (pa_cons (pe_ix ix_tup (pv 0) pe_int (fun _ _ => rfl)) (pa_cons (pe_op op_sub (pv 1) pe_int) pa_nil)) (by omega)) (pe_one (pcall D_is_expression_within hr (pa_cons (pe_ix ix_tup (pv 0) pe_int (fun _ _ => rfl)) (pa_cons (pe_op op_sub (pv 1) pe_int) pa_nil)) (by omega))))))))), ?_⟩)
  · obtain ⟨m, v, d, _, rfl, _⟩ := h
    rfl
  · obtain ⟨m, v, d, mn, rfl, hv, q⟩ := h
    obtain ⟨Ty, ty, k1, k2, k3, k4, k5⟩ := hv.ty (K := K)
    refine ⟨_, rfl, rfl, _, rfl, ?_⟩
    cases m with
    | zero => exact ifT (vT rfl) (q H (Same.refl _))
    | succ m =>
      refine ifF (vF (by omega)) ?_
      refine ⟨_, rfl, _, _, _, _, _, rfl, .ty "tuple", ty, kit_ty k4, _, rfl, ?_⟩
      have leaf : dT d = false → withinB (m + 1) d = (nameD d || (dI d && withinB (m + 1) d)) := fun h => by
        cases d <;> first | rfl | (simp [withinB, dI]; done) | cases h
      cases ht : dT d with
      | false =>
        refine iteT ⟨_, rfl, v, d, rfl, hv, fun H1 s1 => ⟨_, rfl, ?_⟩⟩
        rw [leaf ht] at q
        cases hn : nameD d with
        | true =>
          rw [hn] at q
          exact iteT (q H1 s1)
        | false =>
          rw [hn, Bool.false_or] at q
          refine iteF ⟨_, rfl, v, d, rfl, hv.same s1, _, rfl, ?_⟩
          cases hi : dI d with
          | false =>
            rw [hi] at q
            exact iteF (q H1 s1)
          | true =>
            rw [hi, Bool.true_and] at q
            cases hv with
            | int i =>
              refine iteT ⟨_, rfl, i, rfl, _, _, rfl, rfl, ?_⟩
              have e : decide ((if i < 0 then -i else i) ≤ 1000000000000) = withinB (m + 1) (.int i) := by
                show _ = decide (-1000000000000 ≤ i ∧ i ≤ 1000000000000)
                refine decide_eq_decide.mpr ?_
                split <;> omega
              rw [← e] at q
              exact q H1 s1
            | _ => cases hi
      | true =>
        cases hv with
        | @tup t xs ds e h =>
          have q' : ∀ H', Same H H' → Q (.bl (match shape3 ds with
            | some (w, a, b) => decide (w ∈ ops) && (withinB m a && withinB m b)
            | none => false)) H' := q
          have xl := h.len
          refine iteF ⟨_, rfl, t, _, rfl, .inr (SqT.of e), rfl, _, rfl, ?_⟩
          by_cases h3 : ds.length = 3
          case neg =>
            have e3 : shape3 ds = none := by
              unfold shape3
              split
              · rename_i z
                exact absurd rfl h3
              · rfl
            rw [e3] at q'
            exact ifT (by rw [vF (by omega)]; rfl) (q' H (Same.refl _))
          case pos =>
            obtain ⟨d0, d1, d2, rfl⟩ : ∃ d0 d1 d2, ds = [d0, d1, d2] := by
              match ds, h3 with
              | [d0, d1, d2], _ => exact ⟨d0, d1, d2, rfl⟩
            cases h with
            | cons a0 h =>
              cases h with
              | cons a1 h =>
                cases h with
                | @cons v2 vs2 _ _ a2 h =>
                  cases h with
                  | nil =>
                    rename_i v0 v1
                    refine ifF (by rw [decide_eq_true (show V.int (([v0, v1, v2].length : Nat) : Int) = V.int 3 from rfl)]; rfl) ?_
                    obtain ⟨Ty0, ty0, _, _, s0, _, _⟩ := a0.ty (K := K)
                    refine ⟨_, rfl, t, _, _, _, rfl, rfl, .inl (.inl e), rfl, _, _, _, _, _, rfl, .ty "str", ty0, kit_ty s0, _, rfl, ?_⟩
                    cases a0 with
                    | str x hx =>
                      refine iteF ⟨_, rfl, t, _, _, _, rfl, rfl, .inl (.inl e), rfl, _, ops.map V.str, rfl, .inr (T.kO H), rfl, flat_strs ops, _, rfl, ?_⟩
                      have q2 : ∀ H', Same H H' → Q (.bl (decide (x ∈ ops) && (withinB m d1 && withinB m d2))) H' := q'
                      by_cases ho : x ∈ ops
                      · refine ifF (by show (!inV (.str x) _) = false; rw [inV_strs, decide_eq_true ho]; rfl) ?_
                        rw [decide_eq_true ho, Bool.true_and] at q2
                        refine ⟨_, rfl, t, _, _, _, rfl, rfl, .inl (.inl e), rfl, _, rfl, _, _, rfl, rfl, m, _, d1, by omega, (by show [_, V.int (((m + 1 : Nat) : Int) - 1)] = _; rw [show ((m + 1 : Nat) : Int) - 1 = (m : Nat) by omega]), a1, fun H1 s1 => ⟨_, rfl, ?_⟩⟩
                        cases w1 : withinB m d1 with
                        | false =>
                          rw [w1] at q2
                          exact iteF (q2 H1 s1)
                        | true =>
                          rw [w1, Bool.true_and] at q2
                          refine iteT ⟨_, rfl, t, _, _, _, rfl, rfl, .inl (.inl (s1 _ _ e)), rfl, _, rfl, _, _, rfl, rfl, m, _, d2, by omega, (by show [_, V.int (((m + 1 : Nat) : Int) - 1)] = _; rw [show ((m + 1 : Nat) : Int) - 1 = (m : Nat) by omega]), a2.same s1, fun H2 s2 => q2 H2 (s1.trans s2)⟩
                      · rw [decide_eq_false ho] at q2
                        exact ifT (by show (!inV (.str x) _) = true; rw [inV_strs, decide_eq_false ho]; rfl) (q2 H (Same.refl _))
                    | _ => exact iteT (q' H (Same.refl _))
        | _ => cases ht
def spE : Sp := fun vs H Q _ => ∃ (v : V) (d : PyData), vs = [v] ∧ Tr H v d ∧ ∀ H', Same H H' → Q (.bl (withinB 6 d)) H'
theorem sc_is_expression : FnScope ["value"] ["value"] (defScope (top 12)) := ⟨rfl, rfl, rfl, by decide +kernel, rfl, by decide +kernel, by decide +kernel⟩
theorem ok_expr (T : Tx w K mg) (D_is_expression_within : Df P w K mg base 9 "is_expression_within" ["value", "depth"] (spW 7)) (F : FnP K "is_expression" "is_expression" (top 12) f fd) : FnOk P w K mg base CX0 10 f fd ["value"] spE := by
  obtain ⟨tm, hGD⟩ := T.gD
  refine F.ok sc_is_expression (fun vs H Q E h => ?_) (fun cdv A outer s H vs Q E hr h => ⟨_, PSs.nox (pss_one (ps_ret (pcall D_is_expression_within hr (pa_cons (pv 0) (pa_cons (pe_glob (v := .int 6) rfl hGD ⟨_, rfl⟩) pa_nil))))), ?_⟩)
  · obtain ⟨v, d, rfl, _⟩ := h
    rfl
  · obtain ⟨v, d, rfl, hv, q⟩ := h
    exact ⟨_, rfl, 6, v, d, by decide, rfl, hv, q⟩
end
end K81

set_option Elab.async false
set_option linter.all false
set_option maxRecDepth 100000
set_option maxHeartbeats 4000000
set_option pp.maxSteps 900
namespace K81
open PySem PySem.Spec PyProof.Rows L2 Gu Ex RZ
theorem sv_ne {a b : Str} (h : ¬ a = b) : ¬ V.str a = V.str b := fun z => h (V.str.inj z)
/-- *path in front, read in a block -/
theorem psB {X : Cx} {e : Expr} {es : List Expr} {p : Pos} {te : TE} {t : TA} (K : PySem.W.Frag) (he : PE X e te) (hr : PA X es t) (hK : X.K = K := by rfl) (hs : starEach (.Starred e p :: es) X.env = (true, eval e X.env) :: starEach es X.env := by rfl) :
    PA X (.Starred e p :: es) (StX.tStar K te t) := by
  subst hK
  exact StX.pa_star he hr hs
theorem walk_zipT {K : PySem.W.Frag} {a b : Addr} {xs ys : List V} {n : Nat} (hn : n = min xs.length ys.length) : Walk (ItzT K a b) n (fun H => SqT K H a xs ∧ SqT K H b ys) (YPair (fun i => xs[i]?) (fun i => ys[i]?)) := by
  subst hn
  refine ⟨fun i _ hi q => ?_, fun _ q => ⟨xs, ys, q.1, q.2, by omega⟩, fun i H v H' _ q y => ?_⟩
  · have h1 : i < xs.length := by omega
    have h2 : i < ys.length := by omega
    exact ⟨xs, ys, xs[i], ys[i], q.1, q.2, List.getElem?_eq_getElem h1, List.getElem?_eq_getElem h2⟩
  · obtain ⟨T, x, y, h1, h2, h3, f1, f2⟩ := y
    exact ⟨T, x, y, h1, h2, h3, f1 xs q.1, f2 ys q.2⟩
theorem upd_none {H : Hp} {a b : Addr} {o : HO} (e : upd H a o b = none) : H b = none := by
  unfold upd at e
  split at e
  · cases e
  · exact e
theorem cut_tail (v : V) (vs : List V) : cutV (v :: vs) (some 1) none = vs := by
  have h0 : HT.sIx (v :: vs).length 0 (some 1) = 1 := by
    unfold HT.sIx
    simp
  have h1 : HT.sIx (v :: vs).length (v :: vs).length none = (v :: vs).length := rfl
  unfold cutV
  rw [h0, h1, List.drop_succ_cons, List.drop_zero, List.length_cons]
  exact List.take_of_length_le (by omega)
theorem not_whole (v : V) (vs : List V) : ¬ (HT.sIx (v :: vs).length 0 (some 1) = 0 ∧ HT.sIx (v :: vs).length (v :: vs).length none = (v :: vs).length) := fun z => by
  have h0 : HT.sIx (v :: vs).length 0 (some 1) = 1 := by
    unfold HT.sIx
    simp
  omega
def partB (k : Str) (d : PyData) : Bool := if k = "name" then nameD d else if k = "expression" then withinB 6 d else dL d
def partsB : List Str → List PyData → List Bool
  | k :: ks, d :: ds => partB k d :: partsB ks ds
  | _, _ => []
def insB : PyData → Bool
  | .tuple (.str x :: ds) => (match formOf x with
    | some ks => decide (ds.length = ks.length) && (partsB ks ds).all id
    | none => false)
  | _ => false
theorem parts_at : ∀ {ks : List Str} {ds : List PyData} {i : Nat} {k : Str} {d : PyData}, ks[i]? = some k → ds[i]? = some d → (partsB ks ds)[i]? = some (partB k d)
  | k' :: ks, d' :: ds, 0, k, d, h1, h2 => by
    cases h1
    cases h2
    rfl
  | k' :: ks, d' :: ds, i + 1, k, d, h1, h2 => parts_at (ks := ks) (ds := ds) (i := i) h1 h2
  | [], _, _, _, _, h1, _ => by simp at h1
  | _ :: _, [], _, _, _, _, h2 => by simp at h2
theorem parts_len : ∀ {ks : List Str} {ds : List PyData}, ds.length = ks.length → (partsB ks ds).length = ks.length
  | [], _, _ => by cases ‹List PyData› <;> rfl
  | _ :: ks, [], h => by simp at h
  | _ :: ks, _ :: ds, h => by
    show (partsB ks ds).length + 1 = ks.length + 1
    rw [parts_len (by simpa using h)]
theorem formIn_mem {x : Str} : ∀ {l : List (Str × List Str)} {ks : List Str}, formIn x l = some ks → (x, ks) ∈ l
  | [], _, h => by cases h
  | (y, k) :: r, ks, h => by
    have h' : (if y = x then some k else formIn x r) = some ks := h
    split at h'
    · rename_i e
      cases h'
      rw [e]
      exact List.mem_cons_self
    · exact List.mem_cons_of_mem _ (formIn_mem h')
theorem form_len {x : Str} {ks : List Str} (h : formOf x = some ks) : ks.length ≤ 3 := by
  have z : forms.all (fun p => decide (p.2.length ≤ 3)) = true := by decide +kernel
  exact of_decide_eq_true (List.all_eq_true.mp z _ (formIn_mem h))
section
variable {P : Program} {w : World} {K : PySem.W.Frag} {mg : Str → Option Value} {base : Heap} {f : Addr} {fd : FuncData}
def spPart : Sp := fun vs H Q _ => ∃ (k : Str) (v : V) (d : PyData), vs = [.str k, v] ∧ Tr H v d ∧ ∀ H', Same H H' → Q (.bl (partB k d)) H'
theorem sc_is_part : FnScope ["kind", "value"] ["kind", "value"] (defScope (top 13)) := ⟨rfl, rfl, rfl, by decide +kernel, rfl, by decide +kernel, by decide +kernel⟩
theorem ok_part (T : Tx w K mg) (D_is_name : Df P w K mg base 1 "is_name" ["value"] spName) (D_is_expression : Df P w K mg base 10 "is_expression" ["value"] spE) (F : FnP K "is_part" "is_part" (top 13) f fd) : FnOk P w K mg base CX0 11 f fd ["kind", "value"] spPart := by
  refine F.ok sc_is_part (fun vs H Q E h => ?_) (fun cdv A outer s H vs Q E hr h => ⟨_, PSs.nox (pss_cons (ps_if (pt_cmpR op_eq (pv 0) pe_str (nomark _)) (pss_one (ps_ret (pcall D_is_name hr (pa_cons (pv 1) pa_nil)))) pss_nil) (pss_one (ps_ret (pe_ifExp (pt_cmpR op_eq (pv 0) pe_str (nomark _)) (pcall D_is_expression hr (pa_cons (pv 1) pa_nil)) (pe_callB call_isi (by rfl) T.n_isinstance (by decide +kernel) (pa_cons (pv 1) (pa_cons (pe_bltn (v := .ty "list") (by rfl) T.n_list (by decide +kernel) rfl) pa_nil))))))), ?_⟩)
  · obtain ⟨k, v, d, rfl, _⟩ := h
    rfl
  · obtain ⟨k, v, d, rfl, hv, q⟩ := h
    unfold partB at q
    by_cases h1 : k = "name"
    · rw [if_pos h1] at q
      exact ⟨_, rfl, rfl, _, rfl, ifT (by rw [h1]; exact decide_eq_true rfl) ⟨_, rfl, v, d, rfl, hv, q⟩⟩
    rw [if_neg h1] at q
    refine ⟨_, rfl, rfl, _, rfl, ifF (decide_eq_false (sv_ne h1)) ⟨_, rfl, rfl, _, rfl, ?_⟩⟩
    by_cases h2 : k = "expression"
    · rw [if_pos h2] at q
      exact ifT (by rw [h2]; exact decide_eq_true rfl) ⟨_, rfl, v, d, rfl, hv, q⟩
    · rw [if_neg h2] at q
      obtain ⟨Ty, ty, _, _, _, _, k5⟩ := hv.ty (K := K)
      exact ifF (decide_eq_false (sv_ne h2)) ⟨_, rfl, _, _, _, _, _, rfl, .ty "list", ty, kit_ty k5, q H (Same.refl _)⟩
def spIns : Sp := fun vs H Q _ => ∃ (v : V) (d : PyData), vs = [v] ∧ Tr H v d ∧ ∀ H', Same H H' → Q (.bl (insB d)) H'
theorem sc_is_instruction : FnScope ["value", "kinds", "kind", "part"] ["value"] (defScope (top 14)) := ⟨rfl, rfl, rfl, by decide +kernel, rfl, by decide +kernel, by decide +kernel⟩
theorem ok_ins (T : Tx w K mg) (D_is_part : Df P w K mg base 11 "is_part" ["kind", "value"] spPart) (F : FnP K "is_instruction" "is_instruction" (top 14) f fd) : FnOk P w K mg base CX0 12 f fd ["value"] spIns := by
  obtain ⟨es, en, kF⟩ := T.kF
  refine F.ok sc_is_instruction (fun vs H Q E h => ?_) (fun cdv A outer s H vs Q E hr h => ⟨_, PSs.nox (pss_cons (ps_if (PW.pt (pw_or (pt_not (pt_val (pe_callB call_isi (by rfl) T.n_isinstance (by decide +kernel) (pa_cons (pv 0) (pa_cons (pe_bltn (v := .ty "tuple") (by rfl) T.n_tuple (by decide +kernel) rfl) pa_nil))))) (pw_or (pt_cmpR op_eq (pe_callB call_len_seq (by rfl) T.n_len (by decide +kernel) (pa_cons (pv 0) pa_nil)) pe_int (nomark _)) (pw_or (pt_not (pt_val (pe_callB call_isi (by rfl) T.n_isinstance (by decide +kernel) (pa_cons (pe_ix ix_tup (pv 0) pe_int (fun _ _ => rfl)) (pa_cons (pe_bltn (v := .ty "str") (by rfl) T.n_str (by decide +kernel) rfl) pa_nil))))) (pw_or1 (pt_cmpR (op_notIn_kd kF) (pe_ix ix_tup (pv 0) pe_int (fun _ _ => rfl)) (pe_glob (v := .ref _) rfl T.g_FORMS rfl) (by rfl))))))) (pss_one (ps_ret pe_bl)) pss_nil) (pss_cons (ps_set (i := 1) sc_is_instruction.nd rfl (by first | exact Or.inl rfl | exact Or.inr rfl) (pe_ix ix_kdict (pe_glob (v := .ref _) rfl T.g_FORMS rfl) (pe_ix ix_tup (pv 0) pe_int (fun _ _ => rfl)) (fun _ _ => rfl))) (pss_one (ps_ret (pe_and (pe_cmpR op_eq (pe_callB call_len_seq (by rfl) T.n_len (by decide +kernel) (pa_cons (pv 0) pa_nil)) (pe_op op_add pe_int (pe_callB call_len_seq (by rfl) T.n_len (by decide +kernel) (pa_cons (pv 1) pa_nil))) (nomark _)) (pe_one (pe_callB (cr_all rfl) (by rfl) T.n_all (by decide +kernel) (pa_cons (pe_lc (own := [("kind", 2), ("part", 3)]) (g := gTup K 2 (gCons (gName 2) (gCons (gName 3) gNil))) rfl sc_is_instruction.nd (pi_zipA rfl T.n_zip (pa_cons (pv 1) (pa_cons (pe_slice sl_tup (pv 0) (po_some pe_int) po_none) pa_nil))) (blkOk_by (own := [("kind", 2), ("part", 3)]) (N := ["value", "kinds", "kind", "part"]) (sc := defScope (top 14)) (by decide +kernel)) (fun _ _ _ _ _ => pg_tup rfl (pgs_cons (pg_name (i := 2) sc_is_instruction.nd rfl (Or.inl rfl)) (pgs_cons (pg_name (i := 3) sc_is_instruction.nd rfl (Or.inl rfl)) pgs_nil))) (fun _ _ _ _ _ => pts_nil) (fun _ _ _ _ _ => (pcall D_is_part hr (pa_cons (pv 2) (pa_cons (pv 3) pa_nil))))) pa_nil)))))))), ?_⟩)
  · obtain ⟨v, d, rfl, _⟩ := h
    rfl
  · obtain ⟨v, d, rfl, hv, q⟩ := h
    obtain ⟨Ty, ty, _, _, _, k4, _⟩ := hv.ty (K := K)
    refine ⟨_, rfl, _, _, _, _, _, rfl, .ty "tuple", ty, kit_ty k4, _, rfl, ?_⟩
    cases hv with
    | @tup t xs ds e h =>
      refine iteF ⟨_, rfl, t, _, rfl, .inr (SqT.of e), rfl, _, rfl, ?_⟩
      cases h with
      | nil => exact ifT (vT rfl) (q H (Same.refl _))
      | @cons v0 vs d0 ds a0 h =>
        refine ifF (vF (by show ((vs.length + 1 : Nat) : Int) ≠ 0; omega)) ?_
        obtain ⟨Ty0, ty0, _, _, s0, _, _⟩ := a0.ty (K := K)
        refine ⟨_, rfl, t, _, _, _, rfl, rfl, .inl (.inl e), (show atI _ ((0 : Nat) : Int) = _ from atI_nat rfl), _, _, _, _, _, rfl, .ty "str", ty0, kit_ty s0, _, rfl, ?_⟩
        cases a0 with
        | str x hx =>
          have kG := T.kG x
          refine iteF ⟨_, rfl, t, _, _, _, rfl, rfl, .inl (.inl e), (show atI _ ((0 : Nat) : Int) = _ from atI_nat rfl), x, ?_⟩
          have q' : ∀ H', Same H H' → Q (.bl (match formOf x with
            | some ks => decide (ds.length = ks.length) && (partsB ks ds).all id
            | none => false)) H' := q
          cases hf : formOf x with
          | none =>
            rw [hf] at kG q'
            exact ⟨_, rfl, rfl, kG, _, rfl, ifT rfl (q' H (Same.refl _))⟩
          | some ks =>
            rw [hf] at kG q'
            obtain ⟨fo, kg, kfo⟩ := kG
            have q2 : ∀ H', Same H H' → Q (.bl (decide (ds.length = ks.length) && (partsB ks ds).all id)) H' := q'
            have k3 := form_len hf
            refine ⟨_, rfl, rfl, kg, _, rfl, ifF rfl ?_⟩
            refine ⟨_, rfl, t, _, _, _, rfl, rfl, .inl (.inl e), (show atI _ ((0 : Nat) : Int) = _ from atI_nat rfl), _, _, .ref fo, rfl, rfl, ⟨es, en, .ref fo, kF.at_, kF.lit, kg, rfl⟩, ?_⟩
            have vl := h.len
            refine ⟨_, rfl, t, _, rfl, .inr (SqT.of e), _, rfl, fo, _, rfl, .inr (kfo H), _, _, rfl, rfl, rfl, _, rfl, ?_⟩
            by_cases hl : ds.length = ks.length
            case neg =>
              rw [decide_eq_false hl, Bool.false_and] at q2
              have e1 : decide (V.int (((V.str x :: vs).length : Nat) : Int) = V.int (1 + ((ks.map V.str).length : Nat))) = false := vF (by rw [List.length_cons, List.length_map]; omega)
              exact ifF e1 (q2 H (Same.refl _))
            case pos =>
              rw [decide_eq_true hl, Bool.true_and] at q2
              refine ifT (vT (by rw [List.length_cons, List.length_map]; omega)) ?_
              refine ⟨_, rfl, _, rfl, _, rfl, t, _, rfl, SqT.of e, not_whole (V.str x) vs, fun p hp => ?_⟩
              rw [cut_tail]
              have s1 : Same H (upd H p (.tup vs)) := same_upd hp
              refine ⟨fo, p, _, vs, rfl, .inr ⟨kfo _, SqT.of upd_same, fun D hD => ?_⟩⟩
              have nDp : D ≠ p := (ne_of_none (show (upd H p (.tup vs)) p = some (.tup vs) from upd_same) hD).symm
              refine lc_it (walk_zipT (xs := ks.map V.str) (ys := vs) (n := ks.length) (by rw [List.length_map]; omega)) (fun i G => Same H G ∧ G p = some (.tup vs) ∧ G D = some (.lst (((partsB ks ds).take i).map V.bl))) ?_ ?_ ?_ ?_
              · exact ⟨s1.trans (same_upd hD), by rw [upd_ne nDp.symm]; exact upd_same, upd_same⟩
              · rintro i G _ ⟨_, hp2, _⟩
                exact ⟨kfo G, SqT.of hp2⟩
              · rintro i x1 G1 G2 hi ⟨sm, hp2, hD2⟩ ⟨T', y1, y2, rfl, hT, rfl, e1, e2⟩
                have e1' : (ks.map V.str)[i]? = some y1 := e1
                have e2' : vs[i]? = some y2 := e2
                rw [List.getElem?_map] at e1'
                obtain ⟨k, hk, rfl⟩ := Option.map_eq_some_iff.mp e1'
                have hi2 : i < ds.length := by omega
                have hd := List.getElem?_eq_getElem hi2
                obtain ⟨y, hy, ty⟩ := h.get hd
                rw [hy] at e2'
                cases e2'
                have s2 := same_upd (o := .tup [.str k, y2]) hT
                refine ⟨T', _, rfl, .inl (.inl upd_same), rfl, _, _, rfl, _, _, rfl, rfl, rfl, _, rfl, _, rfl, k, y2, _, rfl, ty.same (sm.trans s2), fun G s3 => ?_⟩
                have hD3 := s3 _ _ (s2 _ _ hD2)
                have hp3 := s3 _ _ (s2 _ _ hp2)
                refine ⟨_, hD3, ?_, fun b o e => ?_, by rw [upd_ne nDp.symm]; exact hp3, ?_⟩
                · have := List.length_take_le i (partsB ks ds)
                  exact small1000 (by rw [List.length_map]; omega)
                · have nb : b ≠ D := ne_of_none e (upd_none hD)
                  rw [upd_ne nb]
                  exact s3 b o (s2 b o (sm b o e))
                · rw [upd_same, List.take_add_one, parts_at hk hd, List.map_append]
                  rfl
              · rintro G ⟨sm, hp2, hD2⟩
                rw [List.take_of_length_le (by rw [parts_len hl]; exact Nat.le_refl _)] at hD2
                exact ⟨D, _, rfl, SqL.of hD2, q2 G sm⟩
        | _ => exact iteT (q H (Same.refl _))
    | _ => exact iteT (q H (Same.refl _))
end
end K81

set_option Elab.async false
set_option linter.all false
set_option maxRecDepth 100000
set_option maxHeartbeats 4000000
set_option pp.maxSteps 900
namespace K81
open PySem PySem.Spec PyProof.Rows L2 Gu Ex RZ
/-- a pair of a path and an instruction -/
def PlAt (G : Hp) (w : V) (it : List Int × V) : Prop := ∃ pr pa : Addr, w = .ref pr ∧ G pr = some (.tup [.ref pa, it.2]) ∧ G pa = some (.tup (it.1.map V.int))
theorem PlAt.same {G G' : Hp} {w : V} {it : List Int × V} (h : PlAt G w it) (s : Same G G') : PlAt G' w it := by
  obtain ⟨pr, pa, e, h1, h2⟩ := h
  exact ⟨pr, pa, e, s _ _ h1, s _ _ h2⟩
/-- the parts of a body, each with its path -/
def kids {α : Type} (ns : List Int) : Nat → List α → List (List Int × α)
  | _, [] => []
  | i, x :: r => (ns ++ [(i : Int)], x) :: kids ns (i + 1) r
theorem kids_len {α : Type} (ns : List Int) : ∀ (i : Nat) (xs : List α), (kids ns i xs).length = xs.length
  | _, [] => rfl
  | i, x :: r => by
    show (kids ns (i + 1) r).length + 1 = r.length + 1
    rw [kids_len ns (i + 1) r]
theorem kids_get {α : Type} (ns : List Int) : ∀ (i0 : Nat) (xs : List α) (i : Nat) (x : α), xs[i]? = some x → (kids ns i0 xs)[i]? = some (ns ++ [((i0 + i : Nat) : Int)], x)
  | _, [], _, _, h => by simp at h
  | i0, y :: r, 0, x, h => by
    cases h
    rfl
  | i0, y :: r, i + 1, x, h => by
    have z := kids_get ns (i0 + 1) r i x h
    show (kids ns (i0 + 1) r)[i]? = _
    rw [z, show i0 + 1 + i = i0 + (i + 1) by omega]
section
variable {P : Program} {w : World} {K : PySem.W.Frag} {mg : Str → Option Value} {base : Heap} {f : Addr} {fd : FuncData}
def spPlaced : Sp := fun vs H Q _ => ∃ (l p : Addr) (xs : List V) (ns : List Int), vs = [.ref l, .ref p] ∧ H l = some (.lst xs) ∧ xs.length ≤ 1000 ∧ ns.length ≤ 1000 ∧ H p = some (.tup (ns.map V.int)) ∧
  ∀ R ws H', Same H H' → H R = none → H' R = some (.lst ws) → Paired (PlAt H') ws (kids ns 0 xs) → Q (.ref R) H'
theorem sc_placed : FnScope ["body", "path", "index", "instruction"] ["body", "path"] (defScope (top 15)) := ⟨rfl, rfl, rfl, by decide +kernel, rfl, by decide +kernel, by decide +kernel⟩
theorem ok_placed (T : Tx w K mg) (F : FnP K "placed" "placed" (top 15) f fd) : FnOk P w K mg base CX0 1 f fd ["body", "path"] spPlaced := by
  refine F.ok sc_placed (fun vs H Q E h => ?_) (fun cdv A outer s H vs Q E hr h => ⟨_, PSs.nox (pss_one (ps_ret (pe_lc (own := [("index", 2), ("instruction", 3)]) (g := gTup K 2 (gCons (gName 2) (gCons (gName 3) gNil))) rfl sc_placed.nd (pi_enum rfl T.n_enumerate (pa_cons (pv 0) pa_nil)) (blkOk_by (own := [("index", 2), ("instruction", 3)]) (N := ["body", "path", "index", "instruction"]) (sc := defScope (top 15)) (by decide +kernel)) (fun _ _ _ _ _ => pg_tup rfl (pgs_cons (pg_name (i := 2) sc_placed.nd rfl (Or.inl rfl)) (pgs_cons (pg_name (i := 3) sc_placed.nd rfl (Or.inl rfl)) pgs_nil))) (fun _ _ _ _ _ => pts_nil) (fun _ _ _ _ _ => (pe_tup (pa_cons (pe_tup (psB K (pv 1) (pa_cons (pv 2) pa_nil))) (pa_cons (pv 3) pa_nil))))))), ?_⟩)
  · obtain ⟨l, p, xs, ns, rfl, _⟩ := h
    rfl
  · obtain ⟨l, p, xs, ns, rfl, hl, lx, ln, hp, q⟩ := h
    refine ⟨_, rfl, l, _, rfl, SqL.of hl, fun D hD => ?_⟩
    refine lc_it (walk_enum (xs := xs)) (fun i G => Same H G ∧ ∃ ws, G D = some (.lst ws) ∧ ws.length = i ∧ Paired (fun w it => PlAt G w it ∧ w ≠ .ref D) ws ((kids ns 0 xs).take i) ∧ ∀ w it, PlAt G w it → True) ⟨same_upd hD, [], upd_same, rfl, .nil, fun _ _ _ => trivial⟩ (fun i G _ h => SqL.of (h.1 _ _ hl)) ?_ ?_
    · rintro i x G1 G2 hi ⟨sm, ws, hD2, wl, pr, _⟩ ⟨T', y1, y2, rfl, hT, rfl, e1, e2⟩
      have e1' : some (V.int ((i : Nat) : Int)) = some y1 := e1
      have e2' : xs[i]? = some y2 := e2
      cases e1'
      have s2 := same_upd (o := .tup [.int ((i : Nat) : Int), y2]) hT
      refine ⟨T', _, rfl, .inl (.inl upd_same), rfl, _, _, rfl, _, _, rfl, rfl, rfl, ?_⟩
      refine ⟨_, rfl, p, _, rfl, .inl (SqT.of (s2 _ _ (sm _ _ hp))), _, rfl, (by rw [List.length_append, List.length_map]; show ns.length + 1 ≤ sizeLine; have : sizeLine = 16777216 := sizeLine_eq; omega), fun pa hpa => ?_⟩
      have s3 := same_upd (o := .tup (ns.map V.int ++ [.int ((i : Nat) : Int)])) hpa
      refine ⟨_, rfl, (by show 2 ≤ sizeLine; decide), fun pr2 hpr => ?_⟩
      have s4 := same_upd (o := .tup [.ref pa, y2]) hpr
      have s234 := s2.trans (s3.trans s4)
      have hD3 := s234 _ _ hD2
      have nDpr : D ≠ pr2 := ne_of_none (s3 _ _ (s2 _ _ hD2)) hpr
      have nDpa : D ≠ pa := ne_of_none (s2 _ _ hD2) hpa
      refine ⟨_, hD3, small1000 (by omega), fun b o e => ?_, ws ++ [.ref pr2], upd_same, by rw [List.length_append, wl]; rfl, ?_, fun _ _ _ => trivial⟩
      · have nb : b ≠ D := ne_of_none e hD
        rw [upd_ne nb]
        exact s234 _ _ (sm _ _ e)
      · rw [List.take_add_one, kids_get ns 0 xs i y2 e2']
        refine Paired.snoc (Paired.mono (fun w it h => ?_) pr) ⟨⟨pr2, pa, rfl, ?_, ?_⟩, fun z => nDpr (V.ref.inj z).symm⟩
        · obtain ⟨⟨a1, a2, rfl, h1, h2⟩, nw⟩ := h
          have n1 : a1 ≠ D := fun z => nw (by rw [z])
          have n2 : a2 ≠ D := fun z => by
            rw [z, hD2] at h2
            cases h2
          exact ⟨⟨a1, a2, rfl, by rw [upd_ne n1]; exact s234 _ _ h1, by rw [upd_ne n2]; exact s234 _ _ h2⟩, nw⟩
        · rw [upd_ne nDpr.symm]
          exact upd_same
        · rw [upd_ne nDpa.symm, List.map_append, Nat.zero_add]
          exact s4 _ _ upd_same
    · rintro G ⟨sm, ws, hD2, wl, pr, _⟩
      rw [List.take_of_length_le (by rw [kids_len]; exact Nat.le_refl _)] at pr
      exact q D ws G sm hD hD2 (Paired.mono (fun w it h => h.1) pr)
end
end K81

set_option Elab.async false
set_option linter.all false
set_option maxRecDepth 100000
set_option maxHeartbeats 4000000
set_option pp.maxSteps 900
namespace K81
open PySem PySem.Spec PyProof.Rows L2 Gu Ex RZ
theorem Same.put {H H2 : Hp} {W : Addr} {o : HO} (s : Same H H2) (hW : H W = none) : Same H (upd H2 W o) := fun b x e => by
  rw [upd_ne (ne_of_none e hW)]
  exact s b x e
theorem Same.free {H H2 : Hp} {W : Addr} (s : Same H H2) (hW : H2 W = none) : H W = none := by
  cases e : H W with
  | none => rfl
  | some o => rw [s _ _ e] at hW; cases hW
mutual
def short : PyData → Bool
  | .list ds => decide (ds.length ≤ 1000) && shortAll ds
  | .tuple ds => decide (ds.length ≤ 1000) && shortAll ds
  | _ => true
def shortAll : List PyData → Bool
  | [] => true
  | d :: ds => short d && shortAll ds
end
theorem short_mem : ∀ {ds : List PyData}, shortAll ds = true → ∀ d ∈ ds, short d = true
  | d' :: ds, h, d, hd => by
    obtain ⟨h1, h2⟩ := He.ba (show (short d' && shortAll ds) = true from h)
    rcases List.mem_cons.mp hd with rfl | z
    · exact h1
    · exact short_mem h2 d z
def kidsIn (ns : List Int) : Nat → List PyData → List (List Int × PyData)
  | _, [] => []
  | i, d :: r => (match d with
    | .list es => kids (ns ++ [(i : Int)]) 0 es
    | _ => []) ++ kidsIn ns (i + 1) r
def partsOf : PyData → List PyData
  | .tuple ds => ds
  | _ => []
def dep (p : List Int) : Int := ((p.length : Int) + 1) / 2
/-- the walk with a list of what waits, f more instructions allowed -/
def stk : Nat → List (List Int × PyData) → Option (List Int)
  | _, [] => none
  | 0, (p, _) :: _ => some p
  | f + 1, (p, d) :: r => if dep p > 6 ∨ insB d = false then some p else stk f (kidsIn p 0 (partsOf d) ++ r)
def firstD (d : PyData) : Option (List Int) := match d with
  | .list ds => stk 200 (kids [] 0 ds)
  | _ => some []
/-- what waits: pairs of paths and instructions -/
def Stk (H G : Hp) (ws : List V) (st : List (List Int × PyData)) : Prop := Paired (fun w s => ∃ v, PlAt G w (s.1, v) ∧ Tr H v s.2) ws st
theorem Stk.same {H G G' : Hp} {ws : List V} {st : List (List Int × PyData)} (h : Stk H G ws st) (s : Same G G') : Stk H G' ws st := Paired.mono (fun _ _ ⟨v, h1, h2⟩ => ⟨v, h1.same s, h2⟩) h
theorem Stk.put {H G : Hp} {ws : List V} {st : List (List Int × PyData)} {R : Addr} {xs xs' : List V} (h : Stk H G ws st) (e : G R = some (.lst xs)) : Stk H (upd G R (.lst xs')) ws st :=
  Paired.mono (fun w s ⟨v, ⟨a, b, e1, h1, h2⟩, h3⟩ => ⟨v, ⟨a, b, e1, by rw [upd_ne (fun z => by rw [z, e] at h1; cases h1)]; exact h1, by rw [upd_ne (fun z => by rw [z, e] at h2; cases h2)]; exact h2⟩, h3⟩) h
theorem paired_app {α β : Type} {F : α → β → Prop} : ∀ {a a' : List α} {b b' : List β}, Paired F a b → Paired F a' b' → Paired F (a ++ a') (b ++ b')
  | _, _, _, _, .nil, h => h
  | _, _, _, _, .cons x y, h => .cons x (paired_app y h)
theorem paired_rev {α β : Type} {F : α → β → Prop} : ∀ {a : List α} {b : List β}, Paired F a b → Paired F a.reverse b.reverse
  | _, _, .nil => .nil
  | _, _, .cons x y => by
    rw [List.reverse_cons, List.reverse_cons]
    exact Paired.snoc (paired_rev y) x
theorem kids_stk {H G : Hp} {ns : List Int} : ∀ {i : Nat} {xs : List V} {ds : List PyData} {ws : List V}, TrAll H xs ds → Paired (PlAt G) ws (kids ns i xs) → Stk H G ws (kids ns i ds)
  | _, _, _, _, .nil, h => by
    cases h
    exact .nil
  | i, _, _, _, .cons t ts, h => by
    cases h with
    | cons a b => exact .cons ⟨_, a, t⟩ (kids_stk ts b)
theorem kidsIn_snoc (ns : List Int) (d : PyData) : ∀ (i : Nat) (ds : List PyData), kidsIn ns i (ds ++ [d]) = kidsIn ns i ds ++ (match d with
    | .list es => kids (ns ++ [((i + ds.length : Nat) : Int)]) 0 es
    | _ => [])
  | i, [] => by
    show (match d with
      | .list es => kids (ns ++ [(i : Int)]) 0 es
      | _ => []) ++ [] = _
    rw [List.append_nil, List.length_nil, Nat.add_zero]
    rfl
  | i, x :: r => by
    show _ ++ kidsIn ns (i + 1) (r ++ [d]) = (_ ++ kidsIn ns (i + 1) r) ++ _
    rw [kidsIn_snoc ns d (i + 1) r, List.append_assoc, List.length_cons, show i + 1 + r.length = i + (r.length + 1) by omega]
section
variable {P : Program} {w : World} {K : PySem.W.Frag} {mg : Str → Option Value} {base : Heap} {f : Addr} {fd : FuncData}
def spPlacedIn : Sp := fun vs H Q _ => ∃ (t p : Addr) (xs : List V) (ds : List PyData) (ns : List Int) (M : Hp), vs = [.ref t, .ref p] ∧ Same M H ∧ H t = some (.tup xs) ∧ TrAll M xs ds ∧ shortAll ds = true ∧ ds.length ≤ 4 ∧ ns.length ≤ 900 ∧ H p = some (.tup (ns.map V.int)) ∧
  ∀ R ws H', Same H H' → H R = none → H' R = some (.lst ws) → ws.length ≤ 4000 → Stk M H' ws (kidsIn ns 0 ds) → Q (.ref R) H'
theorem sc_placed_in : FnScope ["instruction", "path", "found", "position", "part"] ["instruction", "path"] (defScope (top 16)) := ⟨rfl, rfl, rfl, by decide +kernel, rfl, by decide +kernel, by decide +kernel⟩
theorem ok_placed_in (T : Tx w K mg) (D_placed : Df P w K mg base 1 "placed" ["body", "path"] spPlaced) (F : FnP K "placed_in" "placed_in" (top 16) f fd) : FnOk P w K mg base CX0 2 f fd ["instruction", "path"] spPlacedIn := by
  refine F.ok sc_placed_in (fun vs H Q E h => ?_) (fun cdv A outer s H vs Q E hr h => ⟨_, PSs.nox (pss_cons (ps_set (i := 2) sc_placed_in.nd rfl (by first | exact Or.inl rfl | exact Or.inr rfl) (pe_lst pa_nil)) (pss_cons (ps_for PassesOwn.never rfl (pi_enumT rfl T.n_enumerate (pa_cons (pv 0) pa_nil)) (pg_tup (by rfl) (pgs_cons (pg_name (i := 3) sc_placed_in.nd rfl (by first | exact Or.inl rfl | exact Or.inr rfl)) (pgs_cons (pg_name (i := 4) sc_placed_in.nd rfl (by first | exact Or.inl rfl | exact Or.inr rfl)) pgs_nil))) (pss_one (ps_if (pt_val (pe_callB call_isi (by rfl) T.n_isinstance (by decide +kernel) (pa_cons (pv 4) (pa_cons (pe_bltn (v := .ty "list") (by rfl) T.n_list (by decide +kernel) rfl) pa_nil)))) (pss_one (ps_aug (i := 2) sc_placed_in.nd rfl (by first | exact Or.inl rfl | exact Or.inr rfl) (pcall D_placed hr (pa_cons (pv 4) (pa_cons (pe_tup (StX.pa_star (pv 1) (pa_cons (pv 3) pa_nil))) pa_nil))) iop_ext)) pss_nil))) (pss_one (ps_ret (pv 2))))), ?_⟩)
  · obtain ⟨t, p, xs, ds, ns, M, rfl, _⟩ := h
    rfl
  · obtain ⟨t, p, xs, ds, ns, M, rfl, sM, e, hA, sh, dl, nl, hp, q⟩ := h
    have sl : sizeLine = 16777216 := sizeLine_eq
    have xl := hA.len
    refine ⟨(by show 0 ≤ sizeLine; decide), fun R hR => ?_⟩
    have s1 := same_upd (o := .lst []) hR
    refine ⟨_, rfl, t, _, rfl, SqT.of (s1 _ _ e), ?_⟩
    refine for_it (walk_enumT (xs := xs)) (fun i σ G => Same H G ∧ (∃ x y, σ = [some (.ref t), some (.ref p), some (.ref R), x, y]) ∧ ∃ ws, G R = some (.lst ws) ∧ ws.length ≤ 1000 * i ∧ Stk M G ws (kidsIn ns 0 (ds.take i))) ⟨s1, ⟨none, none, rfl⟩, [], upd_same, Nat.zero_le _, .nil⟩ (fun i σ G _ h => SqT.of (h.1 _ _ e)) ?_ ?_
    · rintro i x σ G1 G2 hi ⟨sm, ⟨a, b, rfl⟩, ws, hw, wl, st⟩ ⟨T', y1, y2, rfl, hT, rfl, e1, e2⟩
      have e1' : some (V.int ((i : Nat) : Int)) = some y1 := e1
      have e2' : xs[i]? = some y2 := e2
      cases e1'
      have hid : i < ds.length := by omega
      have hd := List.getElem?_eq_getElem hid
      obtain ⟨y, hy, ty⟩ := hA.get hd
      rw [hy] at e2'
      cases e2'
      have s2 := same_upd (o := .tup [.int ((i : Nat) : Int), y2]) hT
      have sm2 := sm.trans s2
      have et : ds.take (i + 1) = ds.take i ++ [ds[i]] := by rw [List.take_add_one, hd]; rfl
      have tl : (ds.take i).length = i := by rw [List.length_take]; omega
      refine ⟨T', _, rfl, .inl (.inl upd_same), rfl, _, _, rfl, _, _, rfl, rfl, ?_⟩
      obtain ⟨Ty2, ty2, _, _, _, _, k6⟩ := (ty.same (sM.trans sm2)).ty (K := K)
      refine ⟨_, rfl, _, _, _, _, _, rfl, .ty "list", ty2, kit_ty k6, _, rfl, ?_⟩
      have shd := short_mem sh ds[i] (List.getElem_mem hid)
      generalize hdd : ds[i] = d at *
      have none_ : dL d = false → kidsIn ns 0 (ds.take (i + 1)) = kidsIn ns 0 (ds.take i) := fun z => by
        rw [et, kidsIn_snoc]
        cases d <;> first | (cases z; done) | exact List.append_nil _
      have hw2 := s2 _ _ hw
      cases ty with
      | @lst l es eds el hel =>
        have shl := He.ba (show (decide (eds.length ≤ 1000) && shortAll eds) = true from shd)
        have le := of_decide_eq_true shl.1
        have esl := hel.len
        refine iteT ⟨_, rfl, _, rfl, _, rfl, p, _, rfl, .inl (SqT.of (sm2 _ _ hp)), _, rfl, (by rw [List.length_append, List.length_map]; show ns.length + 1 ≤ sizeLine; omega), fun pa hpa => ?_⟩
        have s3 := same_upd (o := .tup (ns.map V.int ++ [.int ((i : Nat) : Int)])) hpa
        have sm3 := sm2.trans s3
        have hw3 := s3 _ _ hw2
        refine ⟨l, pa, es, ns ++ [((i : Nat) : Int)], rfl, sm3 _ _ (sM _ _ el), by omega, by rw [List.length_append]; show ns.length + 1 ≤ 1000; omega, by rw [List.map_append]; exact upd_same, fun R2 ws2 G3 s4 hR2 hw4 pr => ?_⟩
        have w2l : ws2.length = es.length := by rw [Paired.length pr, kids_len]
        refine ⟨R, R2, ws, ws2, rfl, rfl, s4 _ _ hw3, hw4, by omega, ?_⟩
        have sm4 := sm3.trans s4
        refine ⟨Same.put sm4 hR, ⟨_, _, rfl⟩, ws ++ ws2, upd_same, by rw [List.length_append]; omega, ?_⟩
        rw [et, kidsIn_snoc, tl, Nat.zero_add]
        refine Stk.put (paired_app (st.same (s2.trans (s3.trans s4))) (kids_stk hel pr)) (s4 _ _ hw3)
      | _ => exact iteF ⟨sm2, ⟨_, _, rfl⟩, ws, hw2, by omega, by rw [none_ rfl]; exact st.same s2⟩
    · rintro σ G ⟨sm, ⟨a, b, rfl⟩, ws, hw, wl, st⟩
      rw [List.take_of_length_le (by omega)] at st
      exact ⟨_, rfl, q R ws G sm hR hw (by omega) st⟩
def spDep : Sp := fun vs H Q _ => ∃ (pa : Addr) (ns : List Int), vs = [.ref pa] ∧ H pa = some (.tup (ns.map V.int)) ∧ Q (.int (dep ns)) H
theorem sc_depth_at : FnScope ["path"] ["path"] (defScope (top 17)) := ⟨rfl, rfl, rfl, by decide +kernel, rfl, by decide +kernel, by decide +kernel⟩
theorem ok_dep (T : Tx w K mg) (F : FnP K "depth_at" "depth_at" (top 17) f fd) : FnOk P w K mg base CX0 1 f fd ["path"] spDep := by
  refine F.ok sc_depth_at (fun vs H Q E h => ?_) (fun cdv A outer s H vs Q E hr h => ⟨_, PSs.nox (pss_one (ps_ret (pe_op op_fdivW (pe_op op_add (pe_callB call_len_seq (by rfl) T.n_len (by decide +kernel) (pa_cons (pv 0) pa_nil)) pe_int) pe_int))), ?_⟩)
  · obtain ⟨pa, ns, rfl, _⟩ := h
    rfl
  · obtain ⟨pa, ns, rfl, hpa, q⟩ := h
    refine ⟨_, rfl, pa, _, rfl, .inr (SqT.of hpa), _, _, rfl, rfl, _, _, rfl, rfl, wide_div (b := 64) (by decide) (by decide) (by decide) (by decide), ?_⟩
    have e : dep ns = (((ns.map V.int).length : Int) + 1) / 2 := by unfold dep; rw [List.length_map]
    rw [e] at q
    exact q
end
end K81

set_option Elab.async false
set_option linter.all false
set_option maxRecDepth 100000
set_option maxHeartbeats 4000000
set_option pp.maxSteps 900
namespace K81
open PySem PySem.Spec PyProof.Rows L2 Gu Ex RZ
theorem ins_parts {H : Hp} {v : V} {d : PyData} (hv : Tr H v d) (h : insB d = true) : ∃ (t : Addr) (xs : List V) (ds : List PyData), v = .ref t ∧ d = .tuple ds ∧ H t = some (.tup xs) ∧ TrAll H xs ds ∧ ds.length ≤ 4 := by
  cases hv with
  | @tup t xs ds e hA =>
    refine ⟨t, xs, ds, rfl, rfl, e, hA, ?_⟩
    cases ds with
    | nil => exact Nat.zero_le _
    | cons a r =>
      cases a with
      | str x =>
        have h' : (match formOf x with
          | some ks => decide (r.length = ks.length) && (partsB ks r).all id
          | none => false) = true := h
        cases e : formOf x with
        | none => rw [e] at h'; cases h'
        | some ks =>
          rw [e] at h'
          obtain ⟨h1, _⟩ := He.ba (show (decide (r.length = ks.length) && (partsB ks r).all id) = true from h')
          have l1 := of_decide_eq_true h1
          have l2 := form_len e
          rw [List.length_cons]
          omega
      | _ => cases h
  | _ => cases h
/-- every waiting instruction is short -/
def ShS (st : List (List Int × PyData)) : Prop := ∀ s ∈ st, short s.2 = true
theorem kids_short {ns : List Int} : ∀ {i : Nat} {ds : List PyData}, shortAll ds = true → ShS (kids ns i ds)
  | _, [], _, s, hs => by cases hs
  | i, d :: ds, h, s, hs => by
    obtain ⟨h1, h2⟩ := He.ba (show (short d && shortAll ds) = true from h)
    rcases List.mem_cons.mp hs with rfl | z
    · exact h1
    · exact kids_short h2 s z
theorem kidsIn_short {ns : List Int} : ∀ {i : Nat} {ds : List PyData}, shortAll ds = true → ShS (kidsIn ns i ds)
  | _, [], _, s, hs => by cases hs
  | i, d :: ds, h, s, hs => by
    obtain ⟨h1, h2⟩ := He.ba (show (short d && shortAll ds) = true from h)
    rcases List.mem_append.mp hs with z | z
    · cases d with
      | list es => exact kids_short (He.ba (show (decide (es.length ≤ 1000) && shortAll es) = true from h1)).2 s z
      | _ => cases z
    · exact kidsIn_short h2 s z
def FirstR (H : Hp) (x : V) : Option (List Int) → Prop
  | none => x = .non
  | some p => ∃ pa : Addr, x = .ref pa ∧ H pa = some (.tup (p.map V.int))
section
variable {P : Program} {w : World} {K : PySem.W.Frag} {mg : Str → Option Value} {base : Heap} {f : Addr} {fd : FuncData}
def spFirst : Sp := fun vs H Q _ => ∃ (v : V) (d : PyData), vs = [v] ∧ Tr H v d ∧ short d = true ∧ ∀ x H', Same H H' → FirstR H' x (firstD d) → Q x H'
theorem sc_first_problem : FnScope ["value", "count", "waiting", "path", "instruction"] ["value"] (defScope (top 18)) := ⟨rfl, rfl, rfl, by decide +kernel, rfl, by decide +kernel, by decide +kernel⟩
theorem ok_first (T : Tx w K mg) (D_placed : Df P w K mg base 1 "placed" ["body", "path"] spPlaced) (D_placed_in : Df P w K mg base 2 "placed_in" ["instruction", "path"] spPlacedIn) (D_depth_at : Df P w K mg base 1 "depth_at" ["path"] spDep) (D_is_instruction : Df P w K mg base 12 "is_instruction" ["value"] spIns)
    (F : FnP K "first_problem" "first_problem" (top 18) f fd) : FnOk P w K mg base CX0 13 f fd ["value"] spFirst := by
  obtain ⟨ti, hGI⟩ := T.gI
  obtain ⟨td, hGD⟩ := T.gD
  have sl : sizeLine = 16777216 := sizeLine_eq
  refine F.ok sc_first_problem (fun vs H Q E h => ?_) (fun cdv A outer s H vs Q E hr h => ⟨_, PSs.nox (pss_cons (ps_if (pt_not (pt_val (pe_callB call_isi (by rfl) T.n_isinstance (by decide +kernel) (pa_cons (pv 0) (pa_cons (pe_bltn (v := .ty "list") (by rfl) T.n_list (by decide +kernel) rfl) pa_nil))))) (pss_one (ps_ret (pe_tup pa_nil))) pss_nil) (pss_cons (ps_set (i := 1) sc_first_problem.nd rfl (by first | exact Or.inl rfl | exact Or.inr rfl) pe_int) (pss_cons (ps_set (i := 2) sc_first_problem.nd rfl (by first | exact Or.inl rfl | exact Or.inr rfl) (pe_revL (pcall D_placed hr (pa_cons (pv 0) (pa_cons (pe_tup pa_nil) pa_nil)) (by omega)))) (pss_cons (ps_while PassesOwn.never (pt_truth (pv 2) (by intros; rfl)) (pss_cons (ps_asg (pe_bm0 PySem.F.plainAttrs_list PySem.F.slot_list_pop PySem.F.type_list_pop mt_pop (pv 2)) (pg_tup (by rfl) (pgs_cons (pg_name (i := 3) sc_first_problem.nd rfl (by first | exact Or.inl rfl | exact Or.inr rfl)) (pgs_cons (pg_name (i := 4) sc_first_problem.nd rfl (by first | exact Or.inl rfl | exact Or.inr rfl)) pgs_nil)))) (pss_cons (ps_aug (i := 1) sc_first_problem.nd rfl (by first | exact Or.inl rfl | exact Or.inr rfl) pe_int ip_add) (pss_cons (ps_if (PW.pt (pw_or (pt_cmpR op_gt (pv 1) (pe_glob (v := .int 200) rfl hGI ⟨_, rfl⟩) (nomark _)) (pw_or (pt_cmpR op_gt (pcall D_depth_at hr (pa_cons (pv 3) pa_nil)) (pe_glob (v := .int 6) rfl hGD ⟨_, rfl⟩) (nomark _)) (pw_or1 (pt_not (pt_val (pcall D_is_instruction hr (pa_cons (pv 4) pa_nil)))))))) (pss_one (ps_ret (pv 3))) pss_nil) (pss_one (ps_aug (i := 2) sc_first_problem.nd rfl (by first | exact Or.inl rfl | exact Or.inr rfl) (pe_revL (pcall D_placed_in hr (pa_cons (pv 4) (pa_cons (pv 3) pa_nil)) (by omega))) iop_ext)))))) (pss_one (ps_ret pe_non)))))), ?_⟩)
  · obtain ⟨v, d, rfl, _⟩ := h
    rfl
  · obtain ⟨v, d, rfl, hv, sh, q⟩ := h
    obtain ⟨Ty, ty, _, _, _, _, k5⟩ := hv.ty (K := K)
    refine ⟨_, rfl, _, _, _, _, _, rfl, .ty "list", ty, kit_ty k5, _, rfl, ?_⟩
    cases hv with
    | @lst l xs ds hl hA =>
      obtain ⟨sh1, sh2⟩ := He.ba (show (decide (ds.length ≤ 1000) && shortAll ds) = true from sh)
      have dl := of_decide_eq_true sh1
      have xl := hA.len
      refine iteF ?_
      refine ⟨_, rfl, (by show 0 ≤ sizeLine; decide), fun p hp => ?_⟩
      have s1 := same_upd (o := .tup []) hp
      refine ⟨l, p, xs, [], rfl, s1 _ _ hl, by omega, Nat.zero_le _, upd_same, fun R ws0 H2 s2 hR0 hR pr => ?_⟩
      refine ⟨R, ws0, rfl, SqL.of hR, fun W hW => ?_⟩
      have s3 := same_upd (o := .lst ws0.reverse) hW
      have S3 := s1.trans (s2.trans s3)
      have HW : H W = none := Same.free (s1.trans s2) hW
      have w0l : ws0.length = ds.length := by rw [Paired.length pr, kids_len]; omega
      have stk0 : Stk H (upd H2 W (.lst ws0.reverse)) ws0 (kids [] 0 ds) := (kids_stk hA pr).same s3
      refine ⟨fun m σ G => m ≤ 200 ∧ ∃ (a b : Option V) (ws : List V) (st : List (List Int × PyData)), σ = [some (.ref l), some (.int (200 - (m : Int))), some (.ref W), a, b] ∧ Same H G ∧ G W = some (.lst ws) ∧ ws.length ≤ 1000 + 4000 * (200 - m) ∧ Stk H G ws.reverse st ∧ ShS st ∧ stk m st = firstD (.list ds),
        ⟨200, Nat.le_refl _, none, none, ws0.reverse, kids [] 0 ds, rfl, S3, upd_same, by rw [List.length_reverse]; omega, by rw [List.reverse_reverse]; exact stk0, kids_short sh2, rfl⟩, ?_⟩
      rintro m σ G ⟨hm, a, b, ws, st, rfl, sm, hw, wl, hst, shs, es⟩
      cases st with
      | nil =>
        have e0 : ws = [] := by
          have z := Paired.length hst
          rw [List.length_reverse] at z
          exact List.eq_nil_of_length_eq_zero z
        subst e0
        refine ⟨_, rfl, false, .inl ⟨_, SqL.of hw, rfl⟩, iteF ?_⟩
        refine q _ _ sm ?_
        rw [← es]
        cases m <;> rfl
      | cons s st =>
        obtain ⟨pth, d⟩ := s
        obtain ⟨ws', wt, rfl⟩ : ∃ ws' wt, ws = ws' ++ [wt] := by
          have z := Paired.length hst
          rw [List.length_reverse, List.length_cons] at z
          exact ⟨ws.dropLast, ws.getLast (by intro h; rw [h] at z; cases z), (List.dropLast_concat_getLast _).symm⟩
        rw [List.reverse_append] at hst
        cases hst with
        | cons h1 h2 =>
        obtain ⟨v, ⟨pr, pa, rfl, hpr, hpa⟩, tv⟩ := h1
        have shd := shs _ List.mem_cons_self
        refine ⟨_, rfl, true, .inl ⟨_, SqL.of hw, by simp⟩, iteT ?_⟩
        refine ⟨fun σ' G' => ∃ m', m' < m ∧ (m' ≤ 200 ∧ ∃ (a b : Option V) (ws : List V) (st : List (List Int × PyData)), σ' = [some (.ref l), some (.int (200 - (m' : Int))), some (.ref W), a, b] ∧ Same H G' ∧ G' W = some (.lst ws) ∧ ws.length ≤ 1000 + 4000 * (200 - m') ∧ Stk H G' ws.reverse st ∧ ShS st ∧ stk m' st = firstD (.list ds)), fun σ' G' x => x, ?_⟩
        refine ⟨_, rfl, .inl ⟨rfl, _, SqL.of hw⟩, W, _, .ref pr, rfl, rfl, hw, (by rw [List.length_append, List.length_singleton, Nat.add_sub_cancel, List.getElem?_append_right (Nat.le_refl _), Nat.sub_self]; rfl), ?_⟩
        rw [List.dropLast_concat]
        have smW : Same H (upd G W (.lst ws')) := Same.put sm HW
        have hpr1 : (upd G W (.lst ws')) pr = some (.tup [.ref pa, v]) := by rw [upd_ne (fun z => by rw [z, hw] at hpr; cases hpr)]; exact hpr
        have hpa1 : (upd G W (.lst ws')) pa = some (.tup (pth.map V.int)) := by rw [upd_ne (fun z => by rw [z, hw] at hpa; cases hpa)]; exact hpa
        have hst1 : Stk H (upd G W (.lst ws')) ws'.reverse st := Stk.put h2 hw
        have hW1 : (upd G W (.lst ws')) W = some (.lst ws') := upd_same
        generalize (upd G W (.lst ws')) = G1 at *
        refine ⟨pr, _, rfl, .inl (.inl hpr1), rfl, _, _, rfl, _, _, rfl, rfl, ?_⟩
        refine ⟨_, rfl, _, _, rfl, rfl, ?_⟩
        refine ⟨_, rfl, _, _, rfl, rfl, _, rfl, ?_⟩
        cases m with
        | zero =>
          refine ifT (decide_eq_true (by show (200 : Int) < 200 - ((0 : Nat) : Int) + 1; omega)) ⟨_, rfl, q _ _ smW ?_⟩
          rw [← es]
          exact ⟨pa, rfl, hpa1⟩
        | succ m =>
          refine ifF (decide_eq_false (by show ¬ ((200 : Int) < 200 - ((m + 1 : Nat) : Int) + 1); omega)) ?_
          refine ⟨_, rfl, pa, pth, rfl, hpa1, _, _, rfl, rfl, _, rfl, ?_⟩
          by_cases hd6 : dep pth > 6
          · refine ifT (decide_eq_true hd6) ⟨_, rfl, q _ _ smW ?_⟩
            rw [← es]
            show FirstR G1 _ (if dep pth > 6 ∨ insB d = false then some pth else stk m (kidsIn pth 0 (partsOf d) ++ st))
            rw [if_pos (.inl hd6)]
            exact ⟨pa, rfl, hpa1⟩
          refine ifF (decide_eq_false hd6) ?_
          refine ⟨_, rfl, v, d, rfl, tv.same smW, fun G2 s5 => ⟨_, rfl, ?_⟩⟩
          have SG2 := smW.trans s5
          by_cases hi : insB d = true
          case neg =>
            have hif := eq_false_of_ne_true hi
            refine ifT (by rw [hif]; rfl) ⟨_, rfl, q _ _ SG2 ?_⟩
            rw [← es]
            show FirstR G2 _ (if dep pth > 6 ∨ insB d = false then some pth else stk m (kidsIn pth 0 (partsOf d) ++ st))
            rw [if_pos (.inr hif)]
            exact ⟨pa, rfl, s5 _ _ hpa1⟩
          case pos =>
            obtain ⟨t, xs, es2, rfl, rfl, ht, hA2, l4⟩ := ins_parts tv hi
            obtain ⟨_, shp⟩ := He.ba (show (decide (es2.length ≤ 1000) && shortAll es2) = true from shd)
            have pl : pth.length ≤ 900 := by
              unfold dep at hd6
              omega
            refine ifF (by rw [hi]; rfl) ⟨_, rfl, _, rfl, _, rfl, t, pa, xs, es2, pth, H, rfl, SG2, SG2 _ _ ht, hA2, shp, l4, pl, s5 _ _ hpa1, fun R2 ws2 G3 s6 nR2 hR2 w2l st2 => ⟨R2, ws2, rfl, SqL.of hR2, fun W2 hW2 => ?_⟩⟩
            have s7 := same_upd (o := .lst ws2.reverse) hW2
            have s567 := s5.trans (s6.trans s7)
            have SG4 := smW.trans s567
            have hW4 := s567 _ _ hW1
            rw [List.length_append, List.length_singleton] at wl
            refine ⟨W, W2, ws', ws2.reverse, rfl, rfl, hW4, upd_same, by rw [List.length_reverse]; omega, ?_⟩
            refine ⟨m, Nat.lt_succ_self m, by omega, some (V.ref pa), some (V.ref t), ws' ++ ws2.reverse, kidsIn pth 0 es2 ++ st, ?_, Same.put SG4 HW, upd_same, by rw [List.length_append, List.length_reverse]; omega, ?_, ?_, ?_⟩
            · show [some (V.ref l), some (V.int ((200 - ((m + 1 : Nat) : Int)) + 1)), some (V.ref W), some (V.ref pa), some (V.ref t)] = _
              rw [show (200 - ((m + 1 : Nat) : Int)) + 1 = 200 - (m : Int) by omega]
            · rw [List.reverse_append, List.reverse_reverse]
              exact Stk.put (paired_app (st2.same s7) (hst1.same s567)) hW4
            · intro s hs
              rcases List.mem_append.mp hs with z | z
              · exact kidsIn_short shp s z
              · exact shs s (List.mem_cons_of_mem _ z)
            · rw [← es]
              show _ = (if dep pth > 6 ∨ insB (.tuple es2) = false then some pth else stk m (kidsIn pth 0 es2 ++ st))
              rw [if_neg (fun z => z.elim hd6 (fun y => by rw [hi] at y; cases y))]
    | _ => exact iteT ⟨(by show 0 ≤ sizeLine; decide), fun p hp => q _ _ (same_upd hp) ⟨p, rfl, upd_same⟩⟩
def spProg : Sp := fun vs H Q _ => ∃ (v : V) (d : PyData), vs = [v] ∧ Tr H v d ∧ short d = true ∧ ∀ H', Same H H' → Q (.bl (firstD d).isNone) H'
theorem sc_is_program : FnScope ["value"] ["value"] (defScope (top 19)) := ⟨rfl, rfl, rfl, by decide +kernel, rfl, by decide +kernel, by decide +kernel⟩
theorem ok_prog (T : Tx w K mg) (D_first_problem : Df P w K mg base 13 "first_problem" ["value"] spFirst) (F : FnP K "is_program" "is_program" (top 19) f fd) : FnOk P w K mg base CX0 14 f fd ["value"] spProg := by
  refine F.ok sc_is_program (fun vs H Q E h => ?_) (fun cdv A outer s H vs Q E hr h => ⟨_, PSs.nox (pss_one (ps_ret (pe_cmpR op_isN (pcall D_first_problem hr (pa_cons (pv 0) pa_nil)) pe_non (nomark _)))), ?_⟩)
  · obtain ⟨v, d, rfl, _⟩ := h
    rfl
  · obtain ⟨v, d, rfl, hv, sh, q⟩ := h
    refine ⟨_, rfl, v, d, rfl, hv, sh, fun x H1 s1 e => ⟨rfl, ?_⟩⟩
    cases hf : firstD d with
    | none =>
      rw [hf] at e q
      cases e
      exact q H1 s1
    | some p =>
      rw [hf] at e q
      obtain ⟨pa, rfl, _⟩ := e
      exact q H1 s1
end
end K81

set_option Elab.async false
set_option linter.all false
set_option maxRecDepth 100000
set_option maxHeartbeats 4000000
namespace K81
open PySem PySem.Spec PyProof.Rows L2 Gu Ex
abbrev Wr : Type := Option (List Int) × Nat
/-- the law's walk over an instruction's parts; f: over a body -/
def partsW (f : List Int → List PyData → Nat → Wr) (path : List Int) : Nat → List PyData → Nat → Wr
  | _, [], s => (none, s)
  | i, d :: ds, s => match d with
    | .list es => (match f (path ++ [(i : Int)]) es s with
      | (some p, s') => (some p, s')
      | (none, s') => partsW f path (i + 1) ds s')
    | _ => partsW f path (i + 1) ds s
/-- the law's walk over a body; deep: its depth is more than 6 -/
def bodyW (f : List Int → List PyData → Nat → Wr) (deep : Bool) (path : List Int) : Nat → List PyData → Nat → Wr
  | _, [], s => (none, s)
  | k, one :: r, s => if deep = true ∨ s + 1 > 200 ∨ insB one = false then (some (path ++ [(k : Int)]), s + 1)
    else match partsW f (path ++ [(k : Int)]) 0 (partsOf one) (s + 1) with
      | (some p, s') => (some p, s')
      | (none, s') => bodyW f deep path (k + 1) r s'
/-- n + 1 levels are left: the depth is 7 - n -/
def lw : Nat → List Int → List PyData → Nat → Wr
  | 0, _, _, s => (none, s)
  | n + 1, path, body, s => bodyW (lw n) (decide (n = 0)) path 0 body s
/-- the walk with what waits does the same -/
def EqR (l : Option (List Int)) (rest : List (List Int × PyData)) : Wr → Prop
  | (some p, _) => l = some p
  | (none, s') => s' ≤ 200 ∧ l = stk (200 - s') rest
theorem parts_ok {f : List Int → List PyData → Nat → Wr} {path : List Int} (hf : ∀ (i : Nat) (es : List PyData) (s : Nat) (rest : List (List Int × PyData)), s ≤ 200 → EqR (stk (200 - s) (kids (path ++ [(i : Int)]) 0 es ++ rest)) rest (f (path ++ [(i : Int)]) es s)) :
    ∀ (ds : List PyData) (i s : Nat) (rest : List (List Int × PyData)), s ≤ 200 → EqR (stk (200 - s) (kidsIn path i ds ++ rest)) rest (partsW f path i ds s)
  | [], i, s, rest, h => ⟨h, rfl⟩
  | d :: ds, i, s, rest, h => by
    have ih := parts_ok hf ds (i + 1)
    cases d with
    | list es =>
      have z := hf i es s (kidsIn path (i + 1) ds ++ rest) h
      have e1 : kidsIn path i (.list es :: ds) ++ rest = kids (path ++ [(i : Int)]) 0 es ++ (kidsIn path (i + 1) ds ++ rest) := by
        show (kids (path ++ [(i : Int)]) 0 es ++ kidsIn path (i + 1) ds) ++ rest = _
        rw [List.append_assoc]
      have e2 : partsW f path i (.list es :: ds) s = (match f (path ++ [(i : Int)]) es s with
        | (some p, s') => (some p, s')
        | (none, s') => partsW f path (i + 1) ds s') := rfl
      rw [e1, e2]
      rcases hq : f (path ++ [(i : Int)]) es s with ⟨o, s'⟩
      rw [hq] at z
      cases o with
      | some p => exact z
      | none =>
        obtain ⟨z1, z2⟩ := z
        rw [z2]
        exact ih s' rest z1
    | _ => exact ih s rest h
theorem body_ok {n : Nat} (hn : n ≤ 6) (hf : n ≠ 0 → ∀ (path : List Int) (es : List PyData) (s : Nat) (rest : List (List Int × PyData)), path.length = 2 * (7 - n) → s ≤ 200 → EqR (stk (200 - s) (kids path 0 es ++ rest)) rest (lw n path es s)) :
    ∀ (body : List PyData) (path : List Int) (k s : Nat) (rest : List (List Int × PyData)), path.length = 2 * (6 - n) → s ≤ 200 → EqR (stk (200 - s) (kids path k body ++ rest)) rest (bodyW (lw n) (decide (n = 0)) path k body s)
  | [], path, k, s, rest, hl, h => ⟨h, rfl⟩
  | one :: r, path, k, s, rest, hl, h => by
    have dp : dep (path ++ [(k : Int)]) = 7 - (n : Int) := by
      unfold dep
      rw [List.length_append, hl, List.length_singleton]
      omega
    have e2 : bodyW (lw n) (decide (n = 0)) path k (one :: r) s = (if decide (n = 0) = true ∨ s + 1 > 200 ∨ insB one = false then (some (path ++ [(k : Int)]), s + 1)
      else match partsW (lw n) (path ++ [(k : Int)]) 0 (partsOf one) (s + 1) with
        | (some p, s') => (some p, s')
        | (none, s') => bodyW (lw n) (decide (n = 0)) path (k + 1) r s') := rfl
    rw [e2]
    by_cases hs : s = 200
    · rw [if_pos (.inr (.inl (by omega)))]
      subst hs
      rfl
    obtain ⟨m, hm⟩ : ∃ m, 200 - s = m + 1 := ⟨200 - s - 1, by omega⟩
    have e1 : stk (200 - s) (kids path k (one :: r) ++ rest) = (if dep (path ++ [(k : Int)]) > 6 ∨ insB one = false then some (path ++ [(k : Int)]) else stk m (kidsIn (path ++ [(k : Int)]) 0 (partsOf one) ++ (kids path (k + 1) r ++ rest))) := by
      rw [hm]
      rfl
    rw [e1]
    by_cases hb : decide (n = 0) = true ∨ insB one = false
    · rw [if_pos (hb.imp (fun z => by have := of_decide_eq_true z; omega) id), if_pos (hb.imp id fun z => .inr z)]
      rfl
    · have n0 : n ≠ 0 := fun z => hb (.inl (decide_eq_true z))
      rw [if_neg (fun z => z.elim (fun y => by omega) fun y => hb (.inr y)), if_neg (fun z => z.elim (fun y => hb (.inl y)) fun y => y.elim (fun y => by omega) fun y => hb (.inr y))]
      have z := parts_ok (f := lw n) (path := path ++ [(k : Int)]) (fun i es s2 rest2 h2 => hf n0 _ es s2 rest2 (by rw [List.length_append, List.length_append, hl, List.length_singleton, List.length_singleton]; omega) h2) (partsOf one) 0 (s + 1) (kids path (k + 1) r ++ rest) (by omega)
      rw [show 200 - (s + 1) = m by omega] at z
      rcases hq : partsW (lw n) (path ++ [(k : Int)]) 0 (partsOf one) (s + 1) with ⟨o, s'⟩
      rw [hq] at z
      cases o with
      | some p => exact z
      | none =>
        obtain ⟨z1, z2⟩ := z
        rw [z2]
        exact body_ok hn hf r path (k + 1) s' rest hl z1
theorem lw_ok : ∀ (n : Nat), n ≤ 7 → n ≠ 0 → ∀ (path : List Int) (es : List PyData) (s : Nat) (rest : List (List Int × PyData)), path.length = 2 * (7 - n) → s ≤ 200 → EqR (stk (200 - s) (kids path 0 es ++ rest)) rest (lw n path es s)
  | 0, _, z, _, _, _, _, _, _ => absurd rfl z
  | n + 1, hn, _, path, es, s, rest, hl, h => by
    have ih := lw_ok n (by omega)
    exact body_ok (n := n) (by omega) (fun n0 path es s rest hl h => ih n0 path es s rest hl h) es path 0 s rest (by omega) h
/-- what the law finds due is what first_problem tells -/
theorem due_eq (es : List PyData) : firstD (.list es) = (lw 7 [] es 0).1 := by
  have z := lw_ok 7 (by decide) (by decide) [] es 0 [] rfl (by decide)
  rw [List.append_nil] at z
  show stk 200 (kids [] 0 es) = _
  rcases hq : lw 7 [] es 0 with ⟨o, s'⟩
  rw [hq] at z
  cases o with
  | some p => exact z
  | none =>
    obtain ⟨_, z2⟩ := z
    show stk (200 - 0) (kids [] 0 es) = none
    rw [z2]
    cases 200 - s' <;> rfl
end K81

set_option Elab.async false
set_option linter.all false
set_option maxRecDepth 100000
set_option maxHeartbeats 4000000
set_option pp.maxSteps 900
namespace K81
open PySem PySem.Spec PyProof.Rows L2 Gu Ex RZ
/-- the depth that the law reckons -/
def DpOk (d : PyData) (r : Int) : Prop := 1 ≤ r ∧ ∀ k : Nat, k ≤ 98 → (r ≤ (k : Int) ↔ withinB k d = true)
theorem dp_bad {d : PyData} (h : ∀ k, withinB k d = false) : DpOk d 99 := by
  refine ⟨by decide, fun k hk => ?_⟩
  rw [h k]
  constructor
  · intro z
    omega
  · intro z
    cases z
theorem dp_one {d : PyData} (h : ∀ k, withinB (k + 1) d = true) : DpOk d 1 := by
  refine ⟨by decide, fun k hk => ?_⟩
  cases k with
  | zero => exact ⟨fun z => by omega, fun z => by cases z⟩
  | succ k => exact ⟨fun _ => h k, fun _ => by omega⟩
theorem dp_tup {w : Str} {a b : PyData} {r1 r2 : Int} (hw : w ∈ ops) (h1 : DpOk a r1) (h2 : DpOk b r2) : DpOk (.tuple [.str w, a, b]) (1 + (if r2 > r1 then r2 else r1)) := by
  obtain ⟨a1, a3⟩ := h1
  obtain ⟨b1, b3⟩ := h2
  refine ⟨by split <;> omega, fun k hk => ?_⟩
  cases k with
  | zero => exact ⟨fun z => by exfalso; revert z; split <;> omega, fun z => by cases z⟩
  | succ k =>
    have e : withinB (k + 1) (.tuple [.str w, a, b]) = (decide (w ∈ ops) && (withinB k a && withinB k b)) := rfl
    rw [e, decide_eq_true hw, Bool.true_and, Bool.and_eq_true, ← a3 k (by omega), ← b3 k (by omega)]
    constructor
    · intro z
      revert z
      split <;> omega
    · rintro ⟨z1, z2⟩
      split <;> omega
theorem wi_bad {d : PyData} (h1 : nameD d = false) (h2 : dI d = false) (h3 : dT d = false) : ∀ k, withinB k d = false
  | 0 => rfl
  | k + 1 => by cases d <;> first | rfl | exact h1 | (cases h3; done) | (cases h2; done)
theorem wi_name {d : PyData} (h : nameD d = true) : ∀ k, withinB (k + 1) d = true := fun k => by cases d <;> first | exact h | cases h
theorem wi_none {ds : List PyData} (h : shape3 ds = none) : ∀ k, withinB k (.tuple ds) = false
  | 0 => rfl
  | k + 1 => by
    show (match shape3 ds with
      | some (w, a, b) => decide (w ∈ ops) && (withinB k a && withinB k b)
      | none => false) = false
    rw [h]
theorem wi_op {x : Str} {a b : PyData} (h : x ∉ ops) : ∀ k, withinB k (.tuple [.str x, a, b]) = false
  | 0 => rfl
  | k + 1 => by
    show (decide (x ∈ ops) && (withinB k a && withinB k b)) = false
    rw [decide_eq_false h]
    rfl
section
variable {P : Program} {w : World} {K : PySem.W.Frag} {mg : Str → Option Value} {base : Heap} {f : Addr} {fd : FuncData}
theorem sc__law_is_name : FnScope ["_law_value", "_law_sign"] ["_law_value"] (defScope (top 27)) := ⟨rfl, rfl, rfl, by decide +kernel, rfl, by decide +kernel, by decide +kernel⟩
theorem ok_lname (T : Tx w K mg) (F : FnP K "_law_is_name" "_law_is_name" (top 27) f fd) : FnOk P w K mg base CX0 1 f fd ["_law_value"] spName := by
  refine F.ok sc__law_is_name (fun vs H Q E h => ?_) (fun cdv A outer s H vs Q E hr h => ⟨_, PSs.nox (pss_cons (ps_if (PW.pt (pw_or (pt_not (pt_val (pe_callB call_isi (by rfl) T.n_isinstance (by decide +kernel) (pa_cons (pv 0) (pa_cons (pe_bltn (v := .ty "str") (by rfl) T.n_str (by decide +kernel) rfl) pa_nil))))) (pw_or1 (pt_not (pt_chain op_le op_le pe_int (pe_callB call_len_str (by rfl) T.n_len (by decide +kernel) (pa_cons (pv 0) pa_nil)) pe_int))))) (pss_one (ps_ret pe_bl)) pss_nil) (pss_one (ps_ret (pe_callB (cr_all rfl) (by rfl) T.n_all (by decide +kernel) (pa_cons (pe_lc (own := [("_law_sign", 1)]) (g := gName 1) rfl sc__law_is_name.nd (pi_str (pv 0)) (blkOk_by (own := [("_law_sign", 1)]) (N := ["_law_value", "_law_sign"]) (sc := defScope (top 27)) (by decide +kernel)) (fun _ _ _ _ _ => pg_name (i := 1) sc__law_is_name.nd rfl (Or.inl rfl)) (fun _ _ _ _ _ => pts_nil) (fun _ _ _ _ _ => (pe_cmpR op_in_sign (pv 1) pe_str (by rfl)))) pa_nil))))), ?_⟩)
  · obtain ⟨v, d, rfl, _⟩ := h
    rfl
  · obtain ⟨v, d, rfl, hv, q⟩ := h
    obtain ⟨Ty, ty, _, _, k3, _⟩ := hv.ty (K := K)
    have sr : Same H H := fun _ _ e => e
    refine ⟨_, rfl, _, _, _, _, _, rfl, .ty "str", ty, kit_ty k3, _, rfl, ?_⟩
    cases hv with
    | str x hl =>
      have hz : x.length ≤ sizeLine := Nat.le_trans hl.1 (by decide)
      have hl1 := hl.1
      refine iteF ⟨_, rfl, x, rfl, hz, _, _, rfl, rfl, _, rfl, ?_⟩
      by_cases h1 : (1 : Int) ≤ (x.length : Int)
      · refine ifT (decide_eq_true h1) ⟨_, _, rfl, rfl, _, rfl, ?_⟩
        by_cases h2 : (x.length : Int) ≤ 8
        · refine ifF (by rw [decide_eq_true h2]; rfl) ?_
          refine ⟨_, rfl, x, rfl, fun D hD => ?_⟩
          refine lc_text (fun i H' => H' D = some (.lst (((x.cps.toList.take i).map fun c => decide (c ∈ letters.cps.toList)).map V.bl)) ∧ Same H H') ⟨upd_same, same_upd hD⟩ ?_ ?_
          · rintro i c H' hc ⟨hD', sm⟩
            have hi : i < x.cps.toList.length := (List.getElem?_eq_some_iff.mp hc).1
            refine ⟨rfl, _, rfl, c, letters, rfl, rfl, _, hD', small1000 ?_, ?_, fun b o e => ?_⟩
            · rw [List.length_map, List.length_map, List.length_take]
              have : x.cps.toList.length = x.length := Array.length_toList ..
              omega
            · rw [upd_same, List.take_add_one, hc, List.map_append, List.map_append]
              rfl
            · rw [upd_ne (ne_of_none e hD)]
              exact sm b o e
          · rintro H' ⟨hD', sm⟩
            rw [List.take_length] at hD'
            refine ⟨D, _, rfl, SqL.of hD', ?_⟩
            have e : (List.map (fun c => decide (c ∈ letters.cps.toList)) x.cps.toList).all id = nameD (.str x) := by
              show _ = (decide (1 ≤ x.length ∧ x.length ≤ 8) && x.cps.toList.all fun c => decide (c ∈ letters.cps.toList))
              rw [decide_eq_true ⟨by omega, by omega⟩, Bool.true_and, List.all_map]
              rfl
            rw [e]
            exact q H' sm
        · have e : nameD (.str x) = false := by
            show (decide (1 ≤ x.length ∧ x.length ≤ 8) && _) = false
            rw [decide_eq_false fun z => h2 (by omega), Bool.false_and]
          rw [e] at q
          exact ifT (by rw [decide_eq_false h2]; rfl) (q H sr)
      · have e : nameD (.str x) = false := by
          show (decide (1 ≤ x.length ∧ x.length ≤ 8) && _) = false
          rw [decide_eq_false fun z => h1 (by omega), Bool.false_and]
        rw [e] at q
        exact ifF (decide_eq_false h1) ⟨_, rfl, iteT (q H sr)⟩
    | _ => exact iteT (iteT (q H sr))
def spDp (n : Nat) : Sp := fun vs H Q _ => ∃ (v : V) (d : PyData), d.depth < n ∧ vs = [v] ∧ Tr H v d ∧ ∀ r H', DpOk d r → Same H H' → Q (.int r) H'
theorem sc__law_depth : FnScope ["_law_value"] ["_law_value"] (defScope (top 28)) := ⟨rfl, rfl, rfl, by decide +kernel, rfl, by decide +kernel, by decide +kernel⟩
theorem ok_dp0 (F : FnP K "_law_depth" "_law_depth" (top 28) f fd) : FnOk P w K mg base CX0 2 f fd ["_law_value"] (spDp 0) :=
  F.ok sc__law_depth (fun vs H Q E h => by obtain ⟨_, d, h, _⟩ := h; exact absurd h (Nat.not_lt_zero _)) (fun cdv A outer s H vs Q E hr h => by obtain ⟨_, d, h, _⟩ := h; exact absurd h (Nat.not_lt_zero _))
theorem ok_dp {n : Nat} (T : Tx w K mg) (D__law_is_name : Df P w K mg base 1 "_law_is_name" ["_law_value"] spName) (D__law_depth : Df P w K mg base (n + 2) "_law_depth" ["_law_value"] (spDp n))
    (F : FnP K "_law_depth" "_law_depth" (top 28) f fd) : FnOk P w K mg base CX0 (n + 3) f fd ["_law_value"] (spDp (n + 1)) := by
  refine F.ok sc__law_depth (fun vs H Q E h => ?_) (fun cdv A outer s H vs Q E hr h => ⟨_, PSs.nox (pss_cons (ps_if (PW.pt (pw_and (pt_val (pe_callB call_isi (by rfl) T.n_isinstance (by decide +kernel) (pa_cons (pv 0) (pa_cons (pe_bltn (v := .ty "int") (by rfl) T.n_int (by decide +kernel) rfl) pa_nil)))) (pw_and1 (pt_not (pt_val (pe_callB call_isi (by rfl) T.n_isinstance (by decide +kernel) (pa_cons (pv 0) (pa_cons (pe_bltn (v := .ty "bool") (by rfl) T.n_bool (by decide +kernel) rfl) pa_nil)))))))) (pss_one (ps_ret (pe_ifExp (pt_cmpR op_le (pe_callB call_abs (by rfl) T.n_abs (by decide +kernel) (pa_cons (pv 0) pa_nil)) (pe_op op_pow pe_int pe_int) (nomark _)) pe_int pe_int))) pss_nil) (pss_cons (ps_if (pt_val (pcall D__law_is_name hr (pa_cons (pv 0) pa_nil) (by omega))) (pss_one (ps_ret pe_int)) pss_nil) (pss_cons (ps_if (PW.pt (pw_or (pt_not (pt_val (pe_callB call_isi (by rfl) T.n_isinstance (by decide +kernel) (pa_cons (pv 0) (pa_cons (pe_bltn (v := .ty "tuple") (by rfl) T.n_tuple (by decide +kernel) rfl) pa_nil))))) (pw_or (pt_cmpR op_ne (pe_callB call_len_seq (by rfl) T.n_len (by decide +kernel) (pa_cons (pv 0) pa_nil)) pe_int (nomark _)) (pw_or1 (pt_not (pt_val (pe_callB call_isi (by rfl) T.n_isinstance (by decide +kernel) (pa_cons (pe_ix ix_tup (pv 0) pe_int (fun _ _ => rfl)) (pa_cons (pe_bltn (v := .ty "str") (by rfl) T.n_str (by decide +kernel) rfl) pa_nil))))))))) (pss_one (ps_ret pe_int)) pss_nil) (pss_cons (ps_if (pt_cmpR (r := rIn K true) op_notIn_seq (pe_ix ix_tup (pv 0) pe_int (fun _ _ => rfl)) (pe_tup (pa_cons pe_str (pa_cons pe_str (pa_cons pe_str (pa_cons pe_str pa_nil))))) rfl) (pss_one (ps_ret pe_int)) pss_nil) (pss_one (ps_ret (pe_op op_add pe_int (pe_callB (call_max2 rfl) (by rfl) T.n_max (by decide +kernel) (pa_cons (pcall D__law_depth hr (pa_cons (pe_ix ix_tup (pv 0) pe_int (fun _ _ => rfl)) pa_nil) (by omega)) (pa_cons (pcall D__law_depth hr (pa_cons (pe_ix ix_tup (pv 0) pe_int (fun _ _ => rfl)) pa_nil) (by omega)) pa_nil)))))))))), ?_⟩)
  · obtain ⟨v, d, _, rfl, _⟩ := h
    rfl
  · obtain ⟨v, d, dn, rfl, hv0, q⟩ := h
    obtain ⟨Ty, ty, k1, k2, _⟩ := hv0.ty (K := K)
    refine ⟨_, rfl, _, _, _, _, _, rfl, .ty "int", ty, kit_ty k1, _, rfl, ?_⟩
    cases hI : dI d with
    | true =>
      cases hv0 with
      | int i =>
        refine iteT ⟨_, rfl, _, _, _, _, _, rfl, .ty "bool", ty, kit_ty k2, _, rfl, iteT ?_⟩
        have p12 : (10 : Int) ^ Int.toNat 12 = 1000000000000 := by decide
        refine ⟨_, rfl, i, rfl, _, _, rfl, rfl, ⟨by decide, by decide, by decide⟩, _, _, rfl, rfl, _, rfl, ?_⟩
        by_cases h1 : (if i < 0 then -i else i) ≤ (10 : Int) ^ Int.toNat 12
        · refine ifT (decide_eq_true h1) (q 1 H (dp_one fun k => decide_eq_true ?_) (Same.refl _))
          split at h1 <;> omega
        · refine ifF (decide_eq_false h1) (q 99 H (dp_bad fun k => ?_) (Same.refl _))
          cases k with
          | zero => rfl
          | succ k =>
            refine decide_eq_false ?_
            split at h1 <;> omega
      | _ => cases hI
    | false =>
      cases hB : dB d with
      | true =>
        refine ifT (by simp) ⟨_, rfl, _, _, _, _, _, rfl, .ty "bool", ty, kit_ty k2, _, rfl, ifF (by rw [hB]; rfl) ?_⟩
        refine ⟨_, rfl, v, d, rfl, hv0, fun H1 s1 => ⟨_, rfl, ?_⟩⟩
        cases hn : nameD d with
        | true => exact iteT (q 1 H1 (dp_one (wi_name hn)) s1)
        | false =>
          refine iteF ?_
          have hv := hv0.same s1
          obtain ⟨Ty, ty, k1, k2, k3, k4, k5⟩ := hv.ty (K := K)
          cases hv with
          | int i => cases hI
          | @tup t xs ds e h =>
            have xl := h.len
            refine ⟨_, rfl, _, _, _, _, _, rfl, .ty "tuple", ty, kit_ty k4, _, rfl, iteF ?_⟩
            refine ⟨_, rfl, t, _, rfl, .inr (SqT.of e), rfl, _, rfl, ?_⟩
            by_cases h3 : ds.length = 3
            case neg =>
              have e3 : shape3 ds = none := by
                unfold shape3
                split
                · rename_i z
                  exact absurd rfl h3
                · rfl
              exact ifT (by rw [vF (by omega)]; rfl) (q 99 H1 (dp_bad (wi_none e3)) s1)
            case pos =>
              obtain ⟨d0, d1, d2, rfl⟩ : ∃ d0 d1 d2, ds = [d0, d1, d2] := by
                match ds, h3 with
                | [d0, d1, d2], _ => exact ⟨d0, d1, d2, rfl⟩
              have dm : max d0.depth (max d1.depth (max d2.depth 0)) + 1 < n + 1 := dn
              cases h with
              | cons a0 h =>
                cases h with
                | cons a1 h =>
                  cases h with
                  | @cons v2 vs2 _ _ a2 h =>
                    cases h with
                    | nil =>
                      rename_i v0 v1
                      refine ifF (by rw [decide_eq_true (show V.int (([v0, v1, v2].length : Nat) : Int) = V.int 3 from rfl)]; rfl) ?_
                      obtain ⟨Ty0, ty0, _, _, s0, _, _⟩ := a0.ty (K := K)
                      refine ⟨_, rfl, t, _, _, _, rfl, rfl, .inl (.inl e), rfl, _, _, _, _, _, rfl, .ty "str", ty0, kit_ty s0, _, rfl, ?_⟩
                      cases a0 with
                      | str x hx =>
                        refine iteF ⟨_, rfl, t, _, _, _, rfl, rfl, .inl (.inl e), rfl, (by show 4 ≤ sizeLine; decide), fun p hp => ?_⟩
                        have s2 := same_upd (o := .tup [.str "add", .str "sub", .str "less", .str "equal"]) hp
                        refine ⟨_, ops.map V.str, rfl, .inr (SqT.of upd_same), rfl, flat_strs ops, _, rfl, ?_⟩
                        by_cases ho : x ∈ ops
                        · refine ifF (by show (!inV (.str x) _) = false; rw [inV_strs, decide_eq_true ho]; rfl) ?_
                          have e2 := s2 _ _ e
                          refine ⟨_, rfl, t, _, _, _, rfl, rfl, .inl (.inl e2), rfl, _, d1, by omega, rfl, a1.same s2, fun r1 H2 o1 s3 => ?_⟩
                          refine ⟨_, rfl, t, _, _, _, rfl, rfl, .inl (.inl (s3 _ _ e2)), rfl, _, d2, by omega, rfl, a2.same (s2.trans s3), fun r2 H3 o2 s4 => ?_⟩
                          exact ⟨_, _, rfl, _, _, rfl, rfl, q _ H3 (dp_tup ho o1 o2) (s1.trans (s2.trans (s3.trans s4)))⟩
                        · exact ifT (by show (!inV (.str x) _) = true; rw [inV_strs, decide_eq_false ho]; rfl) (q 99 _ (dp_bad (wi_op ho)) (s1.trans s2))
                      | _ => exact iteT (q 99 H1 (dp_bad (wi_none rfl)) s1)
          | _ => exact ⟨_, rfl, _, _, _, _, _, rfl, .ty "tuple", ty, kit_ty k4, _, rfl, iteT (q 99 H1 (dp_bad (wi_bad hn rfl rfl)) s1)⟩
      | false =>
        refine ifF (by simp) ?_
        refine ⟨_, rfl, v, d, rfl, hv0, fun H1 s1 => ⟨_, rfl, ?_⟩⟩
        cases hn : nameD d with
        | true => exact iteT (q 1 H1 (dp_one (wi_name hn)) s1)
        | false =>
          refine iteF ?_
          have hv := hv0.same s1
          obtain ⟨Ty, ty, k1, k2, k3, k4, k5⟩ := hv.ty (K := K)
          cases hv with
          | int i => cases hI
          | @tup t xs ds e h =>
            have xl := h.len
            refine ⟨_, rfl, _, _, _, _, _, rfl, .ty "tuple", ty, kit_ty k4, _, rfl, iteF ?_⟩
            refine ⟨_, rfl, t, _, rfl, .inr (SqT.of e), rfl, _, rfl, ?_⟩
            by_cases h3 : ds.length = 3
            case neg =>
              have e3 : shape3 ds = none := by
                unfold shape3
                split
                · rename_i z
                  exact absurd rfl h3
                · rfl
              exact ifT (by rw [vF (by omega)]; rfl) (q 99 H1 (dp_bad (wi_none e3)) s1)
            case pos =>
              obtain ⟨d0, d1, d2, rfl⟩ : ∃ d0 d1 d2, ds = [d0, d1, d2] := by
                match ds, h3 with
                | [d0, d1, d2], _ => exact ⟨d0, d1, d2, rfl⟩
              have dm : max d0.depth (max d1.depth (max d2.depth 0)) + 1 < n + 1 := dn
              cases h with
              | cons a0 h =>
                cases h with
                | cons a1 h =>
                  cases h with
                  | @cons v2 vs2 _ _ a2 h =>
                    cases h with
                    | nil =>
                      rename_i v0 v1
                      refine ifF (by rw [decide_eq_true (show V.int (([v0, v1, v2].length : Nat) : Int) = V.int 3 from rfl)]; rfl) ?_
                      obtain ⟨Ty0, ty0, _, _, s0, _, _⟩ := a0.ty (K := K)
                      refine ⟨_, rfl, t, _, _, _, rfl, rfl, .inl (.inl e), rfl, _, _, _, _, _, rfl, .ty "str", ty0, kit_ty s0, _, rfl, ?_⟩
                      cases a0 with
                      | str x hx =>
                        refine iteF ⟨_, rfl, t, _, _, _, rfl, rfl, .inl (.inl e), rfl, (by show 4 ≤ sizeLine; decide), fun p hp => ?_⟩
                        have s2 := same_upd (o := .tup [.str "add", .str "sub", .str "less", .str "equal"]) hp
                        refine ⟨_, ops.map V.str, rfl, .inr (SqT.of upd_same), rfl, flat_strs ops, _, rfl, ?_⟩
                        by_cases ho : x ∈ ops
                        · refine ifF (by show (!inV (.str x) _) = false; rw [inV_strs, decide_eq_true ho]; rfl) ?_
                          have e2 := s2 _ _ e
                          refine ⟨_, rfl, t, _, _, _, rfl, rfl, .inl (.inl e2), rfl, _, d1, by omega, rfl, a1.same s2, fun r1 H2 o1 s3 => ?_⟩
                          refine ⟨_, rfl, t, _, _, _, rfl, rfl, .inl (.inl (s3 _ _ e2)), rfl, _, d2, by omega, rfl, a2.same (s2.trans s3), fun r2 H3 o2 s4 => ?_⟩
                          exact ⟨_, _, rfl, _, _, rfl, rfl, q _ H3 (dp_tup ho o1 o2) (s1.trans (s2.trans (s3.trans s4)))⟩
                        · exact ifT (by show (!inV (.str x) _) = true; rw [inV_strs, decide_eq_false ho]; rfl) (q 99 _ (dp_bad (wi_op ho)) (s1.trans s2))
                      | _ => exact iteT (q 99 H1 (dp_bad (wi_none rfl)) s1)
          | _ => exact ⟨_, rfl, _, _, _, _, _, rfl, .ty "tuple", ty, kit_ty k4, _, rfl, iteT (q 99 H1 (dp_bad (wi_bad hn rfl rfl)) s1)⟩
end
end K81

set_option Elab.async false
set_option linter.all false
set_option maxRecDepth 100000
set_option maxHeartbeats 4000000
/-! enumerate over a text -/
namespace L2
open PySem PySem.Spec PyProof.Rows
theorem drawsS {prog : Program} {w : World} {A : Around} (hh : A.handled = none) (it : Addr) (x : Str) (t : Tok) :
    Draws prog w A it [it] x.cps.size (fun i v => ∃ c u, x.cps[i]? = some c ∧ v = .str ⟨#[c]⟩ u) (fun i h => h.IsStrIter it (strIterType x) x t i) := by
  cases ha : x.cps.all (· < 128)
  · simp only [strIterType, ha, Bool.false_eq_true, if_false]
    exact .strWide hh it x t
  · simp only [strIterType, ha, if_true]
    exact .strAscii hh it x t
/-- a text's signs, each in a new pair -/
def IteS (x : Str) : It :=
  ⟨fun i _ => i < x.cps.size, fun i H v H' => ∃ T c, v = .ref T ∧ H T = none ∧ H' = upd H T (.tup [.int (i : Nat), .str ⟨#[c]⟩]) ∧ x.cps[i]? = some c, fun i _ => i = x.cps.size⟩
theorem turn_enumS {P : Program} {w : World} {K : PySem.W.Frag} {elts : List Expr} {kk : Nat} {tpos : Pos} (x : Str) (t : Tok) (e it : Addr) :
    Turn P w K (.Tuple elts kk tpos) (IteS x) [e, it] e (fun i h => (∃ old, IsEnum h e it ((i : Nat) : Int) old) ∧ h.IsStrIter it (strIterType x) x t i ∧ e ≠ it) where
  mem := by simp
  obj := fun i h st b hb => by
    obtain ⟨⟨old, he⟩, ⟨o, ho, hc, hd⟩, _⟩ := st
    have e' : b = e ∨ b = it := by simpa using hb
    rcases e' with z | z
    · rw [z]; exact ⟨_, he, fun v q => nomatch q⟩
    · rw [z]; exact ⟨o, ho, fun v q => by rw [hd] at q; cases q⟩
  keep := fun i h h' st k => let ⟨⟨old, he⟩, ⟨o, ho, r⟩, hne⟩ := st; ⟨⟨old, k e (by simp) _ he⟩, ⟨o, k it (by simp) o ho, r⟩, hne⟩
  item := by
    intro X hP hw hK hc i pins s σ H E I hf st hg
    subst hP hw hK
    obtain ⟨⟨old, he⟩, hit, hne⟩ := st
    have hel : e < s.heap.objs.size := Heap.lt_size he
    have hil : it < s.heap.objs.size := by obtain ⟨_, q, _⟩ := hit; exact Heap.lt_size q
    have D := drawsS (prog := X.prog) (w := X.w) (A := X.A.in1) (I.ok.hd hc) it x t
    refine wpAny_pyNext_enum_itemD D he hit hg hne (by simp [hne]) fun y h' tk hy ho hst hT hsz hk => ?_
    obtain ⟨c, u, hcx, rfl⟩ := hy
    refine ⟨_, rfl, wpAny_letOwnedTupleGo_enum (s := { s with heap := h', toks := tk + 1 }) ho fun h'' he' sb => ?_⟩
    have hT2 : h''.get? s.heap.objs.size = some { cls := .type "tuple", data := .seq #[.int i tk, .str ⟨#[c]⟩ u] } := (sb.2 _ (Nat.ne_of_gt hel)).trans hT
    have new : ObjOk X.prog X.w (upd H s.heap.objs.size (.tup [.int (i : Nat), .str ⟨#[c]⟩])) h'' s.heap.objs.size (.tup [.int (i : Nat), .str ⟨#[c]⟩]) :=
      ⟨by show 2 ≤ sizeLine; decide, [.int i tk, .str ⟨#[c]⟩ u], .cons ⟨_, rfl⟩ (.cons ⟨_, rfl⟩ .nil), ⟨_, hT2, rfl, _, rfl⟩⟩
    have I1 : Inv X pins σ (upd H s.heap.objs.size (.tup [.int (i : Nat), .str ⟨#[c]⟩])) { s with heap := h'', toks := tk + 1 } :=
      I.turnedNew (ch := [e, it]) (fun b ob hb q => (sb.2 b (fun z => hb (by simp [z]))).trans (hk b ob (fun z => hb (by simp [z])) (fun z => hb (by simp [z])) q)) hf (Nat.le_refl _) new
    refine ⟨.ref s.heap.objs.size, _, I1, rfl, ⟨_, c, rfl, I.hok.fresh (Nat.le_refl _), rfl, hcx⟩, ⟨⟨.str ⟨#[c]⟩ u, ?_⟩, ?_, hne⟩, fun b hb => ?_⟩
    · have e1 : ((i + 1 : Nat) : Int) = (i : Int) + 1 := by omega
      rw [e1]; exact he'
    · obtain ⟨o2, ho2, r2⟩ := hst
      exact ⟨o2, (sb.2 it (Ne.symm hne)).trans ho2, r2⟩
    · have hb' : b < s.heap.objs.size := by
        have e' : b = e ∨ b = it := by simpa using hb
        rcases e' with z | z
        · rw [z]; exact hel
        · rw [z]; exact hil
      rw [upd_ne (Nat.ne_of_lt hb')]
      exact (hf b hb).1
  done := by
    intro X hP hw hK hc i pins s σ H E I hf st hg
    subst hP hw hK
    obtain ⟨⟨old, he⟩, hit, hne⟩ := st
    obtain ⟨f0, f1, f2, f3, f4, f5⟩ := hf it (by simp)
    have D := drawsS (prog := X.prog) (w := X.w) (A := X.A.in1) (I.ok.hd hc) it x t
    have hg' : i = x.cps.size := hg
    subst hg'
    exact wpAny_pyNext_enum_endD D he hit fun h' eb => ⟨rfl, I.turned (t' := s.toks) (fun b o hb q => eb b o hb q) f0 f1 f3 f4 f5⟩
  self := fun A i s Q E st h => let ⟨⟨_, he⟩, _⟩ := st; wpAny_pyIter_enum he h
def iEnumS (ta : TA) : TI := fun σ H R => ta σ H fun vs H1 => ∃ x, vs = [.str x] ∧ R (IteS x) H1
theorem pi_enumS {X : Cx} {e : Expr} {ta : TA} {p pos tpos : Pos} {elts : List Expr} {kk : Nat} (hg : Gl X "enumerate") (hm : X.mg "enumerate" = none) (ha : PA X [e] ta) (hs : starEach [e] X.env = [(false, eval e X.env)] := by rfl) :
    PI X (.Tuple elts kk tpos) (.Call (.Name "enumerate" p) [e] [] pos) (iEnumS ta) := by
  refine ⟨fun pins s σ H R I h => ?_⟩
  refine Call_ (ld_blt I hg hm boot_enumerate (PyProof.Rows.callWith_type1 (thn (ha.run pos pins s σ H _ I h) fun us s1 ⟨vs, H1, I1, r1, q1⟩ => ?_) hs rfl))
  obtain ⟨x, ex, q⟩ := q1
  subst ex
  cases r1 with
  | cons r rr =>
    cases rr
    obtain ⟨t, rfl⟩ := r
    refine call_enumerate_str fun h' he hit hsz hk => wpAny_pyIter_enum he ?_
    have I2 : Inv X pins σ H1 { s1 with heap := h' } := I1.kept (t' := s1.toks) hk
    refine ⟨s1.heap.objs.size + 1, [s1.heap.objs.size + 1, s1.heap.objs.size], _, _, H1, rfl, I2, turn_enumS x t (s1.heap.objs.size + 1) s1.heap.objs.size, ⟨⟨.none, he⟩, hit, Nat.succ_ne_self _⟩, fun b hb => ?_, q⟩
    have e' : b = s1.heap.objs.size + 1 ∨ b = s1.heap.objs.size := by simpa using hb
    have hle : s1.heap.objs.size ≤ b := by
      rcases e' with z | z
      · rw [z]; exact Nat.le_add_right _ _
      · rw [z]; exact Nat.le_refl _
    exact I1.fpOk hle (I1.hok.fresh hle)
theorem walk_enumS {x : Str} : Walk (IteS x) x.cps.size (fun _ => True) (fun i H v H' => ∃ T c, v = .ref T ∧ H T = none ∧ H' = upd H T (.tup [.int (i : Nat), .str ⟨#[c]⟩]) ∧ x.cps[i]? = some c) :=
  ⟨fun _ _ hi _ => hi, fun _ _ => rfl, fun _ _ _ _ _ _ y => y⟩
end L2

set_option Elab.async false
set_option linter.all false
set_option maxRecDepth 100000
set_option maxHeartbeats 4000000
/-! zip of a text and a tuple -/
namespace RZ
open PySem PySem.Spec PyProof.Rows L2
abbrev zsH1 (h : Heap) (x : Str) (t : Tok) : Heap := h.push { cls := .type (strIterType x), data := .fields #[.str x t, .int 0 0] }
abbrev zsH2 (h : Heap) (x : Str) (t : Tok) (l2 : Addr) : Heap := (zsH1 h x t).push { cls := .type "tuple_iterator", data := .fields #[.ref l2, .int 0 0] }
abbrev zsH3 (h : Heap) (x : Str) (t : Tok) (l2 : Addr) : Heap := (zsH2 h x t l2).push { cls := .type "tuple", data := .seq #[.ref h.objs.size, .ref (zsH1 h x t).objs.size] }
abbrev zsH4 (h : Heap) (x : Str) (t : Tok) (l2 : Addr) : Heap := (zsH3 h x t l2).push { cls := .type "tuple", data := .seq #[.none, .none] }
abbrev zsH5 (h : Heap) (x : Str) (t : Tok) (l2 : Addr) : Heap := (zsH4 h x t l2).push { cls := .type "zip", data := .fields #[.none, .bool false, .bool false, .ref (zsH2 h x t l2).objs.size, .ref (zsH3 h x t l2).objs.size] }
theorem meets_zipST_new (x : Str) (t : Tok) (l2 : Addr) (ys : Array Value) :
    Meets (Builtin.«zip.__new__» ⟨[.type "zip", .str x t, .ref l2], []⟩) (fun _ R s => s.heap.IsTuple l2 ys ∧
      R (.ok (.ret (.ref (zsH4 s.heap x t l2).objs.size))) { s with heap := zsH5 s.heap x t l2 }) :=
  .of_wp fun prog w A R s h => by
    obtain ⟨hp, g, d, tk, os⟩ := s; obtain ⟨hl2, h⟩ := h
    have hsub := sub_zip
    have hL2 : Heap.IsTuple (Shared.heap ⟨hp.push { cls := .type (strIterType x), data := .fields #[.str x t, .int 0 0] }, g, d, tk, os⟩) l2 ys := Heap.IsTuple.push hl2 _
    wp_walk using wpAny_pyIter_strU, wpAny_pyIter_tuple hL2
    exact ⟨_, rfl, h⟩
section
variable {prog : Program} {w : World} {A : Around} {E : Value → Shared → Prop} {s : Shared}
theorem call_zipST {x : Str} {t : Tok} {l2 : Addr} {ys : Array Value} {Q : Value → Shared → Prop} (hl2 : s.heap.IsTuple l2 ys)
    (h : ∀ h', IsZip h' (s.heap.objs.size + 4) (s.heap.objs.size + 2) (s.heap.objs.size + 3) .none → IsPair h' (s.heap.objs.size + 2) (.ref s.heap.objs.size) (.ref (s.heap.objs.size + 1)) →
      IsPair h' (s.heap.objs.size + 3) .none .none → h'.IsStrIter s.heap.objs.size (strIterType x) x t 0 → h'.IsTupleIter (s.heap.objs.size + 1) l2 0 → h'.objs.size = s.heap.objs.size + 5 →
      (∀ c o, s.heap.get? c = some o → h'.get? c = some o) → Q (.ref (s.heap.objs.size + 4)) { s with heap := h' }) :
    wpAny (model prog w) A (call (.type "zip") [.str x t, .ref l2]) Q E s := by
  refine callType_new F.called_zip (by decide) (F.typeCall_zip_2 _ _) (F.newCall_zip_2 _ _) (fun obj => F.args_object_init_3 obj _ _) F.entry_zip_new
    (meets_zipST_new x t l2 ys) ⟨hl2, ?_⟩
  have z1 : (zsH1 s.heap x t).objs.size = s.heap.objs.size + 1 := Heap.size_push ..
  have z2 : (zsH2 s.heap x t l2).objs.size = s.heap.objs.size + 2 := by rw [Heap.size_push, z1]
  have z3 : (zsH3 s.heap x t l2).objs.size = s.heap.objs.size + 3 := by rw [Heap.size_push, z2]
  have z4 : (zsH4 s.heap x t l2).objs.size = s.heap.objs.size + 4 := by rw [Heap.size_push, z3]
  have z5 : (zsH5 s.heap x t l2).objs.size = s.heap.objs.size + 5 := by rw [Heap.size_push, z4]
  have g5 : (zsH5 s.heap x t l2).get? (zsH4 s.heap x t l2).objs.size = some _ := Heap.get?_push_size _ rfl
  have g4 : (zsH5 s.heap x t l2).get? (zsH3 s.heap x t l2).objs.size = some _ := Heap.get?_push_of_some _ (Heap.get?_push_size _ rfl)
  have g3 : (zsH5 s.heap x t l2).get? (zsH2 s.heap x t l2).objs.size = some _ := Heap.get?_push_of_some _ (Heap.get?_push_of_some _ (Heap.get?_push_size _ rfl))
  have g2 : (zsH5 s.heap x t l2).get? (zsH1 s.heap x t).objs.size = some _ := Heap.get?_push_of_some _ (Heap.get?_push_of_some _ (Heap.get?_push_of_some _ (Heap.get?_push_size _ rfl)))
  have g1 : (zsH5 s.heap x t l2).get? s.heap.objs.size = some _ := Heap.get?_push_of_some _ (Heap.get?_push_of_some _ (Heap.get?_push_of_some _ (Heap.get?_push_of_some _ (Heap.get?_push_size _ rfl))))
  show _ ∧ _
  rw [z2, z3, z4] at g5
  rw [z1, z2] at g3
  rw [z3] at g4
  rw [z1] at g2
  rw [z4]
  exact ⟨⟨_, g5, rfl⟩, h _ g5 g3 g4 ⟨_, g1, rfl, rfl⟩ ⟨_, g2, rfl, rfl⟩ z5 fun c o x =>
    Heap.get?_push_of_some _ (Heap.get?_push_of_some _ (Heap.get?_push_of_some _ (Heap.get?_push_of_some _ (Heap.get?_push_of_some _ x))))⟩
end
/-- the signs of x and the items of the tuple at b, in new pairs -/
def ItzST (K : PySem.W.Frag) (x : Str) (b : Addr) : It :=
  ⟨fun i H => i < x.cps.size ∧ ∃ (ys : List V) (y : V), SqT K H b ys ∧ ys[i]? = some y,
    fun i H v H' => ∃ T c y, v = .ref T ∧ H T = none ∧ H' = upd H T (.tup [.str ⟨#[c]⟩, y]) ∧ x.cps[i]? = some c ∧ ∀ ys, SqT K H b ys → ys[i]? = some y,
    fun i H => ∃ ys : List V, SqT K H b ys ∧ i ≤ x.cps.size ∧ i ≤ ys.length ∧ (i = x.cps.size ∨ i = ys.length)⟩
theorem turn_zipST {P : Program} {w : World} {K : PySem.W.Frag} {elts : List Expr} {kk : Nat} {tpos : Pos} {x : Str} {t : Tok} {b z TI TO i1 i2 : Addr} (D : ZipSep2 z TI TO i1 i2 [i1] [i2, b]) :
    Turn P w K (.Tuple elts kk tpos) (ItzST K x b) [z, TI, TO, i1, i2] z (fun i h => IsZip h z TI TO .none ∧ IsPair h TI (.ref i1) (.ref i2) ∧ (∃ a c, IsPair h TO a c) ∧ h.IsStrIter i1 (strIterType x) x t i ∧ h.IsTupleIter i2 b i) where
  mem := by simp
  obj := fun i h st c hc => by
    obtain ⟨hz, hTI, ⟨a, y, hTO⟩, ⟨o1, e1, _, d1⟩, ⟨o2, e2, _, d2⟩⟩ := st
    have e' : c = z ∨ c = TI ∨ c = TO ∨ c = i1 ∨ c = i2 := by simpa using hc
    rcases e' with q | q | q | q | q
    · rw [q]; exact ⟨_, hz, fun v q => nomatch q⟩
    · rw [q]; exact ⟨_, hTI, fun v q => nomatch q⟩
    · rw [q]; exact ⟨_, hTO, fun v q => nomatch q⟩
    · rw [q]; exact ⟨o1, e1, fun v q => by rw [d1] at q; cases q⟩
    · rw [q]; exact ⟨o2, e2, fun v q => by rw [d2] at q; cases q⟩
  keep := fun i h h' st k => by
    obtain ⟨hz, hTI, ⟨a, y, hTO⟩, ⟨o, ho, r⟩, h2⟩ := st
    exact ⟨k z (by simp) _ hz, k TI (by simp) _ hTI, ⟨a, y, k TO (by simp) _ hTO⟩, ⟨o, k i1 (by simp) o ho, r⟩, h2.at fun o q => k i2 (by simp) o q⟩
  item := by
    intro X hP hw hK hc i pins s σ H E I hf st hg
    subst hP hw hK
    obtain ⟨hz, hTI, ⟨x0, y0, hTO⟩, h1, h2⟩ := st
    obtain ⟨hlt, ys, y, hqy, hy⟩ := hg
    obtain ⟨its2, rv2, p2, _⟩ := I.tuple hqy
    obtain ⟨u2, hu2, ru2⟩ := rv2.get hy
    have hzl : z < s.heap.objs.size := Heap.lt_size hz
    have nbi : b ≠ i2 := fun q => by
      obtain ⟨o, ho, hc', _⟩ := (show s.heap.IsTuple b its2.toArray from p2)
      obtain ⟨o2, ho2, hc2, _⟩ := h2
      rw [q] at ho
      have := Option.some.inj (ho.symm.trans ho2)
      rw [this, hc2] at hc'
      exact absurd (Value.type.inj hc') (by decide)
    have D1 := drawsS (prog := X.prog) (w := X.w) (A := X.A.in1) (I.ok.hd hc) i1 x t
    have D2 := Draws.tuple (prog := X.prog) (w := X.w) (A := X.A.in1) (I.ok.hd hc) i2 b nbi its2.toArray
    have hul : its2.toArray[i]? = some u2 := by simpa using hu2
    have hlt2 : i < its2.toArray.size := (Array.getElem?_eq_some_iff.mp hul).1
    refine wpAny_pyNext_zipD2_item D D1 D2 hz hTI hTO h1 ⟨h2, p2⟩ hlt hlt2 fun a1 a2 h' tk q1 q2 hz' hTO' st1 st2 hT hsz hk => ?_
    obtain ⟨c, u, hcx, rfl⟩ := q1
    have ea : a2 = u2 := Option.some.inj (q2.symm.trans hul)
    subst ea
    refine ⟨_, rfl, wpAny_letOwnedTupleGo_zip (s := { s with heap := h', toks := tk }) hz' fun h'' hz'' sb => ?_⟩
    have hT2 : h''.get? s.heap.objs.size = some { cls := .type "tuple", data := .seq #[.str ⟨#[c]⟩ u, a2] } := (sb.2 _ (Nat.ne_of_gt hzl)).trans hT
    have new : ObjOk X.prog X.w (upd H s.heap.objs.size (.tup [.str ⟨#[c]⟩, y])) h'' s.heap.objs.size (.tup [.str ⟨#[c]⟩, y]) :=
      ⟨by show 2 ≤ sizeLine; decide, [.str ⟨#[c]⟩ u, a2], .cons ⟨_, rfl⟩ (.cons ru2 .nil), ⟨_, hT2, rfl, _, rfl⟩⟩
    have I1 : Inv X pins σ (upd H s.heap.objs.size (.tup [.str ⟨#[c]⟩, y])) { s with heap := h'', toks := tk } :=
      I.turnedNew (ch := [z, TI, TO, i1, i2]) (fun c o hb q => (sb.2 c (fun q' => hb (by simp [q']))).trans (hk c o (fun q' => hb (by simp [q'])) (fun q' => hb (by simp [q'])) (fun q' => hb (by simp [q'])) (fun q' => hb (by simp [q'])) q)) hf (Nat.le_refl _) new
    have nTI : TI ≠ z := D.TIz
    refine ⟨.ref s.heap.objs.size, _, I1, rfl, ⟨_, c, y, rfl, I.hok.fresh (Nat.le_refl _), rfl, hcx, fun l hl => by rw [I.tuple_inj hl hqy]; exact hy⟩, ⟨hz'', ?_, ⟨_, _, (sb.2 _ D.TOz).trans hTO'⟩, ?_, st2.1.at fun o q => (sb.2 _ (Ne.symm D.zi2)).trans q⟩, fun c hcm => ?_⟩
    · exact (sb.2 _ D.TIz).trans (hk _ _ D.TIz D.TITO D.TIi1 D.TIi2 hTI)
    · obtain ⟨o, ho, r⟩ := st1
      exact ⟨o, (sb.2 _ (Ne.symm D.zi1)).trans ho, r⟩
    · have hlt : c < s.heap.objs.size := by
        have e' : c = z ∨ c = TI ∨ c = TO ∨ c = i1 ∨ c = i2 := by simpa using hcm
        rcases e' with q | q | q | q | q
        · rw [q]; exact hzl
        · rw [q]; exact Heap.lt_size hTI
        · rw [q]; exact Heap.lt_size hTO
        · rw [q]; obtain ⟨_, e1, _⟩ := h1; exact Heap.lt_size e1
        · rw [q]; obtain ⟨_, e2, _⟩ := h2; exact Heap.lt_size e2
      rw [upd_ne (Nat.ne_of_lt hlt)]
      exact (hf c hcm).1
  done := by
    intro X hP hw hK hc i pins s σ H E I hf st hg
    subst hP hw hK
    obtain ⟨hz, hTI, ⟨x0, y0, hTO⟩, h1, h2⟩ := st
    obtain ⟨ys, hqy, le1, le2, hend⟩ := hg
    obtain ⟨its2, rv2, p2, _⟩ := I.tuple hqy
    have l2 := rv2.length
    have nbi : b ≠ i2 := fun q => by
      obtain ⟨o, ho, hc', _⟩ := (show s.heap.IsTuple b its2.toArray from p2)
      obtain ⟨o2, ho2, hc2, _⟩ := h2
      rw [q] at ho
      have := Option.some.inj (ho.symm.trans ho2)
      rw [this, hc2] at hc'
      exact absurd (Value.type.inj hc') (by decide)
    have D1 := drawsS (prog := X.prog) (w := X.w) (A := X.A.in1) (I.ok.hd hc) i1 x t
    have D2 := Draws.tuple (prog := X.prog) (w := X.w) (A := X.A.in1) (I.ok.hd hc) i2 b nbi its2.toArray
    have sz : its2.toArray.size = ys.length := by rw [List.size_toArray]; exact l2.symm
    exact wpAny_pyNext_zipD2_end D D1 D2 hz hTI hTO h1 ⟨h2, p2⟩ le1 (by rw [sz]; exact le2) (by rw [sz]; exact hend) fun h' tk hk => ⟨rfl, I.turnedL (t' := tk) (ch := [z, TI, TO, i1, i2]) (fun c o hb q =>
      hk c o (fun q' => hb (by simp [q'])) (fun q' => hb (by simp [q'])) (fun q' => hb (by simp [q'])) (fun q' => hb (by simp [q'])) q) hf⟩
  self := fun A i s Q E st h => wpAny_pyIter_zip st.1 h
def iZipST (K : PySem.W.Frag) (ta : TA) : TI := fun σ H R => ta σ H fun vs H1 => ∃ x b ys, vs = [.str x, .ref b] ∧ SqT K H1 b ys ∧ R (ItzST K x b) H1
theorem pi_zipST {X : Cx} {e e2 : Expr} {ta : TA} {p pos tpos : Pos} {elts : List Expr} {kk : Nat} (hg : Gl X "zip") (hm : X.mg "zip" = none) (ha : PA X [e, e2] ta)
    (hs : starEach [e, e2] X.env = (false, eval e X.env) :: starEach [e2] X.env := by rfl) (hpl : (backTo pos (starEach [e2] X.env)).any (·.1) = false := by rfl) :
    PI X (.Tuple elts kk tpos) (.Call (.Name "zip" p) [e, e2] [] pos) (iZipST X.K ta) := by
  refine ⟨fun pins s σ H R I h => ?_⟩
  refine Call_ (ld_blt I hg hm PyProof.Rows.boot_zip (PyProof.Rows.callWith_type1 (thn (ha.run pos pins s σ H _ I h) fun us s1 ⟨vs, H1, I1, r1, q1⟩ => ?_) hs hpl))
  obtain ⟨x, b, ys, ex, hqy, q⟩ := q1
  subst ex
  cases r1 with
  | cons r rr =>
    cases rr with
    | cons r' rr =>
      cases rr
      obtain ⟨t, rfl⟩ := r
      cases r'
      obtain ⟨its2, rv2, p2, _⟩ := I1.tuple hqy
      obtain ⟨o2, ho2, _⟩ := id p2
      have hb := Heap.lt_size ho2
      refine call_zipST (show s1.heap.IsTuple b its2.toArray from p2) fun h' hz hTI hTO h1 h2 hsz hk => wpAny_pyIter_zip hz ?_
      have I2 : Inv X pins σ H1 { s1 with heap := h' } := I1.kept (t' := s1.toks) hk
      have S : ZipSep2 (s1.heap.objs.size + 4) (s1.heap.objs.size + 2) (s1.heap.objs.size + 3) s1.heap.objs.size (s1.heap.objs.size + 1) [s1.heap.objs.size] [s1.heap.objs.size + 1, b] := by
        have m1 : ∀ {c a : Addr}, c ≠ a → c ∉ [a] := fun h z => h (List.mem_singleton.mp z)
        have m2 : ∀ {c a e : Addr}, c ≠ a → c ≠ e → c ∉ [a, e] := fun h h' z => by
          rcases List.mem_cons.mp z with y | y
          · exact h y
          · exact h' (List.mem_singleton.mp y)
        have hb' : b < s1.heap.objs.size := hb
        have nn : ∀ {a c : Nat}, a ≠ c → @Ne Addr a c := fun h => h
        exact ⟨nn (by omega), nn (by omega), nn (by omega), nn (by omega), List.mem_cons_self, m1 (nn (by omega)), m1 (nn (by omega)), nn (by omega), List.mem_cons_self, m2 (nn (by omega)) (nn (Nat.ne_of_gt (Nat.lt_of_lt_of_le hb' (Nat.le_add_right _ _)))), m2 (nn (by omega)) (nn (Nat.ne_of_gt (Nat.lt_of_lt_of_le hb' (Nat.le_add_right _ _)))), m2 (nn (by omega)) (nn (Nat.ne_of_gt hb')), m1 (nn (by omega))⟩
      refine ⟨s1.heap.objs.size + 4, [s1.heap.objs.size + 4, s1.heap.objs.size + 2, s1.heap.objs.size + 3, s1.heap.objs.size, s1.heap.objs.size + 1], _, _, H1, rfl, I2, turn_zipST S, ⟨hz, hTI, ⟨_, _, hTO⟩, h1, h2⟩, fun c hcm => ?_, q⟩
      have e' : c = s1.heap.objs.size + 4 ∨ c = s1.heap.objs.size + 2 ∨ c = s1.heap.objs.size + 3 ∨ c = s1.heap.objs.size ∨ c = s1.heap.objs.size + 1 := by simpa using hcm
      have hle : s1.heap.objs.size ≤ c := by
        rcases e' with z | z | z | z | z <;> (rw [z]; first | exact Nat.le_add_right _ _ | exact Nat.le_refl _)
      exact I1.fpOk hle (I1.hok.fresh hle)
end RZ

set_option Elab.async false
set_option linter.all false
set_option maxRecDepth 100000
set_option maxHeartbeats 4000000
/-! d.update(e), dicts with number or text keys -/
namespace L2
open PySem PySem.Spec PyProof.Rows
section
variable {X : Cx}
def rUpd : V → List V → Hp → VK → Prop := fun x vs H Q => ∃ (a b : Addr) (kvs more : List (Key × V)), x = .ref a ∧ vs = [.ref b] ∧ a ≠ b ∧ H a = some (.dK kvs) ∧ H b = some (.dK more) ∧ kvs.length + more.length ≤ sizeLine ∧ Q .non (upd H a (.dK (mergeK kvs more)))
theorem mt_update : MtM X "dict.update" rUpd := by
  intro pins s σ H x vs v us Q I rx rv h
  obtain ⟨a, b, kvs, more, rfl, rfl, hne, hA, hB, hz, q⟩ := h
  cases rx
  obtain ⟨u, rfl, ru⟩ := rv.one
  cases ru
  obtain ⟨z1, hd1, vs1, rel1, dd1⟩ := dk_of I.hok hA
  obtain ⟨z2, hd2, vs2, rel2, dd2⟩ := dk_of I.hok hB
  refine call_meetsIn PySem.F.slot_dict_update dd1.typeIs PySem.F.entry_dict_update (PySem.F.args_dict_update_2 _ _) (meets_dict_update (mixKind X.prog X.w) a b hne hd2)
    ⟨vs1, vs2, dd1, dd2, (by rw [← rel1.length, ← rel2.length]; exact hz), fun h' hmm _ hs => ?_⟩
  have he : ∃ q, h'.get? a = some q := let ⟨q, _, _, hq, _⟩ := hmm; ⟨q, hq⟩
  have hl := length_mergeK more kvs
  exact ⟨.non, _, d_write I (by rw [hA]; exact True.intro) hs he (dk_new (by omega) hd1 (rel2.merge rel1) hmm), rfl, q⟩
end
end L2

set_option Elab.async false
set_option linter.all false
set_option maxRecDepth 100000
set_option maxHeartbeats 4000000
set_option pp.maxSteps 900
namespace K81
open PySem PySem.Spec PyProof.Rows L2 Gu Ex RZ
theorem u1 {k : Nat} {A : Around} (h : Room k A) : A.units + 1 < cLine := by
  have := h.units
  omega
def letOf (k : Str) : Str := if k = "name" then "n" else if k = "expression" then "e" else "b"
/-- the law's shapes, in the forms' order -/
def shapes : List (Str × Str) := [("new", "ne"), ("drop", "n"), ("resize", "ne"), ("store", "nee"), ("load", "nne"), ("set", "ne"), ("out", "e"), ("reserve", "e"), ("if", "ebb"), ("repeat", "eb"), ("attempt", "bnb")]
def shapeIn (x : Str) : List (Str × Str) → Str
  | [] => "?"
  | (y, s) :: r => if y = x then s else shapeIn x r
def shapeOf (x : Str) : Str := shapeIn x shapes
def kvS (p : Str × Str) : Key × V := (Sum.inr p.1, .str p.2)
theorem shape_get (x : Str) : ∀ l : List (Str × Str), (valV (l.map kvS) (Sum.inr x)).getD (.str "?") = .str (shapeIn x l)
  | [] => rfl
  | p :: r => by
    unfold shapeIn
    by_cases e : p.1 = x
    · rw [List.map_cons, valV_pos (by unfold kvS; rw [e]), if_pos e]
      rfl
    · rw [List.map_cons, valV_neg (fun z => e (by unfold kvS at z; exact Sum.inr.inj z)), if_neg e]
      exact shape_get x r
def shapeD : PyData → Str
  | .str x => shapeOf x
  | _ => "?"
theorem m7 : mergeK [] ((shapes.take 7).map kvS) = (shapes.take 7).map kvS := by decide +kernel
theorem m4 : mergeK [] ((shapes.drop 7).map kvS) = (shapes.drop 7).map kvS := by decide +kernel
theorem m11 : mergeK ((shapes.take 7).map kvS) ((shapes.drop 7).map kvS) = shapes.map kvS := by decide +kernel
section
variable {P : Program} {w : World} {K : PySem.W.Frag} {mg : Str → Option Value} {base : Heap} {f : Addr} {fd : FuncData}
def spShape : Sp := fun vs H Q _ => ∃ (v : V) (d : PyData), vs = [v] ∧ Tr H v d ∧ ∀ H', Same H H' → Q (.str (shapeD d)) H'
theorem sc__law_shape : FnScope ["_law_word", "_law_shapes"] ["_law_word"] (defScope (top 29)) := ⟨rfl, rfl, rfl, by decide +kernel, rfl, by decide +kernel, by decide +kernel⟩
theorem ok_shape (T : Tx w K mg) (F : FnP K "_law_shape" "_law_shape" (top 29) f fd) : FnOk P w K mg base CX0 1 f fd ["_law_word"] spShape := by
  refine F.ok sc__law_shape (fun vs H Q E h => ?_) (fun cdv A outer s H vs Q E hr h => ⟨_, PSs.nox (pss_cons (ps_set (i := 1) sc__law_shape.nd rfl (by first | exact Or.inl rfl | exact Or.inr rfl) (pe_disp (pps_cons pe_str pe_str (pps_cons pe_str pe_str (pps_cons pe_str pe_str (pps_cons pe_str pe_str (pps_cons pe_str pe_str (pps_cons pe_str pe_str (pps_cons pe_str pe_str pps_nil))))))) (by rfl) (by rfl) (fun z => by cases z) (by decide))) (pss_cons (ps_expr (pe_bm PySem.F.plainAttrs_dict PySem.F.slot_dict_update PySem.F.type_dict_update mt_update (pv 1) (pa_cons (pe_disp (pps_cons pe_str pe_str (pps_cons pe_str pe_str (pps_cons pe_str pe_str (pps_cons pe_str pe_str pps_nil)))) (by rfl) (by rfl) (fun z => by cases z) (by decide)) pa_nil))) (pss_one (ps_ret (pe_ifExp (pt_val (pe_callB call_isi (by rfl) T.n_isinstance (by decide +kernel) (pa_cons (pv 0) (pa_cons (pe_bltn (v := .ty "str") (by rfl) T.n_str (by decide +kernel) rfl) pa_nil)))) (pe_dget2 (u1 hr) (pv 1) (pv 0) pe_str ⟨rfl, rfl, rfl, rfl⟩) pe_str))))), ?_⟩)
  · obtain ⟨v, d, rfl, _⟩ := h
    rfl
  · obtain ⟨v, d, rfl, hv, q⟩ := h
    obtain ⟨Ty, ty, _, _, k3, _⟩ := hv.ty (K := K)
    refine fun p hp => ⟨upd_same, (shapes.take 7).map kvS, rfl, by decide, ?_⟩
    rw [m7]
    have s1 : Same H (upd (upd H p (.dK [])) p (.dK ((shapes.take 7).map kvS))) := fun b o e => by
      have n : b ≠ p := ne_of_none e hp
      rw [upd_ne n, upd_ne n]
      exact e
    have h1 : (upd (upd H p (.dK [])) p (.dK ((shapes.take 7).map kvS))) p = some (.dK ((shapes.take 7).map kvS)) := upd_same
    generalize (upd (upd H p (.dK [])) p (.dK ((shapes.take 7).map kvS))) = H1 at *
    refine ⟨_, rfl, .inr (.inr (.inl ⟨rfl, .inl ⟨_, h1⟩⟩)), fun p2 hp2 => ⟨upd_same, (shapes.drop 7).map kvS, rfl, by decide, ?_⟩⟩
    rw [m4]
    have n12 : p ≠ p2 := ne_of_none h1 hp2
    refine ⟨p, p2, _, _, rfl, rfl, n12, (by rw [upd_ne n12, upd_ne n12]; exact h1), upd_same, (by show 7 + 4 ≤ sizeLine; decide), ?_⟩
    rw [m11]
    have s2 : Same H (upd (upd (upd H1 p2 (.dK [])) p2 (.dK ((shapes.drop 7).map kvS))) p (.dK (shapes.map kvS))) := fun b o e => by
      have n : b ≠ p := ne_of_none e hp
      have e1 := s1 _ _ e
      have n2 : b ≠ p2 := ne_of_none e1 hp2
      rw [upd_ne n, upd_ne n2, upd_ne n2]
      exact e1
    have h2 : (upd (upd (upd H1 p2 (.dK [])) p2 (.dK ((shapes.drop 7).map kvS))) p (.dK (shapes.map kvS))) p = some (.dK (shapes.map kvS)) := upd_same
    generalize (upd (upd (upd H1 p2 (.dK [])) p2 (.dK ((shapes.drop 7).map kvS))) p (.dK (shapes.map kvS))) = H2 at *
    have hv2 := hv.same s2
    obtain ⟨Ty, ty, _, _, k3, _⟩ := hv2.ty (K := K)
    refine ⟨_, rfl, _, _, _, _, _, rfl, .ty "str", ty, kit_ty k3, _, rfl, ?_⟩
    cases hv2 with
    | str x hx =>
      refine iteT ⟨_, rfl, p, rfl, .inl ⟨_, .inl h2⟩, _, rfl, _, DGet.k (k := Sum.inr x) h2, ?_⟩
      rw [shape_get]
      exact q H2 s2
    | _ => exact iteF (q H2 s2)
end
end K81

set_option Elab.async false
set_option linter.all false
set_option maxRecDepth 100000
set_option maxHeartbeats 4000000
set_option pp.maxSteps 900
namespace K81
open PySem PySem.Spec PyProof.Rows L2 Gu Ex RZ
theorem walk_zipST {K : PySem.W.Frag} {x : Str} {b : Addr} {ys : List V} (hn : ys.length = x.cps.size) : Walk (ItzST K x b) x.cps.size (fun H => SqT K H b ys) (fun i H v H' => ∃ T c y, v = .ref T ∧ H T = none ∧ H' = upd H T (.tup [.str ⟨#[c]⟩, y]) ∧ x.cps[i]? = some c ∧ ys[i]? = some y) := by
  refine ⟨fun i _ hi q => ⟨hi, ys, ys[i]'(by omega), q, List.getElem?_eq_getElem (by omega)⟩, fun _ q => ⟨ys, q, Nat.le_refl _, by omega, .inl rfl⟩, fun i H v H' _ q y => ?_⟩
  obtain ⟨T, c, y, h1, h2, h3, h4, h5⟩ := y
  exact ⟨T, c, y, h1, h2, h3, h4, h5 ys q⟩
def sgn (c : Nat) : Str := ⟨#[c]⟩
theorem forms_shapes {x : Str} : ∀ (l : List (Str × List Str)) (m : List (Str × Str)), l.length = m.length → ((l.zip m).all fun p => decide (p.1.1 = p.2.1) && decide (p.2.2.cps.toList.map sgn = p.1.2.map letOf)) = true →
    match formIn x l with
    | some ks => (shapeIn x m).cps.toList.map sgn = ks.map letOf
    | none => shapeIn x m = "?"
  | [], [], _, _ => rfl
  | [], _ :: _, h, _ => by cases h
  | _ :: _, [], h, _ => by cases h
  | (y, ks) :: l, (z, s) :: m, h, ha => by
    obtain ⟨h1, h2⟩ := He.ba (show (((decide (y = z) && decide (s.cps.toList.map sgn = ks.map letOf)) && (l.zip m).all fun p => decide (p.1.1 = p.2.1) && decide (p.2.2.cps.toList.map sgn = p.1.2.map letOf)) = true) from ha)
    obtain ⟨h3, h4⟩ := He.ba h1
    have e := of_decide_eq_true h3
    have e4 := of_decide_eq_true h4
    subst e
    have ih := forms_shapes (x := x) l m (by simpa using h) h2
    show match (if y = x then some ks else formIn x l) with
      | some ks => ((if y = x then s else shapeIn x m)).cps.toList.map sgn = ks.map letOf
      | none => (if y = x then s else shapeIn x m) = "?"
    by_cases hx : y = x
    · rw [if_pos hx, if_pos hx]
      exact e4
    · rw [if_neg hx, if_neg hx]
      exact ih
theorem shape_form (x : Str) : match formOf x with
    | some ks => (shapeOf x).cps.toList.map sgn = ks.map letOf
    | none => shapeOf x = "?" := forms_shapes forms shapes rfl (by decide +kernel)
section
variable {P : Program} {w : World} {K : PySem.W.Frag} {mg : Str → Option Value} {base : Heap} {f : Addr} {fd : FuncData}
def spLpart (n : Nat) : Sp := fun vs H Q _ => ∃ (k : Str) (v : V) (d : PyData), vs = [.str (letOf k), v] ∧ Tr H v d ∧ d.depth < n ∧ ∀ H', Same H H' → Q (.bl (partB k d)) H'
theorem sc__law_is_part : FnScope ["_law_kind", "_law_value"] ["_law_kind", "_law_value"] (defScope (top 30)) := ⟨rfl, rfl, rfl, by decide +kernel, rfl, by decide +kernel, by decide +kernel⟩
theorem ok_lpart {n : Nat} (T : Tx w K mg) (D__law_is_name : Df P w K mg base 1 "_law_is_name" ["_law_value"] spName) (D__law_depth : Df P w K mg base (n + 2) "_law_depth" ["_law_value"] (spDp n)) (F : FnP K "_law_is_part" "_law_is_part" (top 30) f fd) :
    FnOk P w K mg base CX0 (n + 3) f fd ["_law_kind", "_law_value"] (spLpart n) := by
  refine F.ok sc__law_is_part (fun vs H Q E h => ?_) (fun cdv A outer s H vs Q E hr h => ⟨_, PSs.nox (pss_cons (ps_if (pt_cmpR op_eq (pv 0) pe_str (nomark _)) (pss_one (ps_ret (pcall D__law_is_name hr (pa_cons (pv 1) pa_nil) (by omega)))) pss_nil) (pss_one (ps_ret (pe_ifExp (pt_cmpR op_eq (pv 0) pe_str (nomark _)) (pe_callB call_isi (by rfl) T.n_isinstance (by decide +kernel) (pa_cons (pv 1) (pa_cons (pe_bltn (v := .ty "list") (by rfl) T.n_list (by decide +kernel) rfl) pa_nil))) (pe_cmpR op_le (pcall D__law_depth hr (pa_cons (pv 1) pa_nil) (by omega)) pe_int (nomark _)))))), ?_⟩)
  · obtain ⟨k, v, d, rfl, _⟩ := h
    rfl
  · obtain ⟨k, v, d, rfl, hv, dn, q⟩ := h
    unfold partB at q
    by_cases h1 : k = "name"
    · rw [if_pos h1] at q
      have e : letOf k = "n" := if_pos h1
      rw [e]
      exact ⟨_, rfl, rfl, _, rfl, ifT (decide_eq_true rfl) ⟨_, rfl, v, d, rfl, hv, q⟩⟩
    rw [if_neg h1] at q
    by_cases h2 : k = "expression"
    · rw [if_pos h2] at q
      have e : letOf k = "e" := by unfold letOf; rw [if_neg h1, if_pos h2]
      rw [e]
      refine ⟨_, rfl, rfl, _, rfl, ifF (decide_eq_false (sv_ne (by decide))) ⟨_, rfl, rfl, _, rfl, ifF (decide_eq_false (sv_ne (by decide))) ?_⟩⟩
      refine ⟨_, rfl, v, d, dn, rfl, hv, fun r H1 dp s1 => ⟨_, _, rfl, rfl, ?_⟩⟩
      have eb : decide (r ≤ 6) = withinB 6 d := by
        have z := dp.2 6 (by decide)
        cases w6 : withinB 6 d with
        | true => exact decide_eq_true (z.mpr w6)
        | false => exact decide_eq_false fun y => by rw [z.mp y] at w6; cases w6
      rw [← eb] at q
      exact q H1 s1
    · rw [if_neg h2] at q
      have e : letOf k = "b" := by unfold letOf; rw [if_neg h1, if_neg h2]
      rw [e]
      obtain ⟨Ty, ty, _, _, _, _, k5⟩ := hv.ty (K := K)
      exact ⟨_, rfl, rfl, _, rfl, ifF (decide_eq_false (sv_ne (by decide))) ⟨_, rfl, rfl, _, rfl, ifT (decide_eq_true rfl) ⟨_, rfl, _, _, _, _, _, rfl, .ty "list", ty, kit_ty k5, q H (Same.refl _)⟩⟩⟩
def spOne (n : Nat) : Sp := fun vs H Q _ => ∃ (v : V) (d : PyData), vs = [v] ∧ Tr H v d ∧ d.depth ≤ n ∧ ∀ H', Same H H' → Q (.bl (insB d)) H'
theorem depth_get : ∀ {ds : List PyData} {i : Nat} {d : PyData}, ds[i]? = some d → d.depth ≤ PyData.depthAll ds
  | a :: ds, 0, d, h => by
    cases h
    exact Nat.le_max_left _ _
  | a :: ds, i + 1, d, h => Nat.le_trans (depth_get (ds := ds) (i := i) h) (Nat.le_max_right _ _)
  | [], _, _, h => by simp at h
theorem sc__law_is_one : FnScope ["_law_value", "_law_shape_here", "_law_kind", "_law_part"] ["_law_value"] (defScope (top 31)) := ⟨rfl, rfl, rfl, by decide +kernel, rfl, by decide +kernel, by decide +kernel⟩
theorem ok_one {n : Nat} (T : Tx w K mg) (D__law_shape : Df P w K mg base 1 "_law_shape" ["_law_word"] spShape) (D__law_is_part : Df P w K mg base (n + 3) "_law_is_part" ["_law_kind", "_law_value"] (spLpart n)) (F : FnP K "_law_is_one" "_law_is_one" (top 31) f fd) :
    FnOk P w K mg base CX0 (n + 4) f fd ["_law_value"] (spOne n) := by
  refine F.ok sc__law_is_one (fun vs H Q E h => ?_) (fun cdv A outer s H vs Q E hr h => ⟨_, PSs.nox (pss_cons (ps_if (PW.pt (pw_or (pt_not (pt_val (pe_callB call_isi (by rfl) T.n_isinstance (by decide +kernel) (pa_cons (pv 0) (pa_cons (pe_bltn (v := .ty "tuple") (by rfl) T.n_tuple (by decide +kernel) rfl) pa_nil))))) (pw_or1 (pt_cmpR op_eq (pe_callB call_len_seq (by rfl) T.n_len (by decide +kernel) (pa_cons (pv 0) pa_nil)) pe_int (nomark _))))) (pss_one (ps_ret pe_bl)) pss_nil) (pss_cons (ps_set (i := 1) sc__law_is_one.nd rfl (by first | exact Or.inl rfl | exact Or.inr rfl) (pcall D__law_shape hr (pa_cons (pe_ix ix_tup (pv 0) pe_int (fun _ _ => rfl)) pa_nil) (by omega))) (pss_cons (ps_if (PW.pt (pw_or (pt_cmpR op_eq (pv 1) pe_str (nomark _)) (pw_or1 (pt_cmpR op_ne (pe_callB call_len_str (by rfl) T.n_len (by decide +kernel) (pa_cons (pv 1) pa_nil)) (pe_op op_sub (pe_callB call_len_seq (by rfl) T.n_len (by decide +kernel) (pa_cons (pv 0) pa_nil)) pe_int) (nomark _))))) (pss_one (ps_ret pe_bl)) pss_nil) (pss_one (ps_ret (pe_callB (cr_all rfl) (by rfl) T.n_all (by decide +kernel) (pa_cons (pe_lc (own := [("_law_kind", 2), ("_law_part", 3)]) (g := gTup K 2 (gCons (gName 2) (gCons (gName 3) gNil))) rfl sc__law_is_one.nd (pi_zipST rfl T.n_zip (pa_cons (pv 1) (pa_cons (pe_slice sl_tup (pv 0) (po_some pe_int) po_none) pa_nil))) (blkOk_by (own := [("_law_kind", 2), ("_law_part", 3)]) (N := ["_law_value", "_law_shape_here", "_law_kind", "_law_part"]) (sc := defScope (top 31)) (by decide +kernel)) (fun _ _ _ _ _ => pg_tup rfl (pgs_cons (pg_name (i := 2) sc__law_is_one.nd rfl (Or.inl rfl)) (pgs_cons (pg_name (i := 3) sc__law_is_one.nd rfl (Or.inl rfl)) pgs_nil))) (fun _ _ _ _ _ => pts_nil) (fun _ _ _ _ _ => (pcall D__law_is_part hr (pa_cons (pv 2) (pa_cons (pv 3) pa_nil)) (by omega)))) pa_nil))))))), ?_⟩)
  · obtain ⟨v, d, rfl, _⟩ := h
    rfl
  · obtain ⟨v, d, rfl, hv, dn, q⟩ := h
    obtain ⟨Ty, ty, _, _, _, k4, _⟩ := hv.ty (K := K)
    refine ⟨_, rfl, _, _, _, _, _, rfl, .ty "tuple", ty, kit_ty k4, _, rfl, ?_⟩
    cases hv with
    | @tup t xs ds e h =>
      refine iteF ⟨_, rfl, t, _, rfl, .inr (SqT.of e), rfl, _, rfl, ?_⟩
      cases h with
      | nil => exact ifT (vT rfl) (q H (Same.refl _))
      | @cons v0 vs d0 ds a0 h =>
        refine ifF (vF (by show ((vs.length + 1 : Nat) : Int) ≠ 0; omega)) ?_
        refine ⟨_, rfl, t, _, _, _, rfl, rfl, .inl (.inl e), (show atI _ ((0 : Nat) : Int) = _ from atI_nat rfl), v0, d0, rfl, a0, fun H1 s1 => ?_⟩
        have e1 := s1 _ _ e
        refine ⟨_, rfl, rfl, _, rfl, ?_⟩
        have hq : (shapeD d0 = "?" ∧ insB (.tuple (d0 :: ds)) = false) ∨ ∃ ks : List Str, (shapeD d0).cps.toList.map sgn = ks.map letOf ∧ ks.length ≤ 3 ∧ shapeD d0 ≠ "?" ∧ insB (.tuple (d0 :: ds)) = (decide (ds.length = ks.length) && (partsB ks ds).all id) := by
          cases d0 with
          | str x =>
            have z := shape_form x
            cases hf : formOf x with
            | none =>
              rw [hf] at z
              refine .inl ⟨z, ?_⟩
              show (match formOf x with
                | some ks => decide (ds.length = ks.length) && (partsB ks ds).all id
                | none => false) = false
              rw [hf]
            | some ks =>
              rw [hf] at z
              refine .inr ⟨ks, z, form_len hf, fun y => ?_, ?_⟩
              · have y' : shapeOf x = "?" := y
                have z' : (shapeOf x).cps.toList.map sgn = ks.map letOf := z
                rw [y'] at z'
                cases ks with
                | nil => cases z'
                | cons k r =>
                  have h1 := (List.cons.inj z').1
                  unfold letOf at h1
                  split at h1
                  · exact absurd h1 (by decide)
                  · split at h1 <;> exact absurd h1 (by decide)
              · show (match formOf x with
                  | some ks => decide (ds.length = ks.length) && (partsB ks ds).all id
                  | none => false) = _
                rw [hf]
          | _ => exact .inl ⟨rfl, rfl⟩
        rcases hq with ⟨h1, h2⟩ | ⟨ks, h1, k3, h2, h3⟩
        · rw [h2] at q
          exact ifT (by rw [h1]; exact decide_eq_true rfl) (q H1 s1)
        · rw [h3] at q
          have ksz : (shapeD d0).cps.size = ks.length := by
            have z := congrArg List.length h1
            rw [List.length_map, List.length_map, Array.length_toList] at z
            exact z
          have sl : sizeLine = 16777216 := sizeLine_eq
          have vl := h.len
          generalize hsh : shapeD d0 = sh at *
          refine ifF (decide_eq_false (sv_ne h2)) ?_
          refine ⟨_, rfl, sh, rfl, (by show sh.cps.size ≤ sizeLine; omega), _, rfl, t, _, rfl, .inr (SqT.of e1), _, _, rfl, rfl, rfl, _, rfl, ?_⟩
          by_cases hl : ds.length = ks.length
          case neg =>
            rw [decide_eq_false hl, Bool.false_and] at q
            have ne : decide (V.int ((sh.length : Nat) : Int) = V.int ((((v0 :: vs).length : Nat) : Int) - 1)) = false := vF (by show ((sh.cps.size : Nat) : Int) ≠ _; rw [List.length_cons]; omega)
            exact ifT (by rw [ne]; rfl) (q H1 s1)
          case pos =>
            rw [decide_eq_true hl, Bool.true_and] at q
            have eq1 : decide (V.int ((sh.length : Nat) : Int) = V.int ((((v0 :: vs).length : Nat) : Int) - 1)) = true := vT (by show ((sh.cps.size : Nat) : Int) = _; rw [List.length_cons]; omega)
            refine ifF (by rw [eq1]; rfl) ?_
            refine ⟨_, rfl, _, rfl, _, rfl, t, _, rfl, SqT.of e1, not_whole v0 vs, fun p hp => ?_⟩
            rw [cut_tail]
            have s2 := s1.trans (same_upd (o := .tup vs) hp)
            refine ⟨sh, p, vs, rfl, SqT.of upd_same, fun D hD => ?_⟩
            have hpp : (upd H1 p (.tup vs)) p = some (.tup vs) := upd_same
            have nDp : D ≠ p := (ne_of_none hpp hD).symm
            have s3 := s2.trans (same_upd (o := .lst []) hD)
            have HD : H D = none := Same.free s2 hD
            refine lc_it (walk_zipST (by omega)) (fun i G => Same H G ∧ G p = some (.tup vs) ∧ G D = some (.lst (((partsB ks ds).take i).map V.bl))) ⟨s3, by rw [upd_ne nDp.symm]; exact hpp, upd_same⟩ (fun i G _ h => SqT.of h.2.1) ?_ ?_
            · rintro i x1 G1 G2 hi ⟨sm, hp2, hD2⟩ ⟨T', c, y2, rfl, hT, rfl, ec, e2⟩
              have hi2 : i < ds.length := by omega
              have hd := List.getElem?_eq_getElem hi2
              obtain ⟨y, hy, ty⟩ := h.get hd
              rw [hy] at e2
              cases e2
              have hki : i < ks.length := by omega
              have hk := List.getElem?_eq_getElem hki
              have hsg : sgn c = letOf ks[i] := by
                have z : (sh.cps.toList.map sgn)[i]? = (ks.map letOf)[i]? := by rw [h1]
                rw [List.getElem?_map, List.getElem?_map, hk, Array.getElem?_toList, ec] at z
                exact Option.some.inj z
              have t2 := same_upd (o := .tup [.str ⟨#[c]⟩, y2]) hT
              refine ⟨T', _, rfl, .inl (.inl upd_same), rfl, _, _, rfl, _, _, rfl, rfl, rfl, _, rfl, _, rfl, ks[i], y2, _, (by rw [← hsg]; rfl), ty.same (sm.trans t2), ?_, fun G t3 => ?_⟩
              · have z := depth_get hd
                have dd : max d0.depth (PyData.depthAll ds) + 1 ≤ n := dn
                omega
              · have hD3 := t3 _ _ (t2 _ _ hD2)
                have hp3 := t3 _ _ (t2 _ _ hp2)
                refine ⟨_, hD3, ?_, fun b o e => ?_, by rw [upd_ne nDp.symm]; exact hp3, ?_⟩
                · have := List.length_take_le i (partsB ks ds)
                  exact small1000 (by rw [List.length_map]; omega)
                · rw [upd_ne (ne_of_none e HD)]
                  exact t3 b o (t2 b o (sm b o e))
                · rw [upd_same, List.take_add_one, parts_at hk hd, List.map_append]
                  rfl
            · rintro G ⟨sm, hp2, hD2⟩
              rw [List.take_of_length_le (by rw [parts_len hl]; omega)] at hD2
              exact ⟨D, _, rfl, SqL.of hD2, q G sm⟩
    | _ => exact iteT (q H (Same.refl _))
end
end K81

set_option Elab.async false
set_option linter.all false
set_option maxRecDepth 100000
set_option maxHeartbeats 4000000
set_option pp.maxSteps 900
namespace K81
open PySem PySem.Spec PyProof.Rows L2 Gu Ex RZ
def ResAt (H : Hp) (t : Addr) (r : Wr) : Prop := ∃ x, H t = some (.tup [x, .int ((r.2 : Nat) : Int)]) ∧ FirstR H x r.1
theorem ins_form {d : PyData} (h : insB d = true) : ∃ (x : Str) (es : List PyData) (ks : List Str), d = .tuple (.str x :: es) ∧ formOf x = some ks ∧ es.length = ks.length ∧ (partsB ks es).all id = true := by
  cases d with
  | tuple ds =>
    cases ds with
    | nil => cases h
    | cons a r =>
      cases a with
      | str x =>
        have h' : (match formOf x with
          | some ks => decide (r.length = ks.length) && (partsB ks r).all id
          | none => false) = true := h
        cases e : formOf x with
        | none => rw [e] at h'; cases h'
        | some ks =>
          rw [e] at h'
          obtain ⟨h1, h2⟩ := He.ba (show (decide (r.length = ks.length) && (partsB ks r).all id) = true from h')
          exact ⟨x, r, ks, rfl, e, of_decide_eq_true h1, h2⟩
      | _ => cases h
  | _ => cases h
theorem let_b {k : Str} : letOf k = "b" ↔ (k ≠ "name" ∧ k ≠ "expression") := by
  unfold letOf
  constructor
  · intro h
    refine ⟨fun e => ?_, fun e => ?_⟩
    · rw [if_pos e] at h
      exact absurd h (by decide)
    · rw [if_neg (by rw [e]; decide), if_pos e] at h
      exact absurd h (by decide)
  · rintro ⟨h1, h2⟩
    rw [if_neg h1, if_neg h2]
theorem part_list {k : Str} {d : PyData} (h : partB k d = true) : (letOf k = "b" → dL d = true) ∧ (letOf k ≠ "b" → dL d = false) := by
  unfold partB at h
  constructor
  · intro hb
    obtain ⟨h1, h2⟩ := let_b.mp hb
    rw [if_neg h1, if_neg h2] at h
    exact h
  · intro hb
    by_cases h1 : k = "name"
    · rw [if_pos h1] at h
      cases d <;> first | rfl | (cases h; done)
    · rw [if_neg h1] at h
      by_cases h2 : k = "expression"
      · rw [if_pos h2] at h
        cases d <;> first | rfl | (cases h; done)
      · exact absurd (let_b.mpr ⟨h1, h2⟩) hb
theorem partsW_skip {f : List Int → List PyData → Nat → Wr} {path : List Int} {i : Nat} {d : PyData} {ds : List PyData} {s : Nat} (h : dL d = false) : partsW f path i (d :: ds) s = partsW f path (i + 1) ds s := by
  cases d <;> first | rfl | (cases h; done)
section
variable {P : Program} {w : World} {K : PySem.W.Frag} {mg : Str → Option Value} {base : Heap} {f : Addr} {fd : FuncData}
/-- t + u of tuples: a tuple with both one behind the other -/
theorem cat_at {H : Hp} {a b : Addr} {xs ys : List V} {Q : VK} (ha : H a = some (.tup xs)) (hb : H b = some (.tup ys)) (hz : xs.length + ys.length ≤ sizeLine) (q : ∀ c H', Same H H' → H' c = some (.tup (xs ++ ys)) → Q (.ref c) H') : rCatA K (.ref a) (.ref b) H Q := by
  refine ⟨a, b, xs, ys, rfl, rfl, SqT.of ha, SqT.of hb, hz, fun e => ?_, fun _ e => ?_, fun _ _ p hp => q p _ (same_upd hp) upd_same⟩
  · subst e
    exact q b H (Same.refl _) hb
  · subst e
    exact q a H (Same.refl _) (by rw [List.append_nil]; exact ha)
def spWalk (n : Nat) : Sp := fun vs H Q _ => ∃ (m : Nat) (l p : Addr) (xs : List V) (ds : List PyData) (ns : List Int) (s : Nat), m < n ∧ m ≤ 6 ∧ vs = [.ref l, .ref p, .int (7 - (m : Int)), .int ((s : Nat) : Int)] ∧ H l = some (.lst xs) ∧ TrAll H xs ds ∧ H p = some (.tup (ns.map V.int)) ∧ ns.length + 2 * m ≤ 100 ∧
  PyData.depthAll ds ≤ 60 ∧ ∀ t H', Same H H' → ResAt H' t (lw (m + 1) ns ds s) → Q (.ref t) H'
theorem sc__law_walk : FnScope ["_law_body_here", "_law_path", "_law_depth_here", "_law_seen", "_law_k", "_law_one", "_law_place", "_law_kind", "_law_found"] ["_law_body_here", "_law_path", "_law_depth_here", "_law_seen"] (defScope (top 32)) := ⟨rfl, rfl, rfl, by decide +kernel, rfl, by decide +kernel, by decide +kernel⟩
theorem ok_wk0 (F : FnP K "_law_walk" "_law_walk" (top 32) f fd) : FnOk P w K mg base CX0 65 f fd ["_law_body_here", "_law_path", "_law_depth_here", "_law_seen"] (spWalk 0) :=
  F.ok sc__law_walk (fun vs H Q E h => by obtain ⟨m, _, _, _, _, _, _, h, _⟩ := h; exact absurd h (Nat.not_lt_zero m)) (fun cdv A outer s H vs Q E hr h => by obtain ⟨m, _, _, _, _, _, _, h, _⟩ := h; exact absurd h (Nat.not_lt_zero m))
theorem ok_wk {n : Nat} (T : Tx w K mg) (D__law_shape : Df P w K mg base 1 "_law_shape" ["_law_word"] spShape) (D__law_is_one : Df P w K mg base 64 "_law_is_one" ["_law_value"] (spOne 60)) (D__law_walk : Df P w K mg base (n + 65) "_law_walk" ["_law_body_here", "_law_path", "_law_depth_here", "_law_seen"] (spWalk n))
    (F : FnP K "_law_walk" "_law_walk" (top 32) f fd) : FnOk P w K mg base CX0 (n + 66) f fd ["_law_body_here", "_law_path", "_law_depth_here", "_law_seen"] (spWalk (n + 1)) := by
  refine F.ok sc__law_walk (fun vs H Q E h => ?_) (fun cdv A outer s H vs Q E hr h => ⟨_, PSs.nox (pss_cons (ps_for PassesOwn.never rfl (pi_enum rfl T.n_enumerate (pa_cons (pv 0) pa_nil)) (pg_tup (by rfl) (pgs_cons (pg_name (i := 4) sc__law_walk.nd rfl (by first | exact Or.inl rfl | exact Or.inr rfl)) (pgs_cons (pg_name (i := 5) sc__law_walk.nd rfl (by first | exact Or.inl rfl | exact Or.inr rfl)) pgs_nil))) (pss_cons (ps_set (i := 3) sc__law_walk.nd rfl (by first | exact Or.inl rfl | exact Or.inr rfl) (pe_op op_add (pv 3) pe_int)) (pss_cons (ps_if (PW.pt (pw_or (pt_cmpR op_gt (pv 2) pe_int (nomark _)) (pw_or (pt_cmpR op_gt (pv 3) pe_int (nomark _)) (pw_or1 (pt_not (pt_val (pcall D__law_is_one hr (pa_cons (pv 5) pa_nil) (by omega)))))))) (pss_one (ps_ret (pe_tup (pa_cons (pe_op op_catA (pv 1) (pe_tup (pa_cons (pv 4) pa_nil))) (pa_cons (pv 3) pa_nil))))) pss_nil) (pss_one (ps_for PassesOwn.never rfl (pi_enumS rfl T.n_enumerate (pa_cons (pcall D__law_shape hr (pa_cons (pe_ix ix_tup (pv 5) pe_int (fun _ _ => rfl)) pa_nil) (by omega)) pa_nil)) (pg_tup (by rfl) (pgs_cons (pg_name (i := 6) sc__law_walk.nd rfl (by first | exact Or.inl rfl | exact Or.inr rfl)) (pgs_cons (pg_name (i := 7) sc__law_walk.nd rfl (by first | exact Or.inl rfl | exact Or.inr rfl)) pgs_nil))) (pss_one (ps_if (pt_cmpR op_eq (pv 7) pe_str (nomark _)) (pss_cons (ps_asg (pcall D__law_walk hr (pa_cons (pe_ix ix_tup (pv 5) (pe_op op_add (pv 6) pe_int) (fun _ _ => rfl)) (pa_cons (pe_op op_catA (pv 1) (pe_tup (pa_cons (pv 4) (pa_cons (pe_op op_add (pv 6) pe_int) pa_nil)))) (pa_cons (pe_op op_add (pv 2) pe_int) (pa_cons (pv 3) pa_nil)))) (by omega)) (pg_tup (by rfl) (pgs_cons (pg_name (i := 8) sc__law_walk.nd rfl (by first | exact Or.inl rfl | exact Or.inr rfl)) (pgs_cons (pg_name (i := 3) sc__law_walk.nd rfl (by first | exact Or.inl rfl | exact Or.inr rfl)) pgs_nil)))) (pss_one (ps_if (pt_cmpR op_notN (pv 8) pe_non (nomark _)) (pss_one (ps_ret (pe_tup (pa_cons (pv 8) (pa_cons (pv 3) pa_nil))))) pss_nil))) pss_nil))))))) (pss_one (ps_ret (pe_tup (pa_cons pe_non (pa_cons (pv 3) pa_nil)))))), ?_⟩)
  · obtain ⟨m, l, p, xs, ds, ns, s, _, _, rfl, _⟩ := h
    rfl
  · obtain ⟨m, l, p, xs, ds, ns, s, mn, m6, rfl, hl, hA, hp, nl, dl, q⟩ := h
    have sl : sizeLine = 16777216 := sizeLine_eq
    have xl := hA.len
    refine ⟨_, rfl, l, _, rfl, SqL.of hl, ?_⟩
    refine for_it (walk_enum (xs := xs)) (fun i σ G => Same H G ∧ ∃ (si : Nat) (x4 x5 x6 x7 x8 : Option V), σ = [some (.ref l), some (.ref p), some (.int (7 - (m : Int))), some (.int ((si : Nat) : Int)), x4, x5, x6, x7, x8] ∧ lw (m + 1) ns ds s = bodyW (lw m) (decide (m = 0)) ns i (ds.drop i) si)
      ⟨Same.refl H, s, none, none, none, none, none, rfl, rfl⟩ (fun i σ G _ h => SqL.of (h.1 _ _ hl)) ?_ ?_
    · rintro i x σ G G' hi ⟨sm, si, x4, x5, x6, x7, x8, rfl, eL⟩ ⟨T', y1, y2, rfl, hT, rfl, e1, e2⟩
      have e1' : some (V.int ((i : Nat) : Int)) = some y1 := e1
      have e2' : xs[i]? = some y2 := e2
      cases e1'
      have hid : i < ds.length := by omega
      have hd := List.getElem?_eq_getElem hid
      obtain ⟨y, hy, ty⟩ := hA.get hd
      rw [hy] at e2'
      cases e2'
      have s2 := sm.trans (same_upd (o := .tup [.int ((i : Nat) : Int), y2]) hT)
      refine ⟨T', _, rfl, .inl (.inl upd_same), rfl, _, _, rfl, _, _, rfl, rfl, ?_⟩
      have dr : ds.drop i = ds[i] :: ds.drop (i + 1) := List.drop_eq_getElem_cons hid
      have dd := depth_get hd
      generalize hdd : ds[i] = d at *
      rw [dr] at eL
      have eB : bodyW (lw m) (decide (m = 0)) ns i (d :: ds.drop (i + 1)) si = (if decide (m = 0) = true ∨ si + 1 > 200 ∨ insB d = false then (some (ns ++ [(i : Int)]), si + 1)
        else match partsW (lw m) (ns ++ [(i : Int)]) 0 (partsOf d) (si + 1) with
          | (some p, s') => (some p, s')
          | (none, s') => bodyW (lw m) (decide (m = 0)) ns (i + 1) (ds.drop (i + 1)) s') := rfl
      rw [eB] at eL
      generalize (upd G T' (.tup [.int ((i : Nat) : Int), y2])) = G2 at *
      refine ⟨_, rfl, _, _, rfl, rfl, ?_⟩
      refine ⟨_, rfl, _, _, rfl, rfl, _, rfl, ?_⟩
      have found : (decide (m = 0) = true ∨ si + 1 > 200 ∨ insB d = false) → ∀ (c t : Addr) (G3 : Hp), Same H G3 → G3 c = some (.tup (ns.map V.int ++ [.int ((i : Nat) : Int)])) → G3 t = some (.tup [.ref c, .int (((si + 1 : Nat)) : Int)]) → Q (.ref t) G3 := fun hc c t G3 s3 h1 h2 => by
        rw [if_pos hc] at eL
        refine q t G3 s3 ⟨.ref c, ?_, ?_⟩
        · rw [eL]
          exact h2
        · rw [eL]
          exact ⟨c, rfl, by rw [List.map_append]; exact h1⟩
      by_cases hm0 : m = 0
      · exact ifT (decide_eq_true (by show (6 : Int) < 7 - (m : Int); omega)) ⟨_, rfl, _, rfl, (by show 1 ≤ sizeLine; decide), fun pk hpk => cat_at (xs := ns.map V.int) (ys := [.int ((i : Nat) : Int)]) ((s2.trans (same_upd hpk)) _ _ hp) upd_same (by rw [List.length_map]; show ns.length + 1 ≤ sizeLine; omega) fun c G3 s3 h3 => ⟨_, rfl, (by show 2 ≤ sizeLine; decide), fun t ht =>
          found (.inl (decide_eq_true hm0)) c t _ (s2.trans ((same_upd hpk).trans (s3.trans (same_upd ht)))) (same_upd ht _ _ h3) upd_same⟩⟩
      refine ifF (decide_eq_false (by show ¬ ((6 : Int) < 7 - (m : Int)); omega)) ?_
      refine ⟨_, rfl, _, _, rfl, rfl, _, rfl, ?_⟩
      by_cases hs : si + 1 > 200
      · exact ifT (decide_eq_true (by show (200 : Int) < (si : Int) + 1; omega)) ⟨_, rfl, _, rfl, (by show 1 ≤ sizeLine; decide), fun pk hpk => cat_at (xs := ns.map V.int) (ys := [.int ((i : Nat) : Int)]) ((s2.trans (same_upd hpk)) _ _ hp) upd_same (by rw [List.length_map]; show ns.length + 1 ≤ sizeLine; omega) fun c G3 s3 h3 => ⟨_, rfl, (by show 2 ≤ sizeLine; decide), fun t ht =>
          found (.inr (.inl hs)) c t _ (s2.trans ((same_upd hpk).trans (s3.trans (same_upd ht)))) (same_upd ht _ _ h3) upd_same⟩⟩
      refine ifF (decide_eq_false (by show ¬ ((200 : Int) < (si : Int) + 1); omega)) ?_
      refine ⟨_, rfl, y2, d, rfl, ty.same s2, by omega, fun G4 s4 => ⟨_, rfl, ?_⟩⟩
      have s24 := s2.trans s4
      by_cases hb : insB d = true
      case neg =>
        have hbf := eq_false_of_ne_true hb
        exact ifT (by rw [hbf]; rfl) ⟨_, rfl, _, rfl, (by show 1 ≤ sizeLine; decide), fun pk hpk => cat_at (xs := ns.map V.int) (ys := [.int ((i : Nat) : Int)]) ((s24.trans (same_upd hpk)) _ _ hp) upd_same (by rw [List.length_map]; show ns.length + 1 ≤ sizeLine; omega) fun c G3 s3 h3 => ⟨_, rfl, (by show 2 ≤ sizeLine; decide), fun t ht =>
          found (.inr (.inr hbf)) c t _ (s24.trans ((same_upd hpk).trans (s3.trans (same_upd ht)))) (same_upd ht _ _ h3) upd_same⟩⟩
      case pos =>
        refine ifF (by rw [hb]; rfl) ?_
        have hno : ¬ (decide (m = 0) = true ∨ si + 1 > 200 ∨ insB d = false) := fun z => z.elim (fun y => hm0 (of_decide_eq_true y)) fun y => y.elim hs fun y => by rw [hb] at y; cases y
        rw [if_neg hno] at eL
        obtain ⟨x, es, ks, rfl, hf, el, hall⟩ := ins_form hb
        have z := shape_form x
        rw [hf] at z
        have z' : (shapeOf x).cps.toList.map sgn = ks.map letOf := z
        have ksz : (shapeOf x).cps.size = ks.length := by
          have y := congrArg List.length z'
          rw [List.length_map, List.length_map, Array.length_toList] at y
          exact y
        cases ty with
        | @tup t xs2 _ et hAt =>
        cases hAt with
        | @cons v0 vs2 _ _ a0 h2 =>
        have vl := h2.len
        have dpe : max (PyData.str x).depth (PyData.depthAll es) + 1 ≤ PyData.depthAll ds := dd
        refine ⟨_, rfl, t, _, _, _, rfl, rfl, .inl (.inl (s24 _ _ et)), (show atI _ ((0 : Nat) : Int) = _ from atI_nat rfl), v0, .str x, rfl, a0.same s24, fun G5 s5 => ⟨shapeOf x, rfl, ?_⟩⟩
        have s25 := s24.trans s5
        have eP0 : partsW (lw m) (ns ++ [(i : Int)]) 0 (partsOf (.tuple (.str x :: es))) (si + 1) = partsW (lw m) (ns ++ [(i : Int)]) 1 es (si + 1) := rfl
        rw [eP0] at eL
        refine for_it walk_enumS (fun j σ G => Same H G ∧ ∃ (sj : Nat) (x6 x7 x8 : Option V), σ = [some (.ref l), some (.ref p), some (.int (7 - (m : Int))), some (.int ((sj : Nat) : Int)), some (.int ((i : Nat) : Int)), some (.ref t), x6, x7, x8] ∧ partsW (lw m) (ns ++ [(i : Int)]) 1 es (si + 1) = partsW (lw m) (ns ++ [(i : Int)]) (j + 1) (es.drop j) sj)
          ⟨s25, si + 1, x6, x7, x8, rfl, rfl⟩ (fun _ _ _ _ _ => trivial) ?_ ?_
        · rintro j v σ G6 G7 hj ⟨sm6, sj, x6, x7, x8, rfl, eP⟩ ⟨T2, c, rfl, hT2, rfl, ec⟩
          have hje : j < es.length := by omega
          have hjk : j < ks.length := by omega
          have hde := List.getElem?_eq_getElem hje
          have hke := List.getElem?_eq_getElem hjk
          have hsg : sgn c = letOf ks[j] := by
            have y : ((shapeOf x).cps.toList.map sgn)[j]? = (ks.map letOf)[j]? := by rw [z']
            rw [List.getElem?_map, List.getElem?_map, hke, Array.getElem?_toList, ec] at y
            exact Option.some.inj y
          have pb : partB ks[j] es[j] = true := by
            have y := parts_at hke hde
            exact List.all_eq_true.mp hall _ (List.mem_of_getElem? y)
          obtain ⟨pl1, pl2⟩ := part_list pb
          have dre : es.drop j = es[j] :: es.drop (j + 1) := List.drop_eq_getElem_cons hje
          obtain ⟨w2, hw2, tw⟩ := h2.get hde
          have dde := depth_get hde
          have s7 := sm6.trans (same_upd (o := .tup [.int ((j : Nat) : Int), .str ⟨#[c]⟩]) hT2)
          rw [dre] at eP
          refine ⟨T2, _, rfl, .inl (.inl upd_same), rfl, _, _, rfl, _, _, rfl, rfl, ?_⟩
          generalize (upd G6 T2 (.tup [.int ((j : Nat) : Int), .str ⟨#[c]⟩])) = G7 at *
          generalize hed : es[j] = ed at *
          refine ⟨_, rfl, rfl, _, rfl, ?_⟩
          by_cases hb2 : letOf ks[j] = "b"
          case neg =>
            rw [partsW_skip (pl2 hb2)] at eP
            exact ifF (decide_eq_false (sv_ne (by intro y; exact hb2 (hsg.symm.trans y)))) ⟨s7, sj, _, _, _, rfl, eP⟩
          case pos =>
            refine ifT (decide_eq_true (congrArg V.str (hsg.trans hb2))) ?_
            have hL := pl1 hb2
            cases tw with
            | @lst l2 xs3 es3 hl2 hA3 =>
              have de3 : PyData.depthAll es3 + 1 ≤ PyData.depthAll es := dde
              obtain ⟨m', rfl⟩ : ∃ m', m = m' + 1 := ⟨m - 1, by omega⟩
              refine ⟨_, rfl, _, rfl, _, _, rfl, rfl, t, _, _, _, rfl, rfl, .inl (.inl (s7 _ _ et)), (show atI (v0 :: vs2) (((j + 1 : Nat)) : Int) = some (.ref l2) from atI_nat hw2), ?_⟩
              refine ⟨_, rfl, _, rfl, _, rfl, _, _, rfl, rfl, (by show 2 ≤ sizeLine; decide), fun pk hpk => cat_at (xs := ns.map V.int) (ys := [.int ((i : Nat) : Int), .int ((j : Int) + 1)]) ((s7.trans (same_upd hpk)) _ _ hp) upd_same (by rw [List.length_map]; show ns.length + 2 ≤ sizeLine; omega) fun c2 G8 s8 h8 => ?_⟩
              have s78 := s7.trans ((same_upd hpk).trans s8)
              have h9 : G8 c2 = some (.tup ((ns ++ [(i : Int)] ++ [((j + 1 : Nat) : Int)]).map V.int)) := by
                rw [h8, List.map_append, List.map_append, List.append_assoc]
                rfl
              have eP2 : partsW (lw (m' + 1)) (ns ++ [(i : Int)]) (j + 1) (.list es3 :: es.drop (j + 1)) sj = (match lw (m' + 1) (ns ++ [(i : Int)] ++ [((j + 1 : Nat) : Int)]) es3 sj with
                | (some p, s') => (some p, s')
                | (none, s') => partsW (lw (m' + 1)) (ns ++ [(i : Int)]) (j + 1 + 1) (es.drop (j + 1)) s') := rfl
              rw [eP2] at eP
              refine ⟨_, rfl, _, _, rfl, rfl, _, rfl, m', l2, c2, xs3, es3, ns ++ [(i : Int)] ++ [((j + 1 : Nat) : Int)], sj, by omega, by omega, ?_, s78 _ _ hl2, hA3.same s78, h9, by rw [List.length_append, List.length_append, List.length_singleton, List.length_singleton]; omega, by omega, fun t2 G9 s9 hres => ?_⟩
              · show [V.ref l2, V.ref c2, V.int (7 - ((m' + 1 : Nat) : Int) + 1), V.int ((sj : Nat) : Int)] = _
                rw [show 7 - ((m' + 1 : Nat) : Int) + 1 = 7 - (m' : Int) by omega]
              have s79 := s78.trans s9
              rcases hr : lw (m' + 1) (ns ++ [(i : Int)] ++ [((j + 1 : Nat) : Int)]) es3 sj with ⟨o, s'⟩
              rw [hr] at hres eP
              obtain ⟨xr, hx, fr⟩ := hres
              refine ⟨t2, _, rfl, .inl (.inl hx), rfl, _, _, rfl, _, _, rfl, rfl, ?_⟩
              cases o with
              | none =>
                obtain rfl : xr = .non := fr
                exact ⟨_, rfl, rfl, _, rfl, iteF ⟨s79, s', _, _, _, rfl, eP⟩⟩
              | some pth =>
                obtain ⟨pa, rfl, hpa⟩ := fr
                refine ⟨_, rfl, rfl, _, rfl, iteT ⟨_, rfl, _, rfl, (by show 2 ≤ sizeLine; decide), fun t3 ht3 => ?_⟩⟩
                have s80 := s79.trans (same_upd (o := .tup [.ref pa, .int ((s' : Nat) : Int)]) ht3)
                have eP3 : partsW (lw (m' + 1)) (ns ++ [(i : Int)]) 1 es (si + 1) = (some pth, s') := eP
                rw [eP3] at eL
                have eL3 : lw (m' + 1 + 1) ns ds s = (some pth, s') := eL
                refine q t3 _ s80 ?_
                rw [eL3]
                exact ⟨.ref pa, upd_same, pa, rfl, same_upd ht3 _ _ hpa⟩
            | _ => cases hL
        · rintro σ G6 ⟨sm6, sj, x6, x7, x8, rfl, eP⟩
          rw [ksz, List.drop_of_length_le (by omega)] at eP
          have eP' : partsW (lw m) (ns ++ [(i : Int)]) 1 es (si + 1) = (none, sj) := eP
          rw [eP'] at eL
          exact ⟨sm6, sj, _, _, _, _, _, rfl, eL⟩
    · rintro σ G ⟨sm, si, x4, x5, x6, x7, x8, rfl, eL⟩
      rw [List.drop_of_length_le (by omega)] at eL
      have eL' : lw (m + 1) ns ds s = (none, si) := eL
      refine ⟨_, rfl, (by show 2 ≤ sizeLine; decide), fun t ht => ?_⟩
      refine q t _ (sm.trans (same_upd ht)) ?_
      rw [eL']
      exact ⟨.non, upd_same, rfl⟩
end
end K81

set_option Elab.async false
set_option linter.all false
set_option maxRecDepth 100000
set_option maxHeartbeats 4000000
namespace K81
open PySem PySem.Spec PyProof.Rows L2 Gu Ex
/-- a path that is shown in few signs -/
def PthOk (p : List Int) : Prop := p.length ≤ 14 ∧ ∀ q ∈ p, 0 ≤ q ∧ q ≤ 2000
theorem kids_path {ns : List Int} (h1 : ns.length ≤ 13) (h2 : ∀ q ∈ ns, 0 ≤ q ∧ q ≤ 2000) : ∀ {i : Nat} {ds : List PyData}, i + ds.length ≤ 2000 → ∀ s ∈ kids ns i ds, PthOk s.1
  | _, [], _, s, hs => by cases hs
  | i, d :: ds, h, s, hs => by
    rw [List.length_cons] at h
    rcases List.mem_cons.mp hs with rfl | z
    · refine ⟨by rw [List.length_append, List.length_singleton]; omega, fun q hq => ?_⟩
      rcases List.mem_append.mp hq with y | y
      · exact h2 q y
      · rw [List.mem_singleton.mp y]
        omega
    · exact kids_path h1 h2 (by omega) s z
theorem kidsIn_path {ns : List Int} (h1 : ns.length ≤ 12) (h2 : ∀ q ∈ ns, 0 ≤ q ∧ q ≤ 2000) : ∀ {i : Nat} {ds : List PyData}, i + ds.length ≤ 2000 → shortAll ds = true → ∀ s ∈ kidsIn ns i ds, PthOk s.1
  | _, [], _, _, s, hs => by cases hs
  | i, d :: ds, h, sh, s, hs => by
    rw [List.length_cons] at h
    obtain ⟨s1, s2⟩ := He.ba (show (short d && shortAll ds) = true from sh)
    rcases List.mem_append.mp hs with z | z
    · cases d with
      | list es =>
        have l := of_decide_eq_true (He.ba (show (decide (es.length ≤ 1000) && shortAll es) = true from s1)).1
        refine kids_path (by rw [List.length_append, List.length_singleton]; omega) (fun q hq => ?_) (by omega) s z
        rcases List.mem_append.mp hq with y | y
        · exact h2 q y
        · rw [List.mem_singleton.mp y]
          omega
      | _ => cases z
    · exact kidsIn_path h1 h2 (by omega) s2 s z
theorem stk_path : ∀ (f : Nat) (st : List (List Int × PyData)), (∀ s ∈ st, PthOk s.1 ∧ short s.2 = true) → ∀ p, stk f st = some p → PthOk p
  | f, [], _, p, e => by cases f <;> cases e
  | 0, (q, d) :: r, h, p, e => by
    cases e
    exact (h _ List.mem_cons_self).1
  | f + 1, (q, d) :: r, h, p, e => by
    obtain ⟨h1, h2⟩ := h _ List.mem_cons_self
    have e' : (if dep q > 6 ∨ insB d = false then some q else stk f (kidsIn q 0 (partsOf d) ++ r)) = some p := e
    by_cases hc : dep q > 6 ∨ insB d = false
    · rw [if_pos hc] at e'
      cases e'
      exact h1
    · rw [if_neg hc] at e'
      have d6 : ¬ dep q > 6 := fun z => hc (.inl z)
      unfold dep at d6
      refine stk_path f _ (fun s hs => ?_) p e'
      rcases List.mem_append.mp hs with z | z
      · cases d with
        | tuple ds =>
          obtain ⟨l1, l2⟩ := He.ba (show (decide (ds.length ≤ 1000) && shortAll ds) = true from h2)
          have l := of_decide_eq_true l1
          exact ⟨kidsIn_path (ns := q) (i := 0) (ds := ds) (by omega) h1.2 (by omega) l2 s z, kidsIn_short l2 s z⟩
        | _ => cases z
      · exact h s (List.mem_cons_of_mem _ z)
theorem first_path {d : PyData} (h : short d = true) {p : List Int} (e : firstD d = some p) : PthOk p := by
  cases d with
  | list ds =>
    obtain ⟨l1, l2⟩ := He.ba (show (decide (ds.length ≤ 1000) && shortAll ds) = true from h)
    have l := of_decide_eq_true l1
    exact stk_path 200 _ (fun s hs => ⟨kids_path (ns := []) (by decide) (fun q hq => by cases hq) (by omega) s hs, kids_short l2 s hs⟩) p e
  | _ =>
    cases e
    exact ⟨by decide, fun q hq => by cases hq⟩
end K81

set_option Elab.async false
set_option linter.all false
set_option maxRecDepth 100000
set_option maxHeartbeats 4000000
set_option pp.maxSteps 900
namespace K81
open PySem PySem.Spec PyProof.Rows L2 Gu Ex RZ
theorem join2 {α β : Type} {G : Prop} (Pc : α → β → Prop) {R : α → β → Prop} (h1 : (∀ a b, Pc a b → R a b) → G) (h2 : ∀ a b, Pc a b → R a b) : G := h1 h2
def fpD : Option (List Int) → PyData
  | none => .none
  | some p => .tuple (p.map .int)
section
variable {K : PySem.W.Frag} {H : Hp}
theorem tq_two {L : Addr} {v v2 : V} {d d2 : PyData} (e : H L = some (.lst [v, v2])) (t1 : Tq K H v d 11 2200000) (t2 : Tq K H v2 d2 11 2200000) : Tq K H (.ref L) (.list [d, d2]) 12 5000000 := by
  refine ⟨.lst (SqL.of e) (.cons t1.dq (.cons t2.dq .nil)), ?_, ?_, ?_⟩
  · show (d.showable && (d2.showable && true)) = true
    rw [t1.sh, t2.sh]
    rfl
  · show max d.depth (max d2.depth 0) + 1 ≤ 12
    have := t1.dp
    have := t2.dp
    omega
  · have z := listText_len_le (PyData.shownAll [d, d2])
    have e : ((PyData.shownAll [d, d2]).map (·.length)).sum = d.shown.length + (d2.shown.length + 0) := rfl
    have e2 : (PyData.shownAll [d, d2]).length = 2 := rfl
    have := t1.ln
    have := t2.ln
    show (listText (PyData.shownAll [d, d2])).length ≤ 5000000
    omega
theorem path_all : ∀ {p : List Int}, (∀ q ∈ p, 0 ≤ q ∧ q ≤ 2000) → TqAll K H (p.map V.int) (p.map PyData.int) 0 41
  | [], _ => ⟨.nil, rfl, Nat.zero_le _, Nat.zero_le _⟩
  | q :: r, h => by
    have a := path_all (p := r) fun x hx => h x (List.mem_cons_of_mem _ hx)
    obtain ⟨l1, l2⟩ := h q List.mem_cons_self
    have t := tq_int (K := K) (H := H) (i := q) (by omega) (by omega)
    obtain ⟨a1, a2, a3, a4⟩ := a
    refine ⟨.cons t.dq a1, ?_, ?_, ?_⟩
    · show ((PyData.int q).showable && PyData.showableAll (r.map PyData.int)) = true
      rw [t.sh, a2]
      rfl
    · show max (PyData.int q).depth (PyData.depthAll (r.map PyData.int)) ≤ 0
      have := t.dp
      omega
    · show ((PyData.int q).shown.length + ((PyData.shownAll (r.map PyData.int)).map (·.length)).sum) + 2 * ((PyData.shownAll (r.map PyData.int)).length + 1) ≤ ((r.map V.int).length + 1) * (41 + 2)
      have := t.ln
      rw [Nat.add_mul, Nat.one_mul]
      omega
theorem tq_first {x : V} {r : Option (List Int)} (h : FirstR H x r) (hp : ∀ p, r = some p → PthOk p) : Tq K H x (fpD r) 11 2200000 := by
  cases r with
  | none =>
    obtain rfl : x = .non := h
    exact tq_non.mono (by decide) (by decide)
  | some p =>
    obtain ⟨pa, rfl, hpa⟩ := h
    obtain ⟨l, q⟩ := hp p rfl
    refine (path_all q).tup hpa |>.mono (by decide) ?_
    rw [List.length_map]
    omega
end
theorem list_form {H : Hp} {v : V} {d : PyData} (hv : Tr H v d) (h : dL d = true) : ∃ (l : Addr) (xs : List V) (ds : List PyData), v = .ref l ∧ d = .list ds ∧ H l = some (.lst xs) ∧ TrAll H xs ds := by
  cases hv with
  | lst e hA => exact ⟨_, _, _, rfl, rfl, e, hA⟩
  | _ => cases h
theorem first_odd {d : PyData} (h : dL d = false) : firstD d = some [] := by
  cases d <;> first | rfl | (cases h; done)
theorem FirstR.same {H H' : Hp} {x : V} {r : Option (List Int)} (h : FirstR H x r) (s : Same H H') : FirstR H' x r := by
  cases r with
  | none => exact h
  | some p =>
    obtain ⟨pa, e, hpa⟩ := h
    exact ⟨pa, e, s _ _ hpa⟩
theorem first_non {H : Hp} {x : V} {r : Option (List Int)} (h : FirstR H x r) : decide (x = V.non) = r.isNone := by
  cases r with
  | none =>
    obtain rfl : x = .non := h
    rfl
  | some p =>
    obtain ⟨pa, rfl, _⟩ := h
    rfl
section
variable {P : Program} {w : World} {K : PySem.W.Frag} {mg : Str → Option Value} {base : Heap} {f : Addr} {fd : FuncData}
def spJudged : Sp := fun vs H Q _ => ∃ (v : V) (d : PyData), vs = [v] ∧ Tr H v d ∧ short d = true ∧ d.showable = true ∧ d.depth ≤ 60 ∧ d.shown.length ≤ sizeLine ∧ ∀ H', Same H H' → Q (.bl true) H'
theorem sc__law_judged : FnScope ["_law_value", "_law_due", "_law_shown", "_law_told"] ["_law_value"] (defScope (top 39)) := ⟨rfl, rfl, rfl, by decide +kernel, rfl, by decide +kernel, by decide +kernel⟩
theorem ok_judged (T : Tx w K mg) (D_first_problem : Df P w K mg base 13 "first_problem" ["value"] spFirst) (D_is_program : Df P w K mg base 14 "is_program" ["value"] spProg) (D__law_walk : Df P w K mg base 72 "_law_walk" ["_law_body_here", "_law_path", "_law_depth_here", "_law_seen"] (spWalk 7))
    (F : FnP K "_law_judged" "_law_judged" (top 39) f fd) : FnG P w K mg base CX0 73 f fd ["_law_value"] spJudged := by
  refine okG F sc__law_judged (fun vs H Q E h => ?_) (fun cdv A outer s H vs Q E hr h => ⟨_, PSs.nox (pss_cons (ps_set (i := 1) sc__law_judged.nd rfl (by first | exact Or.inl rfl | exact Or.inr rfl) (pe_ifExp (pt_val (pe_callB call_isi (by rfl) T.n_isinstance (by decide +kernel) (pa_cons (pv 0) (pa_cons (pe_bltn (v := .ty "list") (by rfl) T.n_list (by decide +kernel) rfl) pa_nil)))) (pe_ix ix_tup (pcall D__law_walk hr.r (pa_cons (pv 0) (pa_cons (pe_tup pa_nil) (pa_cons pe_int (pa_cons pe_int pa_nil))))) pe_int (fun _ _ => rfl)) (pe_tup pa_nil))) (pss_cons (ps_set (i := 2) sc__law_judged.nd rfl (by first | exact Or.inl rfl | exact Or.inr rfl) (pe_callB (r := rReprQ K) (id := "repr") (call_reprQ hr T.sys) (by rfl) T.n_repr (by decide +kernel) (pa_cons (pv 0) pa_nil))) (pss_cons (ps_set (i := 3) sc__law_judged.nd rfl (by first | exact Or.inl rfl | exact Or.inr rfl) (pe_lst (pa_cons (pcall D_first_problem hr.r (pa_cons (pv 0) pa_nil)) (pa_cons (pcall D_is_program hr.r (pa_cons (pv 0) pa_nil)) pa_nil)))) (pss_one (ps_ret (pe_and (pe_cmpR op_eq (pe_callB (r := rReprQ K) (id := "repr") (call_reprQ hr T.sys) (by rfl) T.n_repr (by decide +kernel) (pa_cons (pv 3) pa_nil)) (pe_callB (r := rReprQ K) (id := "repr") (call_reprQ hr T.sys) (by rfl) T.n_repr (by decide +kernel) (pa_cons (pe_lst (pa_cons (pv 1) (pa_cons (pe_cmpR op_isN (pv 1) pe_non (nomark _)) pa_nil))) pa_nil)) (nomark _)) (pe_one (pe_cmpR op_eq (pe_callB (r := rReprQ K) (id := "repr") (call_reprQ hr T.sys) (by rfl) T.n_repr (by decide +kernel) (pa_cons (pv 0) pa_nil)) (pv 2) (nomark _))))))))), ?_⟩)
  · obtain ⟨v, d, rfl, _⟩ := h
    rfl
  · obtain ⟨v, d, rfl, hv, sh, sw, dp, ln, q⟩ := h
    obtain ⟨Ty, ty, _, _, _, _, k5⟩ := hv.ty (K := K)
    refine join2 (fun (x : V) (G : Hp) => Same H G ∧ FirstR G x (firstD d)) (R := ?R) (fun tail => ?main) ?tl
    case main =>
      refine ⟨_, rfl, _, _, _, _, _, rfl, .ty "list", ty, kit_ty k5, _, rfl, ?_⟩
      by_cases hL : dL d = true
      case pos =>
        obtain ⟨l, xs, ds, ev, ed, hl, hA⟩ := list_form hv hL
        refine ifT hL ⟨_, rfl, (by show 0 ≤ sizeLine; decide), fun p hp => ?_⟩
        have s1 := same_upd (o := .tup []) hp
        have dd : PyData.depthAll ds + 1 ≤ 60 := by rw [ed] at dp; exact dp
        refine ⟨6, l, p, xs, ds, [], 0, by decide, by decide, (by rw [ev]; rfl), s1 _ _ hl, hA.same s1, upd_same, by decide, by omega, fun t G s2 hres => ?_⟩
        obtain ⟨x, hx, fr⟩ := hres
        refine ⟨t, _, _, _, rfl, rfl, .inl (.inl hx), (show atI _ ((0 : Nat) : Int) = _ from atI_nat rfl), ?_⟩
        have fr2 : FirstR G x (firstD d) := by
          rw [ed, due_eq]
          exact fr
        exact tail x G ⟨s1.trans s2, fr2⟩
      case neg =>
        have hLf := eq_false_of_ne_true hL
        have fd0 := first_odd hLf
        refine ifF hLf ⟨(by show 0 ≤ sizeLine; decide), fun p hp => ?_⟩
        exact tail (.ref p) _ ⟨same_upd hp, by rw [fd0]; exact ⟨p, rfl, upd_same⟩⟩
    case tl =>
      rintro x G ⟨sG, fr⟩
      have hpth : ∀ p, firstD d = some p → PthOk p := fun p e => first_path sh e
      have tv : ∀ {G'}, Same H G' → Tq K G' v d 60 sizeLine := fun s' => ⟨(hv.same s').dq, sw, dp, ln⟩
      have t0 := tv sG
      refine ⟨_, rfl, v, d, rfl, t0.dq, sw, dp, ln, ?_⟩
      refine ⟨_, rfl, v, d, rfl, hv.same sG, sh, fun x1 G1 s1 f1 => ⟨_, rfl, v, d, rfl, hv.same (sG.trans s1), sh, fun G2 s2 => ⟨(by show 2 ≤ sizeLine; decide), fun L hL => ?_⟩⟩⟩
      have u3 := same_upd (o := .lst [x1, .bl (firstD d).isNone]) hL
      have t1 : Tq K (upd G2 L (.lst [x1, .bl (firstD d).isNone])) (.ref L) (.list [fpD (firstD d), .bool (firstD d).isNone]) 12 5000000 := tq_two upd_same (tq_first (f1.same (s2.trans u3)) hpth) ((tq_bl _).mono (by decide) (by decide))
      have s3 := sG.trans (s1.trans (s2.trans u3))
      have fr3 := fr.same (s1.trans (s2.trans u3))
      generalize (upd G2 L (.lst [x1, .bl (firstD d).isNone])) = G3 at *
      refine ⟨_, rfl, _, _, rfl, t1.dq, t1.sh, Nat.le_trans t1.dp (by decide), Nat.le_trans t1.ln (by decide), ?_⟩
      refine ⟨_, rfl, _, rfl, rfl, (by show 2 ≤ sizeLine; decide), fun L2 hL2 => ?_⟩
      rw [first_non fr3]
      have u4 := same_upd (o := .lst [x, .bl (firstD d).isNone]) hL2
      have t2 : Tq K (upd G3 L2 (.lst [x, .bl (firstD d).isNone])) (.ref L2) (.list [fpD (firstD d), .bool (firstD d).isNone]) 12 5000000 := tq_two upd_same (tq_first (fr3.same u4) hpth) ((tq_bl _).mono (by decide) (by decide))
      refine ⟨_, _, rfl, t2.dq, t2.sh, Nat.le_trans t2.dp (by decide), Nat.le_trans t2.ln (by decide), rfl, ?_⟩
      have e : decide (V.str (PyData.list [fpD (firstD d), .bool (firstD d).isNone]).shown = V.str (PyData.list [fpD (firstD d), .bool (firstD d).isNone]).shown) = true := decide_eq_true rfl
      have s4 := s3.trans u4
      have t5 := tv s4
      refine ⟨true, congrArg V.bl e, iteT ⟨_, rfl, v, d, rfl, t5.dq, sw, dp, ln, _, rfl, rfl, ?_⟩⟩
      have e2 : decide (V.str d.shown = V.str d.shown) = true := decide_eq_true rfl
      rw [e2]
      exact q _ s4
end
end K81

set_option Elab.async false
set_option linter.all false
set_option maxRecDepth 100000
set_option maxHeartbeats 4000000
set_option pp.maxSteps 900
namespace K81
open PySem PySem.Spec PyProof.Rows L2 Gu Ex RZ
/-- what is not r and not in X stays -/
def Ag (r : Addr) (X : Addr → Prop) (H G : Hp) : Prop := ∀ b o, b ≠ r → ¬ X b → H b = some o → G b = some o
theorem Stp.ag {r : Addr} {X : Addr → Prop} {H G : Hp} (s : Stp r H G) : Ag r X H G := fun b o n _ e => s.2 b o n e
theorem Ag.trans {r : Addr} {X : Addr → Prop} {H G M : Hp} (a : Ag r X H G) (b : Ag r X G M) : Ag r X H M := fun c o n x e => b c o n x (a c o n x e)
theorem Ag.refl {r : Addr} {X : Addr → Prop} {H : Hp} : Ag r X H H := fun _ _ _ _ e => e
/-- X tells of objects that stand -/
def Xt (X : Addr → Prop) (H : Hp) : Prop := ∀ b, X b → H b ≠ none
theorem Xt.mono {X : Addr → Prop} {r : Addr} {H G : Hp} (h : Xt X H) (s : Stp r H G) : Xt X G := fun b x e => h b x (s.free e)
theorem nox {X : Addr → Prop} {r p : Addr} {H G : Hp} (h : Xt X H) (s : Stp r H G) (hp : G p = none) : ¬ X p := fun x => h p x (s.free hp)
/-- what v stands for through all draws, and through all changes of X -/
def Vd (r : Addr) (X : Addr → Prop) (H : Hp) (v : V) (d : PyData) : Prop := ∀ G, Ag r X H G → Tr G v d
def VdAll (r : Addr) (X : Addr → Prop) (H : Hp) (vs : List V) (ds : List PyData) : Prop := ∀ G, Ag r X H G → TrAll G vs ds
section
variable {r : Addr} {X : Addr → Prop} {H H' : Hp}
theorem Vd.agree {v : V} {d : PyData} (h : Vd r X H v d) (s : Ag r X H H') : Vd r X H' v d := fun G g => h G (s.trans g)
theorem Vd.mono {v : V} {d : PyData} (h : Vd r X H v d) (s : Stp r H H') : Vd r X H' v d := h.agree s.ag
theorem VdAll.nil : VdAll r X H [] [] := fun _ _ => .nil
theorem VdAll.cons {v : V} {vs : List V} {d : PyData} {ds : List PyData} (h : Vd r X H v d) (t : VdAll r X H vs ds) : VdAll r X H (v :: vs) (d :: ds) := fun G g => .cons (h G g) (t G g)
theorem Vd.lst {p : Addr} {vs : List V} {ds : List PyData} (n : p ≠ r) (x : ¬ X p) (e : H p = some (.lst vs)) (h : VdAll r X H vs ds) : Vd r X H (.ref p) (.list ds) := fun G g => .lst (g _ _ n x e) (h G g)
theorem Vd.tup {p : Addr} {vs : List V} {ds : List PyData} (n : p ≠ r) (x : ¬ X p) (e : H p = some (.tup vs)) (h : VdAll r X H vs ds) : Vd r X H (.ref p) (.tuple ds) := fun G g => .tup (g _ _ n x e) (h G g)
theorem Vd.dct {p : Addr} (n : p ≠ r) (x : ¬ X p) (e : H p = some (.dK [])) : Vd r X H (.ref p) (.dict []) := fun G g => .dct (g _ _ n x e)
end
/-- only new objects -/
theorem stp_new {r p : Addr} {H : Hp} {o : HO} (h : Rng H r) (hp : H p = none) : Stp r H (upd H p o) := (Stp.refl h).new hp
theorem Vd.of {r : Addr} {X : Addr → Prop} {H : Hp} {v : V} {d : PyData} (h : ∀ G : Hp, Tr G v d) : Vd r X H v d := fun G _ => h G
/-! ### bounds: the depth, a weight (no less than the shown text), the greatest length -/
mutual
def wt : PyData → Nat
  | .list ds => 4 + wtAll ds
  | .tuple ds => 4 + wtAll ds
  | .none => (PyData.shown .none).length
  | .bool b => (PyData.shown (.bool b)).length
  | .int i => (PyData.shown (.int i)).length
  | .str x => (PyData.shown (.str x)).length
  | .dict k => (PyData.shown (.dict k)).length
def wtAll : List PyData → Nat
  | [] => 0
  | d :: ds => wt d + 2 + wtAll ds
end
mutual
def lensB (l : Nat) : PyData → Bool
  | .list ds => decide (ds.length ≤ l) && lensAllB l ds
  | .tuple ds => decide (ds.length ≤ l) && lensAllB l ds
  | _ => true
def lensAllB (l : Nat) : List PyData → Bool
  | [] => true
  | d :: ds => lensB l d && lensAllB l ds
end
mutual
theorem shown_wt : ∀ d : PyData, d.shown.length ≤ wt d
  | .list ds => by
    have h := shown_wtAll ds
    have e := listText_len_le (PyData.shownAll ds)
    show (listText (PyData.shownAll ds)).length ≤ 4 + wtAll ds
    omega
  | .tuple ds => by
    have h := shown_wtAll ds
    have e := tupleText_len_le (PyData.shownAll ds)
    show (tupleText (PyData.shownAll ds)).length ≤ 4 + wtAll ds
    omega
  | .none => Nat.le_refl _
  | .bool _ => Nat.le_refl _
  | .int _ => Nat.le_refl _
  | .str _ => Nat.le_refl _
  | .dict _ => Nat.le_refl _
theorem shown_wtAll : ∀ ds : List PyData, ((PyData.shownAll ds).map (·.length)).sum + 2 * (PyData.shownAll ds).length ≤ wtAll ds
  | [] => Nat.le_refl _
  | d :: ds => by
    have h1 := shown_wt d
    have h2 := shown_wtAll ds
    show (d.shown.length + ((PyData.shownAll ds).map (·.length)).sum) + 2 * ((PyData.shownAll ds).length + 1) ≤ wt d + 2 + wtAll ds
    omega
end
mutual
theorem lensB_mono {l l' : Nat} (h : l ≤ l') : ∀ d : PyData, lensB l d = true → lensB l' d = true
  | .list ds, e => by
    obtain ⟨h1, h2⟩ := He.ba (show (decide (ds.length ≤ l) && lensAllB l ds) = true from e)
    show (decide (ds.length ≤ l') && lensAllB l' ds) = true
    rw [decide_eq_true (Nat.le_trans (of_decide_eq_true h1) h), lensAllB_mono h ds h2]
    rfl
  | .tuple ds, e => by
    obtain ⟨h1, h2⟩ := He.ba (show (decide (ds.length ≤ l) && lensAllB l ds) = true from e)
    show (decide (ds.length ≤ l') && lensAllB l' ds) = true
    rw [decide_eq_true (Nat.le_trans (of_decide_eq_true h1) h), lensAllB_mono h ds h2]
    rfl
  | .none, _ => rfl
  | .bool _, _ => rfl
  | .int _, _ => rfl
  | .str _, _ => rfl
  | .dict _, _ => rfl
theorem lensAllB_mono {l l' : Nat} (h : l ≤ l') : ∀ ds : List PyData, lensAllB l ds = true → lensAllB l' ds = true
  | [], _ => rfl
  | d :: ds, e => by
    obtain ⟨h1, h2⟩ := He.ba (show (lensB l d && lensAllB l ds) = true from e)
    show (lensB l' d && lensAllB l' ds) = true
    rw [lensB_mono h d h1, lensAllB_mono h ds h2]
    rfl
end
mutual
theorem lens_short : ∀ d : PyData, lensB 1000 d = true → short d = true
  | .list ds, e => by
    obtain ⟨h1, h2⟩ := He.ba (show (decide (ds.length ≤ 1000) && lensAllB 1000 ds) = true from e)
    show (decide (ds.length ≤ 1000) && shortAll ds) = true
    rw [h1, lens_shortAll ds h2]
    rfl
  | .tuple ds, e => by
    obtain ⟨h1, h2⟩ := He.ba (show (decide (ds.length ≤ 1000) && lensAllB 1000 ds) = true from e)
    show (decide (ds.length ≤ 1000) && shortAll ds) = true
    rw [h1, lens_shortAll ds h2]
    rfl
  | .none, _ => rfl
  | .bool _, _ => rfl
  | .int _, _ => rfl
  | .str _, _ => rfl
  | .dict _, _ => rfl
theorem lens_shortAll : ∀ ds : List PyData, lensAllB 1000 ds = true → shortAll ds = true
  | [], _ => rfl
  | d :: ds, e => by
    obtain ⟨h1, h2⟩ := He.ba (show (lensB 1000 d && lensAllB 1000 ds) = true from e)
    show (short d && shortAll ds) = true
    rw [lens_short d h1, lens_shortAll ds h2]
    rfl
end
structure Bd (n m l : Nat) (d : PyData) : Prop where
  sw : d.showable = true
  dp : d.depth ≤ n
  wt : wt d ≤ m
  ln : lensB l d = true
structure BdAll (n m l : Nat) (ds : List PyData) : Prop where
  sw : PyData.showableAll ds = true
  dp : PyData.depthAll ds ≤ n
  wt : wtAll ds ≤ m
  ln : lensAllB l ds = true
theorem Bd.mono {n m l n' m' l' : Nat} {d : PyData} (h : Bd n m l d) (h1 : n ≤ n') (h2 : m ≤ m') (h3 : l ≤ l') : Bd n' m' l' d := ⟨h.sw, Nat.le_trans h.dp h1, Nat.le_trans h.wt h2, lensB_mono h3 d h.ln⟩
theorem BdAll.mono {n m l n' m' l' : Nat} {ds : List PyData} (h : BdAll n m l ds) (h1 : n ≤ n') (h2 : m ≤ m') (h3 : l ≤ l') : BdAll n' m' l' ds := ⟨h.sw, Nat.le_trans h.dp h1, Nat.le_trans h.wt h2, lensAllB_mono h3 ds h.ln⟩
theorem BdAll.nil {n m l : Nat} : BdAll n m l [] := ⟨rfl, Nat.zero_le _, Nat.zero_le _, rfl⟩
theorem BdAll.cons {n m m1 m2 l : Nat} {d : PyData} {ds : List PyData} (h : Bd n m1 l d) (t : BdAll n m2 l ds) (hm : m1 + 2 + m2 ≤ m) : BdAll n m l (d :: ds) := by
  refine ⟨?_, ?_, ?_, ?_⟩
  · show (d.showable && PyData.showableAll ds) = true
    rw [h.sw, t.sw]
    rfl
  · show max d.depth (PyData.depthAll ds) ≤ n
    have := h.dp
    have := t.dp
    omega
  · show K81.wt d + 2 + wtAll ds ≤ m
    have := h.wt
    have := t.wt
    omega
  · show (lensB l d && lensAllB l ds) = true
    rw [h.ln, t.ln]
    rfl
theorem BdAll.inv {n m l : Nat} {d : PyData} {ds : List PyData} (t : BdAll n m l (d :: ds)) : Bd n (K81.wt d) l d ∧ BdAll n (wtAll ds) l ds ∧ K81.wt d + 2 + wtAll ds ≤ m := by
  obtain ⟨s1, s2⟩ := He.ba (show (d.showable && PyData.showableAll ds) = true from t.sw)
  obtain ⟨l1, l2⟩ := He.ba (show (lensB l d && lensAllB l ds) = true from t.ln)
  have hd : max d.depth (PyData.depthAll ds) ≤ n := t.dp
  exact ⟨⟨s1, by omega, Nat.le_refl _, l1⟩, ⟨s2, by omega, Nat.le_refl _, l2⟩, t.wt⟩
theorem wtAll_app : ∀ (a b : List PyData), wtAll (a ++ b) = wtAll a + wtAll b
  | [], b => (Nat.zero_add _).symm
  | d :: a, b => by
    show K81.wt d + 2 + wtAll (a ++ b) = K81.wt d + 2 + wtAll a + wtAll b
    rw [wtAll_app a b]
    omega
theorem BdAll.app {n m m1 m2 l : Nat} : ∀ {a b : List PyData}, BdAll n m1 l a → BdAll n m2 l b → m1 + m2 ≤ m → BdAll n m l (a ++ b)
  | [], _, _, h, hm => h.mono (Nat.le_refl _) (by omega) (Nat.le_refl _)
  | d :: a, b, h1, h2, hm => by
    obtain ⟨x, y, z⟩ := h1.inv
    exact .cons x (y.app h2 (Nat.le_refl _)) (by omega)
theorem BdAll.left {n m l : Nat} : ∀ {a b : List PyData}, BdAll n m l (a ++ b) → BdAll n (wtAll a) l a
  | [], _, _ => .nil
  | d :: a, b, h => by
    obtain ⟨x, y, z⟩ := BdAll.inv (d := d) (ds := a ++ b) h
    exact .cons x y.left (Nat.le_refl _)
theorem BdAll.right {n m l : Nat} : ∀ {a b : List PyData}, BdAll n m l (a ++ b) → BdAll n (wtAll b) l b
  | [], _, h => ⟨h.sw, h.dp, Nat.le_refl _, h.ln⟩
  | d :: a, b, h => by
    obtain ⟨x, y, z⟩ := BdAll.inv (d := d) (ds := a ++ b) h
    exact y.right
theorem BdAll.self {n m l : Nat} {a : List PyData} (h : BdAll n m l a) : BdAll n (wtAll a) l a := ⟨h.sw, h.dp, Nat.le_refl _, h.ln⟩
theorem BdAll.take {n m l : Nat} {a : List PyData} (h : BdAll n m l a) (i : Nat) : BdAll n (wtAll (a.take i)) l (a.take i) := BdAll.left (b := a.drop i) (by rw [List.take_append_drop]; exact h)
theorem BdAll.drop {n m l : Nat} {a : List PyData} (h : BdAll n m l a) (i : Nat) : BdAll n (wtAll (a.drop i)) l (a.drop i) := BdAll.right (a := a.take i) (by rw [List.take_append_drop]; exact h)
theorem wt_cut (a : List PyData) (i : Nat) : wtAll (a.take i) + wtAll (a.drop i) = wtAll a := by
  rw [← wtAll_app, List.take_append_drop]
theorem wt_at {a : List PyData} {i : Nat} {d : PyData} (h : a[i]? = some d) : wtAll (a.take i) + (K81.wt d + 2) + wtAll (a.drop (i + 1)) = wtAll a := by
  obtain ⟨hi, e⟩ := List.getElem?_eq_some_iff.mp h
  have z : a.drop i = d :: a.drop (i + 1) := by rw [List.drop_eq_getElem_cons hi, e]
  have y := wt_cut a i
  rw [z] at y
  have x : wtAll (d :: a.drop (i + 1)) = K81.wt d + 2 + wtAll (a.drop (i + 1)) := rfl
  omega
theorem BdAll.get {n m l : Nat} {a : List PyData} {i : Nat} {d : PyData} (h : BdAll n m l a) (e : a[i]? = some d) : Bd n (K81.wt d) l d := by
  obtain ⟨hi, e'⟩ := List.getElem?_eq_some_iff.mp e
  have z : a.drop i = d :: a.drop (i + 1) := by rw [List.drop_eq_getElem_cons hi, e']
  have y := h.drop i
  rw [z] at y
  exact (BdAll.inv y).1
theorem BdAll.lst {n m l : Nat} {ds : List PyData} (h : BdAll n m l ds) (hl : ds.length ≤ l) : Bd (n + 1) (4 + m) l (.list ds) := by
  refine ⟨h.sw, ?_, ?_, ?_⟩
  · show PyData.depthAll ds + 1 ≤ n + 1
    have := h.dp
    omega
  · show 4 + wtAll ds ≤ 4 + m
    have := h.wt
    omega
  · show (decide (ds.length ≤ l) && lensAllB l ds) = true
    rw [decide_eq_true hl, h.ln]
    rfl
theorem BdAll.tup {n m l : Nat} {ds : List PyData} (h : BdAll n m l ds) (hl : ds.length ≤ l) : Bd (n + 1) (4 + m) l (.tuple ds) := by
  refine ⟨h.sw, ?_, ?_, ?_⟩
  · show PyData.depthAll ds + 1 ≤ n + 1
    have := h.dp
    omega
  · show 4 + wtAll ds ≤ 4 + m
    have := h.wt
    omega
  · show (decide (ds.length ≤ l) && lensAllB l ds) = true
    rw [decide_eq_true hl, h.ln]
    rfl
theorem Bd.ofT {n m l : Nat} {ds : List PyData} (h : Bd n m l (.tuple ds)) : ∃ n', n = n' + 1 ∧ BdAll n' (wtAll ds) l ds ∧ ds.length ≤ l ∧ 4 + wtAll ds ≤ m := by
  obtain ⟨l1, l2⟩ := He.ba (show (decide (ds.length ≤ l) && lensAllB l ds) = true from h.ln)
  have hd : PyData.depthAll ds + 1 ≤ n := h.dp
  exact ⟨n - 1, by omega, ⟨h.sw, by omega, Nat.le_refl _, l2⟩, of_decide_eq_true l1, h.wt⟩
theorem Bd.ofL {n m l : Nat} {ds : List PyData} (h : Bd n m l (.list ds)) : ∃ n', n = n' + 1 ∧ BdAll n' (wtAll ds) l ds ∧ ds.length ≤ l ∧ 4 + wtAll ds ≤ m := by
  obtain ⟨l1, l2⟩ := He.ba (show (decide (ds.length ≤ l) && lensAllB l ds) = true from h.ln)
  have hd : PyData.depthAll ds + 1 ≤ n := h.dp
  exact ⟨n - 1, by omega, ⟨h.sw, by omega, Nat.le_refl _, l2⟩, of_decide_eq_true l1, h.wt⟩
theorem BdAll.rep {n m l : Nat} {d : PyData} (h : Bd n m l d) : ∀ k : Nat, BdAll n (k * (m + 2)) l (List.replicate k d)
  | 0 => .nil
  | k + 1 => .cons h (BdAll.rep h k) (by rw [Nat.add_mul]; omega)
/-- a small value by its computed bounds -/
theorem bd {n m l : Nat} {d : PyData} (h : (d.showable && (decide (d.depth ≤ n) && (decide (K81.wt d ≤ m) && lensB l d))) = true) : Bd n m l d := by
  obtain ⟨h1, h⟩ := He.ba h
  obtain ⟨h2, h⟩ := He.ba h
  obtain ⟨h3, h4⟩ := He.ba h
  exact ⟨h1, of_decide_eq_true h2, of_decide_eq_true h3, h4⟩
/-! ### lists of values -/
theorem TrAll.app {H : Hp} : ∀ {a b : List V} {c e : List PyData}, TrAll H a c → TrAll H b e → TrAll H (a ++ b) (c ++ e)
  | _, _, _, _, .nil, h => h
  | _, _, _, _, .cons x y, h => .cons x (TrAll.app y h)
theorem TrAll.take {H : Hp} : ∀ {a : List V} {c : List PyData} (i : Nat), TrAll H a c → TrAll H (a.take i) (c.take i)
  | _, _, 0, _ => .nil
  | _, _, _ + 1, .nil => .nil
  | _, _, i + 1, .cons x y => .cons x (TrAll.take i y)
theorem TrAll.drop {H : Hp} : ∀ {a : List V} {c : List PyData} (i : Nat), TrAll H a c → TrAll H (a.drop i) (c.drop i)
  | _, _, 0, h => h
  | _, _, _ + 1, .nil => .nil
  | _, _, i + 1, .cons x y => TrAll.drop i y
theorem TrAll.rep {H : Hp} {v : V} {d : PyData} (h : Tr H v d) : ∀ k : Nat, TrAll H (List.replicate k v) (List.replicate k d)
  | 0 => .nil
  | k + 1 => .cons h (TrAll.rep h k)
section
variable {r : Addr} {X : Addr → Prop} {H H' : Hp}
theorem VdAll.mono {vs : List V} {ds : List PyData} (h : VdAll r X H vs ds) (s : Stp r H H') : VdAll r X H' vs ds := fun G g => h G (s.ag.trans g)
theorem VdAll.agree {vs : List V} {ds : List PyData} (h : VdAll r X H vs ds) (s : Ag r X H H') : VdAll r X H' vs ds := fun G g => h G (s.trans g)
theorem VdAll.app {a b : List V} {c e : List PyData} (h : VdAll r X H a c) (t : VdAll r X H b e) : VdAll r X H (a ++ b) (c ++ e) := fun G g => (h G g).app (t G g)
theorem VdAll.take {a : List V} {c : List PyData} (h : VdAll r X H a c) (i : Nat) : VdAll r X H (a.take i) (c.take i) := fun G g => (h G g).take i
theorem VdAll.drop {a : List V} {c : List PyData} (h : VdAll r X H a c) (i : Nat) : VdAll r X H (a.drop i) (c.drop i) := fun G g => (h G g).drop i
theorem VdAll.rep {v : V} {d : PyData} (h : Vd r X H v d) (k : Nat) : VdAll r X H (List.replicate k v) (List.replicate k d) := fun G g => TrAll.rep (h G g) k
theorem VdAll.len {a : List V} {c : List PyData} (h : VdAll r X H a c) : a.length = c.length := (h H Ag.refl).len
theorem VdAll.get {a : List V} {c : List PyData} (h : VdAll r X H a c) {i : Nat} {d : PyData} (e : c[i]? = some d) : ∃ v, a[i]? = some v ∧ Vd r X H v d := by
  obtain ⟨v, hv, _⟩ := (h H Ag.refl).get e
  refine ⟨v, hv, fun G g => ?_⟩
  obtain ⟨v', hv', t⟩ := (h G g).get e
  rw [hv] at hv'
  cases hv'
  exact t
theorem Vd.wider {X2 : Addr → Prop} {v : V} {d : PyData} (h : Vd r X2 H v d) (hX : ∀ b, X b → X2 b) : Vd r X H v d := fun G g => h G fun b o n x e => g b o n (fun z => x (hX b z)) e
theorem Vd.parts {t : Addr} {ds : List PyData} (h : Vd r X H (.ref t) (.tuple ds)) (hR : Rng H r) : ∃ xs, H t = some (.tup xs) ∧ t ≠ r ∧ ¬ X t ∧ VdAll r X H xs ds := by
  have h0 := h H Ag.refl
  cases h0 with
  | @tup _ xs _ e hA =>
    have n : t ≠ r := fun z => by
      obtain ⟨a, b, e2, _⟩ := hR
      rw [z, e2] at e
      cases e
    have nx : ¬ X t := fun x => by
      have h2 := h (upd H t (.dK [])) fun b o _ nb e3 => by
        rw [upd_ne (fun (z : b = t) => nb (by rw [z]; exact x))]
        exact e3
      cases h2 with
      | tup e4 _ =>
        rw [upd_same] at e4
        cases e4
    refine ⟨xs, e, n, nx, fun G g => ?_⟩
    have h1 := h G g
    have e1 := g _ _ n nx e
    cases h1 with
    | @tup _ xs' _ e' hA' =>
      rw [e1] at e'
      cases e'
      exact hA'
theorem Vd.partsL {t : Addr} {ds : List PyData} (h : Vd r X H (.ref t) (.list ds)) : ∃ xs, H t = some (.lst xs) ∧ t ≠ r ∧ ¬ X t ∧ VdAll r X H xs ds := by
  have h0 := h H Ag.refl
  cases h0 with
  | @lst _ xs _ e hA =>
    have n : t ≠ r := fun z => by
      have h2 := h (upd H t (.dK [])) fun b o nb _ e3 => by
        rw [upd_ne (fun (y : b = t) => nb (y.trans z))]
        exact e3
      cases h2 with
      | lst e4 _ =>
        rw [upd_same] at e4
        cases e4
    have nx : ¬ X t := fun x => by
      have h2 := h (upd H t (.dK [])) fun b o _ nb e3 => by
        rw [upd_ne (fun (z : b = t) => nb (by rw [z]; exact x))]
        exact e3
      cases h2 with
      | lst e4 _ =>
        rw [upd_same] at e4
        cases e4
    refine ⟨xs, e, n, nx, fun G g => ?_⟩
    have h1 := h G g
    have e1 := g _ _ n nx e
    cases h1 with
    | @lst _ xs' _ e' hA' =>
      rw [e1] at e'
      cases e'
      exact hA'
theorem Vd.int (i : Int) : Vd r X H (.int i) (.int i) := fun _ _ => .int i
theorem Vd.str {x : Str} (h : x.length ≤ 60 ∧ ∀ c ∈ x.cps.toList, c < 1114112) : Vd r X H (.str x) (.str x) := fun _ _ => .str x h
theorem Vd.lit (z : String) (h : (Str.ofString z).length ≤ 60) : Vd r X H (.str (Str.ofString z)) (.str (Str.ofString z)) := Vd.str ⟨h, fun c hc => code_lt hc⟩
end
end K81

set_option Elab.async false
set_option linter.all false
set_option maxRecDepth 100000
set_option maxHeartbeats 4000000
set_option pp.maxSteps 900
namespace K81
open PySem PySem.Spec PyProof.Rows L2 Gu Ex RZ
section
variable {P : Program} {w : World} {K : PySem.W.Frag} {mg : Str → Option Value} {base : Heap} {f : Addr} {fd : FuncData}
def spOdd : Sp := fun vs H Q _ => ∃ (r : Addr) (X : Addr → Prop), vs = [.ref r] ∧ Xt X H ∧ Rng H r ∧ ∀ v d H', Vd r X H' v d → Bd 3 100 3 d → Stp r H H' → Q v H'
theorem sc__law_odd : FnScope ["_law_rng_here", "_law_some"] ["_law_rng_here"] (defScope (top 33)) := ⟨rfl, rfl, rfl, by decide +kernel, rfl, by decide +kernel, by decide +kernel⟩
theorem ok_odd (T : Tx w K mg) (D__law_choice : Df P w K mg base 2 "_law_choice" ["_law_rng_here", "_law_options"] spChoice) (F : FnP K "_law_odd" "_law_odd" (top 33) f fd) : FnOk P w K mg base CX0 3 f fd ["_law_rng_here"] spOdd := by
  refine F.ok sc__law_odd (fun vs H Q E h => ?_) (fun cdv A outer s H0 vs Q E hr h => ⟨_, PSs.nox (pss_cons (ps_set (i := 1) sc__law_odd.nd rfl (by first | exact Or.inl rfl | exact Or.inr rfl) (pe_lst (pa_cons pe_non (pa_cons pe_bl (pa_cons pe_int (pa_cons (pe_un un_neg pe_int) (pa_cons (pe_op op_pow pe_int pe_int) (pa_cons (pe_op op_add (pe_op op_pow pe_int pe_int) pe_int) (pa_cons pe_str (pa_cons pe_str (pa_cons pe_str (pa_cons pe_str (pa_cons (pe_tup pa_nil) (pa_cons (pe_lst pa_nil) (pa_cons pe_dnewK (pa_cons (pe_tup (pa_cons pe_str (pa_cons pe_int pa_nil))) (pa_cons (pe_lst (pa_cons pe_str (pa_cons pe_int pa_nil))) pa_nil))))))))))))))))) (pss_one (ps_ret (pcall D__law_choice hr (pa_cons (pv 0) (pa_cons (pe_op op_cat (pv 1) (pe_lst (pa_cons (pe_tup (pa_cons pe_str (pa_cons pe_int (pa_cons pe_int pa_nil)))) (pa_cons (pe_tup (pa_cons pe_str (pa_cons pe_int (pa_cons pe_int pa_nil)))) (pa_cons (pe_tup (pa_cons pe_str (pa_cons pe_int pa_nil))) (pa_cons (pe_lst (pa_cons (pe_tup (pa_cons pe_str (pa_cons pe_int pa_nil))) pa_nil)) (pa_cons (pe_lst (pa_cons (pe_tup (pa_cons pe_str pa_nil)) pa_nil)) (pa_cons (pe_lst (pa_cons pe_non pa_nil)) pa_nil)))))))) pa_nil)))))), ?_⟩)
  · obtain ⟨r, _, rfl, _⟩ := h
    rfl
  · obtain ⟨r, X, rfl, hX, hR, q⟩ := h
    have s0 := Stp.refl hR
    have pw : CPow 10 12 := ⟨by decide, by decide, by decide⟩
    refine ⟨_, rfl, _, _, rfl, rfl, pw, _, _, rfl, rfl, pw, _, _, rfl, rfl, (by show 0 ≤ sizeLine; decide), fun p1 hp1 => ?_⟩
    have n1 : p1 ≠ r := (s0.1.ne hp1).symm
    have t1 := stp_new (o := (.tup [] : HO)) s0.1 hp1
    have s1 := s0.trans t1
    have h1 : (upd H0 p1 (.tup [])) p1 = some (.tup []) := upd_same
    have e1 : Vd r X (upd H0 p1 (.tup [])) (.ref p1) (.tuple []) := Vd.tup n1 (nox hX s0 hp1) h1 .nil
    generalize (upd H0 p1 (.tup [])) = H1 at *
    refine ⟨(by show 0 ≤ sizeLine; decide), fun p2 hp2 => ?_⟩
    have n2 : p2 ≠ r := (s1.1.ne hp2).symm
    have t2 := stp_new (o := (.lst [] : HO)) s1.1 hp2
    have s2 := s1.trans t2
    have h2 : (upd H1 p2 (.lst [])) p2 = some (.lst []) := upd_same
    have e2 : Vd r X (upd H1 p2 (.lst [])) (.ref p2) (.list []) := Vd.lst n2 (nox hX s1 hp2) h2 .nil
    generalize (upd H1 p2 (.lst [])) = H2 at *
    intro p3 hp3
    have n3 : p3 ≠ r := (s2.1.ne hp3).symm
    have t3 := stp_new (o := (.dK [] : HO)) s2.1 hp3
    have s3 := s2.trans t3
    have h3 : (upd H2 p3 (.dK [])) p3 = some (.dK []) := upd_same
    have e3 : Vd r X (upd H2 p3 (.dK [])) (.ref p3) (.dict []) := Vd.dct n3 (nox hX s2 hp3) h3
    generalize (upd H2 p3 (.dK [])) = H3 at *
    refine ⟨(by show 2 ≤ sizeLine; decide), fun p4 hp4 => ?_⟩
    have n4 : p4 ≠ r := (s3.1.ne hp4).symm
    have t4 := stp_new (o := (.tup [.str "add", .int 1] : HO)) s3.1 hp4
    have s4 := s3.trans t4
    have h4 : (upd H3 p4 (.tup [.str "add", .int 1])) p4 = some (.tup [.str "add", .int 1]) := upd_same
    have e4 : Vd r X (upd H3 p4 (.tup [.str "add", .int 1])) (.ref p4) (.tuple [.str "add", .int 1]) := Vd.tup n4 (nox hX s3 hp4) h4 (.cons (fun _ _ => .str _ ⟨by decide, fun c hc => code_lt hc⟩) (.cons (fun _ _ => .int _) .nil))
    generalize (upd H3 p4 (.tup [.str "add", .int 1])) = H4 at *
    refine ⟨(by show 2 ≤ sizeLine; decide), fun p5 hp5 => ?_⟩
    have n5 : p5 ≠ r := (s4.1.ne hp5).symm
    have t5 := stp_new (o := (.lst [.str "out", .int 1] : HO)) s4.1 hp5
    have s5 := s4.trans t5
    have h5 : (upd H4 p5 (.lst [.str "out", .int 1])) p5 = some (.lst [.str "out", .int 1]) := upd_same
    have e5 : Vd r X (upd H4 p5 (.lst [.str "out", .int 1])) (.ref p5) (.list [.str "out", .int 1]) := Vd.lst n5 (nox hX s4 hp5) h5 (.cons (fun _ _ => .str _ ⟨by decide, fun c hc => code_lt hc⟩) (.cons (fun _ _ => .int _) .nil))
    generalize (upd H4 p5 (.lst [.str "out", .int 1])) = H5 at *
    refine ⟨(by show 15 ≤ sizeLine; decide), fun p6 hp6 => ?_⟩
    have n6 : p6 ≠ r := (s5.1.ne hp6).symm
    have t6 := stp_new (o := (.lst [.non, .bl true, .int 0, .int (-1), .int (10 ^ Int.toNat 12), .int (10 ^ Int.toNat 12 + 1), .str "", .str "A", .str "x", .str "ninechars", .ref p1, .ref p2, .ref p3, .ref p4, .ref p5] : HO)) s5.1 hp6
    have s6 := s5.trans t6
    have h6 : (upd H5 p6 (.lst [.non, .bl true, .int 0, .int (-1), .int (10 ^ Int.toNat 12), .int (10 ^ Int.toNat 12 + 1), .str "", .str "A", .str "x", .str "ninechars", .ref p1, .ref p2, .ref p3, .ref p4, .ref p5])) p6 = some (.lst [.non, .bl true, .int 0, .int (-1), .int (10 ^ Int.toNat 12), .int (10 ^ Int.toNat 12 + 1), .str "", .str "A", .str "x", .str "ninechars", .ref p1, .ref p2, .ref p3, .ref p4, .ref p5]) := upd_same
    generalize (upd H5 p6 (.lst [.non, .bl true, .int 0, .int (-1), .int (10 ^ Int.toNat 12), .int (10 ^ Int.toNat 12 + 1), .str "", .str "A", .str "x", .str "ninechars", .ref p1, .ref p2, .ref p3, .ref p4, .ref p5])) = H6 at *
    refine ⟨_, rfl, _, rfl, ?_⟩
    refine ⟨(by show 3 ≤ sizeLine; decide), fun p7 hp7 => ?_⟩
    have n7 : p7 ≠ r := (s6.1.ne hp7).symm
    have t7 := stp_new (o := (.tup [.str "add", .int 1, .int 2] : HO)) s6.1 hp7
    have s7 := s6.trans t7
    have h7 : (upd H6 p7 (.tup [.str "add", .int 1, .int 2])) p7 = some (.tup [.str "add", .int 1, .int 2]) := upd_same
    have e7 : Vd r X (upd H6 p7 (.tup [.str "add", .int 1, .int 2])) (.ref p7) (.tuple [.str "add", .int 1, .int 2]) := Vd.tup n7 (nox hX s6 hp7) h7 (.cons (fun _ _ => .str _ ⟨by decide, fun c hc => code_lt hc⟩) (.cons (fun _ _ => .int _) (.cons (fun _ _ => .int _) .nil)))
    generalize (upd H6 p7 (.tup [.str "add", .int 1, .int 2])) = H7 at *
    refine ⟨(by show 3 ≤ sizeLine; decide), fun p8 hp8 => ?_⟩
    have n8 : p8 ≠ r := (s7.1.ne hp8).symm
    have t8 := stp_new (o := (.tup [.str "mul", .int 1, .int 2] : HO)) s7.1 hp8
    have s8 := s7.trans t8
    have h8 : (upd H7 p8 (.tup [.str "mul", .int 1, .int 2])) p8 = some (.tup [.str "mul", .int 1, .int 2]) := upd_same
    have e8 : Vd r X (upd H7 p8 (.tup [.str "mul", .int 1, .int 2])) (.ref p8) (.tuple [.str "mul", .int 1, .int 2]) := Vd.tup n8 (nox hX s7 hp8) h8 (.cons (fun _ _ => .str _ ⟨by decide, fun c hc => code_lt hc⟩) (.cons (fun _ _ => .int _) (.cons (fun _ _ => .int _) .nil)))
    generalize (upd H7 p8 (.tup [.str "mul", .int 1, .int 2])) = H8 at *
    refine ⟨(by show 2 ≤ sizeLine; decide), fun p9 hp9 => ?_⟩
    have n9 : p9 ≠ r := (s8.1.ne hp9).symm
    have t9 := stp_new (o := (.tup [.str "out", .int 1] : HO)) s8.1 hp9
    have s9 := s8.trans t9
    have h9 : (upd H8 p9 (.tup [.str "out", .int 1])) p9 = some (.tup [.str "out", .int 1]) := upd_same
    have e9 : Vd r X (upd H8 p9 (.tup [.str "out", .int 1])) (.ref p9) (.tuple [.str "out", .int 1]) := Vd.tup n9 (nox hX s8 hp9) h9 (.cons (fun _ _ => .str _ ⟨by decide, fun c hc => code_lt hc⟩) (.cons (fun _ _ => .int _) .nil))
    generalize (upd H8 p9 (.tup [.str "out", .int 1])) = H9 at *
    refine ⟨(by show 2 ≤ sizeLine; decide), fun p10 hp10 => ?_⟩
    have n10 : p10 ≠ r := (s9.1.ne hp10).symm
    have t10 := stp_new (o := (.tup [.str "out", .int 1] : HO)) s9.1 hp10
    have s10 := s9.trans t10
    have h10 : (upd H9 p10 (.tup [.str "out", .int 1])) p10 = some (.tup [.str "out", .int 1]) := upd_same
    have e10 : Vd r X (upd H9 p10 (.tup [.str "out", .int 1])) (.ref p10) (.tuple [.str "out", .int 1]) := Vd.tup n10 (nox hX s9 hp10) h10 (.cons (fun _ _ => .str _ ⟨by decide, fun c hc => code_lt hc⟩) (.cons (fun _ _ => .int _) .nil))
    generalize (upd H9 p10 (.tup [.str "out", .int 1])) = H10 at *
    refine ⟨(by show 1 ≤ sizeLine; decide), fun p11 hp11 => ?_⟩
    have n11 : p11 ≠ r := (s10.1.ne hp11).symm
    have t11 := stp_new (o := (.lst [.ref p10] : HO)) s10.1 hp11
    have s11 := s10.trans t11
    have h11 : (upd H10 p11 (.lst [.ref p10])) p11 = some (.lst [.ref p10]) := upd_same
    have e11 : Vd r X (upd H10 p11 (.lst [.ref p10])) (.ref p11) (.list [.tuple [.str "out", .int 1]]) := Vd.lst n11 (nox hX s10 hp11) h11 (.cons (e10.mono t11) .nil)
    generalize (upd H10 p11 (.lst [.ref p10])) = H11 at *
    refine ⟨(by show 1 ≤ sizeLine; decide), fun p12 hp12 => ?_⟩
    have n12 : p12 ≠ r := (s11.1.ne hp12).symm
    have t12 := stp_new (o := (.tup [.str "out"] : HO)) s11.1 hp12
    have s12 := s11.trans t12
    have h12 : (upd H11 p12 (.tup [.str "out"])) p12 = some (.tup [.str "out"]) := upd_same
    have e12 : Vd r X (upd H11 p12 (.tup [.str "out"])) (.ref p12) (.tuple [.str "out"]) := Vd.tup n12 (nox hX s11 hp12) h12 (.cons (fun _ _ => .str _ ⟨by decide, fun c hc => code_lt hc⟩) .nil)
    generalize (upd H11 p12 (.tup [.str "out"])) = H12 at *
    refine ⟨(by show 1 ≤ sizeLine; decide), fun p13 hp13 => ?_⟩
    have n13 : p13 ≠ r := (s12.1.ne hp13).symm
    have t13 := stp_new (o := (.lst [.ref p12] : HO)) s12.1 hp13
    have s13 := s12.trans t13
    have h13 : (upd H12 p13 (.lst [.ref p12])) p13 = some (.lst [.ref p12]) := upd_same
    have e13 : Vd r X (upd H12 p13 (.lst [.ref p12])) (.ref p13) (.list [.tuple [.str "out"]]) := Vd.lst n13 (nox hX s12 hp13) h13 (.cons (e12.mono t13) .nil)
    generalize (upd H12 p13 (.lst [.ref p12])) = H13 at *
    refine ⟨(by show 1 ≤ sizeLine; decide), fun p14 hp14 => ?_⟩
    have n14 : p14 ≠ r := (s13.1.ne hp14).symm
    have t14 := stp_new (o := (.lst [.non] : HO)) s13.1 hp14
    have s14 := s13.trans t14
    have h14 : (upd H13 p14 (.lst [.non])) p14 = some (.lst [.non]) := upd_same
    have e14 : Vd r X (upd H13 p14 (.lst [.non])) (.ref p14) (.list [.none]) := Vd.lst n14 (nox hX s13 hp14) h14 (.cons (fun _ _ => .non) .nil)
    generalize (upd H13 p14 (.lst [.non])) = H14 at *
    refine ⟨(by show 6 ≤ sizeLine; decide), fun p15 hp15 => ?_⟩
    have n15 : p15 ≠ r := (s14.1.ne hp15).symm
    have t15 := stp_new (o := (.lst [.ref p7, .ref p8, .ref p9, .ref p11, .ref p13, .ref p14] : HO)) s14.1 hp15
    have s15 := s14.trans t15
    have h15 : (upd H14 p15 (.lst [.ref p7, .ref p8, .ref p9, .ref p11, .ref p13, .ref p14])) p15 = some (.lst [.ref p7, .ref p8, .ref p9, .ref p11, .ref p13, .ref p14]) := upd_same
    generalize (upd H14 p15 (.lst [.ref p7, .ref p8, .ref p9, .ref p11, .ref p13, .ref p14])) = H15 at *
    refine ⟨p6, p15, _, _, rfl, rfl, (t7.trans (t8.trans (t9.trans (t10.trans (t11.trans (t12.trans (t13.trans (t14.trans t15)))))))).2 _ _ n6 h6, h15, (by show 15 + 6 ≤ sizeLine; decide), fun p16 hp16 => ?_⟩
    have n16 : p16 ≠ r := (s15.1.ne hp16).symm
    have t16 := stp_new (o := (.lst ([.non, .bl true, .int 0, .int (-1), .int (10 ^ Int.toNat 12), .int (10 ^ Int.toNat 12 + 1), .str "", .str "A", .str "x", .str "ninechars", .ref p1, .ref p2, .ref p3, .ref p4, .ref p5] ++ [.ref p7, .ref p8, .ref p9, .ref p11, .ref p13, .ref p14]) : HO)) s15.1 hp16
    have s16 := s15.trans t16
    refine ⟨r, p16, _, rfl, s16.1, upd_same, n16, (by show 1 ≤ 21; decide), (by show 21 ≤ 1000; decide), fun v HF hv t17 => ?_⟩
    have s17 := s16.trans t17
    simp only [List.cons_append, List.nil_append, List.mem_cons, List.not_mem_nil, or_false] at hv
    rcases hv with rfl | rfl | rfl | rfl | rfl | rfl | rfl | rfl | rfl | rfl | rfl | rfl | rfl | rfl | rfl | rfl | rfl | rfl | rfl | rfl | rfl
    · exact q _ (.none) HF (fun _ _ => .non) (bd (by decide +kernel)) s17
    · exact q _ (.bool true) HF (fun _ _ => .bl _) (bd (by decide +kernel)) s17
    · exact q _ (.int 0) HF (fun _ _ => .int _) (bd (by decide +kernel)) s17
    · exact q _ (.int (-1)) HF (fun _ _ => .int _) (bd (by decide +kernel)) s17
    · exact q _ (.int (10 ^ Int.toNat 12)) HF (fun _ _ => .int _) (bd (by decide +kernel)) s17
    · exact q _ (.int (10 ^ Int.toNat 12 + 1)) HF (fun _ _ => .int _) (bd (by decide +kernel)) s17
    · exact q _ (.str "") HF (fun _ _ => .str _ ⟨by decide, fun c hc => code_lt hc⟩) (bd (by decide +kernel)) s17
    · exact q _ (.str "A") HF (fun _ _ => .str _ ⟨by decide, fun c hc => code_lt hc⟩) (bd (by decide +kernel)) s17
    · exact q _ (.str "x") HF (fun _ _ => .str _ ⟨by decide, fun c hc => code_lt hc⟩) (bd (by decide +kernel)) s17
    · exact q _ (.str "ninechars") HF (fun _ _ => .str _ ⟨by decide, fun c hc => code_lt hc⟩) (bd (by decide +kernel)) s17
    · exact q _ (.tuple []) HF (e1.mono (t2.trans (t3.trans (t4.trans (t5.trans (t6.trans (t7.trans (t8.trans (t9.trans (t10.trans (t11.trans (t12.trans (t13.trans (t14.trans (t15.trans (t16.trans t17)))))))))))))))) (bd (by decide +kernel)) s17
    · exact q _ (.list []) HF (e2.mono (t3.trans (t4.trans (t5.trans (t6.trans (t7.trans (t8.trans (t9.trans (t10.trans (t11.trans (t12.trans (t13.trans (t14.trans (t15.trans (t16.trans t17))))))))))))))) (bd (by decide +kernel)) s17
    · exact q _ (.dict []) HF (e3.mono (t4.trans (t5.trans (t6.trans (t7.trans (t8.trans (t9.trans (t10.trans (t11.trans (t12.trans (t13.trans (t14.trans (t15.trans (t16.trans t17)))))))))))))) (bd (by decide +kernel)) s17
    · exact q _ (.tuple [.str "add", .int 1]) HF (e4.mono (t5.trans (t6.trans (t7.trans (t8.trans (t9.trans (t10.trans (t11.trans (t12.trans (t13.trans (t14.trans (t15.trans (t16.trans t17))))))))))))) (bd (by decide +kernel)) s17
    · exact q _ (.list [.str "out", .int 1]) HF (e5.mono (t6.trans (t7.trans (t8.trans (t9.trans (t10.trans (t11.trans (t12.trans (t13.trans (t14.trans (t15.trans (t16.trans t17)))))))))))) (bd (by decide +kernel)) s17
    · exact q _ (.tuple [.str "add", .int 1, .int 2]) HF (e7.mono (t8.trans (t9.trans (t10.trans (t11.trans (t12.trans (t13.trans (t14.trans (t15.trans (t16.trans t17)))))))))) (bd (by decide +kernel)) s17
    · exact q _ (.tuple [.str "mul", .int 1, .int 2]) HF (e8.mono (t9.trans (t10.trans (t11.trans (t12.trans (t13.trans (t14.trans (t15.trans (t16.trans t17))))))))) (bd (by decide +kernel)) s17
    · exact q _ (.tuple [.str "out", .int 1]) HF (e9.mono (t10.trans (t11.trans (t12.trans (t13.trans (t14.trans (t15.trans (t16.trans t17)))))))) (bd (by decide +kernel)) s17
    · exact q _ (.list [.tuple [.str "out", .int 1]]) HF (e11.mono (t12.trans (t13.trans (t14.trans (t15.trans (t16.trans t17)))))) (bd (by decide +kernel)) s17
    · exact q _ (.list [.tuple [.str "out"]]) HF (e13.mono (t14.trans (t15.trans (t16.trans t17)))) (bd (by decide +kernel)) s17
    · exact q _ (.list [.none]) HF (e14.mono (t15.trans (t16.trans t17))) (bd (by decide +kernel)) s17
end
end K81

set_option Elab.async false
set_option linter.all false
set_option maxRecDepth 100000
set_option maxHeartbeats 4000000
/-! xs == [] -/
namespace L2
open PySem PySem.Spec PyProof.Rows
section
variable {X : Cx}
def rEqNil (K : PySem.W.Frag) : R2 := fun x y H Q => ∃ a b xs, x = .ref a ∧ y = .ref b ∧ SqL K H a xs ∧ SqL K H b [] ∧ Q (.bl (decide (xs.length = 0))) H
theorem op_eqNil (hu : X.A.units + 64 < cLine) : OpR X (compareOp .Eq) (rEqNil X.K) := by
  intro pins s σ H x y v u Q I rx ry h
  obtain ⟨a, b, xs, rfl, rfl, ha, hb, q⟩ := h
  cases rx
  cases ry
  obtain ⟨us, r1, p1, _⟩ := I.list ha
  obtain ⟨ws, r2, p2, _⟩ := I.list hb
  cases r2
  have hl := r1.length
  by_cases hz : xs.length = 0
  · rw [decide_eq_true hz] at q
    have hs : us.toArray.size = (#[] : Array Value).size := by rw [List.size_toArray, ← hl, hz]; rfl
    refine SeqAt.eq_listAt (e := fun _ => true) p1.isList p2.isList hs (by omega) (fun j h1 h2 => absurd h2 (Nat.not_lt_zero j)) ?_
    rw [show ((List.range us.toArray.size).all fun _ => true) = true from List.all_eq_true.mpr fun _ _ => rfl]
    exact ⟨.bl true, H, I, rfl, q⟩
  · rw [decide_eq_false hz] at q
    refine SeqAt.eq_list_lengthsAt p1.isList p2.isList ?_ (by omega) ⟨.bl false, H, I, rfl, q⟩
    have : us.toArray.size ≠ 0 := by rw [List.size_toArray, ← hl]; exact hz
    simpa using this
end
end L2

set_option Elab.async false
set_option linter.all false
set_option maxRecDepth 100000
set_option maxHeartbeats 4000000
set_option pp.maxSteps 900
namespace K81
open PySem PySem.Spec PyProof.Rows L2 Gu Ex RZ
/-- a value of its own: no object -/
def Lf (m : Nat) (v : V) (d : PyData) : Prop := (∀ G : Hp, Tr G v d) ∧ Bd 0 m 3 d
theorem Lf.vd {r : Addr} {X : Addr → Prop} {H : Hp} {m : Nat} {v : V} {d : PyData} (h : Lf m v d) : Vd r X H v d := fun G _ => h.1 G
theorem lf_int {i : Int} (h1 : -99 ≤ i) (h2 : i ≤ 99) : Lf 4 (.int i) (.int i) := by
  have e : i.natAbs < 10 ^ 2 := by
    have z : (10 : Nat) ^ 2 = 100 := by decide
    omega
  have a : i.natAbs.log2 < 1920 := Nat.lt_of_lt_of_le (PySem.Flt.log2_lt_of (k := 20) (by decide) (Nat.lt_trans e (by decide))) (by decide)
  refine ⟨fun G => .int i, decide_eq_true a, Nat.le_refl _, ?_, rfl⟩
  have z := int_text_length_le10 (k := 2) (by decide) e
  show (Str.ofString (toString i)).length ≤ 4
  rw [PySem.ofString_length]
  omega
theorem lf_lit {m : Nat} (z : String) (h : ((PyData.str (Str.ofString z)).showable && (decide ((PyData.str (Str.ofString z)).depth ≤ 0) && (decide (wt (PyData.str (Str.ofString z)) ≤ m) && lensB 3 (PyData.str (Str.ofString z))))) = true) (h2 : (Str.ofString z).length ≤ 60) : Lf m (.str (Str.ofString z)) (.str (Str.ofString z)) :=
  ⟨fun G => .str _ ⟨h2, fun c hc => code_lt hc⟩, bd h⟩
def wE : Nat → Nat
  | 0 => 4
  | k + 1 => 2 * wE k + 17
theorem wE_pos : ∀ k, 4 ≤ wE k
  | 0 => Nat.le_refl _
  | k + 1 => by
    have := wE_pos k
    show 4 ≤ 2 * wE k + 17
    omega
section
variable {P : Program} {w : World} {K : PySem.W.Frag} {mg : Str → Option Value} {base : Heap} {f : Addr} {fd : FuncData}
def spExp (n : Nat) : Sp := fun vs H Q _ => ∃ (r : Addr) (k : Nat) (X : Addr → Prop), k < n ∧ 1 ≤ k ∧ vs = [.ref r, .int (k : Nat)] ∧ Xt X H ∧ Rng H r ∧ ∀ v d H', Vd r X H' v d → Bd k (wE k) 3 d → Stp r H H' → Q v H'
theorem sc__law_expression : FnScope ["_law_rng_here", "_law_depth_here", "_law_word"] ["_law_rng_here", "_law_depth_here"] (defScope (top 24)) := ⟨rfl, rfl, rfl, by decide +kernel, rfl, by decide +kernel, by decide +kernel⟩
theorem ok_ex0 (F : FnP K "_law_expression" "_law_expression" (top 24) f fd) : FnOk P w K mg base CX0 3 f fd ["_law_rng_here", "_law_depth_here"] (spExp 0) :=
  F.ok sc__law_expression (fun vs H Q E h => by obtain ⟨_, k, _, h, _⟩ := h; exact absurd h (Nat.not_lt_zero k)) (fun cdv A outer s H vs Q E hr h => by obtain ⟨_, k, _, h, _⟩ := h; exact absurd h (Nat.not_lt_zero k))
theorem ok_ex {n : Nat} (T : Tx w K mg) (D__law_draw : Df P w K mg base 1 "_law_draw" ["_law_rng_here", "_law_many"] spDraw) (D__law_choice : Df P w K mg base 2 "_law_choice" ["_law_rng_here", "_law_options"] spChoice)
    (D__law_expression : Df P w K mg base (n + 3) "_law_expression" ["_law_rng_here", "_law_depth_here"] (spExp n))
    (F : FnP K "_law_expression" "_law_expression" (top 24) f fd) : FnOk P w K mg base CX0 (n + 4) f fd ["_law_rng_here", "_law_depth_here"] (spExp (n + 1)) := by
  refine F.ok sc__law_expression (fun vs H Q E h => ?_) (fun cdv A outer s H vs Q E hr h => ⟨_, PSs.nox (pss_cons (ps_if (PW.pt (pw_or (pt_cmpR op_le (pv 1) pe_int (nomark _)) (pw_or1 (pt_cmpR op_lt (pcall D__law_draw hr (pa_cons (pv 0) (pa_cons pe_int pa_nil)) (by omega)) pe_int (nomark _))))) (pss_one (ps_ret (pe_ix ix_list (pe_lst (pa_cons (pe_op op_sub (pcall D__law_draw hr (pa_cons (pv 0) (pa_cons pe_int pa_nil)) (by omega)) pe_int) (pa_cons (pcall D__law_choice hr (pa_cons (pv 0) (pa_cons (pe_lst (pa_cons pe_str (pa_cons pe_str (pa_cons pe_str pa_nil)))) pa_nil)) (by omega)) (pa_cons (pcall D__law_draw hr (pa_cons (pv 0) (pa_cons pe_int pa_nil)) (by omega)) pa_nil)))) (pcall D__law_draw hr (pa_cons (pv 0) (pa_cons pe_int pa_nil)) (by omega)) (fun _ _ => rfl)))) pss_nil) (pss_cons (ps_set (i := 2) sc__law_expression.nd rfl (by first | exact Or.inl rfl | exact Or.inr rfl) (pcall D__law_choice hr (pa_cons (pv 0) (pa_cons (pe_lst (pa_cons pe_str (pa_cons pe_str (pa_cons pe_str (pa_cons pe_str pa_nil))))) pa_nil)) (by omega))) (pss_one (ps_ret (pe_tup (pa_cons (pv 2) (pa_cons (pcall D__law_expression hr (pa_cons (pv 0) (pa_cons (pe_op op_sub (pv 1) pe_int) pa_nil)) (by omega)) (pa_cons (pcall D__law_expression hr (pa_cons (pv 0) (pa_cons (pe_op op_sub (pv 1) pe_int) pa_nil)) (by omega)) pa_nil)))))))), ?_⟩)
  · obtain ⟨r, k, _, _, _, rfl, _⟩ := h
    rfl
  · obtain ⟨r, k, X, kn, k1, rfl, hX, hR, q⟩ := h
    have big : (10 : Int) ^ 40 = 10000000000000000000000000000000000000000 := by decide
    refine join (fun G : Hp => Stp r H G) (R := ?R) (fun tail => ?main) ?tl
    case main =>
      refine ⟨_, rfl, _, _, rfl, rfl, _, rfl, ?_⟩
      by_cases h1 : (k : Int) ≤ 1
      case neg =>
        refine ifF (decide_eq_false h1) ⟨_, rfl, r, 6, rfl, hR, by decide, by omega, fun c H1 c0 c1 s1 => ⟨_, _, rfl, rfl, _, rfl, ?_⟩⟩
        by_cases h2 : c < 3
        · refine ifT (decide_eq_true h2) ?_
          exact tail H1 s1
        refine ifF (decide_eq_false h2) ?_
        refine ⟨_, rfl, (by show 4 ≤ sizeLine; decide), fun p hp => ?_⟩
        have t2 := stp_new (o := .lst [.str "add", .str "sub", .str "less", .str "equal"]) s1.1 hp
        refine ⟨r, p, _, rfl, t2.1, upd_same, (s1.1.ne hp).symm, (by show 1 ≤ 4; decide), (by show 4 ≤ 1000; decide), fun vw H2 hvw t3 => ?_⟩
        have s3 := s1.trans (t2.trans t3)
        have lw : ∃ dw, Lf 7 vw dw := by
          simp only [List.mem_cons, List.not_mem_nil, or_false] at hvw
          rcases hvw with rfl | rfl | rfl | rfl
          · exact ⟨_, lf_lit "add" (by decide +kernel) (by decide)⟩
          · exact ⟨_, lf_lit "sub" (by decide +kernel) (by decide)⟩
          · exact ⟨_, lf_lit "less" (by decide +kernel) (by decide)⟩
          · exact ⟨_, lf_lit "equal" (by decide +kernel) (by decide)⟩
        obtain ⟨dw, lfw⟩ := lw
        refine ⟨_, rfl, _, rfl, _, rfl, _, _, rfl, rfl, r, k - 1, X, by omega, by omega, (by show [_, V.int ((k : Int) - 1)] = _; rw [show (k : Int) - 1 = ((k - 1 : Nat) : Int) by omega]), hX.mono s3, s3.1, fun v1 d1 H4 vd1 b1 t4 => ?_⟩
        have s4 := s3.trans t4
        refine ⟨_, rfl, _, rfl, _, _, rfl, rfl, r, k - 1, X, by omega, by omega, (by show [_, V.int ((k : Int) - 1)] = _; rw [show (k : Int) - 1 = ((k - 1 : Nat) : Int) by omega]), hX.mono s4, s4.1, fun v2 d2 H5 vd2 b2 t5 => ?_⟩
        have s5 := s4.trans t5
        refine ⟨(by show 3 ≤ sizeLine; decide), fun pt hpt => ?_⟩
        have t6 := stp_new (o := .tup [vw, v1, v2]) s5.1 hpt
        obtain ⟨j, rfl⟩ : ∃ j, k = j + 1 := ⟨k - 1, by omega⟩
        refine q (.ref pt) (.tuple [dw, d1, d2]) _ (Vd.tup (s5.1.ne hpt).symm (nox hX s5 hpt) upd_same (.cons lfw.vd (.cons (vd1.mono (t5.trans t6)) (.cons (vd2.mono t6) .nil)))) ?_ (s5.trans t6)
        have z : BdAll j (2 * wE j + 13) 3 [dw, d1, d2] := .cons (lfw.2.mono (Nat.zero_le _) (Nat.le_refl _) (Nat.le_refl _)) (.cons (show Bd j (wE j) 3 d1 from b1) (.cons (show Bd j (wE j) 3 d2 from b2) (.nil (m := 0)) (Nat.le_refl _)) (Nat.le_refl _)) (by omega)
        exact (z.tup (by show 3 ≤ 3; decide)).mono (Nat.le_refl _) (by show 4 + (2 * wE j + 13) ≤ 2 * wE j + 17; omega) (Nat.le_refl _)
      case pos =>
        refine ifT (decide_eq_true h1) ?_
        exact tail H (Stp.refl hR)
    case tl =>
      intro G sG
      refine ⟨_, rfl, r, 12, rfl, sG.1, by decide, by omega, fun a G1 a0 a1 s1 => ⟨_, _, rfl, rfl, _, rfl, (by show 3 ≤ sizeLine; decide), fun p hp => ?_⟩⟩
      have t2 := stp_new (o := .lst [.str "a", .str "b", .str "v"]) s1.1 hp
      refine ⟨r, p, _, rfl, t2.1, upd_same, (s1.1.ne hp).symm, (by show 1 ≤ 3; decide), (by show 3 ≤ 1000; decide), fun v2 G3 hv2 t3 => ?_⟩
      have s3 := sG.trans (s1.trans (t2.trans t3))
      refine ⟨_, rfl, r, 40, rfl, s3.1, by decide, by omega, fun b G4 b0 b1 t4 => ⟨(by show 3 ≤ sizeLine; decide), fun L hL => ?_⟩⟩
      have s4 := s3.trans t4
      have t5 := stp_new (o := .lst [.int (a - 2), v2, .int b]) s4.1 hL
      have nL : L ≠ r := (s4.1.ne hL).symm
      have s5 := s4.trans t5
      refine ⟨_, rfl, r, 3, rfl, s5.1, by decide, by omega, fun j G6 j0 j1 t6 => ?_⟩
      have s6 := s5.trans t6
      have hL6 := t6.2 L _ nL upd_same
      obtain ⟨v, hv, hm⟩ := at_of (xs := [V.int (a - 2), v2, V.int b]) j0 j1
      refine ⟨L, _, _, v, rfl, rfl, SqL.of hL6, hv, ?_⟩
      have lv : ∃ d, Lf 4 v d := by
        simp only [List.mem_cons, List.not_mem_nil, or_false] at hm hv2
        rcases hm with rfl | rfl | rfl
        · exact ⟨_, lf_int (by omega) (by omega)⟩
        · rcases hv2 with rfl | rfl | rfl
          · exact ⟨_, lf_lit "a" (by decide +kernel) (by decide)⟩
          · exact ⟨_, lf_lit "b" (by decide +kernel) (by decide)⟩
          · exact ⟨_, lf_lit "v" (by decide +kernel) (by decide)⟩
        · exact ⟨_, lf_int (by omega) (by omega)⟩
      obtain ⟨d, lf⟩ := lv
      exact q v d G6 lf.vd (lf.2.mono (Nat.zero_le _) (wE_pos k) (Nat.le_refl _)) s6
end
end K81

set_option Elab.async false
set_option linter.all false
set_option maxRecDepth 100000
set_option maxHeartbeats 4000000
set_option pp.maxSteps 900
namespace K81
open PySem PySem.Spec PyProof.Rows L2 Gu Ex RZ
def wI : Nat → Nat
  | 0 => 300
  | k + 1 => 8 * wI k + 324
theorem wI_pos : ∀ k, 300 ≤ wI k
  | 0 => Nat.le_refl _
  | k + 1 => by
    have := wI_pos k
    show 300 ≤ 8 * wI k + 324
    omega
def nine : List Str := ["new", "new", "drop", "resize", "store", "load", "set", "out", "reserve"]
def four : List Str := ["if", "repeat", "attempt", "attempt"]
theorem words_ok : ((nine ++ four).all fun x => ((PyData.str x).showable && (decide ((PyData.str x).depth ≤ 0) && (decide (wt (PyData.str x) ≤ 9) && lensB 3 (PyData.str x)))) && (decide (x.length ≤ 60) && x.cps.toList.all fun c => decide (c < 1114112))) = true := by decide +kernel
theorem lf_word {x : Str} (h : x ∈ nine ++ four) : Lf 9 (.str x) (.str x) := by
  obtain ⟨h1, h2⟩ := He.ba (List.all_eq_true.mp words_ok x h)
  obtain ⟨h3, h4⟩ := He.ba h2
  exact ⟨fun G => .str x ⟨of_decide_eq_true h3, fun c hc => of_decide_eq_true (List.all_eq_true.mp h4 c hc)⟩, bd h1⟩
theorem VdAll.two {r : Addr} {X : Addr → Prop} {H : Hp} {a b : V} {c d : PyData} (h1 : Vd r X H a c) (h2 : Vd r X H b d) : VdAll r X H [a, b] [c, d] := .cons h1 (.cons h2 .nil)
section
variable {P : Program} {w : World} {K : PySem.W.Frag} {mg : Str → Option Value} {base : Heap} {f : Addr} {fd : FuncData}
def spLins (n : Nat) : Sp := fun vs H Q _ => ∃ (r : Addr) (k : Nat) (X : Addr → Prop), k < n ∧ vs = [.ref r, .int (k : Nat)] ∧ Xt X H ∧ Rng H r ∧ ∀ v d H', Vd r X H' v d → Bd (2 * k + 4) (wI k) 4 d → Stp r H H' → Q v H'
def spLbody (n : Nat) : Sp := fun vs H Q _ => ∃ (r : Addr) (k m : Nat) (X : Addr → Prop), k < n ∧ m ≤ 4 ∧ vs = [.ref r, .int (k : Nat), .int (m : Nat)] ∧ Xt X H ∧ Rng H r ∧
  ∀ (p : Addr) (ds : List PyData) H', Vd r X H' (.ref p) (.list ds) → Bd (2 * k + 5) (4 * wI k + 12) 4 (.list ds) → Stp r H H' → Q (.ref p) H'
theorem sc__law_body : FnScope ["_law_rng_here", "_law_deep_here", "_law_most", "_law_k"] ["_law_rng_here", "_law_deep_here", "_law_most"] (defScope (top 25)) := ⟨rfl, rfl, rfl, by decide +kernel, rfl, by decide +kernel, by decide +kernel⟩
theorem ok_body0 (F : FnP K "_law_body" "_law_body" (top 25) f fd) : FnOk P w K mg base CX0 8 f fd ["_law_rng_here", "_law_deep_here", "_law_most"] (spLbody 0) :=
  F.ok sc__law_body (fun vs H Q E h => by obtain ⟨_, k, _, _, h, _⟩ := h; exact absurd h (Nat.not_lt_zero k)) (fun cdv A outer s H vs Q E hr h => by obtain ⟨_, k, _, _, h, _⟩ := h; exact absurd h (Nat.not_lt_zero k))
theorem ok_body {n : Nat} (T : Tx w K mg) (D__law_draw : Df P w K mg base 1 "_law_draw" ["_law_rng_here", "_law_many"] spDraw)
    (D__law_instruction : Df P w K mg base (2 * n + 7) "_law_instruction" ["_law_rng_here", "_law_deep_here"] (spLins n))
    (F : FnP K "_law_body" "_law_body" (top 25) f fd) : FnOk P w K mg base CX0 (2 * n + 8) f fd ["_law_rng_here", "_law_deep_here", "_law_most"] (spLbody n) := by
  refine F.ok sc__law_body (fun vs H Q E h => ?_) (fun cdv A outer s H vs Q E hr h => ⟨_, PSs.nox (pss_one (ps_ret (pe_lc (own := [("_law_k", 3)]) (g := gName 3) rfl sc__law_body.nd (pi_range1 rfl T.n_range (pa_cons (pcall D__law_draw hr (pa_cons (pv 0) (pa_cons (pe_op op_add (pv 2) pe_int) pa_nil)) (by omega)) pa_nil)) (blkOk_by (own := [("_law_k", 3)]) (N := ["_law_rng_here", "_law_deep_here", "_law_most", "_law_k"]) (sc := defScope (top 25)) (by decide +kernel)) (fun _ _ _ _ _ => pg_name (i := 3) sc__law_body.nd rfl (Or.inl rfl)) (fun _ _ _ _ _ => pts_nil) (fun _ _ _ _ _ => (pcall D__law_instruction hr (pa_cons (pv 0) (pa_cons (pv 1) pa_nil)) (by omega)))))), ?_⟩)
  · obtain ⟨r, k, m, _, _, _, rfl, _⟩ := h
    rfl
  · obtain ⟨r, k, m, X, kn, m4, rfl, hX, hR, q⟩ := h
    have big : (10 : Int) ^ 40 = 10000000000000000000000000000000000000000 := by decide
    refine ⟨_, rfl, _, rfl, _, _, rfl, rfl, r, _, rfl, hR, by omega, by omega, fun c H1 c0 c1 s1 => ⟨c, rfl, by omega, by omega, fun D hD => ?_⟩⟩
    have nDr : D ≠ r := (s1.1.ne hD).symm
    have nXD : ¬ X D := nox hX s1 hD
    refine lc_range (fun i G => ∃ vs ds, G D = some (.lst vs) ∧ vs.length = i ∧ ds.length = i ∧ VdAll r (fun b => X b ∨ b = D) G vs ds ∧ BdAll (2 * k + 4) (i * (wI k + 2)) 4 ds ∧ Stp r H1 G)
      ⟨[], [], upd_same, rfl, rfl, .nil, .nil, stp_new s1.1 hD⟩ ?_ ?_
    · rintro i G hi ⟨vs, ds, hG, vl, dl, va, ba, st⟩
      refine ⟨rfl, _, rfl, _, rfl, r, k, (fun b => X b ∨ b = D), kn, rfl, ?_, st.1, fun v d G2 vd bd t2 => ?_⟩
      · rintro b (hb | rfl) z
        · exact hX b hb ((s1.trans st).free z)
        · rw [hG] at z
          cases z
      have hG2 := t2.2 D _ nDr hG
      have ag : Ag r (fun b => X b ∨ b = D) G2 (upd G2 D (.lst (vs ++ [v]))) := fun b o n nx e => by
        rw [upd_ne (fun z => nx (.inr z))]
        exact e
      refine ⟨vs, hG2, small1000 (by omega), vs ++ [v], ds ++ [d], upd_same, by rw [List.length_append, vl]; rfl, by rw [List.length_append, dl]; rfl, (va.mono t2 |>.agree ag).app (.cons (vd.agree ag) .nil), ?_, (st.trans t2).at hD nDr⟩
      exact ba.app (BdAll.cons (m := wI k + 2) bd (.nil (m := 0)) (Nat.le_refl _)) (by rw [Nat.add_mul]; omega)
    · rintro G ⟨vs, ds, hG, vl, dl, va, ba, st⟩
      have cl : c.toNat ≤ 4 := by omega
      have z : c.toNat * (wI k + 2) ≤ 4 * wI k + 8 := by
        have := Nat.mul_le_mul_right (wI k + 2) cl
        omega
      refine q D ds G (fun G2 g => ?_) ((ba.mono (Nat.le_refl _) z (Nat.le_refl _)).lst (by omega) |>.mono (by omega) (by omega) (Nat.le_refl _)) (s1.trans st)
      exact .lst (g _ _ nDr nXD hG) (va G2 fun b o n x e => g b o n (fun y => x (.inl y)) e)
theorem sc__law_instruction : FnScope ["_law_rng_here", "_law_deep_here", "_law_word", "_law_name", "_law_variable", "_law_first", "_law_second", "_law_place", "_law_body_here", "_law_other"] ["_law_rng_here", "_law_deep_here"] (defScope (top 26)) := ⟨rfl, rfl, rfl, by decide +kernel, rfl, by decide +kernel, by decide +kernel⟩
theorem ok_lins {n : Nat} (T : Tx w K mg) (D__law_draw : Df P w K mg base 1 "_law_draw" ["_law_rng_here", "_law_many"] spDraw) (D__law_choice : Df P w K mg base 2 "_law_choice" ["_law_rng_here", "_law_options"] spChoice)
    (D__law_expression : Df P w K mg base 7 "_law_expression" ["_law_rng_here", "_law_depth_here"] (spExp 4)) (D__law_body : Df P w K mg base (2 * n + 8) "_law_body" ["_law_rng_here", "_law_deep_here", "_law_most"] (spLbody n))
    (F : FnP K "_law_instruction" "_law_instruction" (top 26) f fd) : FnOk P w K mg base CX0 (2 * n + 9) f fd ["_law_rng_here", "_law_deep_here"] (spLins (n + 1)) := by
  refine F.ok sc__law_instruction (fun vs H Q E h => ?_) (fun cdv A outer s H vs Q E hr h => ⟨_, PSs.nox (pss_cons (ps_set (i := 2) sc__law_instruction.nd rfl (by first | exact Or.inl rfl | exact Or.inr rfl) (pcall D__law_choice hr (pa_cons (pv 0) (pa_cons (pe_lst (pa_cons pe_str (pa_cons pe_str (pa_cons pe_str (pa_cons pe_str (pa_cons pe_str (pa_cons pe_str (pa_cons pe_str (pa_cons pe_str (pa_cons pe_str pa_nil)))))))))) pa_nil)) (by omega))) (pss_cons (ps_if (PW.pt (pw_and (pt_cmpR op_gt (pv 1) pe_int (nomark _)) (pw_and1 (pt_cmpR op_eq (pcall D__law_draw hr (pa_cons (pv 0) (pa_cons pe_int pa_nil)) (by omega)) pe_int (nomark _))))) (pss_one (ps_set (i := 2) sc__law_instruction.nd rfl (by first | exact Or.inl rfl | exact Or.inr rfl) (pcall D__law_choice hr (pa_cons (pv 0) (pa_cons (pe_lst (pa_cons pe_str (pa_cons pe_str (pa_cons pe_str (pa_cons pe_str pa_nil))))) pa_nil)) (by omega)))) pss_nil) (pss_cons (ps_par (by rfl) sc__law_instruction.nd (i := 3) (j := 4) rfl rfl (by decide) rfl rfl (pa_cons (pcall D__law_choice hr (pa_cons (pv 0) (pa_cons (pe_lst (pa_cons pe_str (pa_cons pe_str (pa_cons pe_str pa_nil)))) pa_nil)) (by omega)) (pa_cons (pcall D__law_choice hr (pa_cons (pv 0) (pa_cons (pe_lst (pa_cons pe_str (pa_cons pe_str (pa_cons pe_str pa_nil)))) pa_nil)) (by omega)) pa_nil)) (by rfl)) (pss_cons (ps_par (by rfl) sc__law_instruction.nd (i := 5) (j := 6) rfl rfl (by decide) rfl rfl (pa_cons (pcall D__law_expression hr (pa_cons (pv 0) (pa_cons pe_int pa_nil)) (by omega)) (pa_cons (pcall D__law_expression hr (pa_cons (pv 0) (pa_cons pe_int pa_nil)) (by omega)) pa_nil)) (by rfl)) (pss_cons (ps_if (pt_cmpR (r := rIn K false) op_in_seq (pv 2) (pe_tup (pa_cons pe_str (pa_cons pe_str pa_nil))) rfl) (pss_one (ps_ret (pe_tup (pa_cons (pv 2) (pa_cons (pv 3) (pa_cons (pe_ifExp (pt_cmpR op_eq (pcall D__law_draw hr (pa_cons (pv 0) (pa_cons pe_int pa_nil)) (by omega)) pe_int (nomark _)) (pv 5) (pe_op op_add pe_int (pcall D__law_draw hr (pa_cons (pv 0) (pa_cons pe_int pa_nil)) (by omega)))) pa_nil)))))) pss_nil) (pss_cons (ps_if (pt_cmpR (r := rIn K false) op_in_seq (pv 2) (pe_tup (pa_cons pe_str (pa_cons pe_str pa_nil))) rfl) (pss_cons (ps_set (i := 7) sc__law_instruction.nd rfl (by first | exact Or.inl rfl | exact Or.inr rfl) (pe_ifExp (pt_cmpR op_eq (pcall D__law_draw hr (pa_cons (pv 0) (pa_cons pe_int pa_nil)) (by omega)) pe_int (nomark _)) (pv 6) (pcall D__law_draw hr (pa_cons (pv 0) (pa_cons pe_int pa_nil)) (by omega)))) (pss_one (ps_ret (pe_ifExp (pt_cmpR op_eq (pv 2) pe_str (nomark _)) (pe_tup (pa_cons (pv 2) (pa_cons (pv 3) (pa_cons (pv 7) (pa_cons (pv 5) pa_nil))))) (pe_tup (pa_cons (pv 2) (pa_cons (pv 4) (pa_cons (pv 3) (pa_cons (pv 7) pa_nil))))))))) pss_nil) (pss_cons (ps_if (pt_cmpR (r := rIn K false) op_in_seq (pv 2) (pe_tup (pa_cons pe_str (pa_cons pe_str (pa_cons pe_str (pa_cons pe_str pa_nil))))) rfl) (pss_one (ps_ret (pe_dget2 (u1 hr) (pe_disp (pps_cons pe_str (pe_tup (pa_cons (pv 2) (pa_cons (pv 4) (pa_cons (pv 5) pa_nil)))) (pps_cons pe_str (pe_tup (pa_cons (pv 2) (pa_cons (pv 3) pa_nil))) pps_nil)) (by rfl) (by rfl) (fun z => by cases z) (by decide)) (pv 2) (pe_tup (pa_cons (pv 2) (pa_cons (pv 5) pa_nil))) ⟨rfl, rfl, rfl, rfl⟩))) pss_nil) (pss_cons (ps_par (by rfl) sc__law_instruction.nd (i := 8) (j := 9) rfl rfl (by decide) rfl rfl (pa_cons (pcall D__law_body hr (pa_cons (pv 0) (pa_cons (pe_op op_sub (pv 1) pe_int) (pa_cons pe_int pa_nil))) (by omega)) (pa_cons (pcall D__law_body hr (pa_cons (pv 0) (pa_cons (pe_op op_sub (pv 1) pe_int) (pa_cons pe_int pa_nil))) (by omega)) pa_nil)) (by rfl)) (pss_cons (ps_if (pt_cmpR op_eq (pv 2) pe_str (nomark _)) (pss_one (ps_ret (pe_tup (pa_cons (pv 2) (pa_cons (pe_ifExp (pt_cmpR op_eq (pcall D__law_draw hr (pa_cons (pv 0) (pa_cons pe_int pa_nil)) (by omega)) pe_int (nomark _)) (pe_op op_sub (pcall D__law_draw hr (pa_cons (pv 0) (pa_cons pe_int pa_nil)) (by omega)) pe_int) (pv 6)) (pa_cons (pv 8) pa_nil)))))) pss_nil) (pss_one (ps_ret (pe_ifExp (pt_cmpR op_eq (pv 2) pe_str (nomark _)) (pe_tup (pa_cons (pv 2) (pa_cons (pv 5) (pa_cons (pv 8) (pa_cons (pv 9) pa_nil))))) (pe_tup (pa_cons (pv 2) (pa_cons (pv 8) (pa_cons (pv 4) (pa_cons (pv 9) pa_nil))))))))))))))))), ?_⟩)
  · obtain ⟨r, k, _, _, rfl, _⟩ := h
    rfl
  · obtain ⟨r, k, X, kn, rfl, hX, hR, q⟩ := h
    have big : (10 : Int) ^ 40 = 10000000000000000000000000000000000000000 := by decide
    have wi := wI_pos k
    have e3 : wE 3 = 151 := rfl
    have e2 : wE 2 = 67 := rfl
    have fin : ∀ (p : Addr) (vs : List V) (ds : List PyData) (G : Hp), p ≠ r → ¬ X p → G p = some (.tup vs) → VdAll r X G vs ds → BdAll (2 * k + 3) (wI k - 4) 4 ds → ds.length ≤ 4 → Stp r H G → Q (.ref p) G :=
      fun p vs ds G np nx hp va ba hl st => q (.ref p) (.tuple ds) G (Vd.tup np nx hp va) ((ba.tup hl).mono (by omega) (by omega) (Nat.le_refl _)) st
    refine join2 (fun (x : Str) (G : Hp) => Stp r H G ∧ x ∈ nine ++ four ∧ (x ∈ nine ∨ 1 ≤ k)) (R := ?R) (fun tail => ?main) ?tl
    case main =>
      refine ⟨_, rfl, (by show 9 ≤ sizeLine; decide), fun p hp => ?_⟩
      have t1 := stp_new (o := .lst (nine.map V.str)) hR hp
      refine ⟨r, p, _, rfl, t1.1, upd_same, (hR.ne hp).symm, (by show 1 ≤ 9; decide), (by show 9 ≤ 1000; decide), fun vw H2 hvw t2 => ?_⟩
      obtain ⟨x, hx, rfl⟩ := List.mem_map.mp (show vw ∈ nine.map V.str from hvw)
      have s2 := t1.trans t2
      refine ⟨_, rfl, _, _, rfl, rfl, _, rfl, ?_⟩
      by_cases h1 : (0 : Int) < (k : Int)
      case neg =>
        refine ifF (decide_eq_false h1) ?_
        exact tail x H2 ⟨s2, List.mem_append_left _ hx, .inl hx⟩
      case pos =>
        refine ifT (decide_eq_true h1) ?_
        refine ⟨_, rfl, r, 3, rfl, s2.1, by decide, by omega, fun c H3 c0 c1 t3 => ⟨rfl, _, rfl, ?_⟩⟩
        have s3 := s2.trans t3
        by_cases h2 : c = 0
        case neg =>
          refine ifF (vF h2) ?_
          exact tail x H3 ⟨s3, List.mem_append_left _ hx, .inl hx⟩
        case pos =>
          refine ifT (vT h2) ?_
          refine ⟨_, rfl, (by show 4 ≤ sizeLine; decide), fun p2 hp2 => ?_⟩
          have t4 := stp_new (o := .lst (four.map V.str)) s3.1 hp2
          refine ⟨r, p2, _, rfl, t4.1, upd_same, (s3.1.ne hp2).symm, (by show 1 ≤ 4; decide), (by show 4 ≤ 1000; decide), fun vw2 H5 hvw2 t5 => ?_⟩
          obtain ⟨x2, hx2, rfl⟩ := List.mem_map.mp (show vw2 ∈ four.map V.str from hvw2)
          exact tail x2 H5 ⟨s3.trans (t4.trans t5), List.mem_append_right _ hx2, .inr (by omega)⟩
    case tl =>
      rintro x G ⟨sG, hx, hk⟩
      have lw := lf_word hx
      refine ⟨_, rfl, (by show 3 ≤ sizeLine; decide), fun p1 hp1 => ?_⟩
      have t1 := stp_new (o := .lst [.str "x", .str "y", .str "z"]) sG.1 hp1
      refine ⟨r, p1, _, rfl, t1.1, upd_same, (sG.1.ne hp1).symm, (by show 1 ≤ 3; decide), (by show 3 ≤ 1000; decide), fun vn G2 hvn t2 => ?_⟩
      have s2 := sG.trans (t1.trans t2)
      refine ⟨_, rfl, (by show 3 ≤ sizeLine; decide), fun p3 hp3 => ?_⟩
      have t3 := stp_new (o := .lst [.str "a", .str "b", .str "v"]) s2.1 hp3
      refine ⟨r, p3, _, rfl, t3.1, upd_same, (s2.1.ne hp3).symm, (by show 1 ≤ 3; decide), (by show 3 ≤ 1000; decide), fun vv G4 hvv t4 => ?_⟩
      have s4 := s2.trans (t3.trans t4)
      have ln : ∃ d, Lf 4 vn d := by
        simp only [List.mem_cons, List.not_mem_nil, or_false] at hvn
        rcases hvn with rfl | rfl | rfl
        · exact ⟨_, lf_lit "x" (by decide +kernel) (by decide)⟩
        · exact ⟨_, lf_lit "y" (by decide +kernel) (by decide)⟩
        · exact ⟨_, lf_lit "z" (by decide +kernel) (by decide)⟩
      have lv : ∃ d, Lf 4 vv d := by
        simp only [List.mem_cons, List.not_mem_nil, or_false] at hvv
        rcases hvv with rfl | rfl | rfl
        · exact ⟨_, lf_lit "a" (by decide +kernel) (by decide)⟩
        · exact ⟨_, lf_lit "b" (by decide +kernel) (by decide)⟩
        · exact ⟨_, lf_lit "v" (by decide +kernel) (by decide)⟩
      obtain ⟨dn, ln⟩ := ln
      obtain ⟨dv, lv⟩ := lv
      refine ⟨_, _, rfl, ?_⟩
      refine ⟨_, rfl, r, 3, X, by decide, by decide, rfl, hX.mono s4, s4.1, fun v1 d1 G5 vd1 b1 t5 => ?_⟩
      have s5 := s4.trans t5
      refine ⟨_, rfl, r, 2, X, by decide, by decide, rfl, hX.mono s5, s5.1, fun v2 d2 G6 vd2 b2 t6 => ⟨_, _, rfl, ?_⟩⟩
      have s6 := s5.trans t6
      have vd1 := vd1.mono t6
      rw [e3] at b1
      rw [e2] at b2
      have bw : ∀ {j : Nat}, 0 ≤ j → Bd j 9 4 (.str x) := fun h => lw.2.mono h (Nat.le_refl _) (by decide)
      have bn : ∀ {j : Nat}, 0 ≤ j → Bd j 4 4 dn := fun h => ln.2.mono h (Nat.le_refl _) (by decide)
      have bv : ∀ {j : Nat}, 0 ≤ j → Bd j 4 4 dv := fun h => lv.2.mono h (Nat.le_refl _) (by decide)
      have c1 : Bd (2 * k + 3) 151 4 d1 := b1.mono (by omega) (Nat.le_refl _) (by decide)
      have c2 : Bd (2 * k + 3) 151 4 d2 := b2.mono (by omega) (by decide) (by decide)
      clear t1 t2 t3 t4 t5 t6 s2 s4 s5 sG hvn hvv
      -- new, resize
      refine ⟨_, rfl, (by show 2 ≤ sizeLine; decide), fun q1 hq1 => ⟨q1, _, rfl, .inr (SqT.of upd_same), rfl, rfl, _, rfl, ?_⟩⟩
      have u1 := stp_new (o := .tup [.str "new", .str "resize"]) s6.1 hq1
      have s7 := s6.trans u1
      have vd1 := vd1.mono u1
      have vd2 := vd2.mono u1
      generalize (upd G6 q1 (.tup [.str "new", .str "resize"])) = G7 at *
      have i1 : inV (.str x) [.str "new", .str "resize"] = decide (x ∈ (["new", "resize"] : List Str)) := inV_strs _ ["new", "resize"]
      by_cases h1 : x ∈ (["new", "resize"] : List Str)
      · refine ifT (by rw [if_neg (by decide), i1, decide_eq_true h1]) ?_
        refine ⟨_, rfl, _, rfl, _, rfl, r, 2, rfl, s7.1, by decide, by omega, fun c G8 c0 c1' t8 => ⟨rfl, _, rfl, ?_⟩⟩
        have s8 := s7.trans t8
        by_cases h2 : c = 0
        · refine ifT (vT h2) ⟨_, rfl, (by show 3 ≤ sizeLine; decide), fun pt hpt => ?_⟩
          have t9 := stp_new (o := .tup [.str x, vn, v1]) s8.1 hpt
          exact fin pt _ [.str x, dn, d1] _ (s8.1.ne hpt).symm (nox hX s8 hpt) upd_same (.cons lw.vd (.cons ln.vd (.cons (vd1.mono (t8.trans t9)) .nil))) (.cons (bw (Nat.zero_le _)) (.cons (bn (Nat.zero_le _)) (.cons c1 (.nil (m := 0)) (Nat.le_refl _)) (Nat.le_refl _)) (by omega)) (by show 3 ≤ 4; decide) (s8.trans t9)
        · refine ifF (vF h2) ⟨_, rfl, r, 30, rfl, s8.1, by decide, by omega, fun e G9 e0 e1 t9 => ⟨_, _, rfl, rfl, (by show 3 ≤ sizeLine; decide), fun pt hpt => ?_⟩⟩
          have s9 := s8.trans t9
          have t10 := stp_new (o := .tup [.str x, vn, .int (1 + e)]) s9.1 hpt
          have le := lf_int (i := 1 + e) (by omega) (by omega)
          exact fin pt _ [.str x, dn, .int (1 + e)] _ (s9.1.ne hpt).symm (nox hX s9 hpt) upd_same (.cons lw.vd (.cons ln.vd (.cons le.vd .nil))) (.cons (bw (Nat.zero_le _)) (.cons (bn (Nat.zero_le _)) (.cons (le.2.mono (Nat.zero_le _) (Nat.le_refl _) (by decide)) (.nil (m := 0)) (Nat.le_refl _)) (Nat.le_refl _)) (by omega)) (by show 3 ≤ 4; decide) (s9.trans t10)
      refine ifF (by rw [if_neg (by decide), i1, decide_eq_false h1]) ?_
      -- store, load
      refine ⟨_, rfl, (by show 2 ≤ sizeLine; decide), fun q2 hq2 => ⟨q2, _, rfl, .inr (SqT.of upd_same), rfl, rfl, _, rfl, ?_⟩⟩
      have u2 := stp_new (o := .tup [.str "store", .str "load"]) s7.1 hq2
      have s8 := s7.trans u2
      have vd1 := vd1.mono u2
      have vd2 := vd2.mono u2
      generalize (upd G7 q2 (.tup [.str "store", .str "load"])) = G8 at *
      have i2 : inV (.str x) [.str "store", .str "load"] = decide (x ∈ (["store", "load"] : List Str)) := inV_strs _ ["store", "load"]
      by_cases h2 : x ∈ (["store", "load"] : List Str)
      · refine ifT (by rw [if_neg (by decide), i2, decide_eq_true h2]) ?_
        refine join2 (fun (v : V) (G : Hp) => ∃ d, Stp r G8 G ∧ Vd r X G v d ∧ Bd (2 * k + 3) 67 4 d) (R := ?R2) (fun tail => ?main2) ?tl2
        case main2 =>
          refine ⟨_, rfl, r, 2, rfl, s8.1, by decide, by omega, fun c G9 c0 c1' t9 => ⟨rfl, _, rfl, ?_⟩⟩
          by_cases h3 : c = 0
          case neg =>
            refine ifF (vF h3) ⟨_, rfl, r, 3, rfl, t9.1, by decide, by omega, fun e G10 e0 e1 t10 => ?_⟩
            have le := lf_int (i := e) (by omega) (by omega)
            have hv : ∃ d, Stp r G8 G10 ∧ Vd r X G10 (.int e) d ∧ Bd (2 * k + 3) 67 4 d := ⟨_, t9.trans t10, le.vd, le.2.mono (Nat.zero_le _) (by decide) (by decide)⟩
            clear le
            generalize V.int e = vp at *
            exact tail vp G10 hv
          case pos =>
            refine ifT (vT h3) ⟨_, rfl, ?_⟩
            exact tail v2 G9 ⟨d2, t9, vd2.mono t9, b2.mono (by omega) (Nat.le_refl _) (by decide)⟩
        case tl2 =>
          rintro vp G9 ⟨dp, t9, vdp, bp⟩
          have s9 := s8.trans t9
          have vd1 := vd1.mono t9
          refine ⟨_, rfl, rfl, _, rfl, ?_⟩
          by_cases h3 : x = "store"
          · refine ifT (decide_eq_true (congrArg V.str h3)) ⟨_, rfl, _, rfl, _, rfl, _, rfl, (by show 4 ≤ sizeLine; decide), fun pt hpt => ?_⟩
            have t10 := stp_new (o := .tup [.str x, vn, vp, v1]) s9.1 hpt
            exact fin pt _ [.str x, dn, dp, d1] _ (s9.1.ne hpt).symm (nox hX s9 hpt) upd_same (.cons lw.vd (.cons ln.vd (.cons (vdp.mono t10) (.cons (vd1.mono t10) .nil))))
              (.cons (bw (Nat.zero_le _)) (.cons (bn (Nat.zero_le _)) (.cons bp (.cons c1 (.nil (m := 0)) (Nat.le_refl _)) (Nat.le_refl _)) (Nat.le_refl _)) (by omega)) (by show 4 ≤ 4; decide) (s9.trans t10)
          · refine ifF (decide_eq_false (sv_ne h3)) ⟨_, rfl, _, rfl, _, rfl, _, rfl, (by show 4 ≤ sizeLine; decide), fun pt hpt => ?_⟩
            have t10 := stp_new (o := .tup [.str x, vv, vn, vp]) s9.1 hpt
            exact fin pt _ [.str x, dv, dn, dp] _ (s9.1.ne hpt).symm (nox hX s9 hpt) upd_same (.cons lw.vd (.cons lv.vd (.cons ln.vd (.cons (vdp.mono t10) .nil))))
              (.cons (bw (Nat.zero_le _)) (.cons (bv (Nat.zero_le _)) (.cons (bn (Nat.zero_le _)) (.cons bp (.nil (m := 0)) (Nat.le_refl _)) (Nat.le_refl _)) (Nat.le_refl _)) (by omega)) (by show 4 ≤ 4; decide) (s9.trans t10)
      refine ifF (by rw [if_neg (by decide), i2, decide_eq_false h2]) ?_
      -- set, out, reserve, drop
      refine ⟨_, rfl, (by show 4 ≤ sizeLine; decide), fun q3 hq3 => ⟨q3, _, rfl, .inr (SqT.of upd_same), rfl, rfl, _, rfl, ?_⟩⟩
      have u3 := stp_new (o := .tup [.str "set", .str "out", .str "reserve", .str "drop"]) s8.1 hq3
      have s9 := s8.trans u3
      have vd1 := vd1.mono u3
      have vd2 := vd2.mono u3
      generalize (upd G8 q3 (.tup [.str "set", .str "out", .str "reserve", .str "drop"])) = G9 at *
      have i3 : inV (.str x) [.str "set", .str "out", .str "reserve", .str "drop"] = decide (x ∈ (["set", "out", "reserve", "drop"] : List Str)) := inV_strs _ ["set", "out", "reserve", "drop"]
      by_cases h3 : x ∈ (["set", "out", "reserve", "drop"] : List Str)
      · refine ifT (by rw [if_neg (by decide), i3, decide_eq_true h3]) ?_
        refine fun dd hdd => ⟨_, rfl, _, rfl, _, rfl, (by show 3 ≤ sizeLine; decide), fun ta hta => ⟨_, rfl, _, rfl, (by show 2 ≤ sizeLine; decide), fun tb htb => ?_⟩⟩
        have w1 := stp_new (o := .dK []) s9.1 hdd
        have w2 := stp_new (o := .tup [.str x, vv, v1]) w1.1 hta
        have w3 := stp_new (o := .tup [.str x, vn]) w2.1 htb
        have nad : dd ≠ ta := ne_of_none upd_same hta
        have nbd : dd ≠ tb := ne_of_none (by rw [upd_ne nad]; exact upd_same) htb
        have nab : ta ≠ tb := ne_of_none upd_same htb
        have ndr : dd ≠ r := (s9.1.ne hdd).symm
        have nar : ta ≠ r := (w1.1.ne hta).symm
        have nbr : tb ≠ r := (w2.1.ne htb).symm
        have x1 : ¬ X ta := nox hX (s9.trans w1) hta
        have x2 : ¬ X tb := nox hX (s9.trans (w1.trans w2)) htb
        have w4 := (w1.trans (w2.trans w3)).at (o := .dK [(Sum.inr "set", .ref ta), (Sum.inr "drop", .ref tb)]) hdd ndr
        refine ⟨by rw [upd_ne nbd, upd_ne nad]; exact upd_same, [(Sum.inr "set", .ref ta), (Sum.inr "drop", .ref tb)], rfl, (by show 2 ≤ 15; decide), ?_⟩
        have hm : mergeK [] [((Sum.inr "set" : Key), V.ref ta), (Sum.inr "drop", .ref tb)] = [((Sum.inr "set" : Key), V.ref ta), (Sum.inr "drop", .ref tb)] := rfl
        rw [hm]
        have g1 : (upd (upd (upd (upd G9 dd (.dK [])) ta (.tup [.str x, vv, v1])) tb (.tup [.str x, vn])) dd (.dK [(Sum.inr "set", .ref ta), (Sum.inr "drop", .ref tb)])) dd = some (.dK [(Sum.inr "set", .ref ta), (Sum.inr "drop", .ref tb)]) := upd_same
        have g2 : (upd (upd (upd (upd G9 dd (.dK [])) ta (.tup [.str x, vv, v1])) tb (.tup [.str x, vn])) dd (.dK [(Sum.inr "set", .ref ta), (Sum.inr "drop", .ref tb)])) ta = some (.tup [.str x, vv, v1]) := by
          rw [upd_ne nad.symm, upd_ne nab]
          exact upd_same
        have g3 : (upd (upd (upd (upd G9 dd (.dK [])) ta (.tup [.str x, vv, v1])) tb (.tup [.str x, vn])) dd (.dK [(Sum.inr "set", .ref ta), (Sum.inr "drop", .ref tb)])) tb = some (.tup [.str x, vn]) := by
          rw [upd_ne nbd.symm]
          exact upd_same
        clear w1 w2 w3
        generalize (upd (upd (upd (upd G9 dd (.dK [])) ta (.tup [.str x, vv, v1])) tb (.tup [.str x, vn])) dd (.dK [(Sum.inr "set", .ref ta), (Sum.inr "drop", .ref tb)])) = G10 at *
        have s10 := s9.trans w4
        have vd1 := vd1.mono w4
        refine ⟨dd, rfl, .inl ⟨_, .inl g1⟩, _, rfl, _, rfl, _, rfl, (by show 2 ≤ sizeLine; decide), fun te hte => ⟨_, DGet.k (k := Sum.inr x) ((stp_new s10.1 hte).2 _ _ ndr g1), ?_⟩⟩
        have t11 := stp_new (o := .tup [.str x, v1]) s10.1 hte
        have s11 := s10.trans t11
        have ner : te ≠ r := (s10.1.ne hte).symm
        have x3 : ¬ X te := nox hX s10 hte
        by_cases h4 : ("set" : Str) = x
        · rw [valV_pos (p := ((Sum.inr ("set" : Str) : Key), V.ref ta)) (k := (Sum.inr x : Key)) (congrArg Sum.inr h4)]
          exact fin ta _ [.str x, dv, d1] _ nar x1 (t11.2 _ _ nar g2) (.cons lw.vd (.cons lv.vd (.cons (vd1.mono t11) .nil))) (.cons (bw (Nat.zero_le _)) (.cons (bv (Nat.zero_le _)) (.cons c1 (.nil (m := 0)) (Nat.le_refl _)) (Nat.le_refl _)) (by omega)) (by show 3 ≤ 4; decide) s11
        · rw [valV_neg (p := ((Sum.inr ("set" : Str) : Key), V.ref ta)) (k := (Sum.inr x : Key)) (fun z => h4 (Sum.inr.inj z))]
          by_cases h5 : ("drop" : Str) = x
          · rw [valV_pos (p := ((Sum.inr ("drop" : Str) : Key), V.ref tb)) (k := (Sum.inr x : Key)) (congrArg Sum.inr h5)]
            exact fin tb _ [.str x, dn] _ nbr x2 (t11.2 _ _ nbr g3) (.cons lw.vd (.cons ln.vd .nil)) (.cons (bw (Nat.zero_le _)) (.cons (bn (Nat.zero_le _)) (.nil (m := 0)) (Nat.le_refl _)) (by omega)) (by show 2 ≤ 4; decide) s11
          · rw [valV_neg (p := ((Sum.inr ("drop" : Str) : Key), V.ref tb)) (k := (Sum.inr x : Key)) (fun z => h5 (Sum.inr.inj z))]
            exact fin te _ [.str x, d1] _ ner x3 upd_same (.cons lw.vd (.cons (vd1.mono t11) .nil)) (.cons (bw (Nat.zero_le _)) (.cons c1 (.nil (m := 0)) (Nat.le_refl _)) (by omega)) (by show 2 ≤ 4; decide) s11
      refine ifF (by rw [if_neg (by decide), i3, decide_eq_false h3]) ?_
      -- bodies
      have k1 : 1 ≤ k := by
        rcases hk with hk | hk
        · have hs : x ∈ (["new", "resize"] : List Str) ∨ x ∈ (["store", "load"] : List Str) ∨ x ∈ (["set", "out", "reserve", "drop"] : List Str) := by
            have z : (nine.all fun y => decide (y ∈ (["new", "resize"] : List Str)) || (decide (y ∈ (["store", "load"] : List Str)) || decide (y ∈ (["set", "out", "reserve", "drop"] : List Str)))) = true := by decide +kernel
            have := List.all_eq_true.mp z x hk
            simp only [Bool.or_eq_true, decide_eq_true_eq] at this
            exact this
          rcases hs with z | z | z
          · exact absurd z h1
          · exact absurd z h2
          · exact absurd z h3
        · exact hk
      obtain ⟨j, rfl⟩ : ∃ j, k = j + 1 := ⟨k - 1, by omega⟩
      have ew : wI (j + 1) = 8 * wI j + 324 := rfl
      refine ⟨_, rfl, _, rfl, _, _, rfl, rfl, r, j, 4, X, by omega, by decide, (by show [_, V.int (((j + 1 : Nat) : Int) - 1), _] = _; rw [show ((j + 1 : Nat) : Int) - 1 = ((j : Nat) : Int) by omega]; rfl), hX.mono s9, s9.1, fun pb db G10 vdb bb t10 => ?_⟩
      have s10 := s9.trans t10
      refine ⟨_, rfl, _, rfl, _, _, rfl, rfl, r, j, 3, X, by omega, by decide, (by show [_, V.int (((j + 1 : Nat) : Int) - 1), _] = _; rw [show ((j + 1 : Nat) : Int) - 1 = ((j : Nat) : Int) by omega]; rfl), hX.mono s10, s10.1, fun po do_ G11 vdo bo t11 => ⟨_, _, rfl, ?_⟩⟩
      have s11 := s10.trans t11
      have vdb := vdb.mono t11
      have vd1 := vd1.mono (t10.trans t11)
      have vd2 := vd2.mono (t10.trans t11)
      have bb : Bd (2 * (j + 1) + 3) (4 * wI j + 12) 4 (.list db) := bb.mono (by omega) (Nat.le_refl _) (Nat.le_refl _)
      have bo : Bd (2 * (j + 1) + 3) (4 * wI j + 12) 4 (.list do_) := bo.mono (by omega) (Nat.le_refl _) (Nat.le_refl _)
      refine ⟨_, rfl, rfl, _, rfl, ?_⟩
      by_cases h4 : x = "repeat"
      · refine ifT (decide_eq_true (congrArg V.str h4)) ?_
        refine ⟨_, rfl, _, rfl, r, 2, rfl, s11.1, by decide, by omega, fun c G12 c0 c1' t12 => ⟨rfl, _, rfl, ?_⟩⟩
        have s12 := s11.trans t12
        by_cases h5 : c = 0
        · refine ifT (vT h5) ⟨_, rfl, r, 5, rfl, s12.1, by decide, by omega, fun e G13 e0 e1 t13 => ⟨_, _, rfl, rfl, _, rfl, (by show 3 ≤ sizeLine; decide), fun pt hpt => ?_⟩⟩
          have s13 := s12.trans t13
          have t14 := stp_new (o := .tup [.str x, .int (e - 1), .ref pb]) s13.1 hpt
          have le := lf_int (i := e - 1) (by omega) (by omega)
          exact fin pt _ [.str x, .int (e - 1), .list db] _ (s13.1.ne hpt).symm (nox hX s13 hpt) upd_same (.cons lw.vd (.cons le.vd (.cons (vdb.mono (t12.trans (t13.trans t14))) .nil))) (.cons (bw (Nat.zero_le _)) (.cons (le.2.mono (Nat.zero_le _) (Nat.le_refl _) (by decide)) (.cons bb (.nil (m := 0)) (Nat.le_refl _)) (Nat.le_refl _)) (by omega)) (by show 3 ≤ 4; decide) (s13.trans t14)
        · refine ifF (vF h5) ⟨_, rfl, _, rfl, (by show 3 ≤ sizeLine; decide), fun pt hpt => ?_⟩
          have t14 := stp_new (o := .tup [.str x, v2, .ref pb]) s12.1 hpt
          exact fin pt _ [.str x, d2, .list db] _ (s12.1.ne hpt).symm (nox hX s12 hpt) upd_same (.cons lw.vd (.cons (vd2.mono (t12.trans t14)) (.cons (vdb.mono (t12.trans t14)) .nil))) (.cons (bw (Nat.zero_le _)) (.cons c2 (.cons bb (.nil (m := 0)) (Nat.le_refl _)) (Nat.le_refl _)) (by omega)) (by show 3 ≤ 4; decide) (s12.trans t14)
      refine ifF (decide_eq_false (sv_ne h4)) ?_
      refine ⟨_, rfl, rfl, _, rfl, ?_⟩
      by_cases h5 : x = "if"
      · refine ifT (decide_eq_true (congrArg V.str h5)) ⟨_, rfl, _, rfl, _, rfl, _, rfl, (by show 4 ≤ sizeLine; decide), fun pt hpt => ?_⟩
        have t14 := stp_new (o := .tup [.str x, v1, .ref pb, .ref po]) s11.1 hpt
        exact fin pt _ [.str x, d1, .list db, .list do_] _ (s11.1.ne hpt).symm (nox hX s11 hpt) upd_same (.cons lw.vd (.cons (vd1.mono t14) (.cons (vdb.mono t14) (.cons (vdo.mono t14) .nil)))) (.cons (bw (Nat.zero_le _)) (.cons c1 (.cons bb (.cons bo (.nil (m := 0)) (Nat.le_refl _)) (Nat.le_refl _)) (Nat.le_refl _)) (by omega)) (by show 4 ≤ 4; decide) (s11.trans t14)
      · refine ifF (decide_eq_false (sv_ne h5)) ⟨_, rfl, _, rfl, _, rfl, _, rfl, (by show 4 ≤ sizeLine; decide), fun pt hpt => ?_⟩
        have t14 := stp_new (o := .tup [.str x, .ref pb, vv, .ref po]) s11.1 hpt
        exact fin pt _ [.str x, .list db, dv, .list do_] _ (s11.1.ne hpt).symm (nox hX s11 hpt) upd_same (.cons lw.vd (.cons (vdb.mono t14) (.cons lv.vd (.cons (vdo.mono t14) .nil)))) (.cons (bw (Nat.zero_le _)) (.cons bb (.cons (bv (Nat.zero_le _)) (.cons bo (.nil (m := 0)) (Nat.le_refl _)) (Nat.le_refl _)) (Nat.le_refl _)) (by omega)) (by show 4 ≤ 4; decide) (s11.trans t14)
end
end K81

set_option Elab.async false
set_option linter.all false
set_option maxRecDepth 100000
set_option maxHeartbeats 4000000
set_option pp.maxSteps 900
namespace K81
open PySem PySem.Spec PyProof.Rows L2 Gu Ex RZ
theorem cut_to (xs : List V) (i : Nat) : cutV xs none (some (i : Int)) = xs.take i := by
  unfold cutV
  rw [HT.sIx_none, HT.sIx_nat, List.drop_zero, Nat.sub_zero]
  by_cases h : i ≤ xs.length
  · rw [Nat.min_eq_left h]
  · rw [Nat.min_eq_right (by omega), List.take_of_length_le (by omega), List.take_of_length_le (by omega)]
theorem cut_from (xs : List V) (i : Nat) : cutV xs (some (i : Int)) none = xs.drop i := by
  unfold cutV
  rw [HT.sIx_none, HT.sIx_nat]
  by_cases h : i ≤ xs.length
  · rw [Nat.min_eq_left h, List.take_of_length_le (by rw [List.length_drop]; omega)]
  · rw [Nat.min_eq_right (by omega), List.drop_of_length_le (Nat.le_refl _), List.drop_of_length_le (by omega), List.take_nil]
theorem sub_to {n i : Nat} (h : i < n) : ¬ (HT.sIx n 0 none = 0 ∧ HT.sIx n n (some (i : Int)) = n) := fun z => by
  have := z.2
  rw [HT.sIx_nat] at this
  omega
theorem sub_from {n i : Nat} (h : 1 ≤ i) (hn : 1 ≤ n) : ¬ (HT.sIx n 0 (some (i : Int)) = 0 ∧ HT.sIx n n none = n) := fun z => by
  have := z.1
  rw [HT.sIx_nat] at this
  omega
/-- a tuple that stays -/
structure Tp (r : Addr) (X : Addr → Prop) (H : Hp) (a : Addr) (xs : List V) : Prop where
  at_ : H a = some (.tup xs)
  nr : a ≠ r
  nx : ¬ X a
section
variable {r : Addr} {X : Addr → Prop} {H H' : Hp} {K : PySem.W.Frag}
theorem Tp.mono {a : Addr} {xs : List V} (h : Tp r X H a xs) (s : Stp r H H') : Tp r X H' a xs := ⟨s.2 _ _ h.nr h.at_, h.nr, h.nx⟩
theorem tp_new {p : Addr} {xs : List V} (hR : Rng H r) (hX : Xt X H) (hp : H p = none) : Tp r X (upd H p (.tup xs)) p xs := ⟨upd_same, (hR.ne hp).symm, fun x => hX p x hp⟩
theorem Tp.vd {a : Addr} {xs : List V} {ds : List PyData} (h : Tp r X H a xs) (va : VdAll r X H xs ds) : Vd r X H (.ref a) (.tuple ds) := Vd.tup h.nr h.nx h.at_ va
theorem tp_cat {a b : Addr} {xs ys : List V} {Q : VK} (hR : Rng H r) (hX : Xt X H) (ha : Tp r X H a xs) (hb : Tp r X H b ys) (hz : xs.length + ys.length ≤ sizeLine) (q : ∀ c H', Stp r H H' → Tp r X H' c (xs ++ ys) → Q (.ref c) H') : rCatA K (.ref a) (.ref b) H Q := by
  refine ⟨a, b, xs, ys, rfl, rfl, SqT.of ha.at_, SqT.of hb.at_, hz, fun e => ?_, fun _ e => ?_, fun _ _ p hp => q p _ (stp_new hR hp) (tp_new hR hX hp)⟩
  · subst e
    exact q b H (Stp.refl hR) hb
  · subst e
    refine q a H (Stp.refl hR) ?_
    rw [List.append_nil]
    exact ha
/-- t[:i], not the whole -/
theorem tp_to {a : Addr} {xs : List V} {i : Nat} {Q : VK} (hR : Rng H r) (hX : Xt X H) (ha : Tp r X H a xs) (hi : i < xs.length) (q : ∀ c H', Stp r H H' → Tp r X H' c (xs.take i) → Q (.ref c) H') : rSlT K (.ref a) none (some (i : Int)) H Q := by
  refine ⟨a, xs, rfl, SqT.of ha.at_, sub_to hi, fun p hp => ?_⟩
  rw [cut_to]
  exact q p _ (stp_new hR hp) (tp_new hR hX hp)
theorem tp_from {a : Addr} {xs : List V} {i : Nat} {Q : VK} (hR : Rng H r) (hX : Xt X H) (ha : Tp r X H a xs) (hi : 1 ≤ i) (hl : 1 ≤ xs.length) (q : ∀ c H', Stp r H H' → Tp r X H' c (xs.drop i) → Q (.ref c) H') {σ : L2.St} : tNoPart σ H (fun u H3 => rSlT K (.ref a) (some (i : Int)) u H3 Q) := by
  refine ⟨a, xs, rfl, SqT.of ha.at_, sub_from hi hl, fun p hp => ?_⟩
  rw [cut_from]
  exact q p _ (stp_new hR hp) (tp_new hR hX hp)
theorem tp_fromA {a : Addr} {xs : List V} {i : Nat} {Q : VK} (hR : Rng H r) (hX : Xt X H) (ha : Tp r X H a xs) (q : ∀ c H', Stp r H H' → Tp r X H' c (xs.drop i) → Q (.ref c) H') {σ : L2.St} : tNoPart σ H (fun u H3 => rSlA K (.ref a) (some (i : Int)) u H3 Q) := by
  refine ⟨a, xs, rfl, SqT.of ha.at_, fun z => ?_, fun _ p hp => ?_⟩
  · refine q a H (Stp.refl hR) ?_
    have h1 := z.1
    rw [HT.sIx_nat] at h1
    have e : xs.drop i = xs := by
      by_cases h0 : i = 0
      · rw [h0, List.drop_zero]
      · have h2 : xs.length = 0 := by omega
        rw [List.eq_nil_of_length_eq_zero h2, List.drop_nil]
    rw [e]
    exact ha
  · rw [cut_from]
    exact q p _ (stp_new hR hp) (tp_new hR hX hp)
end
def twelve : List Str := ["new", "drop", "resize", "store", "load", "set", "out", "reserve", "if", "repeat", "attempt", "stop"]
theorem twelve_ok : (twelve.all fun x => ((PyData.str x).showable && (decide ((PyData.str x).depth ≤ 0) && (decide (wt (PyData.str x) ≤ 9) && lensB 3 (PyData.str x)))) && (decide (x.length ≤ 60) && x.cps.toList.all fun c => decide (c < 1114112))) = true := by decide +kernel
theorem lf_twelve {x : Str} (h : x ∈ twelve) : Lf 9 (.str x) (.str x) := by
  obtain ⟨h1, h2⟩ := He.ba (List.all_eq_true.mp twelve_ok x h)
  obtain ⟨h3, h4⟩ := He.ba h2
  exact ⟨fun G => .str x ⟨of_decide_eq_true h3, fun c hc => of_decide_eq_true (List.all_eq_true.mp h4 c hc)⟩, bd h1⟩
section
variable {P : Program} {w : World} {K : PySem.W.Frag} {mg : Str → Option Value} {base : Heap} {f : Addr} {fd : FuncData}
def spBone : Sp := fun vs H Q _ => ∃ (r : Addr) (v : V) (d : PyData) (n m l : Nat) (X : Addr → Prop), vs = [.ref r, v] ∧ Xt X H ∧ Rng H r ∧ Vd r X H v d ∧ Bd n m l d ∧ 3 ≤ l ∧ l ≤ 900 ∧
  ∀ v' d' H', Vd r X H' v' d' → Bd (n + 3) (m + 130) (l + 1) d' → Stp r H H' → Q v' H'
theorem sc__law_bent_one : FnScope ["_law_rng_here", "_law_one", "_law_words", "_law_at", "_law_way"] ["_law_rng_here", "_law_one"] (defScope (top 34)) := ⟨rfl, rfl, rfl, by decide +kernel, rfl, by decide +kernel, by decide +kernel⟩
theorem ok_bone (T : Tx w K mg) (D__law_draw : Df P w K mg base 1 "_law_draw" ["_law_rng_here", "_law_many"] spDraw) (D__law_choice : Df P w K mg base 2 "_law_choice" ["_law_rng_here", "_law_options"] spChoice)
    (D__law_odd : Df P w K mg base 3 "_law_odd" ["_law_rng_here"] spOdd) (F : FnP K "_law_bent_one" "_law_bent_one" (top 34) f fd) : FnOk P w K mg base CX0 4 f fd ["_law_rng_here", "_law_one"] spBone := by
  refine F.ok sc__law_bent_one (fun vs H Q E h => ?_) (fun cdv A outer s H vs Q E hr h => ⟨_, PSs.nox (pss_cons (ps_if (PW.pt (pw_or (pt_not (pt_val (pe_callB call_isi (by rfl) T.n_isinstance (by decide +kernel) (pa_cons (pv 1) (pa_cons (pe_bltn (v := .ty "tuple") (by rfl) T.n_tuple (by decide +kernel) rfl) pa_nil))))) (pw_or1 (pt_cmpR op_eq (pe_callB call_len_seq (by rfl) T.n_len (by decide +kernel) (pa_cons (pv 1) pa_nil)) pe_int (nomark _))))) (pss_one (ps_ret (pcall D__law_odd hr (pa_cons (pv 0) pa_nil)))) pss_nil) (pss_cons (ps_par (by rfl) sc__law_bent_one.nd (i := 3) (j := 4) rfl rfl (by decide) rfl rfl (pa_cons (pcall D__law_draw hr (pa_cons (pv 0) (pa_cons (pe_callB call_len_seq (by rfl) T.n_len (by decide +kernel) (pa_cons (pv 1) pa_nil)) pa_nil))) (pa_cons (pcall D__law_draw hr (pa_cons (pv 0) (pa_cons pe_int pa_nil))) pa_nil)) (by rfl)) (pss_cons (ps_if (pt_cmpR op_lt (pv 4) pe_int (nomark _)) (pss_one (ps_ret (pe_op op_catA (pe_op op_catA (pe_slice sl_tup (pv 1) po_none (po_some (pv 3))) (pe_tup (pa_cons (pcall D__law_odd hr (pa_cons (pv 0) pa_nil)) pa_nil))) (pe_slice sl_tup (pv 1) (po_some (pe_op op_add (pv 3) pe_int)) po_none)))) pss_nil) (pss_cons (ps_if (pt_cmpR op_eq (pv 4) pe_int (nomark _)) (pss_one (ps_ret (pe_op op_catA (pe_slice sl_tup (pv 1) po_none (po_some (pv 3))) (pe_slice sl_tup (pv 1) (po_some (pe_op op_add (pv 3) pe_int)) po_none)))) pss_nil) (pss_cons (ps_if (pt_cmpR op_eq (pv 4) pe_int (nomark _)) (pss_one (ps_ret (pe_op op_catA (pe_op op_catA (pe_slice sl_tup (pv 1) po_none (po_some (pv 3))) (pe_tup (pa_cons (pcall D__law_odd hr (pa_cons (pv 0) pa_nil)) pa_nil))) (pe_slice sl_tupA (pv 1) (po_some (pv 3)) po_none)))) pss_nil) (pss_cons (ps_if (pt_cmpR op_eq (pv 4) pe_int (nomark _)) (pss_one (ps_ret (pe_callTy call_list_of (by rfl) T.n_list (by decide +kernel) (pa_cons (pv 1) pa_nil)))) pss_nil) (pss_cons (ps_set (i := 2) sc__law_bent_one.nd rfl (by first | exact Or.inl rfl | exact Or.inr rfl) (pe_lst (pa_cons pe_str (pa_cons pe_str (pa_cons pe_str (pa_cons pe_str (pa_cons pe_str (pa_cons pe_str (pa_cons pe_str (pa_cons pe_str (pa_cons pe_str (pa_cons pe_str (pa_cons pe_str (pa_cons pe_str pa_nil)))))))))))))) (pss_one (ps_ret (pe_ifExp (pt_cmpR op_eq (pv 4) pe_int (nomark _)) (pe_op op_catA (pe_tup (pa_cons (pcall D__law_choice hr (pa_cons (pv 0) (pa_cons (pv 2) pa_nil))) pa_nil)) (pe_slice sl_tup (pv 1) (po_some pe_int) po_none)) (pcall D__law_odd hr (pa_cons (pv 0) pa_nil)))))))))))), ?_⟩)
  · obtain ⟨r, v, d, _, _, _, _, rfl, _⟩ := h
    rfl
  · obtain ⟨r, v, d, n, m, l, X, rfl, hX, hR, vd, hb, l3, l9, q⟩ := h
    have big : (10 : Int) ^ 40 = 10000000000000000000000000000000000000000 := by decide
    have sl : sizeLine = 16777216 := sizeLine_eq
    have hv := vd H Ag.refl
    obtain ⟨Ty, ty, k1, k2, k3, k4, k5⟩ := hv.ty (K := K)
    have od : ∀ {d' : PyData}, Bd 3 100 3 d' → Bd (n + 3) (m + 130) (l + 1) d' := fun b => b.mono (by omega) (by omega) (by omega)
    refine ⟨_, rfl, _, _, _, _, _, rfl, .ty "tuple", ty, kit_ty k4, _, rfl, ?_⟩
    cases ht : dT d with
    | false => exact iteT ⟨_, rfl, r, X, rfl, hX, hR, fun v' d' H' vd' b' st => q v' d' H' vd' (od b') st⟩
    | true =>
      cases hv with
      | @tup t xs ds e h =>
        obtain ⟨xs', e', ntr, nxt, vda⟩ := vd.parts hR
        rw [e] at e'
        cases e'
        have xl := vda.len
        obtain ⟨n', rfl, ba, dl, wl⟩ := hb.ofT
        refine iteF ⟨_, rfl, t, _, rfl, .inr (SqT.of e), rfl, _, rfl, ?_⟩
        by_cases h0 : xs.length = 0
        · exact ifT (vT (by omega)) ⟨_, rfl, r, X, rfl, hX, hR, fun v' d' H' vd' b' st => q v' d' H' vd' (od b') st⟩
        refine ifF (vF (by omega)) ?_
        refine ⟨_, rfl, _, rfl, t, _, rfl, .inr (SqT.of e), r, _, rfl, hR, by omega, by omega, fun a H1 a0 a1 s1 => ?_⟩
        obtain ⟨i, rfl⟩ := Int.eq_ofNat_of_zero_le a0
        have hi : i < xs.length := by omega
        refine ⟨_, rfl, r, 8, rfl, s1.1, by decide, by omega, fun y H2 y0 y1 t2 => ⟨_, _, rfl, ?_⟩⟩
        have s2 := s1.trans t2
        have vda := vda.mono s2
        have tp : Tp r X H2 t xs := ⟨s2.2 _ _ ntr e, ntr, nxt⟩
        have hX2 := hX.mono s2
        have R2 := s2.1
        clear h e ty
        have fin : ∀ (p : Addr) (vs : List V) (es : List PyData) (G : Hp), Tp r X G p vs → VdAll r X G vs es → BdAll (n' + 3) (wtAll ds + 110) (l + 1) es → es.length ≤ l + 1 → Stp r H2 G → Q (.ref p) G :=
          fun p vs es G hp va b hl st => q (.ref p) (.tuple es) G (hp.vd va) ((b.tup hl).mono (by omega) (by omega) (Nat.le_refl _)) (s2.trans st)
        have b1 := (ba.take i).mono (show n' ≤ n' + 3 by omega) (Nat.le_refl _) (show l ≤ l + 1 by omega)
        have b2 := (ba.drop (i + 1)).mono (show n' ≤ n' + 3 by omega) (Nat.le_refl _) (show l ≤ l + 1 by omega)
        have b3 := (ba.drop i).mono (show n' ≤ n' + 3 by omega) (Nat.le_refl _) (show l ≤ l + 1 by omega)
        obtain ⟨d0, hd0⟩ : ∃ d0, ds[i]? = some d0 := ⟨_, List.getElem?_eq_getElem (by omega)⟩
        have w1 := wt_at hd0
        have w2 := wt_cut ds i
        have lt : (ds.take i).length = i := by rw [List.length_take]; omega
        have ld : (ds.drop i).length = ds.length - i := List.length_drop ..
        have ld1 : (ds.drop (i + 1)).length = ds.length - (i + 1) := List.length_drop ..
        have lxt : (xs.take i).length = i := by rw [List.length_take]; omega
        have lxd : (xs.drop i).length = xs.length - i := List.length_drop ..
        have lxd1 : (xs.drop (i + 1)).length = xs.length - (i + 1) := List.length_drop ..
        -- way < 3
        refine ⟨_, rfl, _, _, rfl, rfl, _, rfl, ?_⟩
        by_cases c1 : y < 3
        · refine ifT (decide_eq_true c1) ?_
          refine ⟨_, rfl, _, rfl, _, rfl, tp_to R2 hX2 tp hi fun pa G3 t3 ta => ?_⟩
          refine ⟨_, rfl, r, X, rfl, hX2.mono t3, t3.1, fun vo do_ G4 vdo bo t4 => ⟨(by show 1 ≤ sizeLine; decide), fun po hpo => ?_⟩⟩
          have s4 := t3.trans t4
          have t5 := stp_new (o := .tup [vo]) s4.1 hpo
          have to5 : Tp r X _ po [vo] := tp_new s4.1 (hX2.mono s4) hpo
          have s5 := s4.trans t5
          refine tp_cat s5.1 (hX2.mono s5) (ta.mono (t4.trans t5)) to5 (by show _ + 1 ≤ _; omega) fun pc G6 t6 tc => ?_
          have s6 := s5.trans t6
          refine ⟨_, rfl, _, rfl, _, _, rfl, rfl, _, rfl, tp_from (i := i + 1) s6.1 (hX2.mono s6) (tp.mono s6) (by omega) (by omega) fun pd G7 t7 td => ?_⟩
          have s7 := s6.trans t7
          refine tp_cat s7.1 (hX2.mono s7) (tc.mono t7) td (by rw [List.length_append]; show _ + 1 + _ ≤ _; omega) fun pe G8 t8 te => ?_
          have s8 := s7.trans t8
          refine fin pe _ (ds.take i ++ [do_] ++ ds.drop (i + 1)) G8 te ((((vda.mono s8).take i).app (.cons (vdo.mono (t5.trans (t6.trans (t7.trans t8)))) .nil)).app ((vda.mono s8).drop (i + 1))) ?_ ?_ s8
          · exact (b1.app (BdAll.cons (m := 102) (bo.mono (by omega) (Nat.le_refl _) (by omega)) (.nil (m := 0)) (by omega)) (Nat.le_refl _)).app b2 (by omega)
          · rw [List.length_append, List.length_append]
            show _ + 1 + _ ≤ _
            omega
        refine ifF (decide_eq_false c1) ?_
        -- way == 3
        refine ⟨_, rfl, rfl, _, rfl, ?_⟩
        by_cases c2 : y = 3
        · refine ifT (vT c2) ?_
          refine ⟨_, rfl, _, rfl, _, rfl, tp_to R2 hX2 tp hi fun pa G3 t3 ta => ?_⟩
          refine ⟨_, rfl, _, rfl, _, _, rfl, rfl, _, rfl, tp_from (i := i + 1) t3.1 (hX2.mono t3) (tp.mono t3) (by omega) (by omega) fun pd G7 t7 td => ?_⟩
          have s7 := t3.trans t7
          refine tp_cat s7.1 (hX2.mono s7) (ta.mono t7) td (by omega) fun pe G8 t8 te => ?_
          have s8 := s7.trans t8
          exact fin pe _ (ds.take i ++ ds.drop (i + 1)) G8 te (((vda.mono s8).take i).app ((vda.mono s8).drop (i + 1))) (b1.app b2 (by omega)) (by rw [List.length_append]; omega) s8
        refine ifF (vF c2) ?_
        -- way == 4
        refine ⟨_, rfl, rfl, _, rfl, ?_⟩
        by_cases c3 : y = 4
        · refine ifT (vT c3) ?_
          refine ⟨_, rfl, _, rfl, _, rfl, tp_to R2 hX2 tp hi fun pa G3 t3 ta => ?_⟩
          refine ⟨_, rfl, r, X, rfl, hX2.mono t3, t3.1, fun vo do_ G4 vdo bo t4 => ⟨(by show 1 ≤ sizeLine; decide), fun po hpo => ?_⟩⟩
          have s4 := t3.trans t4
          have t5 := stp_new (o := .tup [vo]) s4.1 hpo
          have to5 : Tp r X _ po [vo] := tp_new s4.1 (hX2.mono s4) hpo
          have s5 := s4.trans t5
          refine tp_cat s5.1 (hX2.mono s5) (ta.mono (t4.trans t5)) to5 (by show _ + 1 ≤ _; omega) fun pc G6 t6 tc => ?_
          have s6 := s5.trans t6
          refine ⟨_, rfl, _, rfl, _, rfl, tp_fromA (i := i) s6.1 (hX2.mono s6) (tp.mono s6) fun pd G7 t7 td => ?_⟩
          have s7 := s6.trans t7
          refine tp_cat s7.1 (hX2.mono s7) (tc.mono t7) td (by rw [List.length_append]; show _ + 1 + _ ≤ _; omega) fun pe G8 t8 te => ?_
          have s8 := s7.trans t8
          refine fin pe _ (ds.take i ++ [do_] ++ ds.drop i) G8 te ((((vda.mono s8).take i).app (.cons (vdo.mono (t5.trans (t6.trans (t7.trans t8)))) .nil)).app ((vda.mono s8).drop i)) ?_ ?_ s8
          · exact (b1.app (BdAll.cons (m := 102) (bo.mono (by omega) (Nat.le_refl _) (by omega)) (.nil (m := 0)) (by omega)) (Nat.le_refl _)).app b3 (by omega)
          · rw [List.length_append, List.length_append]
            show _ + 1 + _ ≤ _
            omega
        refine ifF (vF c3) ?_
        -- way == 5
        refine ⟨_, rfl, rfl, _, rfl, ?_⟩
        by_cases c4 : y = 5
        · refine ifT (vT c4) ⟨_, rfl, t, xs, rfl, .inr (SqT.of tp.at_), fun pl hpl => ?_⟩
          have t3 := stp_new (o := .lst xs) R2 hpl
          refine q (.ref pl) (.list ds) _ (Vd.lst (R2.ne hpl).symm (fun x => hX2 pl x hpl) upd_same (vda.mono t3)) ?_ (s2.trans t3)
          exact (ba.lst dl).mono (by omega) (by omega) (by omega)
        refine ifF (vF c4) ?_
        -- words
        refine ⟨(by show 12 ≤ sizeLine; decide), fun pw hpw => ?_⟩
        have t3 := stp_new (o := .lst (twelve.map V.str)) R2 hpw
        have npw : pw ≠ r := (R2.ne hpw).symm
        refine ⟨_, rfl, rfl, _, rfl, ?_⟩
        by_cases c5 : y = 6
        · refine ifT (vT c5) ?_
          refine ⟨_, rfl, _, rfl, r, pw, _, rfl, t3.1, upd_same, npw, (by show 1 ≤ 12; decide), (by show 12 ≤ 1000; decide), fun vw G4 hvw t4 => ⟨(by show 1 ≤ sizeLine; decide), fun po hpo => ?_⟩⟩
          obtain ⟨x, hx, rfl⟩ := List.mem_map.mp (show vw ∈ twelve.map V.str from hvw)
          have lw := lf_twelve hx
          have s4 := t3.trans t4
          have t5 := stp_new (o := .tup [.str x]) s4.1 hpo
          have to5 : Tp r X _ po [.str x] := tp_new s4.1 (hX2.mono s4) hpo
          have s5 := s4.trans t5
          refine ⟨_, rfl, _, rfl, tp_from (i := 1) s5.1 (hX2.mono s5) (tp.mono s5) (by omega) (by omega) fun pd G7 t7 td => ?_⟩
          have s7 := s5.trans t7
          refine tp_cat s7.1 (hX2.mono s7) (to5.mono t7) td (by rw [List.length_drop]; show 1 + _ ≤ _; omega) fun pe G8 t8 te => ?_
          have s8 := s7.trans t8
          have b4 := (ba.drop 1).mono (show n' ≤ n' + 3 by omega) (Nat.le_refl _) (show l ≤ l + 1 by omega)
          have w4 := wt_cut ds 1
          refine fin pe _ ([.str x] ++ ds.drop 1) G8 te (VdAll.app (.cons lw.vd .nil) ((vda.mono s8).drop 1)) ((BdAll.cons (m := 11) (lw.2.mono (Nat.zero_le _) (Nat.le_refl _) (by omega)) (.nil (m := 0)) (by omega)).app b4 (by omega)) (by rw [List.length_append, List.length_drop]; show 1 + _ ≤ _; omega) s8
        · exact ifF (vF c5) ⟨_, rfl, r, X, rfl, hX2.mono t3, t3.1, fun v' d' H' vd' b' st => q v' d' H' vd' (od b') (s2.trans (t3.trans st))⟩
      | _ => cases ht
end
end K81

set_option Elab.async false
set_option linter.all false
set_option maxRecDepth 100000
set_option maxHeartbeats 4000000
set_option pp.maxSteps 900
namespace K81
open PySem PySem.Spec PyProof.Rows L2 Gu Ex RZ
/-- a list that stays -/
structure Lp (r : Addr) (X : Addr → Prop) (H : Hp) (a : Addr) (xs : List V) : Prop where
  at_ : H a = some (.lst xs)
  nr : a ≠ r
  nx : ¬ X a
section
variable {r : Addr} {X : Addr → Prop} {H H' : Hp} {K : PySem.W.Frag}
theorem Lp.mono {a : Addr} {xs : List V} (h : Lp r X H a xs) (s : Stp r H H') : Lp r X H' a xs := ⟨s.2 _ _ h.nr h.at_, h.nr, h.nx⟩
theorem lp_new {p : Addr} {xs : List V} (hR : Rng H r) (hX : Xt X H) (hp : H p = none) : Lp r X (upd H p (.lst xs)) p xs := ⟨upd_same, (hR.ne hp).symm, fun x => hX p x hp⟩
theorem Lp.vd {a : Addr} {xs : List V} {ds : List PyData} (h : Lp r X H a xs) (va : VdAll r X H xs ds) : Vd r X H (.ref a) (.list ds) := Vd.lst h.nr h.nx h.at_ va
theorem lp_cat {a b : Addr} {xs ys : List V} {Q : VK} (hR : Rng H r) (hX : Xt X H) (ha : Lp r X H a xs) (hb : Lp r X H b ys) (hz : xs.length + ys.length ≤ sizeLine) (q : ∀ c H', Stp r H H' → Lp r X H' c (xs ++ ys) → Q (.ref c) H') : rCat (.ref a) (.ref b) H Q :=
  ⟨a, b, xs, ys, rfl, rfl, ha.at_, hb.at_, hz, fun p hp => q p _ (stp_new hR hp) (lp_new hR hX hp)⟩
theorem lp_to {a : Addr} {xs : List V} {i : Nat} {Q : VK} (hR : Rng H r) (hX : Xt X H) (ha : Lp r X H a xs) (q : ∀ c H', Stp r H H' → Lp r X H' c (xs.take i) → Q (.ref c) H') : rSlL K (.ref a) none (some (i : Int)) H Q := by
  refine ⟨a, xs, rfl, SqL.of ha.at_, fun p hp => ?_⟩
  rw [cut_to]
  exact q p _ (stp_new hR hp) (lp_new hR hX hp)
theorem lp_from {a : Addr} {xs : List V} {i : Nat} {Q : VK} (hR : Rng H r) (hX : Xt X H) (ha : Lp r X H a xs) (q : ∀ c H', Stp r H H' → Lp r X H' c (xs.drop i) → Q (.ref c) H') {σ : L2.St} : tNoPart σ H (fun u H3 => rSlL K (.ref a) (some (i : Int)) u H3 Q) := by
  refine ⟨a, xs, rfl, SqL.of ha.at_, fun p hp => ?_⟩
  rw [cut_from]
  exact q p _ (stp_new hR hp) (lp_new hR hX hp)
end
def pI (j : Nat) : V := .int (j : Int)
def pD (j : Nat) : PyData := .int (j : Int)
theorem dp_pI {K : PySem.W.Frag} {H : Hp} : ∀ js : List Nat, DpAll K H (js.map pI) (js.map pD)
  | [] => .nil
  | j :: js => .cons (.int _) (dp_pI js)
theorem lay_pI : ∀ js : List Nat, PyData.canLayAll0 (js.map pD) = true ∧ PyData.depthAll (js.map pD) ≤ 0
  | [] => ⟨rfl, Nat.le_refl _⟩
  | j :: js => by
    obtain ⟨h1, h2⟩ := lay_pI js
    refine ⟨?_, ?_⟩
    · show (PyData.canLay0 (.int (j : Int)) && PyData.canLayAll0 (js.map pD)) = true
      rw [h1]
      rfl
    · show max 0 (PyData.depthAll (js.map pD)) ≤ 0
      omega
theorem ne_nil_ints {K : PySem.W.Frag} {H : Hp} {D e : Addr} {js : List Nat} {Q : VK} (h : H D = some (.lst (js.map pI))) (he : H e = some (.lst [])) (q : Q (.bl (!decide (js.length = 0))) H) : rNeD K (.ref D) (.ref e) H Q := by
  refine ⟨.list (js.map pD), .list [], .lst (SqL.of h) (dp_pI js), .lst (SqL.of he) .nil, ?_, rfl, ?_⟩
  · obtain ⟨h1, h2⟩ := lay_pI js
    show (PyData.canLayAll0 (js.map pD) && decide (PyData.depthAll (js.map pD) + 1 ≤ 64)) = true
    rw [h1, decide_eq_true (by omega)]
    rfl
  · cases js with
    | nil => exact q
    | cons j js => exact q
theorem tup_form {H : Hp} {v : V} {d : PyData} (hv : Tr H v d) (h : dT d = true) : ∃ (t : Addr) (ds : List PyData), v = .ref t ∧ d = .tuple ds := by
  cases hv with
  | tup e hA => exact ⟨_, _, rfl, rfl⟩
  | _ => cases h
section
variable {P : Program} {w : World} {K : PySem.W.Frag} {mg : Str → Option Value} {base : Heap} {f : Addr} {fd : FuncData}
def spBent (n : Nat) : Sp := fun vs H Q _ => ∃ (r p : Addr) (ds : List PyData) (N m l : Nat) (X : Addr → Prop), (PyData.list ds).depth < n ∧ vs = [.ref r, .ref p] ∧ Xt X H ∧ Rng H r ∧ Vd r X H (.ref p) (.list ds) ∧ Bd N m l (.list ds) ∧ 3 ≤ l ∧ l ≤ 900 ∧
  ∀ p' ds' H', Vd r X H' (.ref p') (.list ds') → Bd (N + 3) (m + 130) (l + 1) (.list ds') → Stp r H H' → Q (.ref p') H'
theorem sc__law_bent : FnScope ["_law_rng_here", "_law_body_here", "_law_at", "_law_one", "_law_places", "_law_place", "_law_changed", "_law_k", "_law_part"] ["_law_rng_here", "_law_body_here"] (defScope (top 35)) := ⟨rfl, rfl, rfl, by decide +kernel, rfl, by decide +kernel, by decide +kernel⟩
theorem ok_bent0 (F : FnP K "_law_bent" "_law_bent" (top 35) f fd) : FnOk P w K mg base CX0 5 f fd ["_law_rng_here", "_law_body_here"] (spBent 0) :=
  F.ok sc__law_bent (fun vs H Q E h => by obtain ⟨_, _, _, _, _, _, _, h, _⟩ := h; exact absurd h (Nat.not_lt_zero _)) (fun cdv A outer s H vs Q E hr h => by obtain ⟨_, _, _, _, _, _, _, h, _⟩ := h; exact absurd h (Nat.not_lt_zero _))
theorem ok_bent {n : Nat} (T : Tx w K mg) (D__law_draw : Df P w K mg base 1 "_law_draw" ["_law_rng_here", "_law_many"] spDraw) (D__law_choice : Df P w K mg base 2 "_law_choice" ["_law_rng_here", "_law_options"] spChoice)
    (D__law_odd : Df P w K mg base 3 "_law_odd" ["_law_rng_here"] spOdd) (D__law_bent_one : Df P w K mg base 4 "_law_bent_one" ["_law_rng_here", "_law_one"] spBone)
    (D__law_bent : Df P w K mg base (n + 5) "_law_bent" ["_law_rng_here", "_law_body_here"] (spBent n)) (F : FnP K "_law_bent" "_law_bent" (top 35) f fd) : FnOk P w K mg base CX0 (n + 6) f fd ["_law_rng_here", "_law_body_here"] (spBent (n + 1)) := by
  refine F.ok sc__law_bent (fun vs H Q E h => ?_) (fun cdv A outer s H vs Q E hr h => ⟨_, PSs.nox (pss_cons (ps_if (pt_cmpR (op_eqNil hr.units) (pv 1) (pe_lst pa_nil) (nomark _)) (pss_one (ps_ret (pe_lst (pa_cons (pcall D__law_odd hr (pa_cons (pv 0) pa_nil) (by omega)) pa_nil)))) pss_nil) (pss_cons (ps_set (i := 2) sc__law_bent.nd rfl (by first | exact Or.inl rfl | exact Or.inr rfl) (pcall D__law_draw hr (pa_cons (pv 0) (pa_cons (pe_callB call_len_seq (by rfl) T.n_len (by decide +kernel) (pa_cons (pv 1) pa_nil)) pa_nil)) (by omega))) (pss_cons (ps_set (i := 3) sc__law_bent.nd rfl (by first | exact Or.inl rfl | exact Or.inr rfl) (pe_ix ix_list (pv 1) (pv 2) (fun _ _ => rfl))) (pss_cons (ps_set (i := 4) sc__law_bent.nd rfl (by first | exact Or.inl rfl | exact Or.inr rfl) (pe_ifExp (pt_val (pe_callB call_isi (by rfl) T.n_isinstance (by decide +kernel) (pa_cons (pv 3) (pa_cons (pe_bltn (v := .ty "tuple") (by rfl) T.n_tuple (by decide +kernel) rfl) pa_nil)))) (pe_lc (own := [("_law_k", 7), ("_law_part", 8)]) (g := gTup K 2 (gCons (gName 7) (gCons (gName 8) gNil))) rfl sc__law_bent.nd (pi_enumT rfl T.n_enumerate (pa_cons (pv 3) pa_nil)) (blkOk_by (own := [("_law_k", 7), ("_law_part", 8)]) (N := ["_law_rng_here", "_law_body_here", "_law_at", "_law_one", "_law_places", "_law_place", "_law_changed", "_law_k", "_law_part"]) (sc := defScope (top 35)) (by decide +kernel)) (fun _ _ _ _ _ => pg_tup rfl (pgs_cons (pg_name (i := 7) sc__law_bent.nd rfl (Or.inl rfl)) (pgs_cons (pg_name (i := 8) sc__law_bent.nd rfl (Or.inl rfl)) pgs_nil))) (fun _ _ _ _ _ => (pts_one (pt_val (pe_callB (r := rIsi K) (id := "isinstance") call_isi (by rfl) T.n_isinstance (by decide +kernel) (pa_cons (pv 8) (pa_cons (pe_bltn (v := .ty "list") (by rfl) T.n_list (by decide +kernel) rfl) pa_nil)))))) (fun _ _ _ _ _ => (pv 7))) (pe_lst pa_nil))) (pss_cons (ps_if (PW.pt (pw_and (pt_cmpR (op_neD hr.units) (pv 4) (pe_lst pa_nil) (nomark _)) (pw_and1 (pt_cmpR op_gt (pcall D__law_draw hr (pa_cons (pv 0) (pa_cons pe_int pa_nil)) (by omega)) pe_int (nomark _))))) (pss_cons (ps_set (i := 5) sc__law_bent.nd rfl (by first | exact Or.inl rfl | exact Or.inr rfl) (pcall D__law_choice hr (pa_cons (pv 0) (pa_cons (pv 4) pa_nil)) (by omega))) (pss_cons (ps_set (i := 6) sc__law_bent.nd rfl (by first | exact Or.inl rfl | exact Or.inr rfl) (pe_op op_catA (pe_op op_catA (pe_slice sl_tup (pv 3) po_none (po_some (pv 5))) (pe_tup (pa_cons (pcall D__law_bent hr (pa_cons (pv 0) (pa_cons (pe_ix ix_tup (pv 3) (pv 5) (fun _ _ => rfl)) pa_nil)) (by omega)) pa_nil))) (pe_slice sl_tup (pv 3) (po_some (pe_op op_add (pv 5) pe_int)) po_none))) (pss_one (ps_ret (pe_op op_cat (pe_op op_cat (pe_slice sl_list (pv 1) po_none (po_some (pv 2))) (pe_lst (pa_cons (pv 6) pa_nil))) (pe_slice sl_list (pv 1) (po_some (pe_op op_add (pv 2) pe_int)) po_none)))))) pss_nil) (pss_one (ps_ret (pe_op op_cat (pe_op op_cat (pe_slice sl_list (pv 1) po_none (po_some (pv 2))) (pe_lst (pa_cons (pcall D__law_bent_one hr (pa_cons (pv 0) (pa_cons (pv 3) pa_nil)) (by omega)) pa_nil))) (pe_slice sl_list (pv 1) (po_some (pe_op op_add (pv 2) pe_int)) po_none))))))))), ?_⟩)
  · obtain ⟨r, p, ds, _, _, _, _, _, rfl, _⟩ := h
    rfl
  · obtain ⟨r, p, ds, N, m, l, X, dn, rfl, hX, hR, vd, hb, l3, l9, q⟩ := h
    have big : (10 : Int) ^ 40 = 10000000000000000000000000000000000000000 := by decide
    have sl : sizeLine = 16777216 := sizeLine_eq
    obtain ⟨xs, e, npr, nxp, vda⟩ := vd.partsL
    have xl := vda.len
    obtain ⟨N', rfl, ba, dl, wl⟩ := hb.ofL
    have lp : Lp r X H p xs := ⟨e, npr, nxp⟩
    clear vd e
    refine ⟨_, rfl, (by show 0 ≤ sizeLine; decide), fun pe hpe => ⟨p, pe, xs, rfl, rfl, SqL.of (same_upd hpe _ _ lp.at_), SqL.of upd_same, _, rfl, ?_⟩⟩
    have t0 := stp_new (o := .lst []) hR hpe
    by_cases h0 : xs.length = 0
    · refine ifT (decide_eq_true h0) ⟨_, rfl, r, X, rfl, hX.mono t0, t0.1, fun vo do_ G1 vdo bo t1 => ⟨(by show 1 ≤ sizeLine; decide), fun pl hpl => ?_⟩⟩
      have s1 := t0.trans t1
      have t2 := stp_new (o := .lst [vo]) s1.1 hpl
      exact q pl [do_] _ ((lp_new s1.1 (hX.mono s1) hpl).vd (.cons (vdo.mono t2) .nil)) (((BdAll.cons (n := N' + 3) (m := 102) (l := l + 1) (bo.mono (by omega) (Nat.le_refl _) (by omega)) (.nil (m := 0)) (by omega)).lst (by show 1 ≤ l + 1; omega)).mono (by omega) (by omega) (Nat.le_refl _)) (s1.trans t2)
    refine ifF (decide_eq_false h0) ?_
    have lp0 := lp.mono t0
    refine ⟨_, rfl, _, rfl, p, _, rfl, .inl (SqL.of lp0.at_), r, _, rfl, t0.1, by omega, by omega, fun a G1 a0 a1 t1 => ?_⟩
    obtain ⟨i, rfl⟩ := Int.eq_ofNat_of_zero_le a0
    have hi : i < ds.length := by omega
    have s1 := t0.trans t1
    have hd := List.getElem?_eq_getElem hi
    obtain ⟨v1, hv1, vd1⟩ := (vda.mono s1).get hd
    have bd1 := ba.get hd
    have dd1 := depth_get hd
    have w1 := wt_at hd
    generalize ds[i] = d1 at *
    have lp1 := lp.mono s1
    have hX1 := hX.mono s1
    have dn' : PyData.depthAll ds + 1 < n + 1 := dn
    refine ⟨_, rfl, _, rfl, p, _, _, v1, rfl, rfl, SqL.of lp1.at_, atI_nat hv1, ?_⟩
    have fin : ∀ (c : Addr) (dn : PyData) (xs' : List V) (G : Hp), Lp r X G c xs' → VdAll r X G xs' (ds.take i ++ [dn] ++ ds.drop (i + 1)) → Bd (N' + 3) (wt d1 + 130) (l + 1) dn → Stp r G1 G → Q (.ref c) G := fun c dn xs' G hc va b st => by
      refine q c _ G (hc.vd va) ((((((ba.take i).mono (show N' ≤ N' + 3 by omega) (Nat.le_refl _) (show l ≤ l + 1 by omega)).app (BdAll.cons (m := wt d1 + 132) b (.nil (m := 0)) (by omega)) (Nat.le_refl _)).app ((ba.drop (i + 1)).mono (show N' ≤ N' + 3 by omega) (Nat.le_refl _) (show l ≤ l + 1 by omega)) (Nat.le_refl _)).lst ?_).mono (by omega) (by omega) (Nat.le_refl _)) (s1.trans st)
      rw [List.length_append, List.length_append, List.length_take, List.length_drop]
      show _ + 1 + _ ≤ _
      omega
    clear hb q wl lp lp0 t0 t1
    have hv := vd1 G1 Ag.refl
    obtain ⟨Ty, ty, k1, k2, k3, k4, k5⟩ := hv.ty (K := K)
    refine join2 (fun (D : Addr) (G : Hp) => ∃ js : List Nat, G D = some (.lst (js.map pI)) ∧ D ≠ r ∧ Stp r G1 G ∧ js.length ≤ 900 ∧ ∀ j ∈ js, ∃ es1 es, d1 = .tuple es1 ∧ es1[j]? = some (.list es)) (R := ?R) (fun tail => ?main) ?tl
    case main =>
      refine ⟨_, rfl, _, _, _, _, _, rfl, .ty "tuple", ty, kit_ty k4, _, rfl, ?_⟩
      cases ht : dT d1 with
      | true =>
          obtain ⟨t, es1, ev, ed⟩ := tup_form hv ht
          have vd1' : Vd r X G1 (.ref t) (.tuple es1) := by rw [← ev, ← ed]; exact vd1
          have bd1' : Bd N' (wt d1) l (.tuple es1) := by
            have := bd1
            rw [ed] at this ⊢
            exact this
          obtain ⟨xs1, e1, nt, nxt, va1⟩ := vd1'.parts s1.1
          have xl1 := va1.len
          obtain ⟨N2, _, ba1, dl1, _⟩ := bd1'.ofT
          refine iteT ⟨_, rfl, t, _, (by rw [ev]), SqT.of e1, fun D hD => ?_⟩
          have nDr : D ≠ r := (s1.1.ne hD).symm
          refine lc_it (walk_enumT (xs := xs1)) (fun i G => Stp r G1 G ∧ ∃ js : List Nat, G D = some (.lst (js.map pI)) ∧ js.length ≤ i ∧ ∀ j ∈ js, ∃ es, es1[j]? = some (.list es)) ⟨stp_new s1.1 hD, [], upd_same, Nat.le_refl _, fun j hj => absurd hj List.not_mem_nil⟩ (fun i G _ h => SqT.of (h.1.2 _ _ nt e1)) ?_ ?_
          · rintro i2 x G2 G3 hi2 ⟨st, js, hG, jl, jo⟩ ⟨T', y1, y2, rfl, hT, rfl, e1y, e2y⟩
            have e1' : some (V.int ((i2 : Nat) : Int)) = some y1 := e1y
            have e2' : xs1[i2]? = some y2 := e2y
            cases e1'
            have u2 := stp_new (o := .tup [.int ((i2 : Nat) : Int), y2]) st.1 hT
            have st2 := st.trans u2
            have hid : i2 < es1.length := by omega
            have hd2 := List.getElem?_eq_getElem hid
            obtain ⟨y, hy, vy⟩ := (va1.mono st2).get hd2
            rw [hy] at e2'
            cases e2'
            have hvy := vy _ Ag.refl
            obtain ⟨Ty2, ty2, _, _, _, _, kk5⟩ := hvy.ty (K := K)
            have hG3 := u2.2 D _ nDr hG
            refine ⟨T', _, rfl, .inl (.inl upd_same), rfl, _, _, rfl, _, _, rfl, rfl, rfl, ?_⟩
            refine ⟨_, rfl, _, _, _, _, _, rfl, .ty "list", ty2, kit_ty kk5, ?_⟩
            cases hL : dL es1[i2] with
            | true =>
              obtain ⟨l0, xs0, es0, _, ed0, _, _⟩ := list_form hvy hL
              refine ⟨_, rfl, iteT ⟨_, rfl, _, hG3, small1000 (by rw [List.length_map]; omega), st2.at hD nDr, js ++ [i2], ?_, by rw [List.length_append]; show _ + 1 ≤ _; omega, fun j hj => ?_⟩⟩
              · rw [upd_same, List.map_append]
                rfl
              · rcases List.mem_append.mp hj with z | z
                · exact jo j z
                · rw [List.mem_singleton.mp z]
                  exact ⟨es0, by rw [hd2, ed0]⟩
            | false => exact ⟨_, rfl, iteF ⟨st2, js, hG3, by omega, jo⟩⟩
          · rintro G ⟨st, js, hG, jl, jo⟩
            exact tail D G ⟨js, hG, nDr, st, by omega, fun j hj => by obtain ⟨es, he⟩ := jo j hj; exact ⟨es1, es, ed, he⟩⟩
      | false =>
        refine iteF ⟨(by show 0 ≤ sizeLine; decide), fun D hD => ?_⟩
        exact tail D _ ⟨[], upd_same, (s1.1.ne hD).symm, stp_new s1.1 hD, by decide, fun j hj => absurd hj List.not_mem_nil⟩
    case tl =>
      rintro D G ⟨js, hD, nDr, sG, jl, jo⟩
      refine ⟨_, rfl, (by show 0 ≤ sizeLine; decide), fun pz hpz => ne_nil_ints (js := js) (same_upd hpz _ _ hD) upd_same ?_⟩
      have t2 := stp_new (o := .lst []) sG.1 hpz
      have s2 := sG.trans t2
      have hD2 := t2.2 _ _ nDr hD
      generalize (upd G pz (.lst [])) = G2 at *
      refine ⟨_, rfl, ?_⟩
      refine join (fun G : Hp => Stp r G1 G) (R := ?R2) (fun last => ?main2) ?tl2
      case main2 =>
        by_cases h1 : js.length = 0
        case neg =>
          refine ifT (by rw [decide_eq_false h1]; rfl) ⟨_, rfl, r, 3, rfl, s2.1, by decide, by omega, fun c G3 c0 c1 t3 => ⟨_, _, rfl, rfl, _, rfl, ?_⟩⟩
          have s3 := s2.trans t3
          by_cases h2 : (0 : Int) < c
          case neg =>
            refine ifF (decide_eq_false h2) ?_
            exact last G3 s3
          case pos =>
            refine ifT (decide_eq_true h2) ?_
            have hD3 := t3.2 _ _ nDr hD2
            refine ⟨_, rfl, _, rfl, r, D, _, rfl, s3.1, hD3, nDr, by rw [List.length_map]; omega, by rw [List.length_map]; omega, fun vj G4 hvj t4 => ?_⟩
            obtain ⟨j, hj, rfl⟩ := List.mem_map.mp hvj
            obtain ⟨es1, es, rfl, hj2⟩ := jo j hj
            have s4 := s3.trans t4
            have vd4 := vd1.mono s4
            have hv4 := vd4 G4 Ag.refl
            have R4 := s1.trans s4
            cases hv4 with
            | @tup t xs1 _ e1 h1 =>
            obtain ⟨xs1', e1', nt, nxt, va1⟩ := vd4.parts R4.1
            rw [e1] at e1'
            cases e1'
            have xl1 := va1.len
            obtain ⟨N2, rfl, ba1, dl1, _⟩ := bd1.ofT
            have hjl : j < xs1.length := by
              have := (List.getElem?_eq_some_iff.mp hj2).1
              omega
            have tp : Tp r X G4 t xs1 := ⟨e1, nt, nxt⟩
            have hX4 := hX.mono R4
            obtain ⟨vs, hvs, vds⟩ := va1.get hj2
            have bs := ba1.get hj2
            have ds2 := depth_get hj2
            have w2 := wt_at hj2
            refine ⟨_, rfl, _, rfl, _, rfl, tp_to R4.1 hX4 tp hjl fun pa G5 t5 ta => ?_⟩
            have s5 := R4.trans t5
            refine ⟨_, rfl, _, rfl, _, rfl, t, _, _, vs, rfl, rfl, .inl (.inl (tp.mono t5).at_), atI_nat hvs, ?_⟩
            have vds5 := vds.mono t5
            obtain ⟨q0, _, _, rfl, _, _, _⟩ := list_form (vds5 G5 Ag.refl) rfl
            have dt : PyData.depthAll es1 + 1 ≤ PyData.depthAll ds := dd1
            refine ⟨r, q0, es, _, _, l, X, by omega, rfl, hX.mono s5, s5.1, vds5, bs, l3, l9, fun p' ds' G6 vd' b' t6 => ⟨(by show 1 ≤ sizeLine; decide), fun po hpo => ?_⟩⟩
            have s6 := s5.trans t6
            have t7 := stp_new (o := .tup [.ref p']) s6.1 hpo
            have to7 : Tp r X _ po [.ref p'] := tp_new s6.1 (hX.mono s6) hpo
            have s7 := s6.trans t7
            refine tp_cat s7.1 (hX.mono s7) (ta.mono (t6.trans t7)) to7 (by rw [List.length_take]; show _ + 1 ≤ _; omega) fun pc G8 t8 tc => ?_
            have s8 := s7.trans t8
            refine ⟨_, rfl, _, rfl, _, _, rfl, rfl, _, rfl, tp_from (i := j + 1) s8.1 (hX.mono s8) (tp.mono (t5.trans (t6.trans (t7.trans t8)))) (by omega) (by omega) fun pd G9 t9 td => ?_⟩
            have s9 := s8.trans t9
            refine tp_cat s9.1 (hX.mono s9) (tc.mono t9) td (by rw [List.length_append, List.length_take, List.length_drop]; show _ + 1 + _ ≤ _; omega) fun pf G10 t10 tf => ?_
            have s10 := s9.trans t10
            have u10 := t5.trans (t6.trans (t7.trans (t8.trans (t9.trans t10))))
            have va10 := va1.mono u10
            have vdf : Vd r X G10 (.ref pf) (.tuple (es1.take j ++ [.list ds'] ++ es1.drop (j + 1))) := tf.vd (((va10.take j).app (.cons (vd'.mono (t7.trans (t8.trans (t9.trans t10)))) .nil)).app (va10.drop (j + 1)))
            have bf : Bd (N2 + 1 + 3) (wt (.tuple es1) + 130) (l + 1) (.tuple (es1.take j ++ [.list ds'] ++ es1.drop (j + 1))) := by
              refine (((((ba1.take j).mono (show N2 ≤ N2 + 3 by omega) (Nat.le_refl _) (show l ≤ l + 1 by omega)).app (BdAll.cons (m := wt (.list es) + 132) b' (.nil (m := 0)) (by omega)) (Nat.le_refl _)).app ((ba1.drop (j + 1)).mono (show N2 ≤ N2 + 3 by omega) (Nat.le_refl _) (show l ≤ l + 1 by omega)) (Nat.le_refl _)).tup ?_).mono (by omega) ?_ (Nat.le_refl _)
              · rw [List.length_append, List.length_append, List.length_take, List.length_drop]
                show _ + 1 + _ ≤ _
                omega
              · show _ ≤ 4 + wtAll es1 + 130
                omega
            have lp10 := lp1.mono (s4.trans u10)
            refine ⟨_, rfl, _, rfl, _, rfl, lp_to s10.1 (hX.mono s10) lp10 fun qa G11 t11 la => ?_⟩
            have s11 := s10.trans t11
            refine ⟨_, rfl, (by show 1 ≤ sizeLine; decide), fun qb hqb => ?_⟩
            have t12 := stp_new (o := .lst [.ref pf]) s11.1 hqb
            have lb : Lp r X _ qb [.ref pf] := lp_new s11.1 (hX.mono s11) hqb
            have s12 := s11.trans t12
            refine lp_cat s12.1 (hX.mono s12) (la.mono t12) lb (by rw [List.length_take]; show _ + 1 ≤ _; omega) fun qc G13 t13 lc => ?_
            have s13 := s12.trans t13
            have u13 := t11.trans (t12.trans t13)
            refine ⟨_, rfl, _, rfl, _, _, rfl, rfl, _, rfl, lp_from (i := i + 1) s13.1 (hX.mono s13) (lp10.mono u13) fun qd G14 t14 ld => ?_⟩
            have s14 := s13.trans t14
            refine lp_cat s14.1 (hX.mono s14) (lc.mono t14) ld (by rw [List.length_append, List.length_take, List.length_drop]; show _ + 1 + _ ≤ _; omega) fun qe G15 t15 le => ?_
            have u15 := u13.trans (t14.trans t15)
            have va15 := vda.mono (s10.trans u15)
            exact fin qe _ _ G15 le (((va15.take i).app (.cons (vdf.mono u15) .nil)).app (va15.drop (i + 1))) bf (s4.trans (u10.trans u15))
        case pos =>
          refine ifF (by rw [decide_eq_true h1]; rfl) ?_
          exact last G2 s2
      case tl2 =>
        intro G3 s3
        have R3 := s1.trans s3
        refine ⟨_, rfl, _, rfl, _, rfl, lp_to R3.1 (hX.mono R3) (lp1.mono s3) fun qa G11 t11 la => ?_⟩
        have s11 := R3.trans t11
        refine ⟨_, rfl, _, rfl, r, v1, d1, _, _, l, X, rfl, hX.mono s11, s11.1, vd1.mono (s3.trans t11), bd1, l3, l9, fun v' d' G12 vd' b' t12 => ⟨(by show 1 ≤ sizeLine; decide), fun qb hqb => ?_⟩⟩
        have s12 := s11.trans t12
        have t13 := stp_new (o := .lst [v']) s12.1 hqb
        have lb : Lp r X _ qb [v'] := lp_new s12.1 (hX.mono s12) hqb
        have s13 := s12.trans t13
        refine lp_cat s13.1 (hX.mono s13) (la.mono (t12.trans t13)) lb (by rw [List.length_take]; show _ + 1 ≤ _; omega) fun qc G14 t14 lc => ?_
        have s14 := s13.trans t14
        have u14 := t11.trans (t12.trans (t13.trans t14))
        refine ⟨_, rfl, _, rfl, _, _, rfl, rfl, _, rfl, lp_from (i := i + 1) s14.1 (hX.mono s14) (lp1.mono (s3.trans u14)) fun qd G15 t15 ld => ?_⟩
        have s15 := s14.trans t15
        refine lp_cat s15.1 (hX.mono s15) (lc.mono t15) ld (by rw [List.length_append, List.length_take, List.length_drop]; show _ + 1 + _ ≤ _; omega) fun qe G16 t16 le => ?_
        have u16 := u14.trans (t15.trans t16)
        have va16 := vda.mono (R3.trans u16)
        exact fin qe d' _ G16 le (((va16.take i).app (.cons (vd'.mono (t13.trans (t14.trans (t15.trans t16)))) .nil)).app (va16.drop (i + 1))) b' (s3.trans u16)
end
end K81

set_option Elab.async false
set_option linter.all false
set_option maxRecDepth 100000
set_option maxHeartbeats 4000000
set_option pp.maxSteps 900
namespace K81
open PySem PySem.Spec PyProof.Rows L2 Gu Ex RZ
theorem flat_one {α : Type} (v : α) : ∀ k : Nat, (List.replicate k [v]).flatten = List.replicate k v
  | 0 => rfl
  | k + 1 => by
    rw [List.replicate_succ, List.flatten_cons, flat_one v k, List.replicate_succ]
    rfl
section
variable {r : Addr} {X : Addr → Prop} {H H' : Hp} {K : PySem.W.Frag}
theorem lp_rep {a : Addr} {v : V} {k : Int} {Q : VK} (hR : Rng H r) (hX : Xt X H) (ha : Lp r X H a [v]) (h0 : 0 ≤ k) (h1 : k ≤ 1000) (q : ∀ c H', Stp r H H' → Lp r X H' c (List.replicate k.toNat v) → Q (.ref c) H') : rRep (.ref a) (.int k) H Q := by
  have sl : sizeLine = 16777216 := sizeLine_eq
  refine ⟨a, k, [v], rfl, rfl, ha.at_, by omega, by omega, by show 1 * k.toNat ≤ sizeLine; omega, fun p hp => ?_⟩
  rw [flat_one]
  exact q p _ (stp_new hR hp) (lp_new hR hX hp)
end
theorem lf_one : Lf 4 (.int 1) (.int 1) := lf_int (by decide) (by decide)
theorem lf_int3 {i : Int} (h1 : -999 ≤ i) (h2 : i ≤ 999) : Lf 4 (.int i) (.int i) := by
  have e : i.natAbs < 10 ^ 3 := by
    have z : (10 : Nat) ^ 3 = 1000 := by decide
    omega
  have a : i.natAbs.log2 < 1920 := Nat.lt_of_lt_of_le (PySem.Flt.log2_lt_of (k := 20) (by decide) (Nat.lt_trans e (by decide))) (by decide)
  refine ⟨fun G => .int i, decide_eq_true a, Nat.le_refl _, ?_, rfl⟩
  have z := int_text_length_le10 (k := 3) (by decide) e
  show (Str.ofString (toString i)).length ≤ 4
  rw [PySem.ofString_length]
  omega
section
variable {P : Program} {w : World} {K : PySem.W.Frag} {mg : Str → Option Value} {base : Heap} {f : Addr} {fd : FuncData}
def spDeep : Sp := fun vs H Q _ => ∃ (r : Addr) (v : V) (d : PyData) (m : Nat) (X : Addr → Prop), vs = [.ref r, v, .int (m : Nat)] ∧ m ≤ 8 ∧ Xt X H ∧ Rng H r ∧ Vd r X H v d ∧ Bd 1 60 3 d ∧
  ∀ p ds H', Vd r X H' (.ref p) (.list ds) → Bd (2 * m + 4) (110 + m * 150) 4 (.list ds) → Stp r H H' → Q (.ref p) H'
theorem sc__law_deep : FnScope ["_law_rng_here", "_law_one", "_law_many", "_law_body_here", "_law_k", "_law_way", "_law_inner"] ["_law_rng_here", "_law_one", "_law_many"] (defScope (top 36)) := ⟨rfl, rfl, rfl, by decide +kernel, rfl, by decide +kernel, by decide +kernel⟩
theorem ok_deep (T : Tx w K mg) (D__law_draw : Df P w K mg base 1 "_law_draw" ["_law_rng_here", "_law_many"] spDraw) (F : FnP K "_law_deep" "_law_deep" (top 36) f fd) : FnOk P w K mg base CX0 2 f fd ["_law_rng_here", "_law_one", "_law_many"] spDeep := by
  refine F.ok sc__law_deep (fun vs H Q E h => ?_) (fun cdv A outer s H vs Q E hr h => ⟨_, PSs.nox (pss_cons (ps_set (i := 3) sc__law_deep.nd rfl (by first | exact Or.inl rfl | exact Or.inr rfl) (pe_ifExp (pt_cmpR op_gt (pcall D__law_draw hr (pa_cons (pv 0) (pa_cons pe_int pa_nil))) pe_int (nomark _)) (pe_lst (pa_cons (pv 1) pa_nil)) (pe_lst pa_nil))) (pss_cons (ps_for PassesOwn.never rfl (pi_range1 rfl T.n_range (pa_cons (pv 2) pa_nil)) (pg_name (i := 4) sc__law_deep.nd rfl (by first | exact Or.inl rfl | exact Or.inr rfl)) (pss_cons (ps_set (i := 5) sc__law_deep.nd rfl (by first | exact Or.inl rfl | exact Or.inr rfl) (pcall D__law_draw hr (pa_cons (pv 0) (pa_cons pe_int pa_nil)))) (pss_cons (ps_set (i := 6) sc__law_deep.nd rfl (by first | exact Or.inl rfl | exact Or.inr rfl) (pe_ix ix_list (pe_lst (pa_cons (pe_tup (pa_cons pe_str (pa_cons pe_int (pa_cons (pv 3) (pa_cons (pe_lst pa_nil) pa_nil))))) (pa_cons (pe_tup (pa_cons pe_str (pa_cons pe_int (pa_cons (pe_lst pa_nil) (pa_cons (pv 3) pa_nil))))) (pa_cons (pe_tup (pa_cons pe_str (pa_cons pe_int (pa_cons (pv 3) pa_nil)))) (pa_cons (pe_tup (pa_cons pe_str (pa_cons (pv 3) (pa_cons pe_str (pa_cons (pe_lst pa_nil) pa_nil))))) pa_nil))))) (pv 5) (fun _ _ => rfl))) (pss_one (ps_set (i := 3) sc__law_deep.nd rfl (by first | exact Or.inl rfl | exact Or.inr rfl) (pe_op op_cat (pe_op op_cat (pe_op op_rep (pe_lst (pa_cons (pe_tup (pa_cons pe_str (pa_cons pe_int pa_nil))) pa_nil)) (pcall D__law_draw hr (pa_cons (pv 0) (pa_cons pe_int pa_nil)))) (pe_lst (pa_cons (pv 6) pa_nil))) (pe_op op_rep (pe_lst (pa_cons (pe_tup (pa_cons pe_str (pa_cons pe_str pa_nil))) pa_nil)) (pcall D__law_draw hr (pa_cons (pv 0) (pa_cons pe_int pa_nil)))))))))) (pss_one (ps_ret (pv 3))))), ?_⟩)
  · obtain ⟨r, v, d, m, X, rfl, _⟩ := h
    rfl
  · obtain ⟨r, v, d, m, X, rfl, m8, hX, hR, vd, bd1, q⟩ := h
    have big : (10 : Int) ^ 40 = 10000000000000000000000000000000000000000 := by decide
    have sl : sizeLine = 16777216 := sizeLine_eq
    refine join2 (fun (p : Addr) (G : Hp) => ∃ ds, Stp r H G ∧ Vd r X G (.ref p) (.list ds) ∧ Bd 4 110 4 (.list ds)) (R := ?R) (fun tail => ?main) ?tl
    case main =>
      refine ⟨_, rfl, r, 4, rfl, hR, by decide, by omega, fun c H1 c0 c1 s1 => ⟨_, _, rfl, rfl, _, rfl, ?_⟩⟩
      by_cases h1 : (0 : Int) < c
      · refine ifT (decide_eq_true h1) ⟨_, rfl, (by show 1 ≤ sizeLine; decide), fun p hp => ?_⟩
        have t2 := stp_new (o := .lst [v]) s1.1 hp
        exact tail p _ ⟨[d], s1.trans t2, (lp_new s1.1 (hX.mono s1) hp).vd (.cons (vd.mono (s1.trans t2)) .nil), ((BdAll.cons (n := 3) (m := 62) (l := 4) (bd1.mono (by decide) (Nat.le_refl _) (by decide)) (.nil (m := 0)) (by decide)).lst (by show 1 ≤ 4; decide)).mono (by decide) (by decide) (by decide)⟩
      · refine ifF (decide_eq_false h1) ⟨(by show 0 ≤ sizeLine; decide), fun p hp => ?_⟩
        have t2 := stp_new (o := .lst []) s1.1 hp
        exact tail p _ ⟨[], s1.trans t2, (lp_new s1.1 (hX.mono s1) hp).vd .nil, ((BdAll.nil (n := 3) (m := 62) (l := 4)).lst (by decide)).mono (by decide) (by decide) (by decide)⟩
    case tl =>
      rintro p0 G0 ⟨ds0, s0, vd0, b0⟩
      refine ⟨_, rfl, _, rfl, by omega, by omega, ?_⟩
      refine for_it (walk_range (lo := 0) (n := m)) (fun i σ G => ∃ (p : Addr) (ds : List PyData) (x4 x5 x6 : Option V), σ = [some (.ref r), some v, some (.int (m : Nat)), some (.ref p), x4, x5, x6] ∧ Stp r H G ∧ Vd r X G (.ref p) (.list ds) ∧ Bd (2 * i + 4) (110 + i * 150) 4 (.list ds))
        ⟨p0, ds0, none, none, none, rfl, s0, vd0, b0⟩ (fun _ _ _ _ _ => trivial) ?_ ?_
      · rintro i x σ G _ hi ⟨p, ds, x4, x5, x6, rfl, sG, vdp, bp⟩ ⟨rfl, rfl⟩
        refine ⟨_, rfl, r, 4, rfl, sG.1, by decide, by omega, fun y G1 y0 y1 t1 => ?_⟩
        have s1 := sG.trans t1
        refine ⟨_, rfl, (by show 0 ≤ sizeLine; decide), fun e1 he1 => ⟨(by show 4 ≤ sizeLine; decide), fun a1 ha1 => ?_⟩⟩
        have u1 := stp_new (o := .lst []) s1.1 he1
        have s2 := s1.trans u1
        have l1 : Lp r X _ e1 [] := lp_new s1.1 (hX.mono s1) he1
        have u2 := stp_new (o := .tup [.str "if", .int 1, .ref p, .ref e1]) s2.1 ha1
        have s3 := s2.trans u2
        have q1 : Tp r X _ a1 [.str "if", .int 1, .ref p, .ref e1] := tp_new s2.1 (hX.mono s2) ha1
        have l1 := l1.mono u2
        generalize (upd (upd G1 e1 (.lst [])) a1 (.tup [.str "if", .int 1, .ref p, .ref e1])) = G3 at *
        refine ⟨(by show 0 ≤ sizeLine; decide), fun e2 he2 => ⟨_, rfl, (by show 4 ≤ sizeLine; decide), fun a2 ha2 => ?_⟩⟩
        have u3 := stp_new (o := .lst []) s3.1 he2
        have s4 := s3.trans u3
        have l2 : Lp r X _ e2 [] := lp_new s3.1 (hX.mono s3) he2
        have u4 := stp_new (o := .tup [.str "if", .int 1, .ref e2, .ref p]) s4.1 ha2
        have s5 := s4.trans u4
        have q2 : Tp r X _ a2 [.str "if", .int 1, .ref e2, .ref p] := tp_new s4.1 (hX.mono s4) ha2
        have l2 := l2.mono u4
        have l1 := l1.mono (u3.trans u4)
        have q1 := q1.mono (u3.trans u4)
        have v34 := (t1.trans (u1.trans u2)).trans (u3.trans u4)
        generalize (upd (upd G3 e2 (.lst [])) a2 (.tup [.str "if", .int 1, .ref e2, .ref p])) = G5 at *
        refine ⟨_, rfl, (by show 3 ≤ sizeLine; decide), fun a3 ha3 => ?_⟩
        have u5 := stp_new (o := .tup [.str "repeat", .int 2, .ref p]) s5.1 ha3
        have s6 := s5.trans u5
        have q3 : Tp r X _ a3 [.str "repeat", .int 2, .ref p] := tp_new s5.1 (hX.mono s5) ha3
        have l1 := l1.mono u5
        have l2 := l2.mono u5
        have q1 := q1.mono u5
        have q2 := q2.mono u5
        generalize (upd G5 a3 (.tup [.str "repeat", .int 2, .ref p])) = G6 at *
        refine ⟨_, rfl, (by show 0 ≤ sizeLine; decide), fun e4 he4 => ⟨(by show 4 ≤ sizeLine; decide), fun a4 ha4 => ⟨(by show 4 ≤ sizeLine; decide), fun L hL => ?_⟩⟩⟩
        have u6 := stp_new (o := .lst []) s6.1 he4
        have s7 := s6.trans u6
        have l4 : Lp r X _ e4 [] := lp_new s6.1 (hX.mono s6) he4
        have u7 := stp_new (o := .tup [.str "attempt", .ref p, .str "v", .ref e4]) s7.1 ha4
        have s8 := s7.trans u7
        have q4 : Tp r X _ a4 [.str "attempt", .ref p, .str "v", .ref e4] := tp_new s7.1 (hX.mono s7) ha4
        have u8 := stp_new (o := .lst [.ref a1, .ref a2, .ref a3, .ref a4]) s8.1 hL
        have s9 := s8.trans u8
        have lL : Lp r X _ L [.ref a1, .ref a2, .ref a3, .ref a4] := lp_new s8.1 (hX.mono s8) hL
        have l4 := l4.mono (u7.trans u8)
        have q4 := q4.mono u8
        have l1 := l1.mono (u6.trans (u7.trans u8))
        have l2 := l2.mono (u6.trans (u7.trans u8))
        have q1 := q1.mono (u6.trans (u7.trans u8))
        have q2 := q2.mono (u6.trans (u7.trans u8))
        have q3 := q3.mono (u6.trans (u7.trans u8))
        have vp := vdp.mono (v34.trans (u5.trans (u6.trans (u7.trans u8))))
        generalize (upd (upd (upd G6 e4 (.lst [])) a4 (.tup [.str "attempt", .ref p, .str "v", .ref e4])) L (.lst [.ref a1, .ref a2, .ref a3, .ref a4])) = G9 at *
        clear u1 u2 u3 u4 u5 u6 u7 u8 v34
        obtain ⟨vi, hvi, hmi⟩ := at_of (xs := [V.ref a1, .ref a2, .ref a3, .ref a4]) y0 y1
        have hin : ∃ di, Vd r X G9 vi di ∧ Bd (2 * i + 5) (150 + i * 150) 4 di := by
          have bp' := bp.mono (show 2 * i + 4 ≤ 2 * i + 4 from Nat.le_refl _) (Nat.le_refl _) (Nat.le_refl _)
          have be : Bd (2 * i + 4) 4 4 (.list []) := ((BdAll.nil (n := 0) (m := 0) (l := 4)).lst (by decide)).mono (by omega) (by decide) (Nat.le_refl _)
          have bi : Bd (2 * i + 4) 4 4 (.int 1) := lf_one.2.mono (by omega) (Nat.le_refl _) (by decide)
          have bi2 : Bd (2 * i + 4) 4 4 (.int 2) := (lf_int (i := 2) (by decide) (by decide)).2.mono (by omega) (Nat.le_refl _) (by decide)
          have b1 : Bd (2 * i + 4) 10 4 (.str "if") := bd (m := 10) (n := 0) (by decide +kernel) |>.mono (by omega) (Nat.le_refl _) (Nat.le_refl _)
          have b2 : Bd (2 * i + 4) 10 4 (.str "repeat") := bd (m := 10) (n := 0) (by decide +kernel) |>.mono (by omega) (Nat.le_refl _) (Nat.le_refl _)
          have b3 : Bd (2 * i + 4) 10 4 (.str "attempt") := bd (m := 10) (n := 0) (by decide +kernel) |>.mono (by omega) (Nat.le_refl _) (Nat.le_refl _)
          have b4 : Bd (2 * i + 4) 4 4 (.str "v") := bd (m := 4) (n := 0) (by decide +kernel) |>.mono (by omega) (Nat.le_refl _) (Nat.le_refl _)
          simp only [List.mem_cons, List.not_mem_nil, or_false] at hmi
          rcases hmi with rfl | rfl | rfl | rfl
          · exact ⟨.tuple [.str "if", .int 1, .list ds, .list []], q1.vd (.cons (Vd.lit "if" (by decide)) (.cons (Vd.int _) (.cons vp (.cons (l1.vd .nil) .nil)))), ((BdAll.cons b1 (.cons bi (.cons bp (.cons be (.nil (m := 0)) (Nat.le_refl _)) (Nat.le_refl _)) (Nat.le_refl _)) (Nat.le_refl _)).tup (by show 4 ≤ 4; decide)).mono (Nat.le_refl _) (by omega) (Nat.le_refl _)⟩
          · exact ⟨.tuple [.str "if", .int 1, .list [], .list ds], q2.vd (.cons (Vd.lit "if" (by decide)) (.cons (Vd.int _) (.cons (l2.vd .nil) (.cons vp .nil)))), ((BdAll.cons b1 (.cons bi (.cons be (.cons bp (.nil (m := 0)) (Nat.le_refl _)) (Nat.le_refl _)) (Nat.le_refl _)) (Nat.le_refl _)).tup (by show 4 ≤ 4; decide)).mono (Nat.le_refl _) (by omega) (Nat.le_refl _)⟩
          · exact ⟨.tuple [.str "repeat", .int 2, .list ds], q3.vd (.cons (Vd.lit "repeat" (by decide)) (.cons (Vd.int _) (.cons vp .nil))), ((BdAll.cons b2 (.cons bi2 (.cons bp (.nil (m := 0)) (Nat.le_refl _)) (Nat.le_refl _)) (Nat.le_refl _)).tup (by show 3 ≤ 4; decide)).mono (Nat.le_refl _) (by omega) (Nat.le_refl _)⟩
          · exact ⟨.tuple [.str "attempt", .list ds, .str "v", .list []], q4.vd (.cons (Vd.lit "attempt" (by decide)) (.cons vp (.cons (Vd.lit "v" (by decide)) (.cons (l4.vd .nil) .nil)))), ((BdAll.cons b3 (.cons bp (.cons b4 (.cons be (.nil (m := 0)) (Nat.le_refl _)) (Nat.le_refl _)) (Nat.le_refl _)) (Nat.le_refl _)).tup (by show 4 ≤ 4; decide)).mono (Nat.le_refl _) (by omega) (Nat.le_refl _)⟩
        obtain ⟨di, vdi, bi⟩ := hin
        refine ⟨_, rfl, L, _, _, vi, rfl, rfl, SqL.of lL.at_, hvi, ?_⟩
        clear l1 l2 l4 q1 q2 q3 q4 hvi hmi y0 y1 lL
        refine ⟨(by show 2 ≤ sizeLine; decide), fun b1 hb1 => ⟨(by show 1 ≤ sizeLine; decide), fun c1 hc1 => ?_⟩⟩
        have u1 := stp_new (o := .tup [.str "out", .int 1]) s9.1 hb1
        have s10 := s9.trans u1
        have o1 : Tp r X _ b1 [.str "out", .int 1] := tp_new s9.1 (hX.mono s9) hb1
        have u2 := stp_new (o := .lst [.ref b1]) s10.1 hc1
        have s11 := s10.trans u2
        have o2 : Lp r X _ c1 [.ref b1] := lp_new s10.1 (hX.mono s10) hc1
        have vo : Vd r X _ (.ref b1) (.tuple [.str "out", .int 1]) := (o1.mono u2).vd (VdAll.two (Vd.lit "out" (by decide)) (Vd.int _))
        refine ⟨_, rfl, r, 2, rfl, s11.1, by decide, by omega, fun z1 G12 z10 z11 t12 => ?_⟩
        have s12 := s11.trans t12
        refine lp_rep s12.1 (hX.mono s12) (o2.mono t12) z10 (by omega) fun c2 G13 t13 lc2 => ?_
        have s13 := s12.trans t13
        refine ⟨_, rfl, (by show 1 ≤ sizeLine; decide), fun c3 hc3 => ?_⟩
        have t14 := stp_new (o := .lst [vi]) s13.1 hc3
        have s14 := s13.trans t14
        have lc3 : Lp r X _ c3 [vi] := lp_new s13.1 (hX.mono s13) hc3
        refine lp_cat s14.1 (hX.mono s14) (lc2.mono t14) lc3 (by rw [List.length_replicate]; show _ + 1 ≤ _; omega) fun c4 G15 t15 lc4 => ?_
        have s15 := s14.trans t15
        refine ⟨(by show 2 ≤ sizeLine; decide), fun b2 hb2 => ⟨(by show 1 ≤ sizeLine; decide), fun c5 hc5 => ?_⟩⟩
        have u3 := stp_new (o := .tup [.str "drop", .str "x"]) s15.1 hb2
        have s16 := s15.trans u3
        have o3 : Tp r X _ b2 [.str "drop", .str "x"] := tp_new s15.1 (hX.mono s15) hb2
        have u4 := stp_new (o := .lst [.ref b2]) s16.1 hc5
        have s17 := s16.trans u4
        have o4 : Lp r X _ c5 [.ref b2] := lp_new s16.1 (hX.mono s16) hc5
        have vo2 : Vd r X _ (.ref b2) (.tuple [.str "drop", .str "x"]) := (o3.mono u4).vd (VdAll.two (Vd.lit "drop" (by decide)) (Vd.lit "x" (by decide)))
        refine ⟨_, rfl, r, 2, rfl, s17.1, by decide, by omega, fun z2 G18 z20 z21 t18 => ?_⟩
        have s18 := s17.trans t18
        refine lp_rep s18.1 (hX.mono s18) (o4.mono t18) z20 (by omega) fun c6 G19 t19 lc6 => ?_
        have s19 := s18.trans t19
        refine lp_cat s19.1 (hX.mono s19) (lc4.mono ((u3.trans u4).trans (t18.trans t19))) lc6 (by rw [List.length_append, List.length_replicate, List.length_replicate]; show _ + 1 + _ ≤ _; omega) fun c7 G20 t20 lc7 => ?_
        have s20 := s19.trans t20
        have w1 := (t12.trans (t13.trans (t14.trans t15))).trans ((u3.trans u4).trans (t18.trans (t19.trans t20)))
        refine ⟨c7, List.replicate z1.toNat (.tuple [.str "out", .int 1]) ++ [di] ++ List.replicate z2.toNat (.tuple [.str "drop", .str "x"]), _, _, _, rfl, s20, lc7.vd (((VdAll.rep (vo.mono w1) _).app (.cons (vdi.mono ((u1.trans u2).trans w1)) .nil)).app (VdAll.rep (vo2.mono (t18.trans (t19.trans t20))) _)), ?_⟩
        have bo1 : Bd (2 * i + 5) 20 4 (.tuple [.str "out", .int 1]) := bd (n := 1) (m := 20) (by decide +kernel) |>.mono (by omega) (Nat.le_refl _) (Nat.le_refl _)
        have bo2 : Bd (2 * i + 5) 20 4 (.tuple [.str "drop", .str "x"]) := bd (n := 1) (m := 20) (by decide +kernel) |>.mono (by omega) (Nat.le_refl _) (Nat.le_refl _)
        have e1 : z1.toNat ≤ 1 := by omega
        have e2 : z2.toNat ≤ 1 := by omega
        have m1 := Nat.mul_le_mul_right 22 e1
        have m2 := Nat.mul_le_mul_right 22 e2
        refine ((((BdAll.rep bo1 z1.toNat).app (BdAll.cons (m := 152 + i * 150) bi (.nil (m := 0)) (by omega)) (Nat.le_refl _)).app (BdAll.rep bo2 z2.toNat) (Nat.le_refl _)).lst ?_).mono (by omega) ?_ (Nat.le_refl _)
        · rw [List.length_append, List.length_append, List.length_replicate, List.length_replicate]
          show _ + 1 + _ ≤ _
          omega
        · rw [Nat.add_mul]
          omega
      · rintro σ G ⟨p, ds, x4, x5, x6, rfl, sG, vdp, bp⟩
        exact ⟨_, rfl, q p ds G vdp bp sG⟩
end
end K81

set_option Elab.async false
set_option linter.all false
set_option maxRecDepth 100000
set_option maxHeartbeats 4000000
set_option pp.maxSteps 900
namespace K81
open PySem PySem.Spec PyProof.Rows L2 Gu Ex RZ
section
variable {P : Program} {w : World} {K : PySem.W.Frag} {mg : Str → Option Value} {base : Heap} {f : Addr} {fd : FuncData}
def spLong : Sp := fun vs H Q _ => ∃ (r : Addr) (v : V) (d : PyData) (X : Addr → Prop), vs = [.ref r, v] ∧ Xt X H ∧ Rng H r ∧ Vd r X H v d ∧ Bd 1 60 3 d ∧
  ∀ p ds H', Vd r X H' (.ref p) (.list ds) → Bd 6 20000 900 (.list ds) → Stp r H H' → Q (.ref p) H'
theorem sc__law_long : FnScope ["_law_rng_here", "_law_one", "_law_many", "_law_first", "_law_inner", "_law_k"] ["_law_rng_here", "_law_one"] (defScope (top 37)) := ⟨rfl, rfl, rfl, by decide +kernel, rfl, by decide +kernel, by decide +kernel⟩
theorem ok_long (T : Tx w K mg) (D__law_draw : Df P w K mg base 1 "_law_draw" ["_law_rng_here", "_law_many"] spDraw) (F : FnP K "_law_long" "_law_long" (top 37) f fd) : FnOk P w K mg base CX0 2 f fd ["_law_rng_here", "_law_one"] spLong := by
  refine F.ok sc__law_long (fun vs H Q E h => ?_) (fun cdv A outer s H vs Q E hr h => ⟨_, PSs.nox (pss_cons (ps_set (i := 2) sc__law_long.nd rfl (by first | exact Or.inl rfl | exact Or.inr rfl) (pe_op op_add pe_int (pcall D__law_draw hr (pa_cons (pv 0) (pa_cons pe_int pa_nil))))) (pss_cons (ps_set (i := 3) sc__law_long.nd rfl (by first | exact Or.inl rfl | exact Or.inr rfl) (pcall D__law_draw hr (pa_cons (pv 0) (pa_cons (pv 2) pa_nil)))) (pss_cons (ps_set (i := 4) sc__law_long.nd rfl (by first | exact Or.inl rfl | exact Or.inr rfl) (pe_lst (pa_cons (pe_tup (pa_cons pe_str (pa_cons pe_int (pa_cons (pe_lc (own := [("_law_k", 5)]) (g := gName 5) rfl sc__law_long.nd (pi_range1 rfl T.n_range (pa_cons (pv 3) pa_nil)) (blkOk_by (own := [("_law_k", 5)]) (N := ["_law_rng_here", "_law_one", "_law_many", "_law_first", "_law_inner", "_law_k"]) (sc := defScope (top 37)) (by decide +kernel)) (fun _ _ _ _ _ => pg_name (i := 5) sc__law_long.nd rfl (Or.inl rfl)) (fun _ _ _ _ _ => pts_nil) (fun _ _ _ _ _ => (pe_tup (pa_cons pe_str (pa_cons (pv 5) pa_nil))))) pa_nil)))) pa_nil))) (pss_cons (ps_if (pt_cmpR op_eq (pcall D__law_draw hr (pa_cons (pv 0) (pa_cons pe_int pa_nil))) pe_int (nomark _)) (pss_one (ps_set (i := 4) sc__law_long.nd rfl (by first | exact Or.inl rfl | exact Or.inr rfl) (pe_lst (pa_cons (pe_tup (pa_cons pe_str (pa_cons pe_int (pa_cons (pe_op op_rep (pe_lst (pa_cons (pe_tup (pa_cons pe_str (pa_cons pe_int pa_nil))) pa_nil)) (pe_op op_fdivW (pv 3) pe_int)) (pa_cons (pe_op op_rep (pe_lst (pa_cons (pe_tup (pa_cons pe_str (pa_cons pe_str pa_nil))) pa_nil)) (pe_op op_sub (pv 3) (pe_op op_fdivW (pv 3) pe_int))) pa_nil))))) pa_nil)))) pss_nil) (pss_one (ps_ret (pe_op op_cat (pe_op op_cat (pv 4) (pe_op op_rep (pe_lst (pa_cons (pe_tup (pa_cons pe_str (pa_cons pe_str (pa_cons pe_str pa_nil)))) pa_nil)) (pe_op op_sub (pe_op op_sub (pv 2) (pv 3)) pe_int))) (pe_op op_rep (pe_lst (pa_cons (pv 1) pa_nil)) (pcall D__law_draw hr (pa_cons (pv 0) (pa_cons pe_int pa_nil))))))))))), ?_⟩)
  · obtain ⟨r, v, d, X, rfl, _⟩ := h
    rfl
  · obtain ⟨r, v, d, X, rfl, hX, hR, vd, bd1, q⟩ := h
    have big : (10 : Int) ^ 40 = 10000000000000000000000000000000000000000 := by decide
    have sl : sizeLine = 16777216 := sizeLine_eq
    have bo : Bd 1 20 900 (.tuple [.str "out", .int 1]) := bd (by decide +kernel)
    have bdr : Bd 1 20 900 (.tuple [.str "drop", .str "x"]) := bd (by decide +kernel)
    have bse : Bd 1 22 900 (.tuple [.str "set", .str "a", .str "b"]) := bd (by decide +kernel)
    refine ⟨_, rfl, r, 11, rfl, hR, by decide, by omega, fun a G1 a0 a1 s1 => ⟨_, _, rfl, rfl, ?_⟩⟩
    refine ⟨_, rfl, _, rfl, r, 195 + a, rfl, s1.1, by omega, by omega, fun b G2 b0 b1 t2 => ?_⟩
    have s2 := s1.trans t2
    refine ⟨_, rfl, b, rfl, by omega, by omega, fun D hD => ?_⟩
    have nDr : D ≠ r := (s2.1.ne hD).symm
    have nXD : ¬ X D := nox hX s2 hD
    refine lc_range (fun i G => ∃ vs ds, G D = some (.lst vs) ∧ vs.length = i ∧ ds.length = i ∧ VdAll r (fun b => X b ∨ b = D) G vs ds ∧ BdAll 1 (i * 25) 900 ds ∧ Stp r G2 G)
      ⟨[], [], upd_same, rfl, rfl, .nil, .nil, stp_new s2.1 hD⟩ ?_ ?_
    · rintro i G hi ⟨vs, ds, hG, vl, dl, va, ba, st⟩
      refine ⟨rfl, _, rfl, (by show 2 ≤ sizeLine; decide), fun pt hpt => ?_⟩
      have t3 := stp_new (o := .tup [.str "out", .int (0 + (i : Int))]) st.1 hpt
      have hG3 := t3.2 D _ nDr hG
      have hX3 : Xt (fun b => X b ∨ b = D) G := by
        rintro b (hb | rfl) z
        · exact hX b hb ((s2.trans st).free z)
        · rw [hG] at z
          cases z
      have tp : Tp r (fun b => X b ∨ b = D) _ pt [.str "out", .int (0 + (i : Int))] := tp_new st.1 hX3 hpt
      have li := lf_int3 (i := 0 + (i : Int)) (by omega) (by omega)
      have vi := tp.vd (VdAll.two (Vd.lit "out" (by decide)) li.vd)
      have ag : Ag r (fun b => X b ∨ b = D) (upd G pt (.tup [.str "out", .int (0 + (i : Int))])) (upd (upd G pt (.tup [.str "out", .int (0 + (i : Int))])) D (.lst (vs ++ [.ref pt]))) := fun b o n nx e => by
        rw [upd_ne (fun z => nx (.inr z))]
        exact e
      refine ⟨vs, hG3, small1000 (by omega), vs ++ [.ref pt], ds ++ [.tuple [.str "out", .int (0 + (i : Int))]], upd_same, by rw [List.length_append, vl]; rfl, by rw [List.length_append, dl]; rfl, (va.mono t3 |>.agree ag).app (.cons (vi.agree ag) .nil), ?_, (st.trans t3).at hD nDr⟩
      have b3 : Bd 0 5 900 (.str "out") := bd (by decide +kernel)
      refine ba.app (BdAll.cons (m1 := 23) (m2 := 0) (((BdAll.cons (m := 13) b3 (.cons (li.2.mono (Nat.zero_le _) (Nat.le_refl _) (by decide)) (.nil (m := 0)) (Nat.le_refl _)) (by decide)).tup (by show 2 ≤ 900; decide)).mono (Nat.le_refl _) (by decide) (Nat.le_refl _)) .nil (Nat.le_refl _)) (by rw [Nat.add_mul]; omega)
    · rintro G ⟨vs, ds, hG, vl, dl, va, ba, st⟩
      have cl : b.toNat ≤ 205 := by omega
      have z205 : b.toNat * 25 ≤ 5125 := by
        have := Nat.mul_le_mul_right 25 cl
        omega
      have lD : Lp r X G D vs := ⟨hG, nDr, nXD⟩
      have s3 := s2.trans st
      have vD : Vd r X G (.ref D) (.list ds) := lD.vd fun G2 g => va G2 fun b o n x e => g b o n (fun y => x (.inl y)) e
      have bD : Bd 2 5200 900 (.list ds) := ((ba.mono (Nat.le_refl _) z205 (Nat.le_refl _)).lst (by omega)).mono (by decide) (by decide) (Nat.le_refl _)
      refine ⟨(by show 3 ≤ sizeLine; decide), fun pt hpt => ⟨(by show 1 ≤ sizeLine; decide), fun pl hpl => ?_⟩⟩
      have u1 := stp_new (o := .tup [.str "repeat", .int 0, .ref D]) s3.1 hpt
      have s4 := s3.trans u1
      have tpt : Tp r X _ pt [.str "repeat", .int 0, .ref D] := tp_new s3.1 (hX.mono s3) hpt
      have u2 := stp_new (o := .lst [.ref pt]) s4.1 hpl
      have s5 := s4.trans u2
      have lpl : Lp r X _ pl [.ref pt] := lp_new s4.1 (hX.mono s4) hpl
      have vpt := (tpt.mono u2).vd (.cons (Vd.lit "repeat" (by decide)) (.cons (Vd.int 0) (.cons (vD.mono (u1.trans u2)) .nil)))
      have bpt : Bd 3 5300 900 (.tuple [.str "repeat", .int 0, .list ds]) := by
        have b1 : Bd 2 10 900 (.str "repeat") := bd (by decide +kernel)
        have b2 : Bd 2 4 900 (.int 0) := bd (by decide +kernel)
        exact ((BdAll.cons b1 (.cons b2 (.cons bD (.nil (m := 0)) (Nat.le_refl _)) (Nat.le_refl _)) (Nat.le_refl _)).tup (by show 3 ≤ 900; decide)).mono (by decide) (by decide) (Nat.le_refl _)
      generalize (upd (upd G pt (.tup [.str "repeat", .int 0, .ref D])) pl (.lst [.ref pt])) = G5 at *
      clear u1 u2 tpt s4
      refine join2 (fun (p : Addr) (G : Hp) => ∃ (v1 : V) (d1 : PyData), Stp r G5 G ∧ Lp r X G p [v1] ∧ Vd r X G v1 d1 ∧ Bd 4 9000 900 d1) (R := ?R) (fun tail => ?main) ?tl
      case main =>
        refine ⟨_, rfl, r, 2, rfl, s5.1, by decide, by omega, fun c G6 c0 c1 t6 => ⟨rfl, _, rfl, ?_⟩⟩
        have s6 := s5.trans t6
        by_cases h1 : c = 0
        case pos =>
          refine ifT (vT h1) ⟨(by show 2 ≤ sizeLine; decide), fun pa hpa => ⟨(by show 1 ≤ sizeLine; decide), fun pb hpb => ?_⟩⟩
          have u1 := stp_new (o := .tup [.str "out", .int 1]) s6.1 hpa
          have s7 := s6.trans u1
          have o1 : Tp r X _ pa [.str "out", .int 1] := tp_new s6.1 (hX.mono s6) hpa
          have u2 := stp_new (o := .lst [.ref pa]) s7.1 hpb
          have s8 := s7.trans u2
          have o2 : Lp r X _ pb [.ref pa] := lp_new s7.1 (hX.mono s7) hpb
          have vo : Vd r X _ (.ref pa) (.tuple [.str "out", .int 1]) := (o1.mono u2).vd (VdAll.two (Vd.lit "out" (by decide)) (Vd.int _))
          refine ⟨_, rfl, _, _, rfl, rfl, wide_div (b := 64) (by decide) (by decide) (by decide) (by decide), ?_⟩
          have h2 : 0 ≤ b / 2 ∧ b / 2 ≤ b := by omega
          refine lp_rep s8.1 (hX.mono s8) o2 h2.1 (by omega) fun pc G9 t9 lc => ?_
          have s9 := s8.trans t9
          refine ⟨(by show 2 ≤ sizeLine; decide), fun pd hpd => ⟨(by show 1 ≤ sizeLine; decide), fun pe hpe => ?_⟩⟩
          have u3 := stp_new (o := .tup [.str "drop", .str "x"]) s9.1 hpd
          have s10 := s9.trans u3
          have o3 : Tp r X _ pd [.str "drop", .str "x"] := tp_new s9.1 (hX.mono s9) hpd
          have u4 := stp_new (o := .lst [.ref pd]) s10.1 hpe
          have s11 := s10.trans u4
          have o4 : Lp r X _ pe [.ref pd] := lp_new s10.1 (hX.mono s10) hpe
          have vo2 : Vd r X _ (.ref pd) (.tuple [.str "drop", .str "x"]) := (o3.mono u4).vd (VdAll.two (Vd.lit "drop" (by decide)) (Vd.lit "x" (by decide)))
          refine ⟨_, rfl, _, rfl, _, _, rfl, rfl, wide_div (b := 64) (by decide) (by decide) (by decide) (by decide), _, _, rfl, rfl, ?_⟩
          refine lp_rep s11.1 (hX.mono s11) o4 (by omega) (by omega) fun pf G12 t12 lf => ?_
          have s12 := s11.trans t12
          refine ⟨(by show 4 ≤ sizeLine; decide), fun pg hpg => ⟨(by show 1 ≤ sizeLine; decide), fun ph hph => ?_⟩⟩
          have u5 := stp_new (o := .tup [.str "if", .int 0, .ref pc, .ref pf]) s12.1 hpg
          have s13 := s12.trans u5
          have o5 : Tp r X _ pg [.str "if", .int 0, .ref pc, .ref pf] := tp_new s12.1 (hX.mono s12) hpg
          have u6 := stp_new (o := .lst [.ref pg]) s13.1 hph
          have s14 := s13.trans u6
          have o6 : Lp r X _ ph [.ref pg] := lp_new s13.1 (hX.mono s13) hph
          have vc := (lc.mono ((u3.trans u4).trans (t12.trans (u5.trans u6)))).vd (VdAll.rep (vo.mono ((t9.trans (u3.trans u4)).trans (t12.trans (u5.trans u6)))) (b / 2).toNat)
          have vf := (lf.mono (u5.trans u6)).vd (VdAll.rep (vo2.mono (t12.trans (u5.trans u6))) (b - b / 2).toNat)
          have vg := (o5.mono u6).vd (.cons (Vd.lit "if" (by decide)) (.cons (Vd.int 0) (.cons vc (.cons vf .nil))))
          have m1 := Nat.mul_le_mul_right 22 (show (b / 2).toNat ≤ 102 by omega)
          have m2 := Nat.mul_le_mul_right 22 (show (b - b / 2).toNat ≤ 205 by omega)
          have bc := ((BdAll.rep bo (b / 2).toNat).lst (by rw [List.length_replicate]; omega)).mono (Nat.le_refl _) (show 4 + (b / 2).toNat * (20 + 2) ≤ 2248 by omega) (Nat.le_refl _)
          have bf := ((BdAll.rep bdr (b - b / 2).toNat).lst (by rw [List.length_replicate]; omega)).mono (Nat.le_refl _) (show 4 + (b - b / 2).toNat * (20 + 2) ≤ 4514 by omega) (Nat.le_refl _)
          have b1 : Bd 2 10 900 (.str "if") := bd (by decide +kernel)
          have b2 : Bd 2 4 900 (.int 0) := bd (by decide +kernel)
          have bg := ((BdAll.cons b1 (.cons b2 (.cons bc (.cons bf (.nil (m := 0)) (Nat.le_refl _)) (Nat.le_refl _)) (Nat.le_refl _)) (Nat.le_refl _)).tup (by show 4 ≤ 900; decide))
          have st : Stp r G5 _ := (t6.trans ((u1.trans u2).trans (t9.trans (u3.trans u4)))).trans (t12.trans (u5.trans u6))
          exact tail ph _ ⟨.ref pg, _, st, o6, vg, bg.mono (by decide) (by decide) (Nat.le_refl _)⟩
        case neg =>
          refine ifF (vF h1) ?_
          exact tail pl G6 ⟨.ref pt, _, t6, lpl.mono t6, vpt.mono t6, bpt.mono (by decide) (by decide) (Nat.le_refl _)⟩
      case tl =>
        rintro p G6 ⟨v1, d1, t6, lp1, vd1, bd4⟩
        have s6 := s5.trans t6
        refine ⟨_, rfl, (by show 3 ≤ sizeLine; decide), fun pa hpa => ⟨(by show 1 ≤ sizeLine; decide), fun pb hpb => ?_⟩⟩
        have u1 := stp_new (o := .tup [.str "set", .str "a", .str "b"]) s6.1 hpa
        have s7 := s6.trans u1
        have o1 : Tp r X _ pa [.str "set", .str "a", .str "b"] := tp_new s6.1 (hX.mono s6) hpa
        have u2 := stp_new (o := .lst [.ref pa]) s7.1 hpb
        have s8 := s7.trans u2
        have o2 : Lp r X _ pb [.ref pa] := lp_new s7.1 (hX.mono s7) hpb
        have vo : Vd r X _ (.ref pa) (.tuple [.str "set", .str "a", .str "b"]) := (o1.mono u2).vd (.cons (Vd.lit "set" (by decide)) (.cons (Vd.lit "a" (by decide)) (.cons (Vd.lit "b" (by decide)) .nil)))
        refine ⟨_, rfl, _, rfl, _, _, rfl, rfl, _, _, rfl, rfl, ?_⟩
        have n0 : 0 ≤ 195 + a - b - 1 := by omega
        have n1 : 195 + a - b - 1 ≤ 1000 := by omega
        refine lp_rep s8.1 (hX.mono s8) o2 n0 n1 fun pc G9 t9 lc => ?_
        have s9 := s8.trans t9
        refine lp_cat s9.1 (hX.mono s9) (lp1.mono ((u1.trans u2).trans t9)) lc (by rw [List.length_replicate]; show 1 + _ ≤ _; omega) fun pd G10 t10 ld => ?_
        have s10 := s9.trans t10
        refine ⟨_, rfl, (by show 1 ≤ sizeLine; decide), fun pe hpe => ?_⟩
        have t11 := stp_new (o := .lst [v]) s10.1 hpe
        have s11 := s10.trans t11
        have le : Lp r X _ pe [v] := lp_new s10.1 (hX.mono s10) hpe
        refine ⟨_, rfl, r, 2, rfl, s11.1, by decide, by omega, fun z G12 z0 z1 t12 => ?_⟩
        have s12 := s11.trans t12
        refine lp_rep s12.1 (hX.mono s12) (le.mono t12) z0 (by omega) fun pf G13 t13 lf => ?_
        have s13 := s12.trans t13
        refine lp_cat s13.1 (hX.mono s13) (ld.mono (t11.trans (t12.trans t13))) lf (by rw [List.length_append, List.length_replicate, List.length_replicate]; show 1 + _ + _ ≤ _; omega) fun pg G14 t14 lg => ?_
        have s14 := s13.trans t14
        have w := t10.trans (t11.trans (t12.trans (t13.trans t14)))
        refine q pg ([d1] ++ List.replicate (195 + a - b - 1).toNat (.tuple [.str "set", .str "a", .str "b"]) ++ List.replicate z.toNat d) G14
          (lg.vd (((VdAll.cons (vd1.mono (((u1.trans u2).trans t9).trans w)) .nil).app (VdAll.rep (vo.mono (t9.trans w)) _)).app (VdAll.rep (vd.mono s14) _))) ?_ s14
        have m1 := Nat.mul_le_mul_right 24 (show (195 + a - b - 1).toNat ≤ 205 by omega)
        have m2 := Nat.mul_le_mul_right 62 (show z.toNat ≤ 1 by omega)
        have b9 : Bd 4 60 900 d := bd1.mono (by decide) (Nat.le_refl _) (by decide)
        refine ((((BdAll.cons (m := 9002) bd4 (.nil (m := 0)) (Nat.le_refl _)).app (BdAll.rep (bse.mono (by decide) (Nat.le_refl _) (Nat.le_refl _)) (195 + a - b - 1).toNat) (Nat.le_refl _)).app (BdAll.rep b9 z.toNat) (Nat.le_refl _)).lst ?_).mono (by decide) ?_ (Nat.le_refl _)
        · rw [List.length_append, List.length_append, List.length_replicate, List.length_replicate]
          show 1 + _ + _ ≤ _
          omega
        · omega
def spNest : Sp := fun vs H Q _ => ∃ (r : Addr) (m : Nat) (X : Addr → Prop), vs = [.ref r, .int (m : Nat)] ∧ m ≤ 8 ∧ Xt X H ∧ Rng H r ∧
  ∀ p ds H', Vd r X H' (.ref p) (.list ds) → Bd (m + 2) 1000 4 (.list ds) → Stp r H H' → Q (.ref p) H'
theorem sc__law_nested : FnScope ["_law_rng_here", "_law_many", "_law_found", "_law_k"] ["_law_rng_here", "_law_many"] (defScope (top 38)) := ⟨rfl, rfl, rfl, by decide +kernel, rfl, by decide +kernel, by decide +kernel⟩
theorem ok_nest (T : Tx w K mg) (D__law_draw : Df P w K mg base 1 "_law_draw" ["_law_rng_here", "_law_many"] spDraw) (D__law_choice : Df P w K mg base 2 "_law_choice" ["_law_rng_here", "_law_options"] spChoice) (F : FnP K "_law_nested" "_law_nested" (top 38) f fd) : FnOk P w K mg base CX0 3 f fd ["_law_rng_here", "_law_many"] spNest := by
  refine F.ok sc__law_nested (fun vs H Q E h => ?_) (fun cdv A outer s H vs Q E hr h => ⟨_, PSs.nox (pss_cons (ps_set (i := 2) sc__law_nested.nd rfl (by first | exact Or.inl rfl | exact Or.inr rfl) (pcall D__law_choice hr (pa_cons (pv 0) (pa_cons (pe_lst (pa_cons pe_int (pa_cons pe_str (pa_cons pe_str (pa_cons (pe_op op_pow pe_int pe_int) pa_nil))))) pa_nil)))) (pss_cons (ps_for PassesOwn.never rfl (pi_range1 rfl T.n_range (pa_cons (pv 1) pa_nil)) (pg_name (i := 3) sc__law_nested.nd rfl (by first | exact Or.inl rfl | exact Or.inr rfl)) (pss_one (ps_set (i := 2) sc__law_nested.nd rfl (by first | exact Or.inl rfl | exact Or.inr rfl) (pe_ifExp (pt_cmpR op_eq (pcall D__law_draw hr (pa_cons (pv 0) (pa_cons pe_int pa_nil))) pe_int (nomark _)) (pe_tup (pa_cons pe_str (pa_cons (pv 2) (pa_cons pe_int pa_nil)))) (pe_tup (pa_cons pe_str (pa_cons pe_str (pa_cons (pv 2) pa_nil)))))))) (pss_one (ps_ret (pe_lst (pa_cons (pe_tup (pa_cons pe_str (pa_cons pe_int pa_nil))) (pa_cons (pe_tup (pa_cons pe_str (pa_cons pe_str (pa_cons (pv 2) (pa_cons pe_int pa_nil))))) (pa_cons (pe_tup (pa_cons pe_str (pa_cons (pv 2) pa_nil))) pa_nil)))))))), ?_⟩)
  · obtain ⟨r, m, X, rfl, _⟩ := h
    rfl
  · obtain ⟨r, m, X, rfl, m8, hX, hR, q⟩ := h
    have big : (10 : Int) ^ 40 = 10000000000000000000000000000000000000000 := by decide
    have sl : sizeLine = 16777216 := sizeLine_eq
    have pw : CPow 10 12 := ⟨by decide, by decide, by decide⟩
    refine ⟨_, rfl, _, _, rfl, rfl, pw, (by show 4 ≤ sizeLine; decide), fun p hp => ?_⟩
    have t1 := stp_new (o := .lst [.int 1, .str "a", .str "A", .int (10 ^ Int.toNat 12)]) hR hp
    refine ⟨r, p, _, rfl, t1.1, upd_same, (hR.ne hp).symm, (by show 1 ≤ 4; decide), (by show 4 ≤ 1000; decide), fun v0 G0 hv0 t2 => ?_⟩
    have s0 := t1.trans t2
    have l0 : ∃ d, Lf 20 v0 d := by
      simp only [List.mem_cons, List.not_mem_nil, or_false] at hv0
      rcases hv0 with rfl | rfl | rfl | rfl
      · exact ⟨.int 1, lf_one.1, lf_one.2.mono (Nat.le_refl _) (by decide) (Nat.le_refl _)⟩
      · exact ⟨_, lf_lit "a" (by decide +kernel) (by decide)⟩
      · exact ⟨_, lf_lit "A" (by decide +kernel) (by decide)⟩
      · exact ⟨.int (10 ^ Int.toNat 12), fun G => .int _, bd (by decide +kernel)⟩
    obtain ⟨d0, l0⟩ := l0
    refine ⟨_, rfl, _, rfl, by omega, by omega, ?_⟩
    have b1 : ∀ n : Nat, Bd n 4 3 (.int 1) := fun n => lf_one.2.mono (Nat.zero_le _) (Nat.le_refl _) (Nat.le_refl _)
    refine for_it (walk_range (lo := 0) (n := m)) (fun i σ G => ∃ (v : V) (d : PyData) (x3 : Option V), σ = [some (.ref r), some (.int (m : Nat)), some v, x3] ∧ Stp r H G ∧ Vd r X G v d ∧ Bd i (20 + i * 30) 3 d)
      ⟨v0, d0, none, rfl, s0, l0.vd, l0.2⟩ (fun _ _ _ _ _ => trivial) ?_ ?_
    · rintro i x σ G _ hi ⟨v, d, x3, rfl, sG, vd, bd0⟩ ⟨rfl, rfl⟩
      refine ⟨_, rfl, r, 2, rfl, sG.1, by decide, by omega, fun c G1 c0 c1 t1 => ⟨rfl, _, rfl, ?_⟩⟩
      have s1 := sG.trans t1
      by_cases h1 : c = 0
      · refine ifT (vT h1) ⟨_, rfl, (by show 3 ≤ sizeLine; decide), fun pt hpt => ?_⟩
        have t3 := stp_new (o := .tup [.str "add", v, .int 1]) s1.1 hpt
        have b2 : Bd i 6 3 (.str "add") := (bd (n := 0) (m := 6) (l := 3) (by decide +kernel)).mono (Nat.zero_le _) (Nat.le_refl _) (Nat.le_refl _)
        refine ⟨.ref pt, .tuple [.str "add", d, .int 1], _, rfl, s1.trans t3, (tp_new s1.1 (hX.mono s1) hpt).vd (.cons (Vd.lit "add" (by decide)) (.cons (vd.mono (t1.trans t3)) (.cons (Vd.int 1) .nil))), ?_⟩
        exact ((BdAll.cons b2 (.cons bd0 (.cons (b1 i) (.nil (m := 0)) (Nat.le_refl _)) (Nat.le_refl _)) (Nat.le_refl _)).tup (by show 3 ≤ 3; decide)).mono (Nat.le_refl _) (by rw [Nat.add_mul]; omega) (Nat.le_refl _)
      · refine ifF (vF h1) ⟨_, rfl, (by show 3 ≤ sizeLine; decide), fun pt hpt => ?_⟩
        have t3 := stp_new (o := .tup [.str "less", .str "b", v]) s1.1 hpt
        have b2 : Bd i 6 3 (.str "less") := (bd (n := 0) (m := 6) (l := 3) (by decide +kernel)).mono (Nat.zero_le _) (Nat.le_refl _) (Nat.le_refl _)
        have b3 : Bd i 4 3 (.str "b") := (bd (n := 0) (m := 4) (l := 3) (by decide +kernel)).mono (Nat.zero_le _) (Nat.le_refl _) (Nat.le_refl _)
        refine ⟨.ref pt, .tuple [.str "less", .str "b", d], _, rfl, s1.trans t3, (tp_new s1.1 (hX.mono s1) hpt).vd (.cons (Vd.lit "less" (by decide)) (.cons (Vd.lit "b" (by decide)) (.cons (vd.mono (t1.trans t3)) .nil))), ?_⟩
        exact ((BdAll.cons b2 (.cons b3 (.cons bd0 (.nil (m := 0)) (Nat.le_refl _)) (Nat.le_refl _)) (Nat.le_refl _)).tup (by show 3 ≤ 3; decide)).mono (Nat.le_refl _) (by rw [Nat.add_mul]; omega) (Nat.le_refl _)
    · rintro σ G ⟨v, d, x3, rfl, sG, vd, bd0⟩
      refine ⟨(by show 2 ≤ sizeLine; decide), fun pa hpa => ⟨_, rfl, (by show 4 ≤ sizeLine; decide), fun pb hpb => ⟨_, rfl, (by show 2 ≤ sizeLine; decide), fun pc hpc => ⟨(by show 3 ≤ sizeLine; decide), fun pl hpl => ?_⟩⟩⟩⟩
      have u1 := stp_new (o := .tup [.str "out", .int 1]) sG.1 hpa
      have s1 := sG.trans u1
      have o1 : Tp r X _ pa [.str "out", .int 1] := tp_new sG.1 (hX.mono sG) hpa
      have u2 := stp_new (o := .tup [.str "store", .str "x", v, .int 1]) s1.1 hpb
      have s2 := s1.trans u2
      have o2 : Tp r X _ pb [.str "store", .str "x", v, .int 1] := tp_new s1.1 (hX.mono s1) hpb
      have u3 := stp_new (o := .tup [.str "out", v]) s2.1 hpc
      have s3 := s2.trans u3
      have o3 : Tp r X _ pc [.str "out", v] := tp_new s2.1 (hX.mono s2) hpc
      have u4 := stp_new (o := .lst [.ref pa, .ref pb, .ref pc]) s3.1 hpl
      have s4 := s3.trans u4
      have o4 : Lp r X _ pl [.ref pa, .ref pb, .ref pc] := lp_new s3.1 (hX.mono s3) hpl
      have v4 := vd.mono (u1.trans (u2.trans (u3.trans u4)))
      refine q pl [.tuple [.str "out", .int 1], .tuple [.str "store", .str "x", d, .int 1], .tuple [.str "out", d]] _ (o4.vd (.cons ((o1.mono (u2.trans (u3.trans u4))).vd (VdAll.two (Vd.lit "out" (by decide)) (Vd.int 1)))
        (.cons ((o2.mono (u3.trans u4)).vd (.cons (Vd.lit "store" (by decide)) (.cons (Vd.lit "x" (by decide)) (.cons v4 (.cons (Vd.int 1) .nil))))) (.cons ((o3.mono u4).vd (VdAll.two (Vd.lit "out" (by decide)) v4)) .nil)))) ?_ s4
      have m3 := Nat.mul_le_mul_right 30 m8
      have bd0 : Bd m 260 4 d := bd0.mono (Nat.le_refl _) (by omega) (by decide)
      have c1 : Bd m 4 4 (.int 1) := lf_one.2.mono (Nat.zero_le _) (Nat.le_refl _) (by decide)
      have c2 : Bd m 9 4 (.str "out") := (bd (n := 0) (m := 9) (l := 4) (by decide +kernel)).mono (Nat.zero_le _) (Nat.le_refl _) (Nat.le_refl _)
      have c3 : Bd m 9 4 (.str "store") := (bd (n := 0) (m := 9) (l := 4) (by decide +kernel)).mono (Nat.zero_le _) (Nat.le_refl _) (Nat.le_refl _)
      have c4 : Bd m 9 4 (.str "x") := (bd (n := 0) (m := 9) (l := 4) (by decide +kernel)).mono (Nat.zero_le _) (Nat.le_refl _) (Nat.le_refl _)
      have e1 := (BdAll.cons c2 (.cons c1 (.nil (m := 0)) (Nat.le_refl _)) (Nat.le_refl _)).tup (show ([.str "out", .int 1] : List PyData).length ≤ 4 by show 2 ≤ 4; decide)
      have e2 := (BdAll.cons c3 (.cons c4 (.cons bd0 (.cons c1 (.nil (m := 0)) (Nat.le_refl _)) (Nat.le_refl _)) (Nat.le_refl _)) (Nat.le_refl _)).tup (show ([.str "store", .str "x", d, .int 1] : List PyData).length ≤ 4 by show 4 ≤ 4; decide)
      have e3 := (BdAll.cons c2 (.cons bd0 (.nil (m := 0)) (Nat.le_refl _)) (Nat.le_refl _)).tup (show ([.str "out", d] : List PyData).length ≤ 4 by show 2 ≤ 4; decide)
      exact ((BdAll.cons e1 (.cons e2 (.cons e3 (.nil (m := 0)) (Nat.le_refl _)) (Nat.le_refl _)) (Nat.le_refl _)).lst (by show 3 ≤ 4; decide)).mono (by omega) (by decide) (Nat.le_refl _)
end
end K81

set_option Elab.async false
set_option linter.all false
set_option maxRecDepth 100000
set_option maxHeartbeats 4000000
set_option pp.maxSteps 900
namespace K81
open PySem PySem.Spec PyProof.Rows L2 Gu Ex RZ
/-- what the judge asks -/
def Jd (H : Hp) (v : V) (d : PyData) : Prop := Tr H v d ∧ short d = true ∧ d.showable = true ∧ d.depth ≤ 60 ∧ d.shown.length ≤ sizeLine
theorem Bd.jd {n m l : Nat} {H : Hp} {v : V} {d : PyData} (h : Bd n m l d) (t : Tr H v d) (h1 : n ≤ 60) (h2 : m ≤ sizeLine) (h3 : l ≤ 1000) : Jd H v d :=
  ⟨t, lens_short d (lensB_mono h3 d h.ln), h.sw, Nat.le_trans h.dp h1, Nat.le_trans (shown_wt d) (Nat.le_trans h.wt h2)⟩
def no (_ : Addr) : Prop := False
theorem xt_no {H : Hp} : Xt no H := fun _ x => x.elim
section
variable {P : Program} {w : World} {K : PySem.W.Frag} {mg : Str → Option Value} {base : Heap} {f : Addr} {fd : FuncData}
def spRight : Sp := fun vs H Q _ => ∃ r : Addr, vs = [.ref r] ∧ Rng H r ∧ ∀ H', Stp r H H' → Q (.bl true) H'
theorem sc__law_right : FnScope ["_law_rng_here", "_law_program", "_law_turn", "_law_one", "_law_others", "_law_value"] ["_law_rng_here"] (defScope (top 40)) := ⟨rfl, rfl, rfl, by decide +kernel, rfl, by decide +kernel, by decide +kernel⟩
theorem ok_right (T : Tx w K mg) (D__law_draw : Df P w K mg base 1 "_law_draw" ["_law_rng_here", "_law_many"] spDraw) (D__law_choice : Df P w K mg base 2 "_law_choice" ["_law_rng_here", "_law_options"] spChoice)
    (D__law_odd : Df P w K mg base 3 "_law_odd" ["_law_rng_here"] spOdd) (D__law_body : Df P w K mg base 14 "_law_body" ["_law_rng_here", "_law_deep_here", "_law_most"] (spLbody 3))
    (D__law_bent : Df P w K mg base 35 "_law_bent" ["_law_rng_here", "_law_body_here"] (spBent 30)) (D__law_deep : Df P w K mg base 2 "_law_deep" ["_law_rng_here", "_law_one", "_law_many"] spDeep)
    (D__law_long : Df P w K mg base 2 "_law_long" ["_law_rng_here", "_law_one"] spLong) (D__law_nested : Df P w K mg base 3 "_law_nested" ["_law_rng_here", "_law_many"] spNest)
    (D__law_judged : DfG P w K mg base 73 "_law_judged" ["_law_value"] spJudged)
    (F : FnP K "_law_right" "_law_right" (top 40) f fd) : FnG P w K mg base CX0 74 f fd ["_law_rng_here"] spRight := by
  refine okG F sc__law_right (fun vs H Q E h => ?_) (fun cdv A outer s H vs Q E hr h => ⟨_, PSs.nox (pss_cons (ps_set (i := 1) sc__law_right.nd rfl (by first | exact Or.inl rfl | exact Or.inr rfl) (pcall D__law_body hr.r (pa_cons (pv 0) (pa_cons pe_int (pa_cons pe_int pa_nil))))) (pss_cons (ps_if (pt_not (pt_val (pcallG D__law_judged hr (pa_cons (pv 1) pa_nil)))) (pss_one (ps_ret pe_bl)) pss_nil) (pss_cons (ps_for PassesOwn.never rfl (pi_range1 rfl T.n_range (pa_cons pe_int pa_nil)) (pg_name (i := 2) sc__law_right.nd rfl (by first | exact Or.inl rfl | exact Or.inr rfl)) (pss_cons (ps_set (i := 1) sc__law_right.nd rfl (by first | exact Or.inl rfl | exact Or.inr rfl) (pcall D__law_bent hr.r (pa_cons (pv 0) (pa_cons (pv 1) pa_nil)))) (pss_one (ps_if (pt_not (pt_val (pcallG D__law_judged hr (pa_cons (pv 1) pa_nil)))) (pss_one (ps_ret pe_bl)) pss_nil)))) (pss_cons (ps_set (i := 3) sc__law_right.nd rfl (by first | exact Or.inl rfl | exact Or.inr rfl) (pcall D__law_choice hr.r (pa_cons (pv 0) (pa_cons (pe_lst (pa_cons (pe_tup (pa_cons pe_str (pa_cons pe_int pa_nil))) (pa_cons (pe_tup (pa_cons pe_str pa_nil)) (pa_cons (pe_tup (pa_cons pe_str (pa_cons pe_str (pa_cons pe_int pa_nil)))) (pa_cons pe_non pa_nil))))) pa_nil)))) (pss_cons (ps_set (i := 4) sc__law_right.nd rfl (by first | exact Or.inl rfl | exact Or.inr rfl) (pe_lst (pa_cons (pcall D__law_deep hr.r (pa_cons (pv 0) (pa_cons (pv 3) (pa_cons (pe_op op_add pe_int (pcall D__law_draw hr.r (pa_cons (pv 0) (pa_cons pe_int pa_nil)))) pa_nil)))) (pa_cons (pcall D__law_long hr.r (pa_cons (pv 0) (pa_cons (pv 3) pa_nil))) (pa_cons (pcall D__law_nested hr.r (pa_cons (pv 0) (pa_cons (pe_op op_add pe_int (pcall D__law_draw hr.r (pa_cons (pv 0) (pa_cons pe_int pa_nil)))) pa_nil))) pa_nil))))) (pss_one (ps_ret (pe_callB (cr_all rfl) (by rfl) T.n_all (by decide +kernel) (pa_cons (pe_lc (own := [("_law_value", 5)]) (g := gName 5) rfl sc__law_right.nd (pi_list (pe_op op_cat (pv 4) (pe_lst (pa_cons (pcall D__law_odd hr.r (pa_cons (pv 0) pa_nil)) (pa_cons (pe_callTy call_tuple_of (by rfl) T.n_tuple (by decide +kernel) (pa_cons (pv 1) pa_nil)) pa_nil))))) (blkOk_by (own := [("_law_value", 5)]) (N := ["_law_rng_here", "_law_program", "_law_turn", "_law_one", "_law_others", "_law_value"]) (sc := defScope (top 40)) (by decide +kernel)) (fun _ _ _ _ _ => pg_name (i := 5) sc__law_right.nd rfl (Or.inl rfl)) (fun _ _ _ _ _ => pts_nil) (fun _ _ _ _ _ => (pcallG D__law_judged hr (pa_cons (pv 5) pa_nil)))) pa_nil))))))))), ?_⟩)
  · obtain ⟨r, rfl, _⟩ := h
    rfl
  · obtain ⟨r, rfl, hR, q⟩ := h
    have big : (10 : Int) ^ 40 = 10000000000000000000000000000000000000000 := by decide
    have sl : sizeLine = 16777216 := sizeLine_eq
    have w2 : wI 2 = 22116 := rfl
    refine ⟨_, rfl, r, 2, 4, no, by decide, by decide, rfl, xt_no, hR, fun p0 ds0 H1 vd0 b0 s1 => ?_⟩
    have j0 := b0.jd (vd0 H1 Ag.refl) (by decide) (by rw [w2, sl]; decide) (by decide)
    refine ⟨_, rfl, _, _, rfl, j0.1, j0.2.1, j0.2.2.1, j0.2.2.2.1, j0.2.2.2.2, fun H2 sm => ⟨_, rfl, iteF ?_⟩⟩
    have t2 := Stp.same s1.1 sm
    have s2 := s1.trans t2
    refine ⟨3, rfl, by decide, by decide, ?_⟩
    refine for_it (walk_range (lo := 0) (n := 3)) (fun i σ G => ∃ (p : Addr) (ds : List PyData) (x2 x3 x4 x5 : Option V), σ = [some (.ref r), some (.ref p), x2, x3, x4, x5] ∧ Stp r H G ∧ Vd r no G (.ref p) (.list ds) ∧ Bd (9 + 3 * i) (88476 + i * 130) (4 + i) (.list ds))
      ⟨p0, ds0, none, none, none, none, rfl, s2, vd0.mono t2, b0⟩ (fun _ _ _ _ _ => trivial) ?_ ?_
    · rintro i x σ G _ hi ⟨p, ds, x2, x3, x4, x5, rfl, sG, vd, b⟩ ⟨rfl, rfl⟩
      have dp := b.dp
      refine ⟨_, rfl, _, rfl, r, p, ds, _, _, _, no, by omega, rfl, xt_no, sG.1, vd, b, by omega, by omega, fun p' ds' G1 vd' b' t1 => ?_⟩
      have s3 := sG.trans t1
      have j1 := b'.jd (vd' G1 Ag.refl) (by omega) (by omega) (by omega)
      refine ⟨_, rfl, _, _, rfl, j1.1, j1.2.1, j1.2.2.1, j1.2.2.2.1, j1.2.2.2.2, fun G2 sm => ⟨_, rfl, iteF ?_⟩⟩
      have t2 := Stp.same s3.1 sm
      exact ⟨p', ds', _, _, _, _, rfl, s3.trans t2, vd'.mono t2, b'.mono (by omega) (by rw [Nat.add_mul]; omega) (by omega)⟩
    · rintro σ G ⟨p, ds, x2, x3, x4, x5, rfl, sG, vd, b⟩
      refine ⟨_, rfl, (by show 2 ≤ sizeLine; decide), fun a1 ha1 => ⟨(by show 1 ≤ sizeLine; decide), fun a2 ha2 => ⟨(by show 3 ≤ sizeLine; decide), fun a3 ha3 => ⟨(by show 4 ≤ sizeLine; decide), fun L hL => ?_⟩⟩⟩⟩
      have u1 := stp_new (o := .tup [.str "out", .int 1]) sG.1 ha1
      have s1 := sG.trans u1
      have o1 : Tp r no _ a1 [.str "out", .int 1] := tp_new sG.1 xt_no ha1
      have u2 := stp_new (o := .tup [.str "out"]) s1.1 ha2
      have s2 := s1.trans u2
      have o2 : Tp r no _ a2 [.str "out"] := tp_new s1.1 xt_no ha2
      have u3 := stp_new (o := .tup [.str "new", .str "x", .int 2]) s2.1 ha3
      have s3 := s2.trans u3
      have o3 : Tp r no _ a3 [.str "new", .str "x", .int 2] := tp_new s2.1 xt_no ha3
      have u4 := stp_new (o := .lst [.ref a1, .ref a2, .ref a3, .non]) s3.1 hL
      have s4 := s3.trans u4
      have o4 : Lp r no _ L [.ref a1, .ref a2, .ref a3, .non] := lp_new s3.1 xt_no hL
      have o1 := o1.mono (u2.trans (u3.trans u4))
      have o2 := o2.mono (u3.trans u4)
      have o3 := o3.mono u4
      have vd := vd.mono (u1.trans (u2.trans (u3.trans u4)))
      generalize (upd (upd (upd (upd G a1 (.tup [.str "out", .int 1])) a2 (.tup [.str "out"])) a3 (.tup [.str "new", .str "x", .int 2])) L (.lst [.ref a1, .ref a2, .ref a3, .non])) = G4 at *
      clear u1 u2 u3 u4
      refine ⟨r, L, _, rfl, s4.1, o4.at_, o4.nr, (by show 1 ≤ 4; decide), (by show 4 ≤ 1000; decide), fun vo G5 hvo t5 => ?_⟩
      have s5 := s4.trans t5
      have ho : ∃ d, Vd r no G5 vo d ∧ Bd 1 60 3 d := by
        simp only [List.mem_cons, List.not_mem_nil, or_false] at hvo
        rcases hvo with rfl | rfl | rfl | rfl
        · exact ⟨.tuple [.str "out", .int 1], (o1.mono t5).vd (VdAll.two (Vd.lit "out" (by decide)) (Vd.int 1)), bd (by decide +kernel)⟩
        · exact ⟨.tuple [.str "out"], (o2.mono t5).vd (.cons (Vd.lit "out" (by decide)) .nil), bd (by decide +kernel)⟩
        · exact ⟨.tuple [.str "new", .str "x", .int 2], (o3.mono t5).vd (.cons (Vd.lit "new" (by decide)) (.cons (Vd.lit "x" (by decide)) (.cons (Vd.int 2) .nil))), bd (by decide +kernel)⟩
        · exact ⟨.none, fun _ _ => .non, bd (by decide +kernel)⟩
      obtain ⟨dO, vdO, bO⟩ := ho
      have vd := vd.mono t5
      clear o1 o2 o3 o4 hvo
      -- deep
      refine ⟨_, rfl, _, rfl, _, rfl, r, 6, rfl, s5.1, by decide, by omega, fun z1 G6 z10 z11 t6 => ⟨_, _, rfl, rfl, ?_⟩⟩
      have s6 := s5.trans t6
      refine ⟨r, vo, dO, (3 + z1).toNat, no, (by rw [Int.toNat_of_nonneg (by omega)]; rfl), by omega, xt_no, s6.1, vdO.mono t6, bO, fun pa da G7 vda ba t7 => ?_⟩
      have s7 := s6.trans t7
      have m1 := Nat.mul_le_mul_right 150 (show (3 + z1).toNat ≤ 8 by omega)
      have ba : Bd 60 2000 900 (.list da) := ba.mono (by omega) (by omega) (by decide)
      -- long
      refine ⟨_, rfl, _, rfl, r, vo, dO, no, rfl, xt_no, s7.1, vdO.mono (t6.trans t7), bO, fun pb db G8 vdb bb t8 => ?_⟩
      have s8 := s7.trans t8
      -- nested
      refine ⟨_, rfl, _, rfl, r, 5, rfl, s8.1, by decide, by omega, fun z2 G9 z20 z21 t9 => ⟨_, _, rfl, rfl, ?_⟩⟩
      have s9 := s8.trans t9
      refine ⟨r, (3 + z2).toNat, no, (by rw [Int.toNat_of_nonneg (by omega)]; rfl), by omega, xt_no, s9.1, fun pc dc G10 vdc bc t10 => ⟨(by show 3 ≤ sizeLine; decide), fun M hM => ?_⟩⟩
      have s10 := s9.trans t10
      have bc : Bd 60 2000 900 (.list dc) := bc.mono (by omega) (by omega) (by decide)
      have u1 := stp_new (o := .lst [.ref pa, .ref pb, .ref pc]) s10.1 hM
      have s11 := s10.trans u1
      have oM : Lp r no _ M [.ref pa, .ref pb, .ref pc] := lp_new s10.1 xt_no hM
      have va := vda.mono (t8.trans (t9.trans (t10.trans u1)))
      have vb := vdb.mono (t9.trans (t10.trans u1))
      have vc := vdc.mono u1
      have vp := vd.mono (t6.trans (t7.trans (t8.trans (t9.trans (t10.trans u1)))))
      generalize (upd G10 M (.lst [.ref pa, .ref pb, .ref pc])) = G11 at *
      clear u1
      -- odd, tuple
      refine ⟨_, rfl, _, rfl, r, no, rfl, xt_no, s11.1, fun ve de G12 vde be t12 => ?_⟩
      have s12 := s11.trans t12
      have hvp := vp.mono t12
      obtain ⟨xs, hp, npr, _, vxs⟩ := hvp.partsL
      have xl := vxs.len
      obtain ⟨N', _, bxs, dl, wl⟩ := b.ofL
      refine ⟨_, rfl, p, xs, rfl, .inl ⟨SqL.of hp, fun pt hpt => ⟨(by show 2 ≤ sizeLine; decide), fun M2 hM2 => ?_⟩⟩⟩
      have u2 := stp_new (o := .tup xs) s12.1 hpt
      have s13 := s12.trans u2
      have ot : Tp r no _ pt xs := tp_new s12.1 xt_no hpt
      have u3 := stp_new (o := .lst [ve, .ref pt]) s13.1 hM2
      have s14 := s13.trans u3
      have oM2 : Lp r no _ M2 [ve, .ref pt] := lp_new s13.1 xt_no hM2
      have vt := (ot.mono u3).vd (vxs.mono (u2.trans u3))
      have bt := bxs.tup dl
      refine lp_cat s14.1 xt_no (oM.mono (t12.trans (u2.trans u3))) oM2 (by show 3 + 2 ≤ sizeLine; decide) fun M3 G15 t15 lM3 => ?_
      have s15 := s14.trans t15
      have jd : ∀ v ∈ [V.ref pa, .ref pb, .ref pc] ++ [ve, .ref pt], ∃ d, Jd G15 v d := fun v hv => by
        simp only [List.cons_append, List.nil_append, List.mem_cons, List.not_mem_nil, or_false] at hv
        have t := (t12.trans (u2.trans u3)).trans t15
        rcases hv with rfl | rfl | rfl | rfl | rfl
        · exact ⟨_, ba.jd (va.mono t G15 Ag.refl) (by decide) (by rw [sl]; decide) (by decide)⟩
        · exact ⟨_, bb.jd (vb.mono t G15 Ag.refl) (by decide) (by rw [sl]; decide) (by decide)⟩
        · exact ⟨_, bc.jd (vc.mono t G15 Ag.refl) (by decide) (by rw [sl]; decide) (by decide)⟩
        · exact ⟨_, be.jd (vde.mono (u2.trans (u3.trans t15)) G15 Ag.refl) (by decide) (by rw [sl]; decide) (by decide)⟩
        · exact ⟨_, bt.jd (vt.mono t15 G15 Ag.refl) (by omega) (by omega) (by decide)⟩
      refine ⟨M3, rfl, ⟨_, SqL.of lM3.at_⟩, fun D hD => ?_⟩
      have nDr : D ≠ r := (s15.1.ne hD).symm
      refine lc_it (walk_list (xs := [V.ref pa, .ref pb, .ref pc] ++ [ve, .ref pt])) (fun i G => G D = some (.lst (trues i)) ∧ Same G15 G) ⟨upd_same, same_upd hD⟩ (fun i G _ h => SqL.of (h.2 _ _ lM3.at_)) ?_ ?_
      · rintro i v G1 G2 hi ⟨e1, e2⟩ ⟨rfl, hv⟩
        obtain ⟨d, j1, j2, j3, j4, j5⟩ := jd v (List.mem_of_getElem? hv)
        have hi5 : i < 5 := hi
        refine ⟨rfl, _, rfl, v, d, rfl, j1.same e2, j2, j3, j4, j5, fun G3 sm => ?_⟩
        refine ⟨_, sm _ _ e1, small1000 (by rw [trues_len]; omega), by rw [upd_same, trues_more], fun b o e => ?_⟩
        rw [upd_ne (ne_of_none e hD)]
        exact sm _ _ (e2 b o e)
      · rintro G16 ⟨e1, e2⟩
        refine ⟨D, List.replicate 5 true, rfl, SqL.of e1, ?_⟩
        exact q _ (s15.trans (Stp.same s15.1 e2))
def spLaw (K : PySem.W.Frag) : Sp := fun vs H Q _ => ∃ (a : Addr) (ns : List Int), vs = [.ref a] ∧ SqL K H a (ns.map V.int) ∧ ns.length ≤ 63 ∧ ∀ H', Q (.bl true) H'
theorem sc_law : FnScope ["_law_script", "_law_k"] ["_law_script"] (defScope (top 41)) := ⟨rfl, rfl, rfl, by decide +kernel, rfl, by decide +kernel, by decide +kernel⟩
theorem ok_law (T : Tx w K mg) (D__law_rng : Df P w K mg base 1 "_law_rng" ["_law_script", "_law_k"] (spRng K)) (D__law_right : DfG P w K mg base 74 "_law_right" ["_law_rng_here"] spRight)
    (F : FnP K "law" "law" (top 41) f fd) : FnG P w K mg base CX0 75 f fd ["_law_script"] (spLaw K) := by
  obtain ⟨td, hGD⟩ := T.gD
  obtain ⟨ti, hGI⟩ := T.gI
  refine okG F sc_law (fun vs H Q E h => ?_) (fun cdv A outer s H vs Q E hr h => ⟨_, PSs.nox (pss_cons (ps_if (pt_cmpR (op_neD hr.r.units) (pe_lst (pa_cons (pe_glob (v := .int 6) rfl hGD ⟨_, rfl⟩) (pa_cons (pe_glob (v := .int 200) rfl hGI ⟨_, rfl⟩) pa_nil))) (pe_lst (pa_cons pe_int (pa_cons pe_int pa_nil))) (nomark _)) (pss_one (ps_ret pe_bl)) pss_nil) (pss_one (ps_ret (pe_callB (cr_all rfl) (by rfl) T.n_all (by decide +kernel) (pa_cons (pe_lc (own := [("_law_k", 1)]) (g := gName 1) rfl sc_law.nd (pi_range1 rfl T.n_range (pa_cons (pe_callB (call_max2 rfl) (by rfl) T.n_max (by decide +kernel) (pa_cons pe_int (pa_cons (pe_callB (call_min2 rfl) (by rfl) T.n_min (by decide +kernel) (pa_cons (pe_callB call_len_seq (by rfl) T.n_len (by decide +kernel) (pa_cons (pv 0) pa_nil)) (pa_cons pe_int pa_nil))) pa_nil))) pa_nil)) (blkOk_by (own := [("_law_k", 1)]) (N := ["_law_script", "_law_k"]) (sc := defScope (top 41)) (by decide +kernel)) (fun _ _ _ _ _ => pg_name (i := 1) sc_law.nd rfl (Or.inl rfl)) (fun _ _ _ _ _ => pts_nil) (fun _ _ _ _ _ => (pcallG D__law_right hr (pa_cons (pcall D__law_rng hr.r (pa_cons (pv 0) (pa_cons (pv 1) pa_nil))) pa_nil)))) pa_nil))))), ?_⟩)
  · obtain ⟨a, ns, rfl, _⟩ := h
    rfl
  · obtain ⟨a, ns, rfl, hS0, hlen, q⟩ := h
    refine ⟨(by show 2 ≤ sizeLine; decide), fun p1 hp1 => ⟨(by show 2 ≤ sizeLine; decide), fun p2 hp2 => ?_⟩⟩
    have u1 := same_upd (o := .lst [.int 6, .int 200]) hp1
    have u2 := same_upd (o := .lst [.int 6, .int 200]) hp2
    refine ⟨.list [.int 6, .int 200], .list [.int 6, .int 200], .lst (SqL.of (u2 _ _ upd_same)) (.cons (.int _) (.cons (.int _) .nil)), .lst (SqL.of upd_same) (.cons (.int _) (.cons (.int _) .nil)), (by decide +kernel), (by decide +kernel), _, rfl, iteF ?_⟩
    have hS := (u1.trans u2).seq hS0
    generalize (upd (upd H p1 (.lst [.int 6, .int 200])) p2 (.lst [.int 6, .int 200])) = H3 at *
    refine ⟨_, rfl, a, _, rfl, .inl hS, _, _, rfl, _, _, rfl, ?_⟩
    obtain ⟨j, ej, j1, j2⟩ : ∃ j : Int, (if (if (4 : Int) < ((ns.map V.int).length : Int) then 4 else ((ns.map V.int).length : Int)) > 1 then (if (4 : Int) < ((ns.map V.int).length : Int) then 4 else ((ns.map V.int).length : Int)) else 1) = j ∧ 1 ≤ j ∧ j ≤ 4 := by
      refine ⟨_, rfl, ?_, ?_⟩
      · split <;> omega
      · split <;> split <;> omega
    refine ⟨j, (by rw [ej]), by omega, by omega, fun D hD => ?_⟩
    refine lc_range (fun i H' => H' D = some (.lst ((List.replicate i true).map V.bl)) ∧ Same H3 H') ⟨upd_same, same_upd hD⟩ ?_ ?_
    · rintro i H' hi ⟨hD', sm⟩
      have hi2 : i < 4 := by omega
      refine ⟨rfl, _, rfl, _, rfl, a, ns, i, (by rw [Int.zero_add]; rfl), sm.seq hS, by omega, fun p H1 hp sm1 rg => ?_⟩
      refine ⟨p, rfl, rg, fun H2 st => ?_⟩
      have hD1 : H1 D = some (.lst ((List.replicate i true).map V.bl)) := sm1 _ _ hD'
      have nDp : D ≠ p := ne_of_none hD' hp
      refine ⟨_, st.2 D _ nDp hD1, small1000 (by rw [List.length_map, List.length_replicate]; omega), by rw [upd_same]; exact congrArg (fun z => some (HO.lst z)) (trues_more i), fun b o e => ?_⟩
      have e' := sm b o e
      rw [upd_ne (ne_of_none e hD)]
      exact st.2 b o (ne_of_none e' hp) (sm1 b o e')
    · rintro H' ⟨hD', sm⟩
      refine ⟨D, List.replicate j.toNat true, rfl, SqL.of hD', ?_⟩
      rw [all_trues]
      exact q _
end
end K81

set_option Elab.async false
set_option linter.all false
set_option maxRecDepth 100000
set_option maxHeartbeats 4000000
set_option pp.maxSteps 900
namespace K81
open PySem PySem.Spec PyProof.Rows L2 Gu Ex RZ
/-! ### kept tuples of texts -/
def strsV : List Value → List Str → Bool
  | [], [] => true
  | .str x _ :: r, y :: l => decide (x = y) && strsV r l
  | _, _ => false
theorem strsV_ok : ∀ {us : List Value} {ys : List Str}, strsV us ys = true → Vals (ys.map V.str) us
  | [], [], _ => .nil
  | [], _ :: _, h => by cases h
  | v :: r, ys, h => by
    cases ys with
    | nil => cases v <;> cases h
    | cons y l =>
      cases v with
      | str x t =>
        obtain ⟨h1, h2⟩ := He.ba (show (decide (x = y) && strsV r l) = true from h)
        have e := of_decide_eq_true h1
        subst e
        exact .cons ⟨t, rfl⟩ (strsV_ok h2)
      | _ => cases h
def ktupB (K : PySem.W.Frag) (a : Addr) (ys : List Str) : Bool := match K.lookup a with
  | some o => (match o.data with
    | .seq its _ => decide (o.cls = .type "tuple") && (decide (its.size ≤ 1000) && strsV its.toList ys)
    | _ => false)
  | none => false
theorem ktupB_ok {K : PySem.W.Frag} {a : Addr} {ys : List Str} (h : ktupB K a ys = true) (H : Hp) : SqT K H a (ys.map V.str) := by
  unfold ktupB at h
  split at h
  · rename_i o ho
    split at h
    · rename_i its n hd
      obtain ⟨h1, h⟩ := He.ba h
      obtain ⟨h2, h3⟩ := He.ba h
      exact .inr ⟨o, its, n, ho, of_decide_eq_true h1, hd, Nat.le_trans (of_decide_eq_true h2) (by decide), strsV_ok h3⟩
    · cases h
  · cases h
def entB (K : PySem.W.Frag) (e : DictEntry) (p : Str × List Str) : Bool := match e.key, e.val with
  | .str x _, .ref fo => decide (x = p.1) && ktupB K fo p.2
  | _, _ => false
theorem entB_ok {K : PySem.W.Frag} {e : DictEntry} {p : Str × List Str} (h : entB K e p = true) : ∃ t fo, e.key = .str p.1 t ∧ e.val = .ref fo ∧ ktupB K fo p.2 = true := by
  unfold entB at h
  split at h
  · rename_i x t fo e1 e2
    obtain ⟨h1, h2⟩ := He.ba h
    have e := of_decide_eq_true h1
    subst e
    exact ⟨t, fo, e1, e2, h2⟩
  · cases h
def entsB (K : PySem.W.Frag) : List DictEntry → List (Str × List Str) → Bool
  | [], [] => true
  | e :: r, p :: l => entB K e p && entsB K r l
  | _, _ => false
theorem ents_ok {K : PySem.W.Frag} (x : Str) : ∀ {es : List DictEntry} {l : List (Str × List Str)}, entsB K es l = true → es.any (·.refKey) = false ∧ (match formIn x l with
    | some ks => ∃ (e : DictEntry) (fo : Addr), es.find? (·.key.isStr x) = some e ∧ e.val = .ref fo ∧ ktupB K fo ks = true
    | none => es.find? (·.key.isStr x) = none)
  | [], [], _ => ⟨rfl, rfl⟩
  | [], _ :: _, h => by cases h
  | _ :: _, [], h => by cases h
  | e :: es, p :: l, h => by
    obtain ⟨h1, h2⟩ := He.ba (show (entB K e p && entsB K es l) = true from h)
    obtain ⟨t, fo, e1, e2, e3⟩ := entB_ok h1
    obtain ⟨i1, i2⟩ := ents_ok x h2
    obtain ⟨y, ks⟩ := p
    refine ⟨?_, ?_⟩
    · rw [List.any_cons, i1]
      unfold DictEntry.refKey
      rw [e1]
      rfl
    · have ek : e.key.isStr x = decide (y = x) := by
        rw [e1]
        show (y == x) = decide (y = x)
        by_cases hy : y = x
        · rw [hy, decide_eq_true rfl]
          exact beq_self_eq_true x
        · rw [decide_eq_false hy]
          exact beq_eq_false_iff_ne.mpr hy
      show match (if y = x then some ks else formIn x l) with
        | some ks => ∃ (e' : DictEntry) (fo : Addr), (e :: es).find? (·.key.isStr x) = some e' ∧ e'.val = .ref fo ∧ ktupB K fo ks = true
        | none => (e :: es).find? (·.key.isStr x) = none
      by_cases hy : y = x
      · rw [if_pos hy]
        exact ⟨e, fo, by rw [List.find?_cons, ek, decide_eq_true hy], e2, e3⟩
      · rw [if_neg hy, List.find?_cons, ek, decide_eq_false hy]
        exact i2
def formsB (K : PySem.W.Frag) : Bool := match K.lookup (He.ga K "FORMS") with
  | some ⟨_, _, .dict es _, _⟩ => entsB K es.toList forms
  | _ => false
theorem formsB_ok {K : PySem.W.Frag} (h : formsB K = true) (x : Str) : match formOf x with
    | some ks => ∃ fo : Addr, PySem.W.nsIn K (He.ga K "FORMS") x = some (some (.ref fo)) ∧ ∀ H : Hp, SqT K H fo (ks.map V.str)
    | none => PySem.W.nsIn K (He.ga K "FORMS") x = some none := by
  unfold formsB at h
  split at h
  · rename_i c d es n sl e
    obtain ⟨h1, h2⟩ := ents_ok x h
    unfold PySem.W.nsIn
    rw [e]
    unfold formOf
    cases hf : formIn x forms with
    | some ks =>
      rw [hf] at h2
      obtain ⟨e', fo, f1, f2, f3⟩ := h2
      exact ⟨fo, by show (match es.toList.find? (·.key.isStr x) with
        | some e => some (some e.val)
        | none => if es.toList.any (·.refKey) then none else some none) = _; rw [f1]; show some (some e'.val) = _; rw [f2], fun H => ktupB_ok f3 H⟩
    | none =>
      rw [hf] at h2
      show (match es.toList.find? (·.key.isStr x) with
        | some e => some (some e.val)
        | none => if es.toList.any (·.refKey) then none else some none) = _
      rw [h2]
      show (if es.toList.any (·.refKey) then none else some none) = _
      rw [h1]
      rfl
  · cases h
def formKeys : List Str := ["new", "drop", "resize", "store", "load", "set", "out", "reserve", "if", "repeat", "attempt"]
end K81

set_option Elab.async false
set_option linter.all false
set_option maxRecDepth 100000
set_option maxHeartbeats 0
namespace Ex
open PySem PySem.Spec PyProof.Rows L2 Gu
/-! ### facts of a class beyond those by names: constants, a property -/
def cvB (K : PySem.W.Frag) (C : Addr) (f : Str) (i : Int) : Bool := match PySem.W.findCls K (.ref C) (.type "type") f with
  | some (.val (.int j _)) => decide (j = i)
  | _ => false
theorem cvB_ok {K : PySem.W.Frag} {C : Addr} {f : Str} {i : Int} (h : cvB K C f i = true) : ∃ u, ClX.CVal K C (.type "type") f (.int i) u := by
  unfold cvB at h
  split at h
  · rename_i j t e
    have ej : j = i := of_decide_eq_true h
    exact ⟨_, e, t, by rw [ej]⟩
  · cases h
def rdB (K : PySem.W.Frag) (C : Addr) : Bool := PySem.W.readsIn K C (.type "type") && He.eqO (PySem.W.specialIn K (.ref C) "__getattribute__") (some (some (.builtin "type.__getattribute__")))
theorem rdB_ok {K : PySem.W.Frag} {C : Addr} (h : rdB K C = true) : ClX.CRead K C (.type "type") := by
  obtain ⟨h1, h2⟩ := He.ba h
  exact ⟨h1, He.eqO_ok h2⟩
def prA (K : PySem.W.Frag) (C : Addr) (f : Str) : Addr := match PySem.W.findIn K (.ref C) f with
  | some (some (.ref p)) => p
  | _ => 0
def pgA (K : PySem.W.Frag) (C : Addr) (f : Str) : Addr := match PySem.W.recIn K (prA K C f) "property" with
  | some (.ref g :: _) => g
  | _ => 0
def prB (K : PySem.W.Frag) (C : Addr) (f : Str) : Bool := He.eqO (PySem.W.findIn K (.ref C) f) (some (some (.ref (prA K C f)))) &&
  (He.eqO (PySem.W.specialIn K (.ref (prA K C f)) "__get__") (some (some (.builtin "property.__get__"))) && (decide (PySem.W.takesIn K (.ref (prA K C f)) = some true) &&
    (match PySem.W.recIn K (prA K C f) "property" with
    | some (.ref _ :: _) => true
    | _ => false)))
theorem prB_ok {K : PySem.W.Frag} {C : Addr} {f : Str} (h : prB K C f = true) : PropOf K C f (prA K C f) (pgA K C f) := by
  obtain ⟨h1, h⟩ := He.ba h
  obtain ⟨h2, h⟩ := He.ba h
  obtain ⟨h3, h4⟩ := He.ba h
  refine ⟨He.eqO_ok h1, He.eqO_ok h2, of_decide_eq_true h3, ?_⟩
  unfold pgA
  split at h4
  · rename_i g r e
    rw [e]
    exact ⟨r, rfl⟩
  · cases h4
/-- the def at an address -/
def fnAt (K : PySem.W.Frag) (a : Addr) : He.FnW := match K.lookup a with
  | some ⟨_, _, .func fd, _⟩ => some (fd.name, fd.qualname, fd.params, fd.body, fd.scope, fd.globals, fd.closure, fd.builtins)
  | _ => none
def okAt (K : PySem.W.Frag) (a : Addr) (qual : Str) : Bool := PySem.W.keepIn K (.ref a) && (match K.lookup a with
  | some ⟨_, _, .func fd, _⟩ => PySem.W.codeIn K fd.code qual && (He.dflB K fd.defaults [] && He.kwdB K fd.kwdefaults [])
  | _ => false)
theorem fun_at {K : PySem.W.Frag} {a : Addr} {name qual : Str} {params : Arguments} {body : List Stmt} {scope : Scope} (e : fnAt K a = some (name, qual, params, .stmts body, scope, mainGlobals, [], builtinsNs)) (c : okAt K a qual = true) :
    ∃ fd, FunD K name qual params body scope [] [] a fd := by
  obtain ⟨kp, c2⟩ := He.ba c
  unfold fnAt at e
  split at e
  · rename_i oc od fd sl q
    rw [q] at c2
    obtain ⟨k1, k2⟩ := He.ba c2
    obtain ⟨k3, k4⟩ := He.ba k2
    obtain ⟨n1, n2, n3, n4, n5, n6, n7, n8, n9, n10, n11, n12, n13, n14, n15⟩ := fd
    simp only [Option.some.injEq, Prod.mk.injEq] at e
    obtain ⟨rfl, rfl, rfl, rfl, rfl, rfl, rfl, rfl⟩ := e
    exact ⟨_, ⟨oc, od, n8, n9, n10, n11, n12, n13, n14, sl, rfl, q, k1, He.dflB_ok k3, He.kwdB_ok k4⟩, kp⟩
  · cases e
def sysB (K : PySem.W.Frag) : Bool := match K.lookup sysModules with
  | some o => decide (o.cls ≠ .type "list")
  | none => false
end Ex

set_option Elab.async false
set_option linter.all false
set_option maxRecDepth 100000
set_option maxHeartbeats 0
namespace K81
open PySem PySem.Spec PyProof.Rows L2 Gu Ex
abbrev R : PySem.W.OpenRow := PySem.W.OpenLaw.row PySem.Challenge.rw_exactroom_k81_whole_programs_judged
def dOf (a : Str × Option Str) (x q : Str) (st : Stmt) : He.DefD := ⟨a, x, q, defArgs st, defBody st, defScope st, [], []⟩
def dOfK (a : Str × Option Str) (x q : Str) (st : Stmt) (kw : List (Str × He.Dv)) : He.DefD := ⟨a, x, q, defArgs st, defBody st, defScope st, [], kw⟩
def fn : List He.DefD := [dOf ("is_integer", none) "is_integer" "is_integer" (top 3),
  dOf ("is_name", none) "is_name" "is_name" (top 4),
  dOf ("is_expression_within", none) "is_expression_within" "is_expression_within" (top 11),
  dOf ("is_expression", none) "is_expression" "is_expression" (top 12),
  dOf ("is_part", none) "is_part" "is_part" (top 13),
  dOf ("is_instruction", none) "is_instruction" "is_instruction" (top 14),
  dOf ("placed", none) "placed" "placed" (top 15),
  dOf ("placed_in", none) "placed_in" "placed_in" (top 16),
  dOf ("depth_at", none) "depth_at" "depth_at" (top 17),
  dOf ("first_problem", none) "first_problem" "first_problem" (top 18),
  dOf ("is_program", none) "is_program" "is_program" (top 19),
  dOf ("_law_rng", none) "_law_rng" "_law_rng" (top 21),
  dOf ("_law_draw", none) "_law_draw" "_law_draw" (top 22),
  dOf ("_law_choice", none) "_law_choice" "_law_choice" (top 23),
  dOf ("_law_expression", none) "_law_expression" "_law_expression" (top 24),
  dOf ("_law_body", none) "_law_body" "_law_body" (top 25),
  dOf ("_law_instruction", none) "_law_instruction" "_law_instruction" (top 26),
  dOf ("_law_is_name", none) "_law_is_name" "_law_is_name" (top 27),
  dOf ("_law_depth", none) "_law_depth" "_law_depth" (top 28),
  dOf ("_law_shape", none) "_law_shape" "_law_shape" (top 29),
  dOf ("_law_is_part", none) "_law_is_part" "_law_is_part" (top 30),
  dOf ("_law_is_one", none) "_law_is_one" "_law_is_one" (top 31),
  dOf ("_law_walk", none) "_law_walk" "_law_walk" (top 32),
  dOf ("_law_odd", none) "_law_odd" "_law_odd" (top 33),
  dOf ("_law_bent_one", none) "_law_bent_one" "_law_bent_one" (top 34),
  dOf ("_law_bent", none) "_law_bent" "_law_bent" (top 35),
  dOf ("_law_deep", none) "_law_deep" "_law_deep" (top 36),
  dOf ("_law_long", none) "_law_long" "_law_long" (top 37),
  dOf ("_law_nested", none) "_law_nested" "_law_nested" (top 38),
  dOf ("_law_judged", none) "_law_judged" "_law_judged" (top 39),
  dOf ("_law_right", none) "_law_right" "_law_right" (top 40),
  dOf ("law", none) "law" "law" (top 41)]
def fa : List He.Fa := [.glo "is_integer", .glo "is_name", .glo "is_expression_within", .glo "is_expression", .glo "is_part", .glo "is_instruction", .glo "placed", .glo "placed_in", .glo "depth_at", .glo "first_problem", .glo "is_program", .glo "_law_rng", .glo "_law_draw", .glo "_law_choice", .glo "_law_expression", .glo "_law_body", .glo "_law_instruction", .glo "_law_is_name", .glo "_law_depth", .glo "_law_shape", .glo "_law_is_part", .glo "_law_is_one", .glo "_law_walk", .glo "_law_odd", .glo "_law_bent_one", .glo "_law_bent", .glo "_law_deep", .glo "_law_long", .glo "_law_nested", .glo "_law_judged", .glo "_law_right", .glo "law", .glo "OPERATORS", .glo "FORMS", .free "len", .free "isinstance", .free "int", .free "bool", .free "str", .free "tuple", .free "list", .free "range", .free "divmod", .free "abs", .free "max", .free "min", .free "all", .free "repr", .free "enumerate", .free "zip", .free "dict", .str "LETTERS" "abcdefghijklmnopqrstuvwxyz", .int "MAX_NAME" 8, .int "MAX_DEPTH" 6, .int "MAX_INSTRUCTIONS" 200, .int "MAX_NUMBER" 1000000000000]
def exB (K : PySem.W.Frag) : Bool := (ktupB K (He.ga K "OPERATORS") ["add", "sub", "less", "equal"] && (formsB K && (sysB K && true)))
abbrev AlE : Type := He.AlD × Bool × Option (List (Option (Str × Int)))
def ob0 (K : PySem.W.Frag) : AlE := (He.obsD fa fn K, exB K, He.dicW K (He.ga K "FORMS"))
def vl0 (w : World) : AlE := (He.valD fn, true, some (He.keysIn w.params formKeys))
def ob1 (g : Addr → Option Obj) : AlE := ob0 (He.frG g (cStatics :: sysModules :: He.asD g 5))
def hk : PySem.W.Hook where
  α := AlE
  obs := fun s => ob1 s.heap.get?
  val := vl0
  says := fun w h => ∃ K : PySem.W.Frag, K.In h ∧ ob0 K = vl0 w
  of := fun _ _ e => ⟨_, He.frG_in, e⟩
  keeps := fun _ _ _ ⟨K, hK, c⟩ k => ⟨K, PySem.W.Frag.In.keeps hK k, c⟩
def ob (s : PySem.W.SharedT) : AlE := ob1 (HandSHeadRun.getT s)
theorem ob_eq (s : PySem.W.SharedT) : ob s = hk.obs s.abs := by
  have e : HandSHeadRun.getT s = s.abs.heap.get? := funext (HandSHeadRun.getT_eq s)
  show ob1 (HandSHeadRun.getT s) = ob1 s.abs.heap.get?
  rw [e]
def loose : List Str := ("LETTERS" : Str) :: ("MAX_NAME" : Str) :: ("is_integer" : Str) :: ("is_name" : Str) :: ("MAX_DEPTH" : Str) :: ("MAX_INSTRUCTIONS" : Str) :: ("MAX_NUMBER" : Str) :: ("OPERATORS" : Str) :: ("FORMS" : Str) :: ("is_expression_within" : Str) :: ("is_expression" : Str) :: ("is_part" : Str) :: ("is_instruction" : Str) :: ("placed" : Str) :: ("placed_in" : Str) :: ("depth_at" : Str) :: ("first_problem" : Str) :: ("is_program" : Str) :: ("_law_rng" : Str) :: ("_law_draw" : Str) :: ("_law_choice" : Str) :: ("_law_expression" : Str) :: ("_law_body" : Str) :: ("_law_instruction" : Str) :: ("_law_is_name" : Str) :: ("_law_depth" : Str) :: ("_law_shape" : Str) :: ("_law_is_part" : Str) :: ("_law_is_one" : Str) :: ("_law_walk" : Str) :: ("_law_odd" : Str) :: ("_law_bent_one" : Str) :: ("_law_bent" : Str) :: ("_law_deep" : Str) :: ("_law_long" : Str) :: ("_law_nested" : Str) :: ("_law_judged" : Str) :: ("_law_right" : Str) :: []
def kk (s : PySem.W.SharedT) : PySem.W.Frag := He.frG (HandSHeadRun.getT s) (cStatics :: sysModules :: He.asD (HandSHeadRun.getT s) 5)
noncomputable def ends (w : World) (os : OsState) : Option PySem.W.SharedT := HandSHeadRun.endF (HandSHeadRun.stepQ (HandSHeadRun.denQ HandSHeadRun.tabQ) R.prog w) 16000 R.prog w os
theorem both {Pr : World → Prop} (h : ∀ (b : Bool) (w : World), Pr (w.withFollow "special-get-raises" b)) (w : World) : Pr w := by
  have := h (w.params.followText "special-get-raises") w
  rwa [World.withFollow_self] at this
theorem in_parts {σ A B E F : Type} {o : Option σ} {a : σ → A} {b : σ → B} {c d : σ → Bool} {e : σ → E} {f : σ → Bool} {g : σ → F} {x1 : A} {x2 : B} {x5 : E} {x7 : F} (h1 : o.map a = some x1) (h2 : o.map b = some x2) (h3 : o.map c = some true) (h4 : o.map d = some true)
    (h5 : o.map e = some x5) (h6 : o.map f = some true) (h7 : o.map g = some x7) : o.map (fun s => (a s, b s, (((c s && d s), e s), f s, g s))) = some (x1, x2, ((true, x5), true, x7)) := by
  cases o with
  | none => cases h1
  | some s =>
    have g1 : a s = x1 := Option.some.inj h1
    have g2 : b s = x2 := Option.some.inj h2
    have g3 : c s = true := Option.some.inj h3
    have g4 : d s = true := Option.some.inj h4
    have g5 : e s = x5 := Option.some.inj h5
    have g6 : f s = true := Option.some.inj h6
    have g7 : g s = x7 := Option.some.inj h7
    show some (a s, b s, (((c s && d s), e s), f s, g s)) = _
    rw [g1, g2, g3, g4, g5, g6, g7]
    rfl
end K81

set_option Elab.async false
set_option linter.all false
set_option maxRecDepth 100000
set_option maxHeartbeats 0
namespace K81
open PySem PySem.Spec PyProof.Rows L2 Gu Ex PySem.W PySem.Calls
theorem r_looks (w : World) (os : OsState) : (ends w os).map (fun s => HandSHeadRun.looksF R.prog (boot_heap w.params) s.abs) = some true :=
  both (Pr := fun w => (ends w os).map (fun s => HandSHeadRun.looksF R.prog (boot_heap w.params) s.abs) = some true) (fun b w => by cases b <;> kernel_rfl) w
theorem r_seen (w : World) (os : OsState) : (ends w os).map (fun s => HandSHeadRun.seenQ (PySem.W.view R.prog [41]) loose (PySem.importedModules R.prog.main.body) (fun s => PySem.W.xlAt (PySem.W.view R.prog [41]) [] s && PySem.W.recOk R.toRowW.records s) s.abs) = some (PySem.W.openGood (PySem.W.view R.prog [41]) loose) :=
  both (Pr := fun w => (ends w os).map (fun s => HandSHeadRun.seenQ (PySem.W.view R.prog [41]) loose (PySem.importedModules R.prog.main.body) (fun s => PySem.W.xlAt (PySem.W.view R.prog [41]) [] s && PySem.W.recOk R.toRowW.records s) s.abs) = some (PySem.W.openGood (PySem.W.view R.prog [41]) loose)) (fun b w => by cases b <;> kernel_rfl) w
end K81

set_option Elab.async false
set_option linter.all false
set_option maxRecDepth 100000
set_option maxHeartbeats 0
namespace K81
open PySem PySem.Spec PyProof.Rows L2 Gu Ex
theorem r_fa (w : World) (os : OsState) : (ends w os).map (fun s => fa.all fun f => f.ok (kk s)) = some true :=
  both (Pr := fun w => (ends w os).map (fun s => fa.all fun f => f.ok (kk s)) = some true) (fun b w => by cases b <;> kernel_rfl) w
end K81

set_option Elab.async false
set_option linter.all false
set_option maxRecDepth 100000
set_option maxHeartbeats 0
namespace K81
open PySem PySem.Spec PyProof.Rows L2 Gu Ex
theorem r_fn (w : World) (os : OsState) : (ends w os).map (fun s => fn.all fun d => d.ok (kk s)) = some true :=
  both (Pr := fun w => (ends w os).map (fun s => fn.all fun d => d.ok (kk s)) = some true) (fun b w => by cases b <;> kernel_rfl) w
end K81

set_option Elab.async false
set_option linter.all false
set_option maxRecDepth 100000
set_option maxHeartbeats 0
namespace K81
open PySem PySem.Spec PyProof.Rows L2 Gu Ex
theorem r_fw (w : World) (os : OsState) : (ends w os).map (fun s => fn.map fun d => He.fnW (kk s) d.at_) = some (fn.map He.DefD.val) :=
  both (Pr := fun w => (ends w os).map (fun s => fn.map fun d => He.fnW (kk s) d.at_) = some (fn.map He.DefD.val)) (fun b w => by cases b <;> kernel_rfl) w
end K81

set_option Elab.async false
set_option linter.all false
set_option maxRecDepth 100000
set_option maxHeartbeats 0
namespace K81
open PySem PySem.Spec PyProof.Rows L2 Gu Ex
theorem r_ex (w : World) (os : OsState) : (ends w os).map (fun s => exB (kk s)) = some true :=
  both (Pr := fun w => (ends w os).map (fun s => exB (kk s)) = some true) (fun b w => by cases b <;> kernel_rfl) w
theorem r_pr (w : World) (os : OsState) : (ends w os).map (fun s => He.dicW (kk s) (He.ga (kk s) "FORMS")) = some (some (He.keysIn w.params formKeys)) :=
  both (Pr := fun w => (ends w os).map (fun s => He.dicW (kk s) (He.ga (kk s) "FORMS")) = some (some (He.keysIn w.params formKeys))) (fun b w => by cases b <;> kernel_rfl) w
end K81

set_option Elab.async false
set_option linter.all false
set_option maxRecDepth 100000
set_option maxHeartbeats 0
namespace K81
open PySem PySem.Spec PyProof.Rows L2 Gu Ex
theorem run (w : World) : HandSHeadRun.RunEq R (PySem.W.view R.prog [41]) hk ob 16000 loose w :=
  fun os => in_parts (r_looks w os) (r_seen w os) (r_fa w os) (r_fn w os) (r_fw w os) (r_ex w os) (r_pr w os)
section
variable {P : Program} {w : World} {K : PySem.W.Frag} {h : Heap} {mg : Str → Option Value} {base : Heap}
theorem tx (X : K.In h) (G : h.Ns mainGlobals mg) (c : He.SaysD fa fn K) (x : exB K = true) (dk : ∃ es n, KDict K w (He.ga K "FORMS") es n) : Tx w K mg := by
  obtain ⟨x1, x⟩ := He.ba x
  obtain ⟨x2, x⟩ := He.ba x
  obtain ⟨x3, x⟩ := He.ba x
  have hsys : SysOk K := by
    unfold sysB at x3
    split at x3
    · rename_i o e
      exact ⟨o, e, of_decide_eq_true x3⟩
    · cases x3
  exact ⟨He.free_ok X G (c.fact 34 (f := .free "len") rfl),
    He.free_ok X G (c.fact 35 (f := .free "isinstance") rfl),
    He.free_ok X G (c.fact 36 (f := .free "int") rfl),
    He.free_ok X G (c.fact 37 (f := .free "bool") rfl),
    He.free_ok X G (c.fact 38 (f := .free "str") rfl),
    He.free_ok X G (c.fact 39 (f := .free "tuple") rfl),
    He.free_ok X G (c.fact 40 (f := .free "list") rfl),
    He.free_ok X G (c.fact 41 (f := .free "range") rfl),
    He.free_ok X G (c.fact 42 (f := .free "divmod") rfl),
    He.free_ok X G (c.fact 43 (f := .free "abs") rfl),
    He.free_ok X G (c.fact 44 (f := .free "max") rfl),
    He.free_ok X G (c.fact 45 (f := .free "min") rfl),
    He.free_ok X G (c.fact 46 (f := .free "all") rfl),
    He.free_ok X G (c.fact 47 (f := .free "repr") rfl),
    He.free_ok X G (c.fact 48 (f := .free "enumerate") rfl),
    He.free_ok X G (c.fact 49 (f := .free "zip") rfl),
    He.free_ok X G (c.fact 50 (f := .free "dict") rfl),
    He.str_ok X G (c.fact 51 (f := .str "LETTERS" "abcdefghijklmnopqrstuvwxyz") rfl),
    He.int_ok X G (c.fact 52 (f := .int "MAX_NAME" 8) rfl),
    He.int_ok X G (c.fact 53 (f := .int "MAX_DEPTH" 6) rfl),
    He.int_ok X G (c.fact 54 (f := .int "MAX_INSTRUCTIONS" 200) rfl),
    He.int_ok X G (c.fact 55 (f := .int "MAX_NUMBER" 1000000000000) rfl),
    He.glo_ok X G (c.fact 32 (f := .glo "OPERATORS") rfl),
    fun H => ktupB_ok x1 H,
    He.glo_ok X G (c.fact 33 (f := .glo "FORMS") rfl),
    dk,
    formsB_ok x2,
    hsys⟩
theorem df {x : Str} {ps : List Str} {sp : Sp} {k : Nat} {st : Stmt} {fd : FuncData} (X : K.In h) (G : h.Ns mainGlobals mg) (g : (He.Fa.glo x).ok K = true) (F : FnP K x x st (He.ga K x) fd)
    (hb : ∀ (kV doc pm : Value) (an : Option Addr) (cdv ct : Value) (us : List Value), us.length = ps.length → bindArgs (PySem.W.fnOf x x (defArgs st) (defBody st) (defScope st) .none kV doc pm an cdv ct) ⟨us, []⟩ = pure (ps.zip us))
    (ok : FnOk P w K mg base CX0 k (He.ga K x) fd ps sp) : Df P w K mg base k x ps sp := ⟨⟨fd, ok, F.bindsN hb⟩, He.glo_ok X G g, F.kp⟩
theorem dfG {x : Str} {ps : List Str} {sp : Sp} {k : Nat} {st : Stmt} {fd : FuncData} (X : K.In h) (G : h.Ns mainGlobals mg) (g : (He.Fa.glo x).ok K = true) (F : FnP K x x st (He.ga K x) fd)
    (hb : ∀ (kV doc pm : Value) (an : Option Addr) (cdv ct : Value) (us : List Value), us.length = ps.length → bindArgs (PySem.W.fnOf x x (defArgs st) (defBody st) (defScope st) .none kV doc pm an cdv ct) ⟨us, []⟩ = pure (ps.zip us))
    (ok : FnG P w K mg base CX0 k (He.ga K x) fd ps sp) : DfG P w K mg base k x ps sp := ⟨⟨fd, ok, F.bindsN hb⟩, He.glo_ok X G g, F.kp⟩
theorem dfK {x : Str} {ps ks : List Str} {j : List Nat} {sp : Sp} {k : Nat} {st : Stmt} {fd : FuncData} (X : K.In h) (G : h.Ns mainGlobals mg) (g : (He.Fa.glo x).ok K = true) (F : FnP K x x st (He.ga K x) fd)
    (hb : ∀ (kV doc pm : Value) (an : Option Addr) (cdv ct : Value) (ws : List Value), ws.length = ks.length → bindArgs (PySem.W.fnOf x x (defArgs st) (defBody st) (defScope st) .none kV doc pm an cdv ct) ⟨[], ks.zip ws⟩ = pure (ps.zip (j.filterMap fun i => ws[i]?)))
    (ok : FnOk P w K mg base CX0 k (He.ga K x) fd ps sp) : DfK P w K mg base k x ps ks j sp := by
  refine ⟨⟨fd, ok, fun s ws hl => ?_⟩, He.glo_ok X G g, F.kp⟩
  obtain ⟨oc, od, dV, kV, doc, pm, an, cdv, ct, osl, rfl, lk, hcd, hD, hK⟩ := F.ex
  rcases hD with ⟨_, rfl⟩ | ⟨e, _⟩
  · exact .of_eq (hb kV doc pm an cdv ct ws hl)
  · exact absurd rfl e
theorem facts {f : Addr} (X : K.In h) (G : h.Ns mainGlobals mg) (hfa : mg ("law" : Str) = some (.ref f)) (c0 : ob0 K = vl0 w) :
    ∃ fd : FuncData, (∀ (s : Shared) (v : Value), BindsTo s fd ⟨[v], []⟩ [("_law_script", v)]) ∧ ∀ base : Heap, K.In base → base.Ns mainGlobals mg → FnG P w K mg base CX0 75 f fd ["_law_script"] (spLaw K) := by
  have c : He.SaysD fa fn K := congrArg (fun z : AlE => z.1) c0
  have x : exB K = true := congrArg (fun z : AlE => z.2.1) c0
  have dk := He.dicW_ok (congrArg (fun z : AlE => z.2.2) c0)
  have T := tx X G c x dk
  obtain ⟨x1, x⟩ := He.ba x
  obtain ⟨x2, x⟩ := He.ba x
  obtain ⟨x3, x⟩ := He.ba x
  obtain ⟨fd0, F0⟩ : ∃ fd, FnP K "is_integer" "is_integer" (top 3) (He.ga K "is_integer") fd := c.def_ 0 (d := dOf ("is_integer", none) "is_integer" "is_integer" (top 3)) rfl
  obtain ⟨fd1, F1⟩ : ∃ fd, FnP K "is_name" "is_name" (top 4) (He.ga K "is_name") fd := c.def_ 1 (d := dOf ("is_name", none) "is_name" "is_name" (top 4)) rfl
  obtain ⟨fd2, F2⟩ : ∃ fd, FnP K "is_expression_within" "is_expression_within" (top 11) (He.ga K "is_expression_within") fd := c.def_ 2 (d := dOf ("is_expression_within", none) "is_expression_within" "is_expression_within" (top 11)) rfl
  obtain ⟨fd3, F3⟩ : ∃ fd, FnP K "is_expression" "is_expression" (top 12) (He.ga K "is_expression") fd := c.def_ 3 (d := dOf ("is_expression", none) "is_expression" "is_expression" (top 12)) rfl
  obtain ⟨fd4, F4⟩ : ∃ fd, FnP K "is_part" "is_part" (top 13) (He.ga K "is_part") fd := c.def_ 4 (d := dOf ("is_part", none) "is_part" "is_part" (top 13)) rfl
  obtain ⟨fd5, F5⟩ : ∃ fd, FnP K "is_instruction" "is_instruction" (top 14) (He.ga K "is_instruction") fd := c.def_ 5 (d := dOf ("is_instruction", none) "is_instruction" "is_instruction" (top 14)) rfl
  obtain ⟨fd6, F6⟩ : ∃ fd, FnP K "placed" "placed" (top 15) (He.ga K "placed") fd := c.def_ 6 (d := dOf ("placed", none) "placed" "placed" (top 15)) rfl
  obtain ⟨fd7, F7⟩ : ∃ fd, FnP K "placed_in" "placed_in" (top 16) (He.ga K "placed_in") fd := c.def_ 7 (d := dOf ("placed_in", none) "placed_in" "placed_in" (top 16)) rfl
  obtain ⟨fd8, F8⟩ : ∃ fd, FnP K "depth_at" "depth_at" (top 17) (He.ga K "depth_at") fd := c.def_ 8 (d := dOf ("depth_at", none) "depth_at" "depth_at" (top 17)) rfl
  obtain ⟨fd9, F9⟩ : ∃ fd, FnP K "first_problem" "first_problem" (top 18) (He.ga K "first_problem") fd := c.def_ 9 (d := dOf ("first_problem", none) "first_problem" "first_problem" (top 18)) rfl
  obtain ⟨fd10, F10⟩ : ∃ fd, FnP K "is_program" "is_program" (top 19) (He.ga K "is_program") fd := c.def_ 10 (d := dOf ("is_program", none) "is_program" "is_program" (top 19)) rfl
  obtain ⟨fd11, F11⟩ : ∃ fd, FnP K "_law_rng" "_law_rng" (top 21) (He.ga K "_law_rng") fd := c.def_ 11 (d := dOf ("_law_rng", none) "_law_rng" "_law_rng" (top 21)) rfl
  obtain ⟨fd12, F12⟩ : ∃ fd, FnP K "_law_draw" "_law_draw" (top 22) (He.ga K "_law_draw") fd := c.def_ 12 (d := dOf ("_law_draw", none) "_law_draw" "_law_draw" (top 22)) rfl
  obtain ⟨fd13, F13⟩ : ∃ fd, FnP K "_law_choice" "_law_choice" (top 23) (He.ga K "_law_choice") fd := c.def_ 13 (d := dOf ("_law_choice", none) "_law_choice" "_law_choice" (top 23)) rfl
  obtain ⟨fd14, F14⟩ : ∃ fd, FnP K "_law_expression" "_law_expression" (top 24) (He.ga K "_law_expression") fd := c.def_ 14 (d := dOf ("_law_expression", none) "_law_expression" "_law_expression" (top 24)) rfl
  obtain ⟨fd15, F15⟩ : ∃ fd, FnP K "_law_body" "_law_body" (top 25) (He.ga K "_law_body") fd := c.def_ 15 (d := dOf ("_law_body", none) "_law_body" "_law_body" (top 25)) rfl
  obtain ⟨fd16, F16⟩ : ∃ fd, FnP K "_law_instruction" "_law_instruction" (top 26) (He.ga K "_law_instruction") fd := c.def_ 16 (d := dOf ("_law_instruction", none) "_law_instruction" "_law_instruction" (top 26)) rfl
  obtain ⟨fd17, F17⟩ : ∃ fd, FnP K "_law_is_name" "_law_is_name" (top 27) (He.ga K "_law_is_name") fd := c.def_ 17 (d := dOf ("_law_is_name", none) "_law_is_name" "_law_is_name" (top 27)) rfl
  obtain ⟨fd18, F18⟩ : ∃ fd, FnP K "_law_depth" "_law_depth" (top 28) (He.ga K "_law_depth") fd := c.def_ 18 (d := dOf ("_law_depth", none) "_law_depth" "_law_depth" (top 28)) rfl
  obtain ⟨fd19, F19⟩ : ∃ fd, FnP K "_law_shape" "_law_shape" (top 29) (He.ga K "_law_shape") fd := c.def_ 19 (d := dOf ("_law_shape", none) "_law_shape" "_law_shape" (top 29)) rfl
  obtain ⟨fd20, F20⟩ : ∃ fd, FnP K "_law_is_part" "_law_is_part" (top 30) (He.ga K "_law_is_part") fd := c.def_ 20 (d := dOf ("_law_is_part", none) "_law_is_part" "_law_is_part" (top 30)) rfl
  obtain ⟨fd21, F21⟩ : ∃ fd, FnP K "_law_is_one" "_law_is_one" (top 31) (He.ga K "_law_is_one") fd := c.def_ 21 (d := dOf ("_law_is_one", none) "_law_is_one" "_law_is_one" (top 31)) rfl
  obtain ⟨fd22, F22⟩ : ∃ fd, FnP K "_law_walk" "_law_walk" (top 32) (He.ga K "_law_walk") fd := c.def_ 22 (d := dOf ("_law_walk", none) "_law_walk" "_law_walk" (top 32)) rfl
  obtain ⟨fd23, F23⟩ : ∃ fd, FnP K "_law_odd" "_law_odd" (top 33) (He.ga K "_law_odd") fd := c.def_ 23 (d := dOf ("_law_odd", none) "_law_odd" "_law_odd" (top 33)) rfl
  obtain ⟨fd24, F24⟩ : ∃ fd, FnP K "_law_bent_one" "_law_bent_one" (top 34) (He.ga K "_law_bent_one") fd := c.def_ 24 (d := dOf ("_law_bent_one", none) "_law_bent_one" "_law_bent_one" (top 34)) rfl
  obtain ⟨fd25, F25⟩ : ∃ fd, FnP K "_law_bent" "_law_bent" (top 35) (He.ga K "_law_bent") fd := c.def_ 25 (d := dOf ("_law_bent", none) "_law_bent" "_law_bent" (top 35)) rfl
  obtain ⟨fd26, F26⟩ : ∃ fd, FnP K "_law_deep" "_law_deep" (top 36) (He.ga K "_law_deep") fd := c.def_ 26 (d := dOf ("_law_deep", none) "_law_deep" "_law_deep" (top 36)) rfl
  obtain ⟨fd27, F27⟩ : ∃ fd, FnP K "_law_long" "_law_long" (top 37) (He.ga K "_law_long") fd := c.def_ 27 (d := dOf ("_law_long", none) "_law_long" "_law_long" (top 37)) rfl
  obtain ⟨fd28, F28⟩ : ∃ fd, FnP K "_law_nested" "_law_nested" (top 38) (He.ga K "_law_nested") fd := c.def_ 28 (d := dOf ("_law_nested", none) "_law_nested" "_law_nested" (top 38)) rfl
  obtain ⟨fd29, F29⟩ : ∃ fd, FnP K "_law_judged" "_law_judged" (top 39) (He.ga K "_law_judged") fd := c.def_ 29 (d := dOf ("_law_judged", none) "_law_judged" "_law_judged" (top 39)) rfl
  obtain ⟨fd30, F30⟩ : ∃ fd, FnP K "_law_right" "_law_right" (top 40) (He.ga K "_law_right") fd := c.def_ 30 (d := dOf ("_law_right", none) "_law_right" "_law_right" (top 40)) rfl
  obtain ⟨fd31, F31⟩ : ∃ fd, FnP K "law" "law" (top 41) (He.ga K "law") fd := c.def_ 31 (d := dOf ("law", none) "law" "law" (top 41)) rfl
  have e := hfa.symm.trans (He.glo_ok X G (c.fact 31 (f := .glo "law") rfl))
  cases e
  have b := FunD.bindsA (ps := ["_law_script"]) F31 (fun _ _ _ _ _ _ us hl => match us, hl with | [_], _ => rfl)
  refine ⟨_, fun s v => b s [v] rfl, fun base _ _ => ?_⟩
  have D_is_integer := df (P := P) (w := w) (base := base) X G (c.fact 0 (f := .glo "is_integer") rfl) F0 (ps := ["value"]) (fun _ _ _ _ _ _ us hl => match us, hl with | [_], _ => rfl) (ok_is_integer T F0)
  have D_is_name := df (P := P) (w := w) (base := base) X G (c.fact 1 (f := .glo "is_name") rfl) F1 (ps := ["value"]) (fun _ _ _ _ _ _ us hl => match us, hl with | [_], _ => rfl) (ok_is_name T F1)
  have D_w : ∀ n : Nat, Df P w K mg base (n + 2) "is_expression_within" ["value", "depth"] (spW n) := fun n => by
    induction n with
    | zero => exact df (P := P) (w := w) (base := base) X G (c.fact 2 (f := .glo "is_expression_within") rfl) F2 (ps := ["value", "depth"]) (fun _ _ _ _ _ _ us hl => match us, hl with | [_, _], _ => rfl) (ok_within0 F2)
    | succ n ih => exact df (P := P) (w := w) (base := base) X G (c.fact 2 (f := .glo "is_expression_within") rfl) F2 (ps := ["value", "depth"]) (fun _ _ _ _ _ _ us hl => match us, hl with | [_, _], _ => rfl) (ok_within (n := n) T D_is_integer D_is_name ih F2)
  have D_is_expression := df (P := P) (w := w) (base := base) X G (c.fact 3 (f := .glo "is_expression") rfl) F3 (ps := ["value"]) (fun _ _ _ _ _ _ us hl => match us, hl with | [_], _ => rfl) (ok_expr T (D_w 7) F3)
  have D_is_part := df (P := P) (w := w) (base := base) X G (c.fact 4 (f := .glo "is_part") rfl) F4 (ps := ["kind", "value"]) (fun _ _ _ _ _ _ us hl => match us, hl with | [_, _], _ => rfl) (ok_part T D_is_name D_is_expression F4)
  have D_is_instruction := df (P := P) (w := w) (base := base) X G (c.fact 5 (f := .glo "is_instruction") rfl) F5 (ps := ["value"]) (fun _ _ _ _ _ _ us hl => match us, hl with | [_], _ => rfl) (ok_ins T D_is_part F5)
  have D_placed := df (P := P) (w := w) (base := base) X G (c.fact 6 (f := .glo "placed") rfl) F6 (ps := ["body", "path"]) (fun _ _ _ _ _ _ us hl => match us, hl with | [_, _], _ => rfl) (ok_placed T F6)
  have D_placed_in := df (P := P) (w := w) (base := base) X G (c.fact 7 (f := .glo "placed_in") rfl) F7 (ps := ["instruction", "path"]) (fun _ _ _ _ _ _ us hl => match us, hl with | [_, _], _ => rfl) (ok_placed_in T D_placed F7)
  have D_depth_at := df (P := P) (w := w) (base := base) X G (c.fact 8 (f := .glo "depth_at") rfl) F8 (ps := ["path"]) (fun _ _ _ _ _ _ us hl => match us, hl with | [_], _ => rfl) (ok_dep T F8)
  have D_first_problem := df (P := P) (w := w) (base := base) X G (c.fact 9 (f := .glo "first_problem") rfl) F9 (ps := ["value"]) (fun _ _ _ _ _ _ us hl => match us, hl with | [_], _ => rfl) (ok_first T D_placed D_placed_in D_depth_at D_is_instruction F9)
  have D_is_program := df (P := P) (w := w) (base := base) X G (c.fact 10 (f := .glo "is_program") rfl) F10 (ps := ["value"]) (fun _ _ _ _ _ _ us hl => match us, hl with | [_], _ => rfl) (ok_prog T D_first_problem F10)
  have D__law_rng := df (P := P) (w := w) (base := base) X G (c.fact 11 (f := .glo "_law_rng") rfl) F11 (ps := ["_law_script", "_law_k"]) (fun _ _ _ _ _ _ us hl => match us, hl with | [_, _], _ => rfl) (ok_rng T F11)
  have D__law_draw := df (P := P) (w := w) (base := base) X G (c.fact 12 (f := .glo "_law_draw") rfl) F12 (ps := ["_law_rng_here", "_law_many"]) (fun _ _ _ _ _ _ us hl => match us, hl with | [_, _], _ => rfl) (ok_draw T F12)
  have D__law_choice := df (P := P) (w := w) (base := base) X G (c.fact 13 (f := .glo "_law_choice") rfl) F13 (ps := ["_law_rng_here", "_law_options"]) (fun _ _ _ _ _ _ us hl => match us, hl with | [_, _], _ => rfl) (ok_choice T D__law_draw F13)
  have D_e : ∀ n : Nat, Df P w K mg base (n + 3) "_law_expression" ["_law_rng_here", "_law_depth_here"] (spExp n) := fun n => by
    induction n with
    | zero => exact df (P := P) (w := w) (base := base) X G (c.fact 14 (f := .glo "_law_expression") rfl) F14 (ps := ["_law_rng_here", "_law_depth_here"]) (fun _ _ _ _ _ _ us hl => match us, hl with | [_, _], _ => rfl) (ok_ex0 F14)
    | succ n ih => exact df (P := P) (w := w) (base := base) X G (c.fact 14 (f := .glo "_law_expression") rfl) F14 (ps := ["_law_rng_here", "_law_depth_here"]) (fun _ _ _ _ _ _ us hl => match us, hl with | [_, _], _ => rfl) (ok_ex (n := n) T D__law_draw D__law_choice ih F14)
  have D_b0 := df (P := P) (w := w) (base := base) X G (c.fact 15 (f := .glo "_law_body") rfl) F15 (ps := ["_law_rng_here", "_law_deep_here", "_law_most"]) (fun _ _ _ _ _ _ us hl => match us, hl with | [_, _, _], _ => rfl) (ok_body0 F15)
  have D_i1 := df (P := P) (w := w) (base := base) X G (c.fact 16 (f := .glo "_law_instruction") rfl) F16 (ps := ["_law_rng_here", "_law_deep_here"]) (fun _ _ _ _ _ _ us hl => match us, hl with | [_, _], _ => rfl) (ok_lins (n := 0) T D__law_draw D__law_choice (D_e 4) D_b0 F16)
  have D_b1 := df (P := P) (w := w) (base := base) X G (c.fact 15 (f := .glo "_law_body") rfl) F15 (ps := ["_law_rng_here", "_law_deep_here", "_law_most"]) (fun _ _ _ _ _ _ us hl => match us, hl with | [_, _, _], _ => rfl) (ok_body (n := 1) T D__law_draw D_i1 F15)
  have D_i2 := df (P := P) (w := w) (base := base) X G (c.fact 16 (f := .glo "_law_instruction") rfl) F16 (ps := ["_law_rng_here", "_law_deep_here"]) (fun _ _ _ _ _ _ us hl => match us, hl with | [_, _], _ => rfl) (ok_lins (n := 1) T D__law_draw D__law_choice (D_e 4) D_b1 F16)
  have D_b2 := df (P := P) (w := w) (base := base) X G (c.fact 15 (f := .glo "_law_body") rfl) F15 (ps := ["_law_rng_here", "_law_deep_here", "_law_most"]) (fun _ _ _ _ _ _ us hl => match us, hl with | [_, _, _], _ => rfl) (ok_body (n := 2) T D__law_draw D_i2 F15)
  have D_i3 := df (P := P) (w := w) (base := base) X G (c.fact 16 (f := .glo "_law_instruction") rfl) F16 (ps := ["_law_rng_here", "_law_deep_here"]) (fun _ _ _ _ _ _ us hl => match us, hl with | [_, _], _ => rfl) (ok_lins (n := 2) T D__law_draw D__law_choice (D_e 4) D_b2 F16)
  have D_b3 := df (P := P) (w := w) (base := base) X G (c.fact 15 (f := .glo "_law_body") rfl) F15 (ps := ["_law_rng_here", "_law_deep_here", "_law_most"]) (fun _ _ _ _ _ _ us hl => match us, hl with | [_, _, _], _ => rfl) (ok_body (n := 3) T D__law_draw D_i3 F15)
  have D__law_is_name := df (P := P) (w := w) (base := base) X G (c.fact 17 (f := .glo "_law_is_name") rfl) F17 (ps := ["_law_value"]) (fun _ _ _ _ _ _ us hl => match us, hl with | [_], _ => rfl) (ok_lname T F17)
  have D_d : ∀ n : Nat, Df P w K mg base (n + 2) "_law_depth" ["_law_value"] (spDp n) := fun n => by
    induction n with
    | zero => exact df (P := P) (w := w) (base := base) X G (c.fact 18 (f := .glo "_law_depth") rfl) F18 (ps := ["_law_value"]) (fun _ _ _ _ _ _ us hl => match us, hl with | [_], _ => rfl) (ok_dp0 F18)
    | succ n ih => exact df (P := P) (w := w) (base := base) X G (c.fact 18 (f := .glo "_law_depth") rfl) F18 (ps := ["_law_value"]) (fun _ _ _ _ _ _ us hl => match us, hl with | [_], _ => rfl) (ok_dp (n := n) T D__law_is_name ih F18)
  have D__law_shape := df (P := P) (w := w) (base := base) X G (c.fact 19 (f := .glo "_law_shape") rfl) F19 (ps := ["_law_word"]) (fun _ _ _ _ _ _ us hl => match us, hl with | [_], _ => rfl) (ok_shape T F19)
  have D__law_is_part := df (P := P) (w := w) (base := base) X G (c.fact 20 (f := .glo "_law_is_part") rfl) F20 (ps := ["_law_kind", "_law_value"]) (fun _ _ _ _ _ _ us hl => match us, hl with | [_, _], _ => rfl) (ok_lpart (n := 60) T D__law_is_name (D_d 60) F20)
  have D__law_is_one := df (P := P) (w := w) (base := base) X G (c.fact 21 (f := .glo "_law_is_one") rfl) F21 (ps := ["_law_value"]) (fun _ _ _ _ _ _ us hl => match us, hl with | [_], _ => rfl) (ok_one (n := 60) T D__law_shape D__law_is_part F21)
  have D_k : ∀ n : Nat, Df P w K mg base (n + 65) "_law_walk" ["_law_body_here", "_law_path", "_law_depth_here", "_law_seen"] (spWalk n) := fun n => by
    induction n with
    | zero => exact df (P := P) (w := w) (base := base) X G (c.fact 22 (f := .glo "_law_walk") rfl) F22 (ps := ["_law_body_here", "_law_path", "_law_depth_here", "_law_seen"]) (fun _ _ _ _ _ _ us hl => match us, hl with | [_, _, _, _], _ => rfl) (ok_wk0 F22)
    | succ n ih => exact df (P := P) (w := w) (base := base) X G (c.fact 22 (f := .glo "_law_walk") rfl) F22 (ps := ["_law_body_here", "_law_path", "_law_depth_here", "_law_seen"]) (fun _ _ _ _ _ _ us hl => match us, hl with | [_, _, _, _], _ => rfl) (ok_wk (n := n) T D__law_shape D__law_is_one ih F22)
  have D__law_odd := df (P := P) (w := w) (base := base) X G (c.fact 23 (f := .glo "_law_odd") rfl) F23 (ps := ["_law_rng_here"]) (fun _ _ _ _ _ _ us hl => match us, hl with | [_], _ => rfl) (ok_odd T D__law_choice F23)
  have D__law_bent_one := df (P := P) (w := w) (base := base) X G (c.fact 24 (f := .glo "_law_bent_one") rfl) F24 (ps := ["_law_rng_here", "_law_one"]) (fun _ _ _ _ _ _ us hl => match us, hl with | [_, _], _ => rfl) (ok_bone T D__law_draw D__law_choice D__law_odd F24)
  have D_t : ∀ n : Nat, Df P w K mg base (n + 5) "_law_bent" ["_law_rng_here", "_law_body_here"] (spBent n) := fun n => by
    induction n with
    | zero => exact df (P := P) (w := w) (base := base) X G (c.fact 25 (f := .glo "_law_bent") rfl) F25 (ps := ["_law_rng_here", "_law_body_here"]) (fun _ _ _ _ _ _ us hl => match us, hl with | [_, _], _ => rfl) (ok_bent0 F25)
    | succ n ih => exact df (P := P) (w := w) (base := base) X G (c.fact 25 (f := .glo "_law_bent") rfl) F25 (ps := ["_law_rng_here", "_law_body_here"]) (fun _ _ _ _ _ _ us hl => match us, hl with | [_, _], _ => rfl) (ok_bent (n := n) T D__law_draw D__law_choice D__law_odd D__law_bent_one ih F25)
  have D__law_deep := df (P := P) (w := w) (base := base) X G (c.fact 26 (f := .glo "_law_deep") rfl) F26 (ps := ["_law_rng_here", "_law_one", "_law_many"]) (fun _ _ _ _ _ _ us hl => match us, hl with | [_, _, _], _ => rfl) (ok_deep T D__law_draw F26)
  have D__law_long := df (P := P) (w := w) (base := base) X G (c.fact 27 (f := .glo "_law_long") rfl) F27 (ps := ["_law_rng_here", "_law_one"]) (fun _ _ _ _ _ _ us hl => match us, hl with | [_, _], _ => rfl) (ok_long T D__law_draw F27)
  have D__law_nested := df (P := P) (w := w) (base := base) X G (c.fact 28 (f := .glo "_law_nested") rfl) F28 (ps := ["_law_rng_here", "_law_many"]) (fun _ _ _ _ _ _ us hl => match us, hl with | [_, _], _ => rfl) (ok_nest T D__law_draw D__law_choice F28)
  have D__law_judged := dfG (P := P) (w := w) (base := base) X G (c.fact 29 (f := .glo "_law_judged") rfl) F29 (ps := ["_law_value"]) (fun _ _ _ _ _ _ us hl => match us, hl with | [_], _ => rfl) (ok_judged T D_first_problem D_is_program (D_k 7) F29)
  have D__law_right := dfG (P := P) (w := w) (base := base) X G (c.fact 30 (f := .glo "_law_right") rfl) F30 (ps := ["_law_rng_here"]) (fun _ _ _ _ _ _ us hl => match us, hl with | [_], _ => rfl) (ok_right T D__law_draw D__law_choice D__law_odd D_b3 (D_t 30) D__law_deep D__law_long D__law_nested D__law_judged F30)
  exact ok_law T D__law_rng D__law_right F31
end
end K81
open PySem PySem.W PySem.Calls PyProof.Rows
theorem PySem.Challenge.cw_exactroom_k81_whole_programs_judged_holds : PySem.Challenge.rw_exactroom_k81_whole_programs_judged.Holds := by
  w_on; o_law
  refine HandSHeadRun.head_any (r := OpenLaw.row PySem.Challenge.rw_exactroom_k81_whole_programs_judged) (q := view (OpenLaw.row PySem.Challenge.rw_exactroom_k81_whole_programs_judged).prog [41]) (H := K81.hk) (ob := K81.ob) (M := 16000)
    (loose := K81.loose) (d := HandSHeadRun.topDef (OpenLaw.row PySem.Challenge.rw_exactroom_k81_whole_programs_judged).prog 41) (kwd := []) K81.ob_eq
    (by kernel_rfl) (fun s => by kernel_rfl) K81.run (by kernel_rfl) (by kernel_rfl) (by kernel_rfl) (by rfl) (by first | assumption | decide +kernel) (by decide +kernel) ⟨rfl, rfl, rfl, rfl, rfl, by decide +kernel⟩ ?hw ?hc
  case hw => w_witness2
  case hc =>
    refine Gu.walkG (l := PySem.Challenge.rw_exactroom_k81_whole_programs_judged) (n := 63) (k := 75) (x := "_law_script") (CX := L2.CX0) rfl (by decide) (by kernel_rfl) ⟨⟨rfl, by decide, by decide⟩, rfl⟩ ?F (fun _ _ _ _ z => z)
    intro w mg fa h Y G hmg0
    obtain ⟨K, KX, c⟩ := Y
    have hmg : mg ("law" : PySem.Str) = some (.ref fa) := by
      have e : (HandSHeadRun.topDef (OpenLaw.row PySem.Challenge.rw_exactroom_k81_whole_programs_judged).prog 41).name = ("law" : PySem.Str) := by kernel_rfl
      rw [← e]
      exact hmg0
    obtain ⟨fd, hb, hF⟩ := K81.facts (P := (PySem.Challenge.rw_exactroom_k81_whole_programs_judged).prog) (w := w) KX G hmg c
    exact ⟨K, fd, K81.spLaw K, KX, hb, fun H a ns hl _ hS => ⟨a, ns, rfl, hS, hl, fun _ => rfl⟩, hF⟩

