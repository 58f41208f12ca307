import PyProof.Rows.All
import Wide.All
import OpenK.AllK
import Wide.FinOn
import PyProof.ReprRoads
import HandS.ForMost
import HandS.ForExc
import HandS.Property
import HandS.ClsMeth
import HandS.Defaults
import HandS.IsInst
import HandS.Wide
import HandS.WideBits
import HandS.Ends
import HandS.HeadEnd
import HandS.Head0
import HandS.Head1
import HandS.Head2
import HandS.HeadHook1
import HandS.HeadHook2
import HandS.Flow
import HandS.Style
import PyProof.LongRange
import HandS.ExcInit
import HandS.ExcField
import HandS.ExcIs
import HandS.TryOnly
import HandS.OwnEq
import HandS.Walk
import HandS.Comp
import HandS.Iter
import KE.KStateDown
import Lean
import PySem.Challenge.RW_exactroom_k16_whole_maximal_runs
set_option Elab.async false
set_option linter.all false
set_option maxRecDepth 100000
set_option maxHeartbeats 4000000
/-! Own layer: defs that are called where no repr is under way (the guards are known to be none), so that repr of data can be walked. -/
namespace Gu
open PySem PySem.Spec PyProof.Rows L2
structure RoomG (k : Nat) (A : Around) : Prop where
  r : Room k A
  g : A.guards = some []
theorem RoomG.mono {j k : Nat} {A : Around} (x : RoomG k A) (h : j ≤ k) : RoomG j A := ⟨x.r.mono h, x.g⟩
theorem RoomG.down {k : Nat} {A : Around} (x : RoomG (k + 1) A) (env : Env) : RoomG k (A.deeper env) := ⟨x.r.deeper env, x.g⟩
structure FnG (P : Program) (w : World) (K : PySem.W.Frag) (mg : Str → Option Value) (base : Heap) (CX : CXT) (k : Nat) (f : Addr) (fd : FuncData) (ps : List Str) (sp : Sp) : Prop where
  len : ∀ vs H Q E, sp vs H Q E → vs.length = ps.length
  run : ∀ (A : Around) (outer : List Env) (s : Shared) (H : Hp) (args : Args) (us : List Value) (vs : List V) (Q : VK) (E : XK),
    RoomG k A → Env0 P w K mg base A outer s H → BindsTo s fd args (ps.zip us) → Vals vs us → sp vs H Q E →
    codeAny (model P w) A (.call (.ref f) args) (CR CX outer P w H s Q E) s
section
variable {P : Program} {w : World} {K : PySem.W.Frag} {mg : Str → Option Value} {base : Heap} {CX : CXT} {k : Nat} {f : Addr} {fd : FuncData} {ps : List Str} {sp : Sp}
theorem FnG.of (F : FnOk P w K mg base CX k f fd ps sp) : FnG P w K mg base CX k f fd ps sp :=
  ⟨F.len, fun A outer s H args us vs Q E hr => F.run A outer s H args us vs Q E hr.r⟩
/-- a def by its body -/
theorem okG {x qual : Str} {params : Arguments} {body : List Stmt} {scope : Scope} {dvs : List V} {kws : List (Str × V)} {N : List Str}
    (F : FunD K x qual params body scope dvs kws f fd) (S : FnScope N ps scope) (len : ∀ vs H Q E, sp vs H Q E → vs.length = ps.length)
    (hbody : ∀ (cdv : Value) (A : Around) (outer : List Env) (s : Shared) (H : Hp) (vs : List V) (Q : VK) (E : XK),
      RoomG k (A.deeper (envOfC qual scope s.heap.objs.size f cdv)) → sp vs H Q E →
      ∃ t, PSs (cxOf CX P w K mg base N qual scope f cdv A outer s H E) body t ∧ t { nx := fun _ H' => Q .non H', rt := Q } (start N vs) H) :
    FnG P w K mg base CX (k + 1) f fd ps sp := by
  obtain ⟨oc, od, dV, kV, doc, pm, an, cdv, ct, osl, rfl, lk, hcd, _, _⟩ := F.ex
  refine ⟨len, fun A outer s H args us vs Q E hr e0 hb rv hsp => ?_⟩
  have KX : K.In s.heap := e0.mod.kin.keeps fun b o e => (e0.bs b o e).1
  have hkinds : ∀ y ∈ ps.zip us, scope.names.lookup y.1 = some .local ∨
      (scope.names.lookup y.1 = some .cell ∧ ((cellsFrom (s.heap.objs.size + 1) scope.names []).lookup y.1).isSome = true) := by
    rintro ⟨n, v⟩ hy
    rcases S.par n (List.of_mem_zip hy).1 with q | q
    · exact .inl q
    · exact .inr ⟨q, PySem.W.cellsFrom_some _ _ _ (.inl q)⟩
  refine codeAny_call_function hr.r.depth (KX _ _ lk) rfl S.co S.gen rfl (PySem.W.codeRec_of KX hcd) (hb _ _ _ _ ?_)
  refine wpAny_newFunctionEnv_cells S.kind hkinds fun env he s1 x => ?_
  subst he
  refine ⟨(e0.mod.nolimit.keeps fun b o e => (e0.bs b o e).1).keeps x.toInCall.keep, codeAny_func ?_⟩
  obtain ⟨t, ht, hq⟩ := hbody cdv A outer s H vs Q E (hr.down _) hsp
  have I := inv_start (CX := CX) (E := E) (N := N) (qual := qual) (f := f) (cd := cdv) S hr.r.hd e0 (len _ _ _ _ hsp) rv x
  refine wpAny_mono (ht.run [] s1 (start N vs) H _ I hq) (fun fl s' hs => ?_) fun e s' hs => hs
  cases fl with
  | ret u =>
    obtain ⟨v, σ', H', J, rv', q⟩ := hs
    exact ⟨v, H', J.os, J.bare, J.base, J.hok, rv', q⟩
  | next =>
    obtain ⟨σ', H', J, q⟩ := hs
    exact ⟨V.non, H', J.os, J.bare, J.base, J.hok, rfl, q⟩
  | brk => exact hs.elim fun _ z => z.elim fun _ z => z.2.elim
  | cont => exact hs.elim fun _ z => z.elim fun _ z => z.2.elim
end
section
variable {X : Cx} {CX : CXT} {k : Nat} {f : Addr} {fd : FuncData} {ps : List Str} {sp : Sp} {dvs : List V} {ds : List Value} {E : XK} {x : Str} {p pos : Pos} {e : Expr} {es : List Expr} {t : TA}
theorem runG {pins : List (Addr × Obj)} {σ : L2.St} {H : Hp} {s : Shared} {Q : VK} {us : List Value} {vs : List V} (F : FnG X.prog X.w X.K X.mg X.base CX k f fd ps sp)
    (hr : RoomG k X.A) (hb : Binds X.K fd ps ds) (hd : Vals dvs ds) (hx : Passes CX X E) (I : Inv X pins σ H s) (r : Vals vs us) (h : sp (vs ++ dvs) H Q E) :
    wpAny (model X.prog X.w) X.A (call (.ref f) us) (EP X pins σ Q) X.xe s := by
  have r2 := r.append hd
  have hl : (us ++ ds).length = ps.length := r2.length.symm.trans (F.len _ _ _ _ h)
  refine wpAny_call (codeAny_mono (F.run X.A X.stack s H ⟨us, []⟩ _ _ Q E hr I.env0 (hb s us I.kIn hl) r2 h) fun r s' hq => ?_)
  match r, hq with
  | .error e, hq => exact hx pins σ H s e s' I hq
  | .ok (.ret u), hq => exact I.after hq
/-- f(e, ..) -/
theorem pe_callG (F : FnG X.prog X.w X.K X.mg X.base CX k f fd ps sp) (hr : RoomG k X.A) (hg : Gl X x) (hm : X.mg x = some (.ref f)) (hk : PySem.W.keepIn X.K (.ref f) = true)
    (hb : Binds X.K fd ps ds) (hd : Vals dvs ds) (hx : Passes CX X E) (ha : PA X (e :: es) t) (hdb : (x == ("__debug__" : Str)) = false := by decide)
    (he : starEach (e :: es) X.env = (false, eval e X.env) :: starEach es X.env := by rfl) (hpl : (backTo pos (starEach es X.env)).any (·.1) = false := by rfl) :
    PE X (.Call (.Name x p) (e :: es) [] pos) (tCall sp dvs E t) :=
  ⟨fun pins s σ H Q I h => wpAny_Call_Name_kw (ld_glob I hg hm (PySem.W.callWith_K (h₀ := X.base) I.ok.mod.kin hk
    (thn (ha.run pos pins s σ H _ I h) fun us s1 ⟨vs, H1, I1, r, q⟩ => ⟨I1.kIn, runG F hr hb hd hx I1 r q⟩) he hpl) hdb)⟩
/-- repr of a list or a tuple of data -/
def rReprD (K : PySem.W.Frag) : List V → Hp → VK → Prop := fun xs H Q => ∃ (a : Addr) (d : PyData), xs = [.ref a] ∧ Dp K H (.ref a) d ∧ d.showable = true ∧ d.hasDict = false ∧ d.depth ≤ 60 ∧ d.shown.length ≤ sizeLine ∧ Q (.str d.shown) H
theorem call_reprD (hr : RoomG k X.A) : CallR X (.builtin "repr") (rReprD X.K) := by
  intro pins s σ H xs us Q I r h
  obtain ⟨a, d, rfl, hd, hs, hn, hdep, hz, q⟩ := h
  obtain ⟨u, rfl, ru⟩ := vals1 r
  obtain rfl : u = Value.ref a := ru
  obtain ⟨as, rd⟩ := Dp.reads I d (.ref a) (.ref a) hd rfl
  have hu := hr.r.units
  exact repr_of_reads' rd hs (PyData.noDict_hsm hn) hr.g (by omega) (fun _ _ e => e) (fun h' u tk hk => ⟨.str d.shown, H, I.kept hk, ⟨u, rfl⟩, q⟩) hz
end
/-- the law's call, from its promise where no repr is under way -/
theorem law_go {P : Program} {w : World} {K : PySem.W.Frag} {mg mb : Str → Option Value} {CX : CXT} {k : Nat} {fa a : Addr} {fd : FuncData} {x : Str} {sp : Sp} {s₁ : Shared} {vs : List Value} {H : Hp}
    (KX : K.In s₁.heap) (hns : s₁.heap.Ns mainGlobals mg) (hb : s₁.heap.Ns builtinsNs mb) (hbb : ∀ x : Str, x ≠ "__name__" → mb x = bootBuiltins x) (hlim : s₁.heap.NoLimit) (hg : s₁.gens = #[])
    (ha : s₁.heap.get? a = some { cls := .type "list", data := .seq vs.toArray }) (hr : RoomG k callerA)
    (F : ∀ base : Heap, K.In base → base.Ns mainGlobals mg → FnG P w K mg base CX k fa fd [x] sp) (hbind : ∀ (s : Shared) (u : Value), BindsTo s fd ⟨[u], []⟩ [(x, u)])
    (hsp : sp [.ref a] H (fun v _ => v = .bl true) fun _ _ _ => False) (hCX : ∀ e s', CX [] H s₁ (fun _ _ _ => False) e s' → False)
    (hO : Only H) (hok : HOk P w H s₁.heap) (hA : ∀ b, H b ≠ none → b = a) (hK : H a ≠ none → K.lookup a = none) :
    codeAny (model P w) callerA (.call (.ref fa) ⟨[.ref a], []⟩) (fun r s' => r = .ok (.ret (.bool true)) ∧ OldK s₁.heap s'.heap ∧ s'.os = s₁.os ∧ AllBare s'.gens) s₁ := by
  have free : ∀ {b : Addr} {o : Obj}, s₁.heap.get? b = some o → (b = a → False) → (hidT s₁.heap H).get? b = some o := fun {b o} e n => hidT_get e (by
    cases q : H b with
    | none => rfl
    | some u => exact (n (hA b (by rw [q]; exact fun z => nomatch z))).elim)
  have nsK : ∀ {b : Addr} {m : Str → Option Value}, s₁.heap.Ns b m → (hidT s₁.heap H).Ns b m := fun {b m} ⟨o, es, ep, e, d, r⟩ => ⟨o, es, ep, free e (fun z => by
    rw [z, ha] at e
    have e' := Option.some.inj e
    rw [← e'] at d
    exact nomatch d), d, r⟩
  have hKb : K.In (hidT s₁.heap H) := fun b o e => hidT_get (KX b o e) (by
    cases q : H b with
    | none => rfl
    | some u =>
      have z : b = a := hA b (by rw [q]; exact fun z => nomatch z)
      rw [z] at e q
      rw [hK (by rw [q]; exact fun z => nomatch z)] at e
      exact nomatch e)
  obtain ⟨mc, l1, l2⟩ := hlim
  have e0 : Env0 P w K mg (hidT s₁.heap H) callerA [] s₁ H :=
    ⟨rfl, ⟨hKb, nsK hns, ⟨mb, nsK hb, hbb⟩, ⟨mc, nsK l1, l2⟩⟩, fun b o e => of_hidT e, Nat.le_of_eq (hidT_size _ _), trivial, fun b hb => absurd (show b ∈ ([] : List Addr) from hb) List.not_mem_nil, hok, .of_eq hg⟩
  refine codeAny_mono ((F _ hKb (nsK hns)).run callerA [] s₁ H ⟨[.ref a], []⟩ [.ref a] [.ref a] _ _ hr e0 (hbind s₁ (.ref a)) (.cons rfl .nil) hsp) fun r s' h => ?_
  match r, h with
  | .error e, h => exact (hCX e s' h).elim
  | .ok (.ret u), h =>
    obtain ⟨v, H', os, bare, un, hok', r', q⟩ := h
    obtain rfl : v = .bl true := q
    obtain rfl : u = Value.bool true := r'
    refine ⟨rfl, OldK.of_keep fun b o e => ?_, os, bare⟩
    cases q : H b with
    | none => exact un.keep b o e q (fun z => absurd (show b ∈ ([] : List Addr) from z) List.not_mem_nil) (fun z => absurd (show b ∈ ([] : List Addr) from z) List.not_mem_nil)
    | some u =>
      rcases hO b with z | ⟨ob, xs, z⟩
      · rw [q] at z
        exact nomatch z
      · obtain ⟨e1, _⟩ := hok b _ z
        obtain ⟨e2, _⟩ := hok' b _ (un.frzs b ob _ z)
        rw [e] at e1
        rw [Option.some.inj e1]
        exact e2
theorem law_callG {P : Program} {w : World} {K : PySem.W.Frag} {mg mb : Str → Option Value} {CX : CXT} {k : Nat} {fa a : Addr} {fd : FuncData} {x : Str} {sp : Sp} {s₁ : Shared} {vs : List Value} {ns : List Int}
    (KX : K.In s₁.heap) (hns : s₁.heap.Ns mainGlobals mg) (hb : s₁.heap.Ns builtinsNs mb) (hbb : ∀ x : Str, x ≠ "__name__" → mb x = bootBuiltins x) (hlim : s₁.heap.NoLimit) (hg : s₁.gens = #[])
    (ha : s₁.heap.get? a = some { cls := .type "list", data := .seq vs.toArray }) (hi : IntsAre vs ns) (hl : ns.length ≤ sizeLine) (hr : RoomG k callerA)
    (F : ∀ base : Heap, K.In base → base.Ns mainGlobals mg → FnG P w K mg base CX k fa fd [x] sp) (hbind : ∀ (s : Shared) (u : Value), BindsTo s fd ⟨[u], []⟩ [(x, u)])
    (hsp : ∀ H : Hp, Only H → SqL K H a (ns.map V.int) → sp [.ref a] H (fun v _ => v = .bl true) fun _ _ _ => False) (hCX : ∀ H e s', CX [] H s₁ (fun _ _ _ => False) e s' → False) :
    codeAny (model P w) callerA (.call (.ref fa) ⟨[.ref a], []⟩) (fun r s' => r = .ok (.ret (.bool true)) ∧ OldK s₁.heap s'.heap ∧ s'.os = s₁.os ∧ AllBare s'.gens) s₁ := by
  have rv := vals_ints hi
  have lenV := hi.length
  cases hk : K.lookup a with
  | some o =>
    have e := (KX a o hk).symm.trans ha
    obtain rfl := Option.some.inj e
    have hO : Only (fun _ => none) := fun _ => .inl rfl
    exact law_go (H := fun _ => none) KX hns hb hbb hlim hg ha hr F hbind
      (hsp _ hO (.inr ⟨_, vs.toArray, _, hk, rfl, rfl, rfl, by rw [List.size_toArray, lenV]; exact hl, by simpa using rv⟩)) (hCX _) hO
      (fun b u z => nomatch (show (none : Option HO) = some u from z)) (fun b z => (z rfl).elim) (fun z => (z rfl).elim)
  | none =>
    let H0 : Hp := fun b => if b = a then some (.frz { cls := .type "list", data := .seq vs.toArray } (.lst (ns.map V.int))) else none
    have at_ : H0 a = some (.frz { cls := .type "list", data := .seq vs.toArray } (.lst (ns.map V.int))) := if_pos rfl
    have off : ∀ b, b ≠ a → H0 b = none := fun b h => if_neg h
    have hO : Only H0 := fun b => by
      by_cases h : b = a
      · rw [h]
        exact .inr ⟨_, _, at_⟩
      · exact .inl (off b h)
    refine law_go (H := H0) KX hns hb hbb hlim hg ha hr F hbind (hsp _ hO (.inl (.inr ⟨_, at_⟩))) (hCX _) hO (fun b u z => ?_) (fun b z => ?_) (fun _ => hk)
    · by_cases h : b = a
      · rw [h, at_] at z
        obtain rfl := Option.some.inj z
        rw [h]
        exact ⟨ha, by rw [List.length_map]; exact hl, vs, _, rv, ha⟩
      · rw [off b h] at z
        exact nomatch z
    · by_cases h : b = a
      · exact h
      · exact (z (off b h)).elim
/-- the end of a law, over a head by facts -/
theorem walkG {l : PySem.W.OpenLaw} {n k : Nat} {q : Program} {loose : List Str} {XP : (Str → Option Value) → Heap → Prop} {YP : World → Heap → Prop} {d : DefRec} {CX : CXT} {x : Str}
    (hn : l.most = some n) (hn2 : n ≤ sizeLine) (hdf : d.params.defaults = []) (hr : RoomG k callerA)
    (F : ∀ (w : World) (mg : Str → Option Value) (fa : Addr) (h : Heap), YP w h → h.Ns mainGlobals mg → mg d.name = some (.ref fa) →
      ∃ (K : PySem.W.Frag) (fd : FuncData) (sp : Sp), K.In h ∧ (∀ (s : Shared) (u : Value), BindsTo s fd ⟨[u], []⟩ [(x, u)]) ∧
        (∀ (H : Hp) (a : Addr) (ns : List Int), ns.length ≤ n → Only H → SqL K H a (ns.map V.int) → sp [.ref a] H (fun v _ => v = .bl true) fun _ _ _ => False) ∧
        ∀ base : Heap, K.In base → base.Ns mainGlobals mg → FnG l.prog w K mg base CX k fa fd [x] sp)
    (hCX : ∀ (H : Hp) (s : Shared) (e : Value) (s' : Shared), CX [] H s (fun _ _ _ => False) e s' → False) :
    PySem.W.WalkO q loose XP YP l.row.toRowW d [] (fun f vs => PySem.call f vs) := by
  refine Att.attach_call hn hdf fun w s₀ s₁ mg mb fa o pm cd doc a vs ns G Y ho hd hcd hmg hobj hints hlen hg => ?_
  obtain ⟨K, fd, sp, KX, hb, hsp, hF⟩ := F w mg fa _ Y G.T.g hmg
  exact law_callG KX G.T.g G.T.b G.T.builtins G.T.nolimit hg hobj hints (Nat.le_trans hlen hn2) hr hF hb (fun H hO hS => hsp H a ns hlen hO hS) fun H e s' => hCX H s₁ e s'
end Gu

set_option Elab.async false
set_option linter.all false
set_option maxRecDepth 100000
set_option maxHeartbeats 4000000
/-! Own layer: defs, methods, makers and properties by their names. -/
namespace Ex
open PySem PySem.Spec PyProof.Rows L2 Gu
section
variable (P : Program) (w : World) (K : PySem.W.Frag) (mg : Str → Option Value) (base : Heap)
/-- the module's def x keeps sp -/
structure Df (k : Nat) (x : Str) (ps : List Str) (sp : Sp) : Prop where
  ex : ∃ fd, FnOk P w K mg base CX0 k (He.ga K x) fd ps sp ∧ Binds K fd ps []
  gl : mg x = some (.ref (He.ga K x))
  kp : PySem.W.keepIn K (.ref (He.ga K x)) = true
structure DfG (k : Nat) (x : Str) (ps : List Str) (sp : Sp) : Prop where
  ex : ∃ fd, FnG P w K mg base CX0 k (He.ga K x) fd ps sp ∧ Binds K fd ps []
  gl : mg x = some (.ref (He.ga K x))
  kp : PySem.W.keepIn K (.ref (He.ga K x)) = true
/-- .. called by keywords ks alone; j: the places of the parameters among the keywords -/
structure DfK (k : Nat) (x : Str) (ps ks : List Str) (j : List Nat) (sp : Sp) : Prop where
  ex : ∃ fd, FnOk P w K mg base CX0 k (He.ga K x) fd ps sp ∧ ∀ (s : Shared) (ws : List Value), ws.length = ks.length → BindsTo s fd ⟨[], ks.zip ws⟩ (ps.zip (j.filterMap fun i => ws[i]?))
  gl : mg x = some (.ref (He.ga K x))
  kp : PySem.W.keepIn K (.ref (He.ga K x)) = true
structure Mf (k : Nat) (c m : Str) (ps : List Str) (sp : Sp) : Prop where
  ex : ∃ fd, FnOk P w K mg base CX0 k (He.ma K (He.ga K c) m) fd ps sp ∧ Binds K fd ps []
  cl : Cls K (He.ga K c)
  me : Meth K (He.ga K c) m (He.ma K (He.ga K c) m)
structure Pf (k : Nat) (c m : Str) (sp : Sp) : Prop where
  cl : Cls K (He.ga K c)
  ex : ∃ (p g : Addr) (fd : FuncData), PropOf K (He.ga K c) m p g ∧ FnOk P w K mg base CX0 k g fd ["self"] sp ∧ Binds K fd ["self"] []
structure Kf (k : Nat) (c : Str) (ps : List Str) (sp : Sp) : Prop where
  ex : ∃ fd, FnOk P w K mg base CX0 k (He.ma K (He.ga K c) "__init__") fd ps sp ∧ Binds K fd ps []
  gl : mg c = some (.ref (He.ga K c))
  mkr : Mk K (He.ga K c) (He.ma K (He.ga K c) "__init__")
end
section
variable {X : Cx} {k j : Nat} {x c m : Str} {ps ks : List Str} {ji : List Nat} {sp : Sp} {p pos apos : Pos} {e o : Expr} {es : List Expr} {kws : List Keyword} {t tk : TA} {ta : TE}
theorem pcall (D : Df X.prog X.w X.K X.mg X.base k x ps sp) (hr : Room j X.A) (ha : PA X (e :: es) t) (hj : k ≤ j := by decide) (hg : Gl X x := by rfl) (hdb : (x == ("__debug__" : Str)) = false := by decide)
    (he : starEach (e :: es) X.env = (false, eval e X.env) :: starEach es X.env := by rfl) (hpl : (backTo pos (starEach es X.env)).any (·.1) = false := by rfl) :
    PE X (.Call (.Name x p) (e :: es) [] pos) (tCall sp [] E0 t) := by
  obtain ⟨fd, F, b⟩ := D.ex
  exact pe_call F (hr.mono hj) hg D.gl D.kp b .nil pass0 ha hdb he hpl
theorem pcallG (D : DfG X.prog X.w X.K X.mg X.base k x ps sp) (hr : RoomG j X.A) (ha : PA X (e :: es) t) (hj : k ≤ j := by decide) (hg : Gl X x := by rfl) (hdb : (x == ("__debug__" : Str)) = false := by decide)
    (he : starEach (e :: es) X.env = (false, eval e X.env) :: starEach es X.env := by rfl) (hpl : (backTo pos (starEach es X.env)).any (·.1) = false := by rfl) :
    PE X (.Call (.Name x p) (e :: es) [] pos) (tCall sp [] E0 t) := by
  obtain ⟨fd, F, b⟩ := D.ex
  exact pe_callG F (hr.mono hj) hg D.gl D.kp b .nil pass0 ha hdb he hpl
def tKw (sp : Sp) (n : Nat) (j : List Nat) (tk : TA) : TE := fun σ H Q => tk σ H fun zs H2 => zs.length = n ∧ sp (j.filterMap fun i => zs[i]?) H2 Q E0
theorem vals_pick {zs : List V} {ws : List Value} (r : Vals zs ws) : ∀ j : List Nat, Vals (j.filterMap fun i => zs[i]?) (j.filterMap fun i => ws[i]?)
  | [] => .nil
  | i :: j => by
    rw [List.filterMap_cons, List.filterMap_cons]
    cases e : zs[i]? with
    | none =>
      rw [r.none_of e]
      exact vals_pick r j
    | some z =>
      obtain ⟨u, hu, ru⟩ := r.get e
      rw [hu]
      exact .cons ru (vals_pick r j)
theorem pcallK (D : DfK X.prog X.w X.K X.mg X.base k x ps ks ji sp) (hr : Room j X.A) (hkw : PK X kws tk) (hj : k ≤ j := by decide) (hg : Gl X x := by rfl)
    (hall : (backToKw pos (keywordEach kws X.env)).all (·.1.isSome) = true := by rfl) (hks : (backToKw pos (keywordEach kws X.env)).filterMap (·.1) = ks := by rfl)
    (hdb : (x == ("__debug__" : Str)) = false := by decide)
    (hpl : ((backTo pos (starEach [] X.env)).any (·.1) || (backToKw pos (keywordEach kws X.env)).any (·.1.isNone)) = false := by rfl) :
    PE X (.Call (.Name x p) [] kws pos) (tKw sp ks.length ji tk) := by
  obtain ⟨fd, F, b⟩ := D.ex
  refine ⟨fun pins s σ H Q I h => wpAny_Call_Name_kw (ld_glob I hg D.gl ?_ hdb)⟩
  refine PySem.W.callWith_KW0 (h₀ := X.base) I.ok.mod.kin D.kp hall (thn (hkw.run pos pins s σ H _ I h) fun ws s2 ⟨zs, H2, I2, rz, l2, q2⟩ => ⟨I2.kIn, ?_⟩) hpl
  rw [hks]
  refine wpAny_call (codeAny_mono (F.run X.A X.stack s2 H2 ⟨[], ks.zip ws⟩ _ _ Q E0 (hr.mono hj) I2.env0 (b s2 ws (rz.length.symm.trans l2)) (vals_pick rz ji) q2) fun r s' hq => ?_)
  match r, hq with
  | .ok (.ret u), hq => exact I2.after hq
theorem pmeth {pl : Sem Bool} (D : Mf X.prog X.w X.K X.mg X.base k c m ps sp) (hr : Room j X.A) (he : PE X o ta) (ha : PA X (e :: es) t) (hj : k ≤ j := by decide)
    (hst : starEach (e :: es) X.env = (false, eval e X.env) :: starEach es X.env := by rfl) (hpl : (backTo pos (starEach es X.env)).any (·.1) = false := by rfl)
    (ht : eval (.Call (.Attribute o m apos) (e :: es) [] pos) X.env = (do
      let ov ← eval o X.env
      standAt apos.atName
      let (f, first) ← holding [ov] (getMethod ov m pl)
      callWith pos f first (backTo pos (starEach (e :: es) X.env)) (backToKw pos (keywordEach [] X.env))) := by rfl) :
    PE X (.Call (.Attribute o m apos) (e :: es) [] pos) (tMeth (He.ga X.K c) m sp [] E0 ta t) := by
  obtain ⟨fd, F, b⟩ := D.ex
  exact pe_meth he D.cl D.me F (hr.mono hj) b .nil pass0 ha hst hpl ht
theorem pmeth0 {pl : Sem Bool} (D : Mf X.prog X.w X.K X.mg X.base k c m ps sp) (hr : Room j X.A) (he : PE X o ta) (hj : k ≤ j := by decide)
    (ht : eval (.Call (.Attribute o m apos) [] [] pos) X.env = (do
      let ov ← eval o X.env
      standAt apos.atName
      let (f, first) ← holding [ov] (getMethod ov m pl)
      callWith pos f first (backTo pos (starEach [] X.env)) (backToKw pos (keywordEach [] X.env))) := by rfl) :
    PE X (.Call (.Attribute o m apos) [] [] pos) (tMeth (He.ga X.K c) m sp [] E0 ta tNil) := by
  obtain ⟨fd, F, b⟩ := D.ex
  exact pe_meth0 he D.cl D.me F (hr.mono hj) b .nil pass0 ht
theorem pprop (D : Pf X.prog X.w X.K X.mg X.base k c m sp) (hr : Room j X.A) (he : PE X o ta) (hj : k + 1 ≤ j := by decide) (hab : attributeBase o m X.env (eval o X.env) = eval o X.env := by rfl) :
    PE X (.Attribute o m pos) (tProp (He.ga X.K c) sp [] E0 ta) := by
  obtain ⟨p, g, fd, hp, F, b⟩ := D.ex
  exact pe_prop he D.cl hp F (hr.mono hj) b .nil pass0 hab
theorem pmake (D : Kf X.prog X.w X.K X.mg X.base k c ps sp) (hr : Room j X.A) (ha : PA X (e :: es) t) (hj : k + 1 ≤ j := by decide) (hg : Gl X c := by rfl) (hdb : (c == ("__debug__" : Str)) = false := by decide)
    (he : starEach (e :: es) X.env = (false, eval e X.env) :: starEach es X.env := by rfl) (hpl : (backTo pos (starEach es X.env)).any (·.1) = false := by rfl) :
    PE X (.Call (.Name c p) (e :: es) [] pos) (tMake (He.ga X.K c) sp [] E0 t) := by
  obtain ⟨fd, F, b⟩ := D.ex
  exact pe_make D.mkr F (hr.mono hj) hg D.gl b .nil pass0 ha hdb he hpl
end
end Ex

set_option Elab.async false
set_option linter.all false
set_option maxRecDepth 100000
set_option maxHeartbeats 4000000
/-! Own layer: range(a, b) of any whole numbers (walked by one or the other iterator of the machine). -/
namespace Ex
open PySem PySem.Spec PyProof.Rows L2 Gu
theorem turn_long {P : Program} {w : World} {K : PySem.W.Frag} {tg : Expr} (it : Addr) (lo : Int) (n : Nat) :
    Turn P w K tg (Itr lo n) [it] it (fun i h => IsLongIter h it (lo + (i : Nat) * 1) ((n : Int) - (i : Nat)) 1) where
  mem := List.mem_singleton.mpr rfl
  obj := fun i h st b hb => by
    obtain rfl := List.mem_singleton.mp hb
    exact ⟨_, st, fun v z => nomatch (show Data.fields _ = Data.cell v from z)⟩
  keep := fun i h h' st k => k it (List.mem_singleton.mpr rfl) _ st
  item := by
    rintro X rfl rfl rfl hc i pins s σ H E I hf st hg
    obtain ⟨f0, f1, f2, f3, f4, f5⟩ := hf it (List.mem_singleton.mpr rfl)
    refine (Walks.longrange (prog := X.prog) (w := X.w) (I.ok.hd hc) it lo 1 n).item i s _ _ hg st fun v h' tk hv st' kk => ?_
    obtain ⟨t, rfl⟩ := hv
    have J : Inv X pins σ H { s with heap := h', toks := tk } := I.turned (fun b o hb e => kk b o (fun z => hb (List.mem_singleton.mp z)) e) f0 f1 f3 f4 f5
    refine ⟨_, rfl, go_of (s := { s with heap := h', toks := tk }) (n := "longrange_iterator") st' rfl rfl (by decide) ⟨.int (lo + i), H, J, ⟨t, ?_⟩, ⟨rfl, rfl⟩, st', fun b hb => (hf b hb).1⟩⟩
    rw [Int.mul_one]
  done := by
    rintro X rfl rfl rfl hc i pins s σ H E I hf st hg
    obtain ⟨f0, f1, f2, f3, f4, f5⟩ := hf it (List.mem_singleton.mpr rfl)
    have hn : n ≤ i := hg
    exact wpAny_pyNext_long_end (I.ok.hd hc) st (by omega) fun h' eb => ⟨rfl, I.turned (t' := s.toks) (fun b o hb e => eb b o hb e) f0 f1 f3 f4 f5⟩
  self := fun _ _ _ _ _ st h => wpAny_pyIter_longiter st h
section
variable {X : Cx} {tg : Expr}
theorem range_any {pins : List (Addr × Obj)} {σ : L2.St} {H : Hp} {s : Shared} {R : It → Hp → Prop} {E : Value → Shared → Prop} {lo hi : Int} {t u v : Tok} {tk : Nat} (I : Inv X pins σ H s) (q : R (Itr lo (hi - lo).toNat) H) :
    wpAny (model X.prog X.w) X.A (pyIter (.ref s.heap.objs.size)) (PIE X pins σ tg R) E { s with heap := s.heap.push { cls := .type "range", data := .fields #[.int lo t, .int hi u, .int 1 v] }, toks := tk } := by
  have J : Inv X pins σ H { s with heap := s.heap.push { cls := .type "range", data := .fields #[.int lo t, .int hi u, .int 1 v] }, toks := tk } := I.kept fun b o e => Heap.get?_push_of_some _ e
  have e1 : lo + ((0 : Nat) : Int) * 1 = lo := by simp
  have e2 : (((hi - lo).toNat : Nat) : Int) - ((0 : Nat) : Int) = Builtin.Range.rangeSize lo hi 1 := by rw [rangeSize_one]; split <;> omega
  have fr : ∀ b ∈ [(s.heap.push { cls := .type "range", data := .fields #[.int lo t, .int hi u, .int 1 v] }).objs.size], _ := fun b hb => by
    obtain rfl := List.mem_singleton.mp hb
    exact J.fpOk (Nat.le_refl _) (J.hok.fresh (Nat.le_refl _))
  cases hs : Builtin.Range.small lo hi 1 with
  | true =>
    refine wpAny_pyIter_range (IsRange.new ..) hs ⟨_, [_], _, _, H, rfl, J.kept (t' := tk) fun b o e => Heap.get?_push_of_some _ e, turn_range _ lo (hi - lo).toNat, ?_, fr, q⟩
    show IsRangeIter _ _ (lo + ((0 : Nat) : Int) * 1) ((((hi - lo).toNat : Nat) : Int) - ((0 : Nat) : Int)) 1
    rw [e1, e2]
    exact Heap.get?_push_size _ rfl
  | false =>
    refine wpAny_pyIter_longrange (IsRange.new ..) hs ⟨_, [_], _, _, H, rfl, J.kept (t' := tk) fun b o e => Heap.get?_push_of_some _ e, turn_long _ lo (hi - lo).toNat, ?_, fr, q⟩
    show IsLongIter _ _ (lo + ((0 : Nat) : Int) * 1) ((((hi - lo).toNat : Nat) : Int) - ((0 : Nat) : Int)) 1
    rw [e1, e2]
    exact Heap.get?_push_size _ rfl
def iRngA (ta : TA) : TI := fun σ H R => ta σ H fun vs H1 => ∃ i j : Int, vs = [.int i, .int j] ∧ R (Itr i (j - i).toNat) H1
theorem pi_rangeA {a b : Expr} {ta : TA} {p pos : Pos} (hg : Gl X "range") (hm : X.mg "range" = none) (ha : PA X [a, b] ta) (hs : starEach [a, b] X.env = [(false, eval a X.env), (false, eval b X.env)] := by rfl)
    (hs2 : starEach [b] X.env = [(false, eval b X.env)] := by rfl) : PI X tg (.Call (.Name "range" p) [a, b] [] pos) (iRngA ta) := by
  refine ⟨fun pins s σ H R I h => Call_ (ld_blt I hg hm boot_range (PyProof.Rows.callWith_type1 (thn (ha.run pos pins s σ H _ I h) fun us s1 ⟨vs, H1, I1, r1, q1⟩ => ?_) (by rw [hs, hs2]) (by rw [hs2]; rfl)))⟩
  obtain ⟨i, j, rfl, q⟩ := q1
  obtain ⟨u, z, rfl, ⟨t, rfl⟩, ⟨t', rfl⟩⟩ := vals2 r1
  exact call_range_2 (range_any I1 q)
end
end Ex

set_option linter.all false
/-! The mathematics of counted regions. -/
namespace M15
theorem div_is {x s q r : Int} (h : x = s * q + r) (h0 : 0 ≤ r) (h1 : r < s) : x / s = q := by
  have e : r + s * q = x := by rw [h, Int.add_comm]
  exact ((Int.ediv_emod_unique (by omega)).mpr ⟨e, h0, h1⟩).1
/-- the number of multiples below x, rounded up -/
def C (s x : Int) : Int := (x + s - 1) / s
theorem parts (s x : Int) (h : 1 ≤ s) : x = s * (x / s) + x % s ∧ 0 ≤ x % s ∧ x % s < s :=
  ⟨(Int.mul_ediv_add_emod x s).symm, Int.emod_nonneg _ (by omega), Int.emod_lt_of_pos _ (by omega)⟩
theorem C_of {s x q r : Int} (hs : 1 ≤ s) (h : x = s * q + r) (h0 : 0 ≤ r) (h1 : r < s) : C s x = if r = 0 then q else q + 1 := by
  unfold C
  by_cases z : r = 0
  · rw [if_pos z]
    exact div_is (r := s - 1) (by omega) (by omega) (by omega)
  · rw [if_neg z]
    refine div_is (r := r - 1) ?_ (by omega) (by omega)
    have e : s * (q + 1) = s * q + s := by rw [Int.mul_add, Int.mul_one]
    omega
theorem C_step {s x : Int} (hs : 1 ≤ s) : C s (x + 1) = C s x + (if x % s = 0 then 1 else 0) := by
  obtain ⟨e, h0, h1⟩ := parts s x hs
  have a : C s (x + 1) = x / s + 1 := by
    unfold C
    have e2 : s * (x / s + 1) = s * (x / s) + s := by rw [Int.mul_add, Int.mul_one]
    exact div_is (r := x % s) (by omega) h0 h1
  rw [a, C_of hs e h0 h1]
  by_cases z : x % s = 0
  · rw [if_pos z, if_pos z]
  · rw [if_neg z, if_neg z]
    omega
theorem C_mono {s : Int} (hs : 1 ≤ s) (x : Int) (n : Nat) : C s x ≤ C s (x + n) := by
  induction n with
  | zero => simp
  | succ n ih =>
    have e := C_step (s := s) (x := x + n) hs
    rw [show x + ((n + 1 : Nat) : Int) = x + n + 1 by omega, e]
    split <;> omega
theorem C_le {s : Int} (hs : 1 ≤ s) {x y : Int} (h : x ≤ y) : C s x ≤ C s y := by
  have e := C_mono hs x (y - x).toNat
  rw [show x + (((y - x).toNat : Nat) : Int) = y by omega] at e
  exact e
/-- how many of the first n addresses from b on begin a region that ends by e -/
def cnt (s b e : Int) : Nat → Nat
  | 0 => 0
  | n + 1 => cnt s b e n + if (b + n) % s = 0 ∧ b + n + s ≤ e then 1 else 0
theorem cnt_is {s b e : Int} (hs : 1 ≤ s) : ∀ n : Nat, ((cnt s b e n : Nat) : Int) = if C s (min (b + n) (e - s + 1)) > C s b then C s (min (b + n) (e - s + 1)) - C s b else 0
  | 0 => by
    have h : C s (min (b + (0 : Nat)) (e - s + 1)) ≤ C s b := C_le hs (by omega)
    rw [if_neg (by omega)]
    rfl
  | n + 1 => by
    have ih := cnt_is (s := s) (b := b) (e := e) hs n
    show (((cnt s b e n + if (b + n) % s = 0 ∧ b + n + s ≤ e then 1 else 0 : Nat)) : Int) = _
    by_cases hb : b + n + s ≤ e
    · rw [show min (b + ((n + 1 : Nat) : Int)) (e - s + 1) = b + n + 1 by omega, C_step hs]
      rw [show min (b + (n : Int)) (e - s + 1) = b + n by omega] at ih
      have m := C_mono hs b n
      by_cases z : (b + n) % s = 0
      · rw [if_pos ⟨z, hb⟩, if_pos z]
        split at ih <;> split <;> omega
      · rw [if_neg (fun q => z q.1), if_neg z]
        split at ih <;> split <;> omega
    · rw [if_neg (fun q => hb q.2)]
      rw [show min (b + ((n + 1 : Nat) : Int)) (e - s + 1) = e - s + 1 by omega]
      rw [show min (b + (n : Int)) (e - s + 1) = e - s + 1 by omega] at ih
      omega
/-- the greatest of 0 and the difference -/
def cntM (s b e : Int) : Int := if e / s - C s b > 0 then e / s - C s b else 0
theorem C_end {s e : Int} : C s (e - s + 1) = e / s := by
  unfold C
  rw [show e - s + 1 + s - 1 = e by omega]
theorem cnt_all {s b e : Int} (hs : 1 ≤ s) (hb : b ≤ e) : ((cnt s b e (e - b).toNat : Nat) : Int) = cntM s b e := by
  rw [cnt_is hs, show min (b + (((e - b).toNat : Nat) : Int)) (e - s + 1) = e - s + 1 by omega, C_end]
  unfold cntM
  split <;> split <;> omega
theorem up_is {s a : Int} (hs : 1 ≤ s) : -(-a / s) = C s a := by
  obtain ⟨e, h0, h1⟩ := parts s a hs
  rw [C_of hs e h0 h1]
  by_cases z : a % s = 0
  · rw [if_pos z]
    have : -a / s = -(a / s) := div_is (r := 0) (by rw [Int.mul_neg]; omega) (by omega) (by omega)
    omega
  · rw [if_neg z]
    have e2 : s * (-(a / s) - 1) = -(s * (a / s)) - s := by rw [Int.mul_sub, Int.mul_neg, Int.mul_one]
    have : -a / s = -(a / s) - 1 := div_is (r := s - a % s) (by omega) (by omega) (by omega)
    omega
theorem quot_is {s a e : Int} (hs : 1 ≤ s) : ((e - e % s) - -(-a / s) * s) / s = e / s - C s a := by
  obtain ⟨h, h0, h1⟩ := parts s e hs
  rw [up_is hs]
  refine div_is (r := 0) ?_ (by omega) (by omega)
  have x1 : C s a * s = s * C s a := Int.mul_comm _ _
  have x2 : s * (e / s - C s a) = s * (e / s) - s * C s a := Int.mul_sub _ _ _
  omega
/-- a region across the cut -/
theorem across {s b c e : Int} (hs : 1 ≤ s) (h1 : b ≤ c) (h2 : c ≤ e) :
    cntM s b c + cntM s c e + (if b ≤ c - c % s ∧ c - c % s < c ∧ c - c % s + s ≤ e ∧ c % s ≠ 0 then 1 else 0) = cntM s b e := by
  obtain ⟨ec, c0, c1⟩ := parts s c hs
  obtain ⟨ee, e0, e1⟩ := parts s e hs
  obtain ⟨eb, b0, b1⟩ := parts s b hs
  have hCc := C_of hs ec c0 c1
  have hCb := C_of hs eb b0 b1
  have m1 : C s b ≤ C s c := C_le hs h1
  have m2 : c / s ≤ e / s := Int.ediv_le_ediv (by omega) h2
  have m3 : b / s ≤ c / s := Int.ediv_le_ediv (by omega) h1
  unfold cntM
  -- quotients: qb qc qe
  generalize hqb : b / s = qb at *
  generalize hqc : c / s = qc at *
  generalize hqe : e / s = qe at *
  have k1 : b ≤ c - c % s ↔ C s b ≤ qc := by
    have t : c - c % s = s * qc := by omega
    rw [t, hCb]
    constructor
    · intro h
      by_cases z : b % s = 0
      · rw [if_pos z]
        exact m3
      · rw [if_neg z]
        refine Int.not_lt.mp fun hn => ?_
        have : qc = qb := by omega
        rw [this] at h
        omega
    · intro h
      by_cases z : b % s = 0
      · rw [if_pos z] at h
        have := Int.mul_le_mul_of_nonneg_left h (show (0 : Int) ≤ s by omega)
        omega
      · rw [if_neg z] at h
        have := Int.mul_le_mul_of_nonneg_left h (show (0 : Int) ≤ s by omega)
        rw [Int.mul_add, Int.mul_one] at this
        omega
  have k2 : c - c % s + s ≤ e ↔ qc + 1 ≤ qe := by
    have t : c - c % s + s = s * (qc + 1) := by rw [Int.mul_add, Int.mul_one]; omega
    rw [t]
    constructor
    · intro h
      refine Int.not_lt.mp fun hn => ?_
      have := Int.mul_le_mul_of_nonneg_left (show qe ≤ qc by omega) (show (0 : Int) ≤ s by omega)
      have : s * (qc + 1) = s * qc + s := by rw [Int.mul_add, Int.mul_one]
      omega
    · intro h
      have := Int.mul_le_mul_of_nonneg_left h (show (0 : Int) ≤ s by omega)
      omega
  have hI : (if b ≤ c - c % s ∧ c - c % s < c ∧ c - c % s + s ≤ e ∧ c % s ≠ 0 then (1 : Int) else 0) = if c % s ≠ 0 ∧ C s b ≤ qc ∧ qc + 1 ≤ qe then 1 else 0 := by
    by_cases y : c % s ≠ 0 ∧ C s b ≤ qc ∧ qc + 1 ≤ qe
    · rw [if_pos y, if_pos ⟨k1.mpr y.2.1, by omega, k2.mpr y.2.2, y.1⟩]
    · rw [if_neg y, if_neg fun q => y ⟨q.2.2.2, k1.mp q.1, k2.mp q.2.2.1⟩]
  rw [hI]
  have hc3 : C s c = qc ∧ c % s = 0 ∨ C s c = qc + 1 ∧ c % s ≠ 0 := by
    by_cases z : c % s = 0
    · rw [if_pos z] at hCc
      exact .inl ⟨hCc, z⟩
    · rw [if_neg z] at hCc
      exact .inr ⟨hCc, z⟩
  clear hCc hCb k1 k2 hI
  generalize C s b = cb at *
  generalize C s c = cc at *
  rcases hc3 with ⟨rfl, z⟩ | ⟨rfl, z⟩
  · rw [if_neg (c := c % s ≠ 0 ∧ cb ≤ cc ∧ cc + 1 ≤ qe) fun q => q.1 z]
    split <;> split <;> split <;> omega
  · by_cases y : cb ≤ qc ∧ qc + 1 ≤ qe
    · rw [if_pos (c := c % s ≠ 0 ∧ cb ≤ qc ∧ qc + 1 ≤ qe) ⟨z, y.1, y.2⟩]
      split <;> split <;> split <;> omega
    · rw [if_neg (c := c % s ≠ 0 ∧ cb ≤ qc ∧ qc + 1 ≤ qe) fun q => y q.2]
      split <;> split <;> split <;> omega
end M15

set_option Elab.async false
set_option linter.all false
set_option maxRecDepth 100000
set_option maxHeartbeats 4000000
/-! Own layer: data of any depth, dicts among it, as repr shows it. -/
namespace Ex
open PySem PySem.Spec PyProof.Rows L2 Gu
mutual
inductive Dq (K : PySem.W.Frag) (H : Hp) : V → PyData → Prop
  | non : Dq K H .non .none
  | bl (b : Bool) : Dq K H (.bl b) (.bool b)
  | int (i : Int) : Dq K H (.int i) (.int i)
  | str (x : Str) : Dq K H (.str x) (.str x)
  | lst {a : Addr} {xs : List V} {ds : List PyData} : SqL K H a xs → DqAll K H xs ds → Dq K H (.ref a) (.list ds)
  | tup {a : Addr} {xs : List V} {ds : List PyData} : SqT K H a xs → DqAll K H xs ds → Dq K H (.ref a) (.tuple ds)
  | dct {a : Addr} {kvs : List (Key × V)} {ds : List (PyData × PyData)} : H a = some (.dK kvs) → DqAll K H (kvs.map fun p => kV p.1) (ds.map (·.1)) → DqAll K H (kvs.map (·.2)) (ds.map (·.2)) → Dq K H (.ref a) (.dict ds)
inductive DqAll (K : PySem.W.Frag) (H : Hp) : List V → List PyData → Prop
  | nil : DqAll K H [] []
  | cons {v : V} {vs : List V} {d : PyData} {ds : List PyData} : Dq K H v d → DqAll K H vs ds → DqAll K H (v :: vs) (d :: ds)
end
/-- the table of modules stands in the written part: no list lies there -/
def SysOk (K : PySem.W.Frag) : Prop := ∃ o, K.lookup sysModules = some o ∧ o.cls ≠ .type "list"
section
variable {X : Cx} {pins : List (Addr × Obj)} {σ : L2.St} {H : Hp} {s : Shared}
theorem key_rel {k : Key} {v : Value} (h : keyIs k v = true) : RelV (kV k) v := by
  rcases keyIs_shape h with ⟨i, t, rfl, rfl⟩ | ⟨x, t, rfl, rfl⟩
  · exact ⟨t, rfl⟩
  · exact ⟨t, rfl⟩
theorem not_sys {a : Addr} {o : Obj} (hs : SysOk X.K) (I : Inv X pins σ H s) (ho : s.heap.get? a = some o) (hc : o.cls = .type "list") : a ≠ sysModules := fun z => by
  obtain ⟨u, e, n⟩ := hs
  have h2 := I.kIn _ _ e
  rw [z, h2] at ho
  rw [Option.some.inj ho] at n
  exact n hc
theorem pairs_rel {es : List DictEntry} {vs : List (Key × Value)} (h : Pairs (mixKind X.prog X.w) es vs) : ∀ {kvs : List (Key × V)}, KV kvs vs → Vals (kvs.map fun p => kV p.1) (es.map (·.key)) ∧ Vals (kvs.map (·.2)) (es.map (·.val)) := by
  induction h with
  | nil =>
    intro kvs r
    cases r
    exact ⟨.nil, .nil⟩
  | @cons e kv es vs h1 h2 h3 ih =>
    intro kvs r
    cases r with
    | @cons p _ l _ r1 r2 =>
      obtain ⟨i1, i2⟩ := ih r2
      have k1 : RelV (kV p.1) e.key := by
        rw [r1.1]
        exact key_rel h1
      have k2 : RelV p.2 e.val := by
        rw [h2]
        exact r1.2
      exact ⟨.cons k1 i1, .cons k2 i2⟩
mutual
theorem Dq.reads (hs : SysOk X.K) (I : Inv X pins σ H s) : ∀ {v : V} {d : PyData}, Dq X.K H v d → ∀ u, RelV v u → ∃ as, Reads s.heap u d as ∧ sysModules ∉ as
  | _, _, .non, u, r => by
    cases r
    exact ⟨_, Reads.none, List.not_mem_nil⟩
  | _, _, .bl b, u, r => by
    cases r
    exact ⟨_, Reads.bool b, List.not_mem_nil⟩
  | _, _, .int i, u, r => by
    obtain ⟨t, rfl⟩ := r
    exact ⟨_, Reads.int i t, List.not_mem_nil⟩
  | _, _, .str x, u, r => by
    obtain ⟨t, rfl⟩ := r
    exact ⟨_, Reads.str x t, List.not_mem_nil⟩
  | _, _, .lst (a := a) hq ha, u, r => by
    cases r
    obtain ⟨its, rv, ⟨o, n, ho, hc, _, hd⟩, _⟩ := I.list hq
    obtain ⟨as, hr, na⟩ := Dq.readsAll hs I ha its rv
    refine ⟨_, Reads.list ho hc hd hr, fun hm => ?_⟩
    rcases List.mem_cons.mp hm with z | z
    · exact not_sys hs I ho hc z.symm
    · exact na z
  | _, _, .tup (a := a) hq ha, u, r => by
    cases r
    obtain ⟨its, rv, ⟨o, ho, hc, n, hd⟩, _⟩ := I.tuple hq
    obtain ⟨as, hr, na⟩ := Dq.readsAll hs I ha its rv
    exact ⟨_, Reads.tuple ho hc hd hr, na⟩
  | _, _, .dct (a := a) (kvs := kvs) hq h1 h2, u, r => by
    cases r
    obtain ⟨_, ns, vs, rk, o, es, ep, ho, hx, hd, _, hp, _⟩ := (show ObjOk X.prog X.w H s.heap a (.dK kvs) from I.hok a _ hq)
    obtain ⟨r1, r2⟩ := pairs_rel hp rk
    obtain ⟨as, q1, n1⟩ := Dq.readsAll hs I h1 _ r1
    obtain ⟨bs, q2, n2⟩ := Dq.readsAll hs I h2 _ r2
    refine ⟨_, Reads.dict ho hx.1 hd q1 q2, fun hm => ?_⟩
    rcases List.mem_append.mp hm with z | z
    · rcases List.mem_cons.mp z with z | z
      · rw [← z, beq_self_eq_true] at ns
        cases ns
      · exact n1 z
    · exact n2 z
theorem Dq.readsAll (hs : SysOk X.K) (I : Inv X pins σ H s) : ∀ {vs : List V} {ds : List PyData}, DqAll X.K H vs ds → ∀ us : List Value, Vals vs us → ∃ as, ReadsAll s.heap us ds as ∧ sysModules ∉ as
  | _, _, .nil, us, r => by
    cases r
    exact ⟨_, ReadsAll.nil, List.not_mem_nil⟩
  | _, _, .cons h1 h2, us, r => by
    cases r with
    | cons r1 r2 =>
      obtain ⟨as, q1, n1⟩ := Dq.reads hs I h1 _ r1
      obtain ⟨bs, q2, n2⟩ := Dq.readsAll hs I h2 _ r2
      refine ⟨_, ReadsAll.cons q1 q2, fun hm => ?_⟩
      rcases List.mem_append.mp hm with z | z
      · exact n1 z
      · exact n2 z
end
end
section
variable {X : Cx} {k : Nat}
/-- repr of any data -/
def rReprQ (K : PySem.W.Frag) : List V → Hp → VK → Prop := fun xs H Q => ∃ (v : V) (d : PyData), xs = [v] ∧ Dq K H v d ∧ d.showable = true ∧ d.depth ≤ 60 ∧ d.shown.length ≤ sizeLine ∧ Q (.str d.shown) H
theorem call_reprQ (hr : RoomG k X.A) (hs : SysOk X.K) : CallR X (.builtin "repr") (rReprQ X.K) := by
  intro pins s σ H xs us Q I r h
  obtain ⟨v, d, rfl, hd, hsh, hdep, hz, q⟩ := h
  obtain ⟨u, rfl, ru⟩ := vals1 r
  obtain ⟨as, rd, na⟩ := Dq.reads hs I hd u ru
  have hu := hr.r.units
  cases hd with
  | non =>
    cases ru
    exact PySem.P.repr_of_none ⟨.str _, H, I.tok _, ⟨_, rfl⟩, by simpa only [PyData.shown] using q⟩
  | bl b =>
    cases ru
    exact PySem.P.repr_of_bool ⟨.str _, H, I.tok _, ⟨_, rfl⟩, by simpa only [PyData.shown] using q⟩
  | int i =>
    obtain ⟨t, rfl⟩ := ru
    exact PySem.P.repr_of_int (by simpa [PyData.showable] using hsh) ⟨.str _, H, I.tok _, ⟨_, rfl⟩, by simpa only [PyData.shown] using q⟩
  | str x =>
    obtain ⟨t, rfl⟩ := ru
    exact PySem.P.repr_of_str ⟨.str _, H, I.tok _, ⟨_, rfl⟩, by simpa only [PyData.shown] using q⟩ (by simpa only [PyData.shown] using hz)
  | @lst a xs ds hq ha =>
    obtain rfl : u = Value.ref a := ru
    exact repr_of_reads' rd hsh (fun _ => na) hr.g (by omega) (fun _ _ e => e) (fun h' u tk hk => ⟨.str _, H, I.kept hk, ⟨u, rfl⟩, q⟩) hz
  | @tup a xs ds hq ha =>
    obtain rfl : u = Value.ref a := ru
    exact repr_of_reads' rd hsh (fun _ => na) hr.g (by omega) (fun _ _ e => e) (fun h' u tk hk => ⟨.str _, H, I.kept hk, ⟨u, rfl⟩, q⟩) hz
  | @dct a kvs ds hq h1 h2 =>
    obtain rfl : u = Value.ref a := ru
    exact repr_of_reads' rd hsh (fun _ => na) hr.g (by omega) (fun _ _ e => e) (fun h' u tk hk => ⟨.str _, H, I.kept hk, ⟨u, rfl⟩, q⟩) hz
/-- x is not True, x is not False, of any scalar -/
def rNotBA : R2 := fun x y H Q => ∃ b : Bool, y = .bl b ∧ ((∃ a : Bool, x = .bl a ∧ Q (.bl (!decide (a = b))) H) ∨ (∃ i : Int, x = .int i ∧ Q (.bl true) H))
theorem op_notBA : OpR X (compareOp .IsNot) rNotBA := by
  intro pins s σ H x y v u Q I rx ry h
  obtain ⟨b, rfl, h⟩ := h
  rcases h with ⟨a, rfl, q⟩ | ⟨i, rfl, q⟩
  · exact op_notBl pins s σ H _ _ v u Q I rx ry ⟨a, b, rfl, rfl, q⟩
  · cases (show u = Value.bool b from ry)
    obtain ⟨t, rfl⟩ := (show ∃ t, v = Value.int i t from rx)
    exact wpAny_isNot_other rfl (fun z => nomatch z) ⟨.bl true, H, I, rfl, q⟩
end
end Ex

set_option Elab.async false
set_option linter.all false
set_option maxRecDepth 100000
set_option maxHeartbeats 4000000
/-! Own layer: isinstance of a caught error that has a dict of its own; errors with fields, raised. -/
namespace Ex
open PySem PySem.Spec PySem.Calls PyProof.Rows L2 Gu
section
variable {prog : Program} {w : World} {A : Around} {E : Value → Shared → Prop} {s : Shared} {K : PySem.W.Frag} {x D : Addr} {ox od : Obj}
theorem class_of_exc {Q : Option Value → Shared → Prop} (c : ExcC K D) (X : K.In s.heap) (I : PySem.W.InstAt s.heap x ox D (some od)) (h : Q (some (.ref D)) { s with toks := s.toks + 1 }) :
    wpAny (model prog w) A (getAttr? (.ref x) "__class__") Q E s := by
  have found : PySem.W.findObj K D (some od) "__class__" = some (.bind (.builtin "getset_descriptor.__get__") (.builtin "object.__class__")) :=
    PySem.W.findObj_data (by obtain ⟨cd, e, _⟩ := PySem.W.any_some c.hd; rw [e]; rfl) c.ha c.hn c.ht
  obtain ⟨hp, g, d, t, os⟩ := s
  have lt := I.type (M := model prog w)
  have lg := PySem.W.looks_findIn (M := model prog w) X c.hg
  have lk := PySem.W.looks_findIn (M := model prog w) X c.hk
  have lf := PySem.W.looks_find (M := model prog w) X I found
  have other : (onTheHeap (Value.ref D) && Value.builtin "BaseException.__getattribute__" == Value.builtin "object.__getattribute__") = false := by
    rw [show (Value.builtin "BaseException.__getattribute__" == Value.builtin "object.__getattribute__") = false by decide +kernel]
    rfl
  unfold getAttr? getAttrBy? getAttrBy
  refine wpAny_bind (wpAny_mkText (wpAny_bind (wpAny_attempt (wpAny_holding (wpAny_bind (lt.at (wpAny_bind (lg.at ?own))))))))
  case own =>
    show wpAny _ _ (if (onTheHeap (Value.ref D) && Value.builtin "BaseException.__getattribute__" == Value.builtin "object.__getattribute__") = true then _ else _) _ _ _
    rw [other, if_neg Bool.false_ne_true]
    unfold getAttrByItsOwn hookBefore
    refine wpAny_bind ?_
    rw [if_pos (show onTheHeap (Value.ref D) = true from rfl)]
    refine lk.at (wpAny_bind (wpAny_attempt (wpAny_holding ?_)))
    unfold callGetattribute
    rw [show (false && onTheHeap (Value.builtin "BaseException.__getattribute__")) = false from rfl, if_neg Bool.false_ne_true]
    unfold boundAndCalled
    rw [PySem.F.excAttr_ValueError.ga.bind (.ref x)]
    refine wpAny_bind (wpAny_pure ?_)
    show wpAny _ _ (call (.builtin "BaseException.__getattribute__") [.ref x, .str "__class__" t]) _ _ _
    refine wpAny_call (codeAny_call_builtin PySem.F.excAttr_ValueError.ga.plain PySem.F.entry_bexc_ga
      (@PySem.W.check_slot (model prog w) _ _ ⟨hp, g, d, t + 1, os⟩ "BaseException.__getattribute__" "BaseException" "__getattribute__" (.ref x) [.str "__class__" t] [] _
        (by decide +kernel) (by decide +kernel) (lt.andThen (PySem.W.looks_subIn X c.hs)) (PySem.F.args_bexc_ga (.ref x) (.str "__class__" t)) ?_))
    unfold Builtin.«object.__getattribute__»
    refine wpAny_bind (wpAny_of_eq (a := ((Value.ref x : Value), [Value.str "__class__" t])) (by first | rfl | (simp only [slotArgs]; rfl)) (wpAny_bind (wpAny_pure (wpAny_bind (lt.at (wpAny_bind (lf.at ?_)))))))
    show wpAny _ _ (holding [Value.builtin "object.__class__"] (call (.builtin "getset_descriptor.__get__") [.builtin "object.__class__", .ref x, .ref D]) >>= ret) _ _ _
    refine wpAny_bind (wpAny_holding (wpAny_call (PySem.W.class_get (s := ⟨hp, g, d, t + 1, os⟩) (ox := ox) (od := some od) X I c.hm (wpAny_pure ?_))))
    show wpAny _ _ (handedOut (.ref D)) _ _ _
    rw [PySem.W.handedOut_of (v := .ref D) rfl]
    first
      | exact wpAny_pure (wpAny_pure h)
      | exact wpAny_pure h
      | exact wpAny_pure (wpAny_bind (wpAny_pure (wpAny_pure h)))
theorem kitx_exc (c : ExcC K D) : PySem.W.KitX K (.ref x) (.ref D) (fun h => PySem.W.InstAt h x ox D (some od)) where
  ty := fun _ _ _ I => I.type
  it := fun _ _ X _ => by
    obtain ⟨cd, e, _⟩ := PySem.W.any_some c.hd
    unfold PySem.W.clsIn at e
    split at e
    · rename_i ho
      exact fun A' Q' E' s' k q => by
        unfold isType loadHead
        exact wpAny_bind (wpAny_loadPart (k _ _ (X _ _ ho)) (wpAny_pure q))
    · cases e
  ne := fun h tp dd its n sl X htp => by
    obtain ⟨cd, e, _⟩ := PySem.W.any_some c.hd
    cases q : (Value.ref D == Value.ref tp) with
    | false => rfl
    | true =>
      have z : D = tp := Value.ref.inj (beq_iff_eq.mp q)
      rw [← z] at htp
      unfold PySem.W.clsIn at e
      split at e
      · rename_i ho
        have y := (X _ _ ho).symm.trans htp
        cases y
      · cases e
  ca := fun X I k => class_of_exc c X I k
end
section
variable {X : Cx} {a D : Addr} {oe : Obj} {d : Addr} {pn : List (Addr × Obj)}
/-- the caught error as the machine sees it -/
theorem inst_exc {pins : List (Addr × Obj)} {σ : L2.St} {H : Hp} {s : Shared} {fs : List (Str × V)} (I : Inv (X.suite a ((a, oe) :: pn)) pins σ H s) (hz : Zc (.ref D) (some d) oe) (hf : ∃ vs, oe.data = .fields vs) (hd : H d = some (.xd fs)) :
    ∃ od, PySem.W.InstAt s.heap a oe D (some od) := by
  obtain ⟨hget, _⟩ := I.pin (a, oe) (List.mem_append_left _ List.mem_cons_self)
  obtain ⟨vs, hv⟩ := hf
  obtain ⟨mA, hns, _⟩ := (show ObjOk X.prog X.w H s.heap d (.xd fs) from I.hok d _ hd)
  obtain ⟨od, ho, _⟩ := lookIn_ns hns
  exact ⟨od, hget, hz.1, by unfold PySem.W.notCls; rw [hv] <;> rfl, by rw [hz.2]; exact ho⟩
/-- isinstance(e, c) -/
def rIsX (K : PySem.W.Frag) (D a : Addr) (cls : Value) (d : Option Addr) : List V → Hp → VK → Prop := fun xs H Q => ∃ (c : V) (u : Value) (b : Bool) (dd : Addr) (fs : List (Str × V)), xs = [.ref a, c] ∧ cls = .ref D ∧ d = some dd ∧ ClsV c u ∧ H dd = some (.xd fs) ∧ PySem.W.kitOne K (.ref D) u = some b ∧ Q (.bl b) H
theorem call_isX {cls : Value} {d : Option Addr} (c : ExcC X.K D) (hz : Zc cls d oe) (hf : ∃ vs, oe.data = .fields vs) : CallR (X.suite a ((a, oe) :: pn)) (.builtin "isinstance") (rIsX X.K D a cls d) := by
  intro pins s σ H xs us Q I r h
  obtain ⟨cv, u, b, dd, fs, rfl, rfl, rfl, k, hd, e, q⟩ := h
  obtain ⟨u1, u2, rfl, r1, r2⟩ := vals2 r
  obtain rfl : u1 = Value.ref a := r1
  have e2 := k.eq r2
  subst e2
  obtain ⟨od, J⟩ := inst_exc I hz hf hd
  exact PySem.W.kia_one (kitx_exc c) I.kIn J e (fun z => nomatch z) fun tk => ⟨.bl b, H, I.tok tk, rfl, q⟩
/-- isinstance(e, (c1, c2, ..)) -/
def rIsXT (K : PySem.W.Frag) (D a : Addr) (cls : Value) (d : Option Addr) : List V → Hp → VK → Prop := fun xs H Q => ∃ (tp : Addr) (cs : List V) (us : List Value) (b : Bool) (dd : Addr) (fs : List (Str × V)), xs = [.ref a, .ref tp] ∧ cls = .ref D ∧ d = some dd ∧
  H tp = some (.tup cs) ∧ Paired ClsV cs us ∧ H dd = some (.xd fs) ∧ PySem.W.kitAny K (.ref D) us = some b ∧ Q (.bl b) H
theorem call_isXT {cls : Value} {d : Option Addr} (c : ExcC X.K D) (hz : Zc cls d oe) (hf : ∃ vs, oe.data = .fields vs) : CallR (X.suite a ((a, oe) :: pn)) (.builtin "isinstance") (rIsXT X.K D a cls d) := by
  intro pins s σ H xs us Q I r h
  obtain ⟨tp, cs, ws, b, dd, fs, rfl, rfl, rfl, hT, k, hd, e, q⟩ := h
  obtain ⟨u1, u2, rfl, r1, r2⟩ := vals2 r
  obtain rfl : u1 = Value.ref a := r1
  obtain rfl : u2 = Value.ref tp := r2
  obtain ⟨od, J⟩ := inst_exc I hz hf hd
  obtain ⟨_, its, rv, o, h1, h2, n, h3⟩ := (show ObjOk X.prog X.w H s.heap tp (.tup cs) from I.hok tp _ hT)
  have e3 := ClsV.all k rv
  subst e3
  obtain ⟨oc, odd, dt, sl⟩ := o
  simp only at h2 h3
  subst h2 h3
  exact PySem.W.kia_tup (kitx_exc c) I.kIn J h1 e (fun z => nomatch z) fun tk => ⟨.bl b, H, I.tok tk, rfl, q⟩
end
section
variable {X : Cx}
/-- repr of any data, also while an error is handled -/
theorem call_reprH (hg : X.A.guards = some []) (hu : X.A.units + 64 < cLine) (hs : SysOk X.K) : CallR X (.builtin "repr") (rReprQ X.K) := by
  intro pins s σ H xs us Q I r h
  obtain ⟨v, d, rfl, hd, hsh, hdep, hz, q⟩ := h
  obtain ⟨u, rfl, ru⟩ := vals1 r
  obtain ⟨as, rd, na⟩ := Dq.reads hs I hd u ru
  have viaRef : ∀ {a : Addr}, u = Value.ref a → wpAny (model X.prog X.w) X.A (call (.builtin "repr") [u]) (EP X pins σ Q) X.xe s := fun {a} e => by
    subst e
    exact repr_of_reads' rd hsh (fun _ => na) hg (by omega) (fun _ _ e => e) (fun h' u tk hk => ⟨.str _, H, I.kept hk, ⟨u, rfl⟩, q⟩) hz
  cases hd with
  | non =>
    cases ru
    exact PySem.P.repr_of_none ⟨.str _, H, I.tok _, ⟨_, rfl⟩, by simpa only [PyData.shown] using q⟩
  | bl b =>
    cases ru
    exact PySem.P.repr_of_bool ⟨.str _, H, I.tok _, ⟨_, rfl⟩, by simpa only [PyData.shown] using q⟩
  | int i =>
    obtain ⟨t, rfl⟩ := ru
    exact PySem.P.repr_of_int (by simpa [PyData.showable] using hsh) ⟨.str _, H, I.tok _, ⟨_, rfl⟩, by simpa only [PyData.shown] using q⟩
  | str x =>
    obtain ⟨t, rfl⟩ := ru
    exact PySem.P.repr_of_str ⟨.str _, H, I.tok _, ⟨_, rfl⟩, by simpa only [PyData.shown] using q⟩ (by simpa only [PyData.shown] using hz)
  | lst hq ha => exact viaRef ru
  | tup hq ha => exact viaRef ru
  | dct hq h1 h2 => exact viaRef ru
end
end Ex

set_option Elab.async false
set_option linter.all false
set_option maxRecDepth 100000
set_option maxHeartbeats 4000000
/-! Own layer: len(o) by an own __len__; what repr shows, within bounds; both law-free. -/
namespace Ex
open PySem PySem.Spec PySem.Calls PyProof.Rows L2 Gu
section
variable {X : Cx} {k j : Nat} {c : Str} {ps : List Str} {sp : Sp}
/-- len(o) by the class's own __len__ -/
def rLenO (C : Addr) (sp : Sp) : List V → Hp → VK → Prop := fun xs H Q => ∃ (a dx : Addr) (fs : List (Str × V)), xs = [.ref a] ∧ H a = some (.ins C dx fs) ∧ sp [.ref a] H (fun v H' => ∃ n : Nat, v = .int n ∧ n ≤ sizeLine ∧ Q (.int n) H') E0
theorem call_lenO (D : Mf X.prog X.w X.K X.mg X.base k c "__len__" ps sp) (hr : Room j X.A) (hj : k + 1 ≤ j := by decide) : CallR X (.builtin "len") (rLenO (He.ga X.K c) sp) := by
  intro pins s σ H xs us Q I r h
  obtain ⟨a, dx, fs, rfl, ha, hq⟩ := h
  obtain ⟨u, rfl, ru⟩ := vals1 r
  obtain rfl : u = Value.ref a := ru
  obtain ⟨fd, F, b⟩ := D.ex
  obtain ⟨mA, J, _⟩ := ins_get I.hok ha
  obtain ⟨od, J, _⟩ := J.look
  have rm : Room k X.A.in1 := (hr.mono hj).in1
  refine Calls.call_function_entry kind_len plain_len entry_len (args_len1 _) ?_
  unfold Builtin.«len»
  refine wpAny_bind (m := oneArg "len" _) (wpAny_pure ?_)
  refine wpAny_bind (m := callSpecial? (.ref a) (Str.ofString "__len__")) (PySem.W.special_fn (name := Str.ofString "__len__") (args := []) I.kIn J D.me.at_ (beq_iff_eq.mp D.me.fn) ?_)
  have e0 : Env0 X.prog X.w X.K X.mg X.base X.A.in1 X.stack s H := by
    have e := I.env0
    exact ⟨e.frames, e.mod, e.bs, e.bsz, e.funs, e.frf, e.hok, e.bare⟩
  have hl := F.len _ _ _ _ hq
  refine wpAny_call (codeAny_mono (F.run X.A.in1 X.stack s H ⟨[.ref a], []⟩ [.ref a] [.ref a] _ E0 rm e0 (by
    have := b s [.ref a] I.kIn (by simpa using hl)
    simpa using this) (.cons rfl .nil) hq) fun r s' hq' => ?_)
  match r, hq' with
  | .ok (.ret u), hq' =>
    obtain ⟨v, H', I', rv, n, rfl, hn, q⟩ := I.after hq'
    obtain ⟨t, rfl⟩ := rv
    have hs : sizeLine = 16777216 := sizeLine_eq
    refine wpAny_bind (wpAny_holding (wpAny_pure ?_))
    refine wpAny_bind (wpAny_letGo ?_)
    show wpAny _ _ (if ((n : Nat) : Int) < 0 then _ else _) _ _ _
    rw [if_neg (by omega)]
    show wpAny _ _ (if ((n : Nat) : Int) ≥ 2 ^ 63 then _ else _) _ _ _
    rw [if_neg (by omega)]
    exact wpAny_bind (wpAny_mkInt (wpAny_pure ⟨_, rfl, ⟨.int n, H', I'.tok _, ⟨_, rfl⟩, q⟩⟩))
end
theorem seqT {K : PySem.W.Frag} {H H' : Hp} {a : Addr} {xs : List V} (e : Same H H') (h : SqT K H a xs) : SqT K H' a xs := by
  rcases h with (h | ⟨o, h⟩) | h
  · exact .inl (.inl (e _ _ h))
  · exact .inl (.inr ⟨o, e _ _ h⟩)
  · exact .inr h
mutual
theorem dq_same {K : PySem.W.Frag} {H H' : Hp} (e : Same H H') : ∀ {v : V} {d : PyData}, Dq K H v d → Dq K H' v d
  | _, _, .non => .non
  | _, _, .bl b => .bl b
  | _, _, .int i => .int i
  | _, _, .str x => .str x
  | _, _, .lst hq ha => .lst (e.seq hq) (dqAll_same e ha)
  | _, _, .tup hq ha => .tup (seqT e hq) (dqAll_same e ha)
  | _, _, .dct hq h1 h2 => .dct (e _ _ hq) (dqAll_same e h1) (dqAll_same e h2)
theorem dqAll_same {K : PySem.W.Frag} {H H' : Hp} (e : Same H H') : ∀ {vs : List V} {ds : List PyData}, DqAll K H vs ds → DqAll K H' vs ds
  | _, _, .nil => .nil
  | _, _, .cons h1 h2 => .cons (dq_same e h1) (dqAll_same e h2)
end
/-- a value as repr shows it: nested at most n deep, at most m signs -/
structure Tq (K : PySem.W.Frag) (H : Hp) (v : V) (d : PyData) (n m : Nat) : Prop where
  dq : Dq K H v d
  sh : d.showable = true
  dp : d.depth ≤ n
  ln : d.shown.length ≤ m
structure TqAll (K : PySem.W.Frag) (H : Hp) (xs : List V) (ds : List PyData) (n m : Nat) : Prop where
  dq : DqAll K H xs ds
  sh : PyData.showableAll ds = true
  dp : PyData.depthAll ds ≤ n
  ln : ((PyData.shownAll ds).map (·.length)).sum + 2 * (PyData.shownAll ds).length ≤ xs.length * (m + 2)
section
variable {K : PySem.W.Frag} {H H' : Hp} {n m : Nat}
theorem Tq.same {v : V} {d : PyData} (t : Tq K H v d n m) (e : Same H H') : Tq K H' v d n m := ⟨dq_same e t.dq, t.sh, t.dp, t.ln⟩
theorem Tq.mono {v : V} {d : PyData} {n' m' : Nat} (t : Tq K H v d n m) (h1 : n ≤ n') (h2 : m ≤ m') : Tq K H v d n' m' := ⟨t.dq, t.sh, Nat.le_trans t.dp h1, Nat.le_trans t.ln h2⟩
theorem TqAll.same {xs : List V} {ds : List PyData} (t : TqAll K H xs ds n m) (e : Same H H') : TqAll K H' xs ds n m := ⟨dqAll_same e t.dq, t.sh, t.dp, t.ln⟩
theorem tq_all : ∀ {xs : List V}, (∀ v ∈ xs, ∃ d, Tq K H v d n m) → ∃ ds, TqAll K H xs ds n m
  | [], _ => ⟨[], .nil, rfl, Nat.zero_le _, Nat.zero_le _⟩
  | v :: xs, h => by
    obtain ⟨d, t⟩ := h v List.mem_cons_self
    obtain ⟨ds, a, b, c, e⟩ := tq_all (xs := xs) fun u hu => h u (List.mem_cons_of_mem _ hu)
    refine ⟨d :: ds, .cons t.dq a, ?_, ?_, ?_⟩
    · show (d.showable && PyData.showableAll ds) = true
      rw [t.sh, b]
      rfl
    · show max d.depth (PyData.depthAll ds) ≤ n
      have := t.dp
      omega
    · show (d.shown.length + ((PyData.shownAll ds).map (·.length)).sum) + 2 * ((PyData.shownAll ds).length + 1) ≤ (xs.length + 1) * (m + 2)
      have := t.ln
      rw [Nat.add_mul, Nat.one_mul]
      omega
theorem TqAll.lst {a : Addr} {xs : List V} {ds : List PyData} (t : TqAll K H xs ds n m) (h : H a = some (.lst xs)) : Tq K H (.ref a) (.list ds) (n + 1) (xs.length * (m + 2) + 3) := by
  refine ⟨.lst (SqL.of h) t.dq, t.sh, ?_, ?_⟩
  · show PyData.depthAll ds + 1 ≤ n + 1
    have := t.dp
    omega
  · have e := listText_len_le (PyData.shownAll ds)
    show (listText (PyData.shownAll ds)).length ≤ _
    have := t.ln
    omega
theorem TqAll.tup {a : Addr} {xs : List V} {ds : List PyData} (t : TqAll K H xs ds n m) (h : H a = some (.tup xs)) : Tq K H (.ref a) (.tuple ds) (n + 1) (xs.length * (m + 2) + 3) := by
  refine ⟨.tup (SqT.of h) t.dq, t.sh, ?_, ?_⟩
  · show PyData.depthAll ds + 1 ≤ n + 1
    have := t.dp
    omega
  · have e := tupleText_len_le (PyData.shownAll ds)
    show (tupleText (PyData.shownAll ds)).length ≤ _
    have := t.ln
    omega
theorem tq_non : Tq K H .non .none 0 41 := ⟨.non, rfl, Nat.le_refl _, by decide +kernel⟩
theorem tq_bl (b : Bool) : Tq K H (.bl b) (.bool b) 0 41 := ⟨.bl b, rfl, Nat.le_refl _, by cases b <;> decide +kernel⟩
theorem tq_int {i : Int} (h1 : -(10 ^ 39) ≤ i) (h2 : i ≤ 10 ^ 39) : Tq K H (.int i) (.int i) 0 41 := by
  have b39 : (10 : Int) ^ 39 = 1000000000000000000000000000000000000000 := by decide
  have e : i.natAbs < 10 ^ 40 := by
    have z : (10 : Nat) ^ 40 = 10000000000000000000000000000000000000000 := by decide
    omega
  have a : i.natAbs.log2 < 1920 := Nat.lt_of_lt_of_le (PySem.Flt.log2_lt_of (k := 200) (by decide) (Nat.lt_trans e (by decide))) (by decide)
  refine ⟨.int i, decide_eq_true a, Nat.le_refl _, ?_⟩
  have z := int_text_length_le10 (k := 40) (by decide) e
  show (Str.ofString (toString i)).length ≤ 41
  rw [PySem.ofString_length]
  exact z
theorem tq_text (z : String) (h : (reprText (Str.ofString z)).length ≤ 41) : Tq K H (.str (Str.ofString z)) (.str (Str.ofString z)) 0 41 := ⟨.str _, rfl, Nat.le_refl _, h⟩
theorem tq_dct {a : Addr} (h : H a = some (.dK [])) : Tq K H (.ref a) (.dict []) 1 41 := ⟨.dct h .nil .nil, rfl, by decide, by decide +kernel⟩
end
theorem code_lt {z : String} {c : Nat} (hc : c ∈ (Str.ofString z).cps.toList) : c < 1114112 := by
  have hc2 : c ∈ z.toList.map Char.toNat := by
    rw [← cpsOfBytes_string]
    simpa [Str.ofString] using hc
  obtain ⟨ch, _, rfl⟩ := List.mem_map.mp hc2
  have v : ch.val.toNat < 55296 ∨ (57343 < ch.val.toNat ∧ ch.val.toNat < 1114112) := ch.valid
  show ch.val.toNat < 1114112
  omega
/-- repr of such a value -/
theorem repr_tq {K : PySem.W.Frag} {H : Hp} {v : V} {d : PyData} {n m : Nat} {Q : VK} (t : Tq K H v d n m) (q : Q (.str d.shown) H) (hn : n ≤ 60 := by decide) (hm : m ≤ sizeLine := by decide) : rReprQ K [v] H Q :=
  ⟨v, d, rfl, t.dq, t.sh, Nat.le_trans t.dp hn, Nat.le_trans t.ln hm, q⟩
end Ex

set_option Elab.async false
set_option linter.all false
set_option maxRecDepth 100000
set_option maxHeartbeats 4000000
namespace K16
open PySem PySem.Spec PyProof.Rows L2 Gu Ex
def top (i : Nat) : Stmt := PySem.Challenge.pw_exactroom_k16_whole_maximal_runs.main.body.getD i (.Pass ⟨0, 0, 0, 0⟩)
abbrev FnP (K : PySem.W.Frag) (x qual : Str) (st : Stmt) (f : Addr) (fd : FuncData) : Prop := FunD K x qual (defArgs st) (defBody st) (defScope st) [] [] f fd
/-- what the top has left -/
structure Tx (K : PySem.W.Frag) (mg : Str → Option Value) : Prop where
  n_len : mg "len" = none
  n_isinstance : mg "isinstance" = none
  n_int : mg "int" = none
  n_bool : mg "bool" = none
  n_list : mg "list" = none
  n_range : mg "range" = none
  n_divmod : mg "divmod" = none
  n_abs : mg "abs" = none
  n_max : mg "max" = none
  n_min : mg "min" = none
  n_enumerate : mg "enumerate" = none
  n_all : mg "all" = none
  n_repr : mg "repr" = none
  g_Sizes : mg "Sizes" = some (.ref (He.ga K "Sizes"))
  cl : Cls K (He.ga K "Sizes")
  nSL : NoAttr K (He.ga K "Sizes") "size_list"
  rd : ClX.CRead K (He.ga K "Sizes") (.type "type")
  cS : ∃ u, ClX.CVal K (He.ga K "Sizes") (.type "type") "MAX_SIZE" (.int 1000000000) u
  cN : ∃ u, ClX.CVal K (He.ga K "Sizes") (.type "type") "MAX_SIZES" (.int 8) u
  sys : SysOk K
/-- a list of sizes -/
structure Good (ns : List Int) : Prop where
  len : 1 ≤ ns.length ∧ ns.length ≤ 8
  one : ns[0]? = some 1
  rng : ∀ (i : Nat) x, ns[i]? = some x → 1 ≤ x ∧ x ≤ 1000000000
  up : ∀ (i : Nat) x y, ns[i]? = some x → ns[i + 1]? = some y → x < y ∧ y % x = 0
section
variable {P : Program} {w : World} {K : PySem.W.Frag} {mg : Str → Option Value} {base : Heap} {f : Addr} {fd : FuncData}
theorem bT {c : Prop} [Decidable c] (h : c) : V.bl (decide c) = V.bl true := congrArg V.bl (decide_eq_true h)
theorem bF {c : Prop} [Decidable c] (h : ¬ c) : V.bl (decide c) = V.bl false := congrArg V.bl (decide_eq_false h)
theorem ifT {c : Bool} {A B : Prop} (h : c = true) (x : A) : if c = true then A else B := by rw [h]; exact iteT x
theorem ifF {c : Bool} {A B : Prop} (h : c = false) (x : B) : if c = true then A else B := by rw [h]; exact iteF x
theorem vT {a b : Int} (h : a = b) : decide (V.int a = V.int b) = true := decide_eq_true (by rw [h])
theorem vF {a b : Int} (h : a ≠ b) : decide (V.int a = V.int b) = false := decide_eq_false fun z => h (V.int.inj z)
def spInt : Sp := fun vs H Q _ => ∃ i : Int, vs = [.int i] ∧ Q (.bl true) H
theorem sc_is_integer : FnScope ["value"] ["value"] (defScope (top 7)) := ⟨rfl, rfl, rfl, by decide +kernel, rfl, by decide +kernel, by decide +kernel⟩
theorem ok_is_integer (T : Tx K mg) (F : FnP K "is_integer" "is_integer" (top 7) f fd) : FnOk P w K mg base CX0 1 f fd ["value"] spInt := by
  refine F.ok sc_is_integer (fun vs H Q E h => ?_) (fun cdv A outer s H vs Q E hr h => ⟨_, PSs.nox (pss_one (ps_ret (pe_and (pe_callB call_isi (by rfl) T.n_isinstance (by decide +kernel) (pa_cons (pv 0) (pa_cons (pe_bltn (v := .ty "int") (by rfl) T.n_int (by decide +kernel) rfl) pa_nil))) (pe_one (pe_not (pe_callB call_isi (by rfl) T.n_isinstance (by decide +kernel) (pa_cons (pv 0) (pa_cons (pe_bltn (v := .ty "bool") (by rfl) T.n_bool (by decide +kernel) rfl) pa_nil)))))))), ?_⟩)
  · obtain ⟨i, rfl, _⟩ := h
    rfl
  · obtain ⟨i, rfl, q⟩ := h
    refine ⟨_, rfl, _, _, _, _, true, rfl, .ty "int", .base (.int i), kit_ty (by decide +kernel), _, rfl, iteT ?_⟩
    exact ⟨_, rfl, _, _, _, _, false, rfl, .ty "bool", .base (.int i), kit_ty (by decide +kernel), _, rfl, q⟩
/-- a good list at a, a place in it -/
def spProblem (K : PySem.W.Frag) : Sp := fun vs H Q _ => ∃ (a : Addr) (ns : List Int) (p : Nat), vs = [.ref a, .int p] ∧ SqL K H a (ns.map V.int) ∧ Good ns ∧ p < ns.length ∧ Q .non H
theorem at_map {ns : List Int} {p : Nat} {x : Int} (h : ns[p]? = some x) : atI (ns.map V.int) (p : Int) = some (.int x) := atI_nat (by rw [List.getElem?_map, h]; rfl)
theorem sc_size_problem : FnScope ["values", "position", "size", "before"] ["values", "position"] (defScope (top 8)) := ⟨rfl, rfl, rfl, by decide +kernel, rfl, by decide +kernel, by decide +kernel⟩
theorem ok_size_problem (T : Tx K mg) (D_is_integer : Df P w K mg base 1 "is_integer" ["value"] spInt) (F : FnP K "size_problem" "size_problem" (top 8) f fd) :
    FnOk P w K mg base CX0 2 f fd ["values", "position"] (spProblem K) := by
  refine F.ok sc_size_problem (fun vs H Q E h => ?_) (fun cdv A outer s H vs Q E hr h => ⟨_, PSs.nox (pss_cons (ps_set (i := 2) sc_size_problem.nd rfl (by first | exact Or.inl rfl | exact Or.inr rfl) (pe_ix ix_list (pv 0) (pv 1) (fun _ _ => rfl))) (pss_cons (ps_if (PW.pt (pw_or (pt_not (pt_val (pcall D_is_integer hr (pa_cons (pv 2) pa_nil)))) (pw_or1 (pt_not (pt_chain op_le op_le pe_int (pv 2) (ClX.pe_cval (pe_glob (v := .ref _) rfl T.g_Sizes rfl))))))) (pss_one (ps_ret pe_str)) pss_nil) (pss_cons (ps_if (pt_cmpR op_eq (pv 1) pe_int (nomark _)) (pss_one (ps_ret (pe_ifExp (pt_cmpR op_eq (pv 2) pe_int (nomark _)) pe_non pe_str))) pss_nil) (pss_cons (ps_set (i := 3) sc_size_problem.nd rfl (by first | exact Or.inl rfl | exact Or.inr rfl) (pe_ix ix_list (pv 0) (pe_op op_sub (pv 1) pe_int) (fun _ _ => rfl))) (pss_cons (ps_if (PW.pt (pw_or (pt_cmpR op_le (pv 2) (pv 3) (nomark _)) (pw_or1 (pt_cmpR op_ne (pe_op op_mod (pv 2) (pv 3)) pe_int (nomark _))))) (pss_one (ps_ret pe_str)) pss_nil) (pss_one (ps_ret pe_non))))))), ?_⟩)
  · obtain ⟨a, ns, p, rfl, _⟩ := h
    rfl
  · obtain ⟨a, ns, p, rfl, hS, g, hp, q⟩ := h
    have hx : ns[p]? = some ns[p] := List.getElem?_eq_getElem hp
    obtain ⟨b1, b2⟩ := g.rng p _ hx
    obtain ⟨u, cS⟩ := T.cS
    refine ⟨_, rfl, _, rfl, a, _, _, _, rfl, rfl, hS, at_map hx, ?_⟩
    refine ⟨_, rfl, _, rfl, true, rfl, iteF ?_⟩
    refine ⟨_, rfl, _, _, rfl, rfl, true, bT b1, iteT ?_⟩
    refine ⟨_, _, _, _, rfl, T.rd, cS, _, _, rfl, rfl, true, bT b2, iteF ?_⟩
    by_cases h0 : p = 0
    · subst h0
      have e1 : ns[0] = 1 := Option.some.inj (hx.symm.trans g.one)
      exact ⟨_, rfl, rfl, _, rfl, ifT (vT rfl) ⟨_, rfl, rfl, _, rfl, ifT (vT e1) q⟩⟩
    · refine ⟨_, rfl, rfl, _, rfl, ifF (vF (by omega)) ?_⟩
      have hp1 : p - 1 < ns.length := by omega
      have hy : ns[p - 1]? = some ns[p - 1] := List.getElem?_eq_getElem hp1
      have hx2 : ns[p - 1 + 1]? = some ns[p] := by rw [show p - 1 + 1 = p by omega]; exact hx
      obtain ⟨u1, u2⟩ := g.up (p - 1) _ _ hy hx2
      have u3 := (g.rng _ _ hy).1
      refine ⟨_, rfl, _, rfl, _, _, rfl, rfl, a, _, _, _, rfl, rfl, hS, (by rw [show ((p : Int) - 1) = ((p - 1 : Nat) : Int) by omega]; exact at_map hy), ?_⟩
      refine ⟨_, rfl, _, rfl, _, _, rfl, rfl, false, bF (by omega), iteF ?_⟩
      refine ⟨_, rfl, _, rfl, _, _, rfl, rfl, (by show (0 : Int) < _; omega), rfl, false, ?_, iteF q⟩
      exact congrArg V.bl (by rw [vT u2]; rfl)
/-- a good list -/
def spCheck (K : PySem.W.Frag) : Sp := fun vs H Q _ => ∃ (a : Addr) (ns : List Int), vs = [.ref a] ∧ SqL K H a (ns.map V.int) ∧ TyX K H (.ref a) (.type "list") ∧ Good ns ∧ Q .non H
theorem sc_check_sizes : FnScope ["values", "position", "problem"] ["values"] (defScope (top 9)) := ⟨rfl, rfl, rfl, by decide +kernel, rfl, by decide +kernel, by decide +kernel⟩
theorem ok_check_sizes (T : Tx K mg) (D_size_problem : Df P w K mg base 2 "size_problem" ["values", "position"] (spProblem K)) (F : FnP K "check_sizes" "check_sizes" (top 9) f fd) :
    FnOk P w K mg base CX0 3 f fd ["values"] (spCheck K) := by
  refine F.ok sc_check_sizes (fun vs H Q E h => ?_) (fun cdv A outer s H vs Q E hr h => ⟨_, PSs.nox (pss_cons (ps_if (pt_not (pt_val (pe_callB call_isi (by rfl) T.n_isinstance (by decide +kernel) (pa_cons (pv 0) (pa_cons (pe_bltn (v := .ty "list") (by rfl) T.n_list (by decide +kernel) rfl) pa_nil))))) (pss_one ps_never) pss_nil) (pss_cons (ps_for PassesOwn.never rfl (pi_range1 rfl T.n_range (pa_cons (pe_callB call_len_seq (by rfl) T.n_len (by decide +kernel) (pa_cons (pv 0) pa_nil)) pa_nil)) (pg_name (i := 1) sc_check_sizes.nd rfl (by first | exact Or.inl rfl | exact Or.inr rfl)) (pss_cons (ps_set (i := 2) sc_check_sizes.nd rfl (by first | exact Or.inl rfl | exact Or.inr rfl) (pcall D_size_problem hr (pa_cons (pv 0) (pa_cons (pv 1) pa_nil)))) (pss_one (ps_if (pt_cmpR op_notN (pv 2) pe_non (nomark _)) (pss_one ps_never) pss_nil)))) (pss_one (ps_if (pt_not (pt_chain op_le op_le pe_int (pe_callB call_len_seq (by rfl) T.n_len (by decide +kernel) (pa_cons (pv 0) pa_nil)) (ClX.pe_cval (pe_glob (v := .ref _) rfl T.g_Sizes rfl)))) (pss_one ps_never) pss_nil)))), ?_⟩)
  · obtain ⟨a, ns, rfl, _⟩ := h
    rfl
  · obtain ⟨a, ns, rfl, hS, ty, g, q⟩ := h
    obtain ⟨u, cN⟩ := T.cN
    obtain ⟨l1, l2⟩ := g.len
    refine ⟨_, rfl, _, _, _, _, true, rfl, .ty "list", ty, kit_ty (by decide +kernel), true, rfl, iteF ?_⟩
    refine ⟨_, rfl, a, _, rfl, .inl hS, _, rfl, (by simp only [List.length_map]; omega), (by simp only [List.length_map]; omega), ?_⟩
    refine for_range (fun i σ H' => H' = H ∧ ∃ x y, σ = [some (.ref a), x, y]) ⟨rfl, none, none, rfl⟩ ?_ ?_
    · rintro i σ H' hi ⟨rfl, x, y, rfl⟩
      have hi2 : i < ns.length := by simpa using hi
      refine ⟨_, rfl, _, rfl, a, ns, i, (by rw [Int.zero_add]; rfl), hS, g, hi2, ?_⟩
      exact ⟨_, rfl, rfl, false, rfl, iteF ⟨rfl, _, _, rfl⟩⟩
    · rintro σ H' ⟨rfl, x, y, rfl⟩
      refine ⟨_, rfl, a, _, rfl, .inl hS, _, _, rfl, rfl, true, bT (by simp only [List.length_map]; omega), iteT ?_⟩
      exact ⟨_, _, _, _, rfl, T.rd, cN, _, _, rfl, rfl, true, bT (by simp only [List.length_map]; omega), iteF q⟩
end
end K16

set_option Elab.async false
set_option linter.all false
set_option maxRecDepth 100000
set_option maxHeartbeats 4000000
namespace K16
open PySem PySem.Spec PyProof.Rows L2 Gu Ex
def szF (l : Addr) : List (Str × V) := [("size_list", V.ref l)]
theorem szF_get (l : Addr) : (szF l).lookup ("size_list" : Str) = some (.ref l) := by simp [szF, List.lookup]
theorem szF_no (l : Addr) {m : Str} (h : (m == ("size_list" : Str)) = false) : (szF l).lookup m = none := by simp [szF, List.lookup, h]
/-- at p an object of Sizes with the list ns -/
def SzAt (C : Addr) (H : Hp) (p : Addr) (ns : List Int) : Prop := ∃ dx l, H p = some (.ins C dx (szF l)) ∧ H l = some (.lst (ns.map V.int))
theorem putF_new (l : Addr) : putF "size_list" (V.ref l) [] = szF l := rfl
section
variable {P : Program} {w : World} {K : PySem.W.Frag} {mg : Str → Option Value} {base : Heap} {f : Addr} {fd : FuncData}
def spMade (K : PySem.W.Frag) : Sp := fun vs H Q _ => ∃ (x dx a : Addr) (ns : List Int), vs = [.ref x, .ref a] ∧ H x = some (.ins (He.ga K "Sizes") dx []) ∧ SqL K H a (ns.map V.int) ∧ TyX K H (.ref a) (.type "list") ∧ Good ns ∧
  ∀ l, H l = none → Q .non (upd (upd H l (.lst (ns.map V.int))) x (.ins (He.ga K "Sizes") dx (szF l)))
theorem sc___init__ : FnScope ["self", "values"] ["self", "values"] (defScope (inClass (top 10) 4)) := ⟨rfl, rfl, rfl, by decide +kernel, rfl, by decide +kernel, by decide +kernel⟩
theorem ok_init (T : Tx K mg) (D_check_sizes : Df P w K mg base 3 "check_sizes" ["values"] (spCheck K)) (F : FnP K "__init__" "Sizes.__init__" (inClass (top 10) 4) f fd) :
    FnOk P w K mg base CX0 4 f fd ["self", "values"] (spMade K) := by
  refine F.ok sc___init__ (fun vs H Q E h => ?_) (fun cdv A outer s H vs Q E hr h => ⟨_, PSs.nox (pss_cons (ps_expr (pcall D_check_sizes hr (pa_cons (pv 1) pa_nil))) (pss_one (ps_fld (pv 0) (pe_callTy call_list_of (by rfl) T.n_list (by decide +kernel) (pa_cons (pv 1) pa_nil)) rfl))), ?_⟩)
  · obtain ⟨x, dx, a, ns, rfl, _⟩ := h
    rfl
  · obtain ⟨x, dx, a, ns, rfl, hx, hS, ty, g, q⟩ := h
    refine ⟨_, rfl, a, ns, rfl, hS, ty, g, ?_⟩
    refine ⟨_, rfl, a, _, rfl, .inl hS, fun l hl => ?_⟩
    refine ⟨_, rfl, x, He.ga K "Sizes", dx, [], rfl, (by rw [upd_ne (ne_of_none hx hl)]; exact hx), T.cl, T.nSL, (by show 0 < 1000; decide), ?_⟩
    exact q l hl
def spTop (K : PySem.W.Frag) : Sp := fun vs H Q _ => ∃ (p : Addr) (ns : List Int), vs = [.ref p] ∧ SzAt (He.ga K "Sizes") H p ns ∧ Q (.int ((ns.length : Int) - 1)) H
theorem sc_top : FnScope ["self"] ["self"] (defScope (inClass (top 10) 10)) := ⟨rfl, rfl, rfl, by decide +kernel, rfl, by decide +kernel, by decide +kernel⟩
theorem ok_top (T : Tx K mg) (F : FnP K "top" "Sizes.top" (inClass (top 10) 10) f fd) : FnOk P w K mg base CX0 1 f fd ["self"] (spTop K) := by
  refine F.ok sc_top (fun vs H Q E h => ?_) (fun cdv A outer s H vs Q E hr h => ⟨_, PSs.nox (pss_one (ps_ret (pe_op op_sub (pe_callB call_len_seq (by rfl) T.n_len (by decide +kernel) (pa_cons (pe_fld (pv 0) rfl) pa_nil)) pe_int))), ?_⟩)
  · obtain ⟨p, ns, rfl, _⟩ := h
    rfl
  · obtain ⟨p, ns, rfl, ⟨dx, l, h1, h2⟩, q⟩ := h
    refine ⟨_, rfl, p, _, dx, _, _, rfl, h1, T.cl, T.nSL, szF_get l, l, _, rfl, .inl (SqL.of h2), _, _, rfl, rfl, ?_⟩
    rw [List.length_map]
    exact q
def spHas (K : PySem.W.Frag) : Sp := fun vs H Q _ => ∃ (p : Addr) (ns : List Int) (i : Nat), vs = [.ref p, .int i] ∧ SzAt (He.ga K "Sizes") H p ns ∧ i < ns.length ∧ Q (.bl true) H
theorem sc_has_level : FnScope ["self", "level"] ["self", "level"] (defScope (inClass (top 10) 12)) := ⟨rfl, rfl, rfl, by decide +kernel, rfl, by decide +kernel, by decide +kernel⟩
theorem ok_has (T : Tx K mg) (D_is_integer : Df P w K mg base 1 "is_integer" ["value"] spInt) (P_top : Pf P w K mg base 1 "Sizes" "top" (spTop K)) (F : FnP K "has_level" "Sizes.has_level" (inClass (top 10) 12) f fd) :
    FnOk P w K mg base CX0 3 f fd ["self", "level"] (spHas K) := by
  refine F.ok sc_has_level (fun vs H Q E h => ?_) (fun cdv A outer s H vs Q E hr h => ⟨_, PSs.nox (pss_one (ps_ret (pe_and (pcall D_is_integer hr (pa_cons (pv 1) pa_nil)) (pe_one (pe_chain op_le op_le pe_int (pv 1) (pprop P_top hr (pv 0))))))), ?_⟩)
  · obtain ⟨p, ns, i, rfl, _⟩ := h
    rfl
  · obtain ⟨p, ns, i, rfl, hz, hi, q⟩ := h
    obtain ⟨dx, l, h1, h2⟩ := id hz
    refine ⟨_, rfl, _, rfl, true, rfl, iteT ?_⟩
    refine ⟨_, rfl, _, _, rfl, rfl, true, bT (by omega), iteT ?_⟩
    refine ⟨_, rfl, p, dx, _, rfl, h1, p, ns, rfl, hz, _, _, rfl, rfl, ?_⟩
    have e : decide ((i : Int) ≤ (ns.length : Int) - 1) = true := decide_eq_true (by omega)
    show Q (.bl (decide ((i : Int) ≤ (ns.length : Int) - 1))) H
    rw [e]
    exact q
def spCheckL (K : PySem.W.Frag) : Sp := fun vs H Q _ => ∃ (p : Addr) (ns : List Int) (i : Nat), vs = [.ref p, .int i] ∧ SzAt (He.ga K "Sizes") H p ns ∧ i < ns.length ∧ Q .non H
theorem sc_check_level : FnScope ["self", "level"] ["self", "level"] (defScope (inClass (top 10) 13)) := ⟨rfl, rfl, rfl, by decide +kernel, rfl, by decide +kernel, by decide +kernel⟩
theorem ok_check_level (T : Tx K mg) (M_has_level : Mf P w K mg base 3 "Sizes" "has_level" ["self", "level"] (spHas K)) (F : FnP K "check_level" "Sizes.check_level" (inClass (top 10) 13) f fd) :
    FnOk P w K mg base CX0 4 f fd ["self", "level"] (spCheckL K) := by
  refine F.ok sc_check_level (fun vs H Q E h => ?_) (fun cdv A outer s H vs Q E hr h => ⟨_, PSs.nox (pss_one (ps_if (pt_not (pt_val (pmeth M_has_level hr (pv 0) (pa_cons (pv 1) pa_nil)))) (pss_one ps_never) pss_nil)), ?_⟩)
  · obtain ⟨p, ns, i, rfl, _⟩ := h
    rfl
  · obtain ⟨p, ns, i, rfl, hz, hi, q⟩ := h
    obtain ⟨dx, l, h1, h2⟩ := id hz
    exact ⟨_, rfl, p, dx, _, rfl, h1, szF_no l (by decide +kernel), _, rfl, p, ns, i, rfl, hz, hi, true, rfl, iteF q⟩
def spSize (K : PySem.W.Frag) : Sp := fun vs H Q _ => ∃ (p : Addr) (ns : List Int) (i : Nat) (x : Int), vs = [.ref p, .int i] ∧ SzAt (He.ga K "Sizes") H p ns ∧ ns[i]? = some x ∧ Q (.int x) H
theorem sc_size : FnScope ["self", "level"] ["self", "level"] (defScope (inClass (top 10) 14)) := ⟨rfl, rfl, rfl, by decide +kernel, rfl, by decide +kernel, by decide +kernel⟩
theorem ok_size (T : Tx K mg) (M_check_level : Mf P w K mg base 4 "Sizes" "check_level" ["self", "level"] (spCheckL K)) (F : FnP K "size" "Sizes.size" (inClass (top 10) 14) f fd) :
    FnOk P w K mg base CX0 5 f fd ["self", "level"] (spSize K) := by
  refine F.ok sc_size (fun vs H Q E h => ?_) (fun cdv A outer s H vs Q E hr h => ⟨_, PSs.nox (pss_cons (ps_expr (pmeth M_check_level hr (pv 0) (pa_cons (pv 1) pa_nil))) (pss_one (ps_ret (pe_ix ix_list (pe_fld (pv 0) rfl) (pv 1) (fun _ _ => rfl))))), ?_⟩)
  · obtain ⟨p, ns, i, x, rfl, _⟩ := h
    rfl
  · obtain ⟨p, ns, i, x, rfl, hz, hx, q⟩ := h
    obtain ⟨dx, l, h1, h2⟩ := id hz
    refine ⟨_, rfl, p, dx, _, rfl, h1, szF_no l (by decide +kernel), _, rfl, p, ns, i, rfl, hz, (List.getElem?_eq_some_iff.mp hx).1, ?_⟩
    exact ⟨_, rfl, p, _, dx, _, _, rfl, h1, T.cl, T.nSL, szF_get l, _, rfl, l, _, _, _, rfl, rfl, SqL.of h2, at_map hx, q⟩
def spAll (K : PySem.W.Frag) : Sp := fun vs H Q _ => ∃ (p : Addr) (ns : List Int), vs = [.ref p] ∧ SzAt (He.ga K "Sizes") H p ns ∧ ∀ l, H l = none → Q (.ref l) (upd H l (.lst (ns.map V.int)))
theorem sc_all_sizes : FnScope ["self"] ["self"] (defScope (inClass (top 10) 11)) := ⟨rfl, rfl, rfl, by decide +kernel, rfl, by decide +kernel, by decide +kernel⟩
theorem ok_all (T : Tx K mg) (F : FnP K "all_sizes" "Sizes.all_sizes" (inClass (top 10) 11) f fd) : FnOk P w K mg base CX0 1 f fd ["self"] (spAll K) := by
  refine F.ok sc_all_sizes (fun vs H Q E h => ?_) (fun cdv A outer s H vs Q E hr h => ⟨_, PSs.nox (pss_one (ps_ret (pe_callTy call_list_of (by rfl) T.n_list (by decide +kernel) (pa_cons (pe_fld (pv 0) rfl) pa_nil)))), ?_⟩)
  · obtain ⟨p, ns, rfl, _⟩ := h
    rfl
  · obtain ⟨p, ns, rfl, ⟨dx, l, h1, h2⟩, q⟩ := h
    exact ⟨_, rfl, p, _, dx, _, _, rfl, h1, T.cl, T.nSL, szF_get l, l, _, rfl, .inl (SqL.of h2), q⟩
def spAddr : Sp := fun vs H Q _ => ∃ i : Int, vs = [.int i] ∧ 0 ≤ i ∧ Q (.bl true) H
theorem sc_is_address : FnScope ["value"] ["value"] (defScope (top 12)) := ⟨rfl, rfl, rfl, by decide +kernel, rfl, by decide +kernel, by decide +kernel⟩
theorem ok_is_address (T : Tx K mg) (D_is_integer : Df P w K mg base 1 "is_integer" ["value"] spInt) (F : FnP K "is_address" "is_address" (top 12) f fd) : FnOk P w K mg base CX0 2 f fd ["value"] spAddr := by
  refine F.ok sc_is_address (fun vs H Q E h => ?_) (fun cdv A outer s H vs Q E hr h => ⟨_, PSs.nox (pss_one (ps_ret (pe_and (pcall D_is_integer hr (pa_cons (pv 0) pa_nil)) (pe_one (pe_cmpR op_ge (pv 0) pe_int (nomark _)))))), ?_⟩)
  · obtain ⟨i, rfl, _⟩ := h
    rfl
  · obtain ⟨i, rfl, hi, q⟩ := h
    refine ⟨_, rfl, _, rfl, true, rfl, iteT ⟨_, rfl, _, _, rfl, rfl, ?_⟩⟩
    have e : decide ((0 : Int) ≤ i) = true := decide_eq_true hi
    show Q (.bl (decide ((0 : Int) ≤ i))) H
    rw [e]
    exact q
def spRange : Sp := fun vs H Q _ => ∃ a b : Int, vs = [.int a, .int b] ∧ 0 ≤ a ∧ a ≤ b ∧ Q .non H
theorem sc_check_range : FnScope ["low", "high"] ["low", "high"] (defScope (top 13)) := ⟨rfl, rfl, rfl, by decide +kernel, rfl, by decide +kernel, by decide +kernel⟩
theorem ok_check_range (T : Tx K mg) (D_is_integer : Df P w K mg base 1 "is_integer" ["value"] spInt) (D_is_address : Df P w K mg base 2 "is_address" ["value"] spAddr) (F : FnP K "check_range" "check_range" (top 13) f fd) :
    FnOk P w K mg base CX0 3 f fd ["low", "high"] spRange := by
  refine F.ok sc_check_range (fun vs H Q E h => ?_) (fun cdv A outer s H vs Q E hr h => ⟨_, PSs.nox (pss_cons (ps_if (pt_not (pt_val (pcall D_is_address hr (pa_cons (pv 0) pa_nil)))) (pss_one ps_never) pss_nil) (pss_one (ps_if (PW.pt (pw_or (pt_not (pt_val (pcall D_is_integer hr (pa_cons (pv 1) pa_nil)))) (pw_or1 (pt_cmpR op_lt (pv 1) (pv 0) (nomark _))))) (pss_one ps_never) pss_nil))), ?_⟩)
  · obtain ⟨a, b, rfl, _⟩ := h
    rfl
  · obtain ⟨a, b, rfl, ha, hb, q⟩ := h
    refine ⟨_, rfl, _, rfl, ha, true, rfl, iteF ?_⟩
    exact ⟨_, rfl, _, rfl, true, rfl, iteF ⟨_, rfl, _, rfl, _, _, rfl, rfl, false, bF (by omega), iteF q⟩⟩
/-- the least multiple of s from a on -/
def nextI (s a : Int) : Int := -(-a / s) * s
def spNext : Sp := fun vs H Q _ => ∃ s a : Int, vs = [.int s, .int a] ∧ 1 ≤ s ∧ s ≤ 1000000000 ∧ Q (.int (nextI s a)) H
theorem div_ok {i s : Int} (h1 : 1 ≤ s) (h2 : s ≤ 1000000000) : CDivW i s := wide_div (b := 64) (by omega) (by omega) (by decide) (by decide)
theorem sc_next_start : FnScope ["size", "address"] ["size", "address"] (defScope (top 14)) := ⟨rfl, rfl, rfl, by decide +kernel, rfl, by decide +kernel, by decide +kernel⟩
theorem ok_next_start (T : Tx K mg) (F : FnP K "next_start" "next_start" (top 14) f fd) : FnOk P w K mg base CX0 1 f fd ["size", "address"] spNext := by
  refine F.ok sc_next_start (fun vs H Q E h => ?_) (fun cdv A outer s H vs Q E hr h => ⟨_, PSs.nox (pss_one (ps_ret (pe_op op_mul (pe_un un_neg (pe_op op_fdivW (pe_un un_neg (pv 1)) (pv 0))) (pv 0)))), ?_⟩)
  · obtain ⟨s, a, rfl, _⟩ := h
    rfl
  · obtain ⟨s, a, rfl, h1, h2, q⟩ := h
    exact ⟨_, rfl, _, rfl, _, rfl, _, _, rfl, rfl, div_ok h1 h2, _, rfl, _, rfl, _, _, rfl, rfl, .inr ⟨by omega, by omega⟩, q⟩
def spStart (K : PySem.W.Frag) : Sp := fun vs H Q _ => ∃ (p : Addr) (ns : List Int) (i : Nat) (x a : Int), vs = [.ref p, .int i, .int a] ∧ SzAt (He.ga K "Sizes") H p ns ∧ ns[i]? = some x ∧ 1 ≤ x ∧ 0 ≤ a ∧ Q (.int (a - a % x)) H
theorem sc_region_start : FnScope ["sizes", "level", "address", "size"] ["sizes", "level", "address"] (defScope (top 16)) := ⟨rfl, rfl, rfl, by decide +kernel, rfl, by decide +kernel, by decide +kernel⟩
theorem ok_region_start (T : Tx K mg) (D_is_address : Df P w K mg base 2 "is_address" ["value"] spAddr) (M_size : Mf P w K mg base 5 "Sizes" "size" ["self", "level"] (spSize K)) (F : FnP K "region_start" "region_start" (top 16) f fd) :
    FnOk P w K mg base CX0 6 f fd ["sizes", "level", "address"] (spStart K) := by
  refine F.ok sc_region_start (fun vs H Q E h => ?_) (fun cdv A outer s H vs Q E hr h => ⟨_, PSs.nox (pss_cons (ps_set (i := 3) sc_region_start.nd rfl (by first | exact Or.inl rfl | exact Or.inr rfl) (pmeth M_size hr (pv 0) (pa_cons (pv 1) pa_nil))) (pss_cons (ps_if (pt_not (pt_val (pcall D_is_address hr (pa_cons (pv 2) pa_nil)))) (pss_one ps_never) pss_nil) (pss_one (ps_ret (pe_op op_sub (pv 2) (pe_op op_mod (pv 2) (pv 3))))))), ?_⟩)
  · obtain ⟨p, ns, i, x, a, rfl, _⟩ := h
    rfl
  · obtain ⟨p, ns, i, x, a, rfl, hz, hx, x1, ha, q⟩ := h
    obtain ⟨dx, l, h1, h2⟩ := id hz
    refine ⟨_, rfl, p, dx, _, rfl, h1, szF_no l (by decide +kernel), _, rfl, p, ns, i, x, rfl, hz, hx, ?_⟩
    refine ⟨_, rfl, _, rfl, ha, true, rfl, iteF ?_⟩
    exact ⟨_, rfl, _, rfl, _, rfl, _, _, rfl, rfl, (by show (0 : Int) < x; omega), _, _, rfl, rfl, q⟩
/-- what count_regions reckons -/
def cntI (s lo hi : Int) : Int := if ((hi - hi % s) - nextI s lo) / s > 0 then ((hi - hi % s) - nextI s lo) / s else 0
def spCount (K : PySem.W.Frag) : Sp := fun vs H Q _ => ∃ (p : Addr) (ns : List Int) (i : Nat) (x a b : Int), vs = [.ref p, .int i, .int a, .int b] ∧ SzAt (He.ga K "Sizes") H p ns ∧ ns[i]? = some x ∧ 1 ≤ x ∧ x ≤ 1000000000 ∧ 0 ≤ a ∧ a ≤ b ∧ Q (.int (cntI x a b)) H
theorem sc_count_regions : FnScope ["sizes", "level", "low", "high", "size"] ["sizes", "level", "low", "high"] (defScope (top 17)) := ⟨rfl, rfl, rfl, by decide +kernel, rfl, by decide +kernel, by decide +kernel⟩
theorem ok_count_regions (T : Tx K mg) (D_check_range : Df P w K mg base 3 "check_range" ["low", "high"] spRange) (D_region_start : Df P w K mg base 6 "region_start" ["sizes", "level", "address"] (spStart K))
    (D_next_start : Df P w K mg base 1 "next_start" ["size", "address"] spNext) (M_size : Mf P w K mg base 5 "Sizes" "size" ["self", "level"] (spSize K)) (F : FnP K "count_regions" "count_regions" (top 17) f fd) :
    FnOk P w K mg base CX0 7 f fd ["sizes", "level", "low", "high"] (spCount K) := by
  refine F.ok sc_count_regions (fun vs H Q E h => ?_) (fun cdv A outer s H vs Q E hr h => ⟨_, PSs.nox (pss_cons (ps_set (i := 4) sc_count_regions.nd rfl (by first | exact Or.inl rfl | exact Or.inr rfl) (pmeth M_size hr (pv 0) (pa_cons (pv 1) pa_nil))) (pss_cons (ps_expr (pcall D_check_range hr (pa_cons (pv 2) (pa_cons (pv 3) pa_nil)))) (pss_one (ps_ret (pe_callB (call_max2 rfl) (by rfl) T.n_max (by decide +kernel) (pa_cons pe_int (pa_cons (pe_op op_fdivW (pe_op op_sub (pcall D_region_start hr (pa_cons (pv 0) (pa_cons (pv 1) (pa_cons (pv 3) pa_nil)))) (pcall D_next_start hr (pa_cons (pv 4) (pa_cons (pv 2) pa_nil)))) (pv 4)) pa_nil))))))), ?_⟩)
  · obtain ⟨p, ns, i, x, a, b, rfl, _⟩ := h
    rfl
  · obtain ⟨p, ns, i, x, a, b, rfl, hz, hx, x1, x2, ha, hb, q⟩ := h
    obtain ⟨dx, l, h1, h2⟩ := id hz
    refine ⟨_, rfl, p, dx, _, rfl, h1, szF_no l (by decide +kernel), _, rfl, p, ns, i, x, rfl, hz, hx, ?_⟩
    refine ⟨_, rfl, _, rfl, a, b, rfl, ha, hb, ?_⟩
    refine ⟨_, rfl, _, rfl, _, rfl, p, ns, i, x, b, rfl, hz, hx, x1, by omega, _, rfl, _, rfl, x, a, rfl, x1, x2, _, _, rfl, rfl, _, rfl, _, _, rfl, rfl, div_ok x1 x2, _, _, rfl, ?_⟩
    exact q
end
end K16

set_option Elab.async false
set_option linter.all false
set_option maxRecDepth 100000
set_option maxHeartbeats 4000000
namespace K16
open PySem PySem.Spec PyProof.Rows L2 Gu Ex
/-- the drawing list at r -/
def Rng (H : Hp) (r : Addr) : Prop := ∃ a b : Int, H r = some (.lst [.int a, .int b]) ∧ 0 ≤ a ∧ 0 ≤ b ∧ b < 2147483587
/-- only the drawing list at r may have changed -/
def Stp (r : Addr) (H H' : Hp) : Prop := Rng H' r ∧ ∀ b o, b ≠ r → H b = some o → H' b = some o
theorem Stp.trans {r : Addr} {H H1 H2 : Hp} (a : Stp r H H1) (b : Stp r H1 H2) : Stp r H H2 := ⟨b.1, fun c o n e => b.2 c o n (a.2 c o n e)⟩
theorem Stp.refl {r : Addr} {H : Hp} (h : Rng H r) : Stp r H H := ⟨h, fun _ _ _ e => e⟩
/-- the ways of a choice come together: what holds of every value -/
theorem join {α : Type} {G : Prop} (Pc : α → Prop) {R : α → Prop} (h1 : (∀ c, Pc c → R c) → G) (h2 : ∀ c, Pc c → R c) : G := h1 h2
theorem Rng.ne {H : Hp} {r p : Addr} (h : Rng H r) (hp : H p = none) : r ≠ p := fun z => by
  obtain ⟨_, _, e, _⟩ := h
  rw [z, hp] at e
  cases e
theorem Stp.new {r p : Addr} {H H1 : Hp} {o : HO} (a : Stp r H H1) (hp : H1 p = none) : Stp r H (upd H1 p o) := by
  obtain ⟨⟨x, y, e, z⟩, k⟩ := a
  refine ⟨⟨x, y, ?_, z⟩, fun b u n e2 => ?_⟩
  · rw [upd_ne (ne_of_none e hp)]
    exact e
  · rw [upd_ne (ne_of_none (k b u n e2) hp)]
    exact k b u n e2
theorem Stp.free {r p : Addr} {H H1 : Hp} (a : Stp r H H1) (h : H1 p = none) : H p = none := by
  cases e : H p with
  | none => rfl
  | some o =>
    have n : p ≠ r := fun z => (a.1.ne h) z.symm
    rw [a.2 p o n e] at h
    cases h
section
variable {P : Program} {w : World} {K : PySem.W.Frag} {mg : Str → Option Value} {base : Heap} {f : Addr} {fd : FuncData}
def spRng (K : PySem.W.Frag) : Sp := fun vs H Q _ => ∃ (a : Addr) (ns : List Int) (k : Nat), vs = [.ref a, .int k] ∧ SqL K H a (ns.map V.int) ∧ k ≤ 63 ∧ ∀ p H', H p = none → Same H H' → Rng H' p → Q (.ref p) H'
theorem sc__law_rng : FnScope ["_law_script", "_law_k", "_law_cell"] ["_law_script", "_law_k"] (defScope (top 22)) := ⟨rfl, rfl, rfl, by decide +kernel, rfl, by decide +kernel, by decide +kernel⟩
theorem ok_rng (T : Tx K mg) (F : FnP K "_law_rng" "_law_rng" (top 22) f fd) : FnOk P w K mg base CX0 1 f fd ["_law_script", "_law_k"] (spRng K) := by
  refine F.ok sc__law_rng (fun vs H Q E h => ?_) (fun cdv A outer s H vs Q E hr h => ⟨_, PSs.nox (pss_cons (ps_set (i := 2) sc__law_rng.nd rfl (by first | exact Or.inl rfl | exact Or.inr rfl) (pe_ifExp (pt_cmpR op_lt (pv 1) (pe_callB call_len_seq (by rfl) T.n_len (by decide +kernel) (pa_cons (pv 0) pa_nil)) (nomark _)) (pe_callB call_abs (by rfl) T.n_abs (by decide +kernel) (pa_cons (pe_ix ix_list (pv 0) (pv 1) (fun _ _ => rfl)) pa_nil)) pe_int)) (pss_one (ps_ret (pe_lst (pa_cons (pe_callB (call_max2 rfl) (by rfl) T.n_max (by decide +kernel) (pa_cons pe_int (pa_cons (pe_op op_sub (pv 2) (pe_op op_pow pe_int pe_int)) pa_nil))) (pa_cons (pe_op op_add (pe_op op_mod (pe_op op_pow (pe_op op_add (pe_op op_add (pe_op op_mod (pv 2) pe_int) (pe_op op_mul pe_int (pv 1))) pe_int) pe_int) pe_int) pe_int) pa_nil)))))), ?_⟩)
  · obtain ⟨a, ns, k, rfl, _⟩ := h
    rfl
  · obtain ⟨a, ns, k, rfl, hS, hk, q⟩ := h
    refine join (fun c : Int => 0 ≤ c) (R := ?R) (fun tail => ?main) ?tl
    case main =>
      refine ⟨_, rfl, _, rfl, a, _, rfl, .inl hS, _, _, rfl, rfl, _, rfl, ?_⟩
      by_cases hl : (k : Int) < (((ns.map V.int).length : Nat) : Int)
      · have hk2 : k < ns.length := by rw [List.length_map] at hl; omega
        refine ifT (decide_eq_true hl) ?_
        refine ⟨_, rfl, _, rfl, a, _, _, _, rfl, rfl, hS, at_map (List.getElem?_eq_getElem hk2), _, rfl, ?_⟩
        obtain ⟨c, hc, ec⟩ : ∃ c : Int, 0 ≤ c ∧ (if ns[k] < 0 then -ns[k] else ns[k]) = c := ⟨if ns[k] < 0 then -ns[k] else ns[k], by split <;> omega, rfl⟩
        rw [ec]
        exact tail c hc
      · refine ifF (decide_eq_false hl) ?_
        exact tail 0 (by decide)
    case tl =>
      intro c hc
      have c0 := Int.emod_nonneg c (show (2147483543 : Int) ≠ 0 by decide)
      have c1 := Int.emod_lt_of_pos c (show (0 : Int) < 2147483543 by decide)
      refine ⟨_, rfl, _, _, rfl, rfl, ⟨by decide, by decide, by decide⟩, _, _, rfl, rfl, _, _, rfl, ?_⟩
      refine ⟨_, rfl, _, _, rfl, rfl, (by show (0 : Int) < 2147483543; decide), _, rfl, _, _, rfl, rfl, .inl ⟨by decide, by decide⟩, _, _, rfl, rfl, _, _, rfl, rfl, _, _, rfl, rfl, ⟨by decide, by decide, by omega⟩, _, _, rfl, rfl, (by show (0 : Int) < 2147483497; decide), _, _, rfl, rfl, ?_⟩
      refine ⟨(by show 2 ≤ sizeLine; decide), fun p hp => q p _ hp (fun b o e => by rw [upd_ne (ne_of_none e hp)]; exact e) ⟨_, _, upd_same, ?_, ?_, ?_⟩⟩
      · split <;> omega
      · have := Int.emod_nonneg ((c % 2147483543 + 101 * (k : Int) + 7) ^ (2 : Int).toNat) (show (2147483497 : Int) ≠ 0 by decide)
        omega
      · have := Int.emod_lt_of_pos ((c % 2147483543 + 101 * (k : Int) + 7) ^ (2 : Int).toNat) (show (0 : Int) < 2147483497 by decide)
        omega
def spDraw : Sp := fun vs H Q _ => ∃ (r : Addr) (m : Int), vs = [.ref r, .int m] ∧ Rng H r ∧ 1 ≤ m ∧ m ≤ 10 ^ 40 ∧ ∀ d H', 0 ≤ d → d < m → Stp r H H' → Q (.int d) H'
theorem sc__law_draw : FnScope ["_law_rng_here", "_law_many", "_law_mixed", "_law_digit"] ["_law_rng_here", "_law_many"] (defScope (top 23)) := ⟨rfl, rfl, rfl, by decide +kernel, rfl, by decide +kernel, by decide +kernel⟩
theorem ok_draw (T : Tx K mg) (F : FnP K "_law_draw" "_law_draw" (top 23) f fd) : FnOk P w K mg base CX0 1 f fd ["_law_rng_here", "_law_many"] spDraw := by
  refine F.ok sc__law_draw (fun vs H Q E h => ?_) (fun cdv A outer s H vs Q E hr h => ⟨_, PSs.nox (pss_cons (ps_if (pt_cmpR op_gt (pe_ix ix_list (pv 0) pe_int (fun _ _ => rfl)) pe_int (nomark _)) (pss_cons (ps_asg (pe_callB call_divmodW (by rfl) T.n_divmod (by decide +kernel) (pa_cons (pe_ix ix_list (pv 0) pe_int (fun _ _ => rfl)) (pa_cons (pv 1) pa_nil))) (pg_tup (by rfl) (pgs_cons (pg_sub (pv 0) pe_int set_list) (pgs_cons (pg_name (i := 3) sc__law_draw.nd rfl (by first | exact Or.inl rfl | exact Or.inr rfl)) pgs_nil)))) (pss_one (ps_ret (pv 3)))) pss_nil) (pss_cons (ps_asg (pe_op op_mod (pe_op op_add (pe_op op_mul (pe_ix ix_list (pv 0) pe_int (fun _ _ => rfl)) pe_int) pe_int) pe_int) (pg_sub (pv 0) pe_int set_list)) (pss_cons (ps_set (i := 2) sc__law_draw.nd rfl (by first | exact Or.inl rfl | exact Or.inr rfl) (pe_op op_fdivW (pe_op op_mod (pe_op op_mul (pe_ix ix_list (pv 0) pe_int (fun _ _ => rfl)) (pe_ix ix_list (pv 0) pe_int (fun _ _ => rfl))) pe_int) pe_int)) (pss_one (ps_ret (pe_ifExp (pt_cmpR op_lt (pv 1) (pe_op op_pow pe_int pe_int) (nomark _)) (pe_op op_mod (pv 2) (pv 1)) (pe_op op_mod (pe_op op_mul (pe_op op_add (pe_op op_mul (pv 2) pe_int) (pe_ix ix_list (pv 0) pe_int (fun _ _ => rfl))) pe_int) (pv 1)))))))), ?_⟩)
  · obtain ⟨r, m, rfl, _⟩ := h
    rfl
  · obtain ⟨r, m, rfl, ⟨a, b, hR, ha, hb, hb2⟩, m1, m2, q⟩ := h
    have mb : m.natAbs < 2 ^ 200 := by
      have : (10 : Int) ^ 40 < 2 ^ 200 := by decide
      have e : ((2 : Nat) ^ 200 : Nat) = ((2 : Int) ^ 200).natAbs := by decide
      omega
    refine ⟨_, rfl, r, _, _, _, rfl, rfl, SqL.of hR, rfl, _, _, rfl, rfl, _, rfl, ?_⟩
    by_cases h0 : 0 < a
    · refine ifT (decide_eq_true h0) ?_
      refine ⟨_, rfl, r, _, _, _, rfl, rfl, SqL.of hR, rfl, _, rfl, _, _, rfl, ⟨by omega, PyProof.noPylong_of_log2 (Nat.lt_of_lt_of_le (PySem.Flt.log2_lt_of (by decide) mb) (by decide))⟩, fun p hp => ?_⟩
      have nrp : r ≠ p := ne_of_none hR hp
      have hR2 : (upd H p (.tup [.int (a / m), .int (a % m)])) r = some (.lst [.int a, .int b]) := by rw [upd_ne nrp]; exact hR
      refine ⟨p, _, rfl, .inl (.inl upd_same), rfl, _, _, rfl, _, rfl, r, _, _, 0, rfl, rfl, hR2, rfl, _, _, rfl, rfl, ?_⟩
      refine ⟨_, rfl, q _ _ (Int.emod_nonneg _ (by omega)) (Int.emod_lt_of_pos _ (by omega)) ⟨⟨a / m, b, upd_same, Int.ediv_nonneg (by omega) (by omega), hb, hb2⟩, fun c o n e => ?_⟩⟩
      rw [upd_ne n, upd_ne (ne_of_none e hp)]
      exact e
    · refine ifF (decide_eq_false h0) ?_
      have b0 := Int.emod_nonneg (b * 48271 + 10007) (show (2147483587 : Int) ≠ 0 by decide)
      have b1 := Int.emod_lt_of_pos (b * 48271 + 10007) (show (0 : Int) < 2147483587 by decide)
      refine ⟨_, rfl, r, _, _, _, rfl, rfl, SqL.of hR, rfl, _, _, rfl, rfl, .inr ⟨by decide, by decide⟩, _, _, rfl, rfl, _, _, rfl, rfl, (by show (0 : Int) < 2147483587; decide), _, rfl, r, _, _, 1, rfl, rfl, hR, rfl, ?_⟩
      dsimp only
      generalize hB : (b * 48271 + 10007) % 2147483587 = B at *
      have hR2 : (upd H r (.lst [.int a, .int B])) r = some (.lst [.int a, .int B]) := upd_same
      have st : Stp r H (upd H r (.lst [.int a, .int B])) := ⟨⟨a, B, upd_same, ha, b0, b1⟩, fun c o n e => by rw [upd_ne n]; exact e⟩
      refine ⟨_, rfl, r, _, _, _, rfl, rfl, SqL.of hR2, rfl, _, rfl, r, _, _, _, rfl, rfl, SqL.of hR2, rfl, _, _, rfl, rfl, .inl ⟨by omega, by omega⟩, _, _, rfl, rfl, (by show (0 : Int) < 2147483549; decide), _, _, rfl, rfl, wide_div (b := 64) (by decide) (by decide) (by decide) (by decide), ?_⟩
      refine ⟨_, rfl, _, _, rfl, rfl, ⟨by decide, by decide, by decide⟩, _, _, rfl, rfl, _, rfl, ite2 (fun _ => ?_) (fun _ => ?_)⟩
      · exact ⟨_, rfl, _, rfl, _, _, rfl, rfl, (by show (0 : Int) < m; omega), q _ _ (Int.emod_nonneg _ (by omega)) (Int.emod_lt_of_pos _ (by omega)) st⟩
      · refine ⟨_, rfl, _, _, rfl, rfl, .inr ⟨by decide, by decide⟩, _, rfl, r, _, _, _, rfl, rfl, SqL.of hR2, rfl, _, _, rfl, rfl, _, _, rfl, rfl, .inr ⟨by decide, by decide⟩, _, rfl, _, _, rfl, rfl, (by show (0 : Int) < m; omega), ?_⟩
        exact q _ _ (Int.emod_nonneg _ (by omega)) (Int.emod_lt_of_pos _ (by omega)) st
end
end K16

set_option Elab.async false
set_option linter.all false
set_option maxRecDepth 100000
set_option maxHeartbeats 4000000
namespace K16
open PySem PySem.Spec PyProof.Rows L2 Gu Ex
section
variable {P : Program} {w : World} {K : PySem.W.Frag} {mg : Str → Option Value} {base : Heap} {f : Addr} {fd : FuncData}
theorem at_of {xs : List V} {d : Int} (h0 : 0 ≤ d) (h1 : d < xs.length) : ∃ v, atI xs d = some v ∧ v ∈ xs := by
  obtain ⟨n, rfl⟩ := Int.eq_ofNat_of_zero_le h0
  have hn : n < xs.length := by omega
  exact ⟨xs[n], atI_nat (List.getElem?_eq_getElem hn), List.getElem_mem hn⟩
def spChoice : Sp := fun vs H Q _ => ∃ (r o : Addr) (xs : List V), vs = [.ref r, .ref o] ∧ Rng H r ∧ H o = some (.lst xs) ∧ o ≠ r ∧ 1 ≤ xs.length ∧ xs.length ≤ 1000 ∧ ∀ v H', v ∈ xs → Stp r H H' → Q v H'
theorem sc__law_choice : FnScope ["_law_rng_here", "_law_options"] ["_law_rng_here", "_law_options"] (defScope (top 24)) := ⟨rfl, rfl, rfl, by decide +kernel, rfl, by decide +kernel, by decide +kernel⟩
theorem ok_choice (T : Tx K mg) (D__law_draw : Df P w K mg base 1 "_law_draw" ["_law_rng_here", "_law_many"] spDraw) (F : FnP K "_law_choice" "_law_choice" (top 24) f fd) : FnOk P w K mg base CX0 2 f fd ["_law_rng_here", "_law_options"] spChoice := by
  refine F.ok sc__law_choice (fun vs H Q E h => ?_) (fun cdv A outer s H vs Q E hr h => ⟨_, PSs.nox (pss_one (ps_ret (pe_ix ix_list (pv 1) (pcall D__law_draw hr (pa_cons (pv 0) (pa_cons (pe_callB call_len_seq (by rfl) T.n_len (by decide +kernel) (pa_cons (pv 1) pa_nil)) pa_nil))) (fun _ _ => rfl)))), ?_⟩)
  · obtain ⟨r, o, xs, rfl, _⟩ := h
    rfl
  · obtain ⟨r, o, xs, rfl, hR, hO, ne, l1, l2, q⟩ := h
    refine ⟨_, rfl, _, rfl, _, rfl, o, _, rfl, .inl (SqL.of hO), r, _, rfl, hR, by omega, ?_, fun d H1 d0 d1 st => ?_⟩
    · have : (1000 : Int) ≤ 10 ^ 40 := by decide
      omega
    · obtain ⟨v, hv, hm⟩ := at_of d0 d1
      exact ⟨o, _, _, v, rfl, rfl, SqL.of (st.2 o _ ne hO), hv, q v H1 hm st⟩
theorem good_one : Good [1] := ⟨⟨by decide, by decide⟩, rfl, fun i x h => by
    cases i with
    | zero => cases h; decide
    | succ i => simp at h, fun i x y h1 h2 => by
    cases i with
    | zero => simp at h2
    | succ i => simp at h1⟩
theorem good_more {ns : List Int} {x k : Int} (g : Good ns) (hl : ns.length < 8) (hx : ns[ns.length - 1]? = some x) (hk : 2 ≤ k) (hm : x * k ≤ 1000000000) : Good (ns ++ [x * k]) := by
  have l := g.len
  have xr := g.rng _ _ hx
  have gt : x < x * k := by
    have := Int.mul_le_mul_of_nonneg_left hk (show (0 : Int) ≤ x by omega)
    omega
  refine ⟨⟨by rw [List.length_append, List.length_singleton]; omega, by rw [List.length_append, List.length_singleton]; omega⟩, ?_, fun i y h => ?_, fun i y z h1 h2 => ?_⟩
  · rw [List.getElem?_append_left (by omega)]
    exact g.one
  · by_cases hi : i < ns.length
    · rw [List.getElem?_append_left hi] at h
      exact g.rng i y h
    · rw [List.getElem?_append_right (by omega)] at h
      have hi2 : i - ns.length = 0 := by
        cases e : i - ns.length with
        | zero => rfl
        | succ n => rw [e] at h; simp at h
      rw [hi2] at h
      have e : x * k = y := Option.some.inj h
      omega
  · by_cases hi : i + 1 < ns.length
    · rw [List.getElem?_append_left hi] at h2
      rw [List.getElem?_append_left (by omega)] at h1
      exact g.up i y z h1 h2
    · by_cases hi2 : i + 1 = ns.length
      · rw [List.getElem?_append_left (by omega)] at h1
        rw [List.getElem?_append_right (by omega), hi2, Nat.sub_self] at h2
        have e : x * k = z := Option.some.inj h2
        rw [show i = ns.length - 1 by omega, hx] at h1
        have e2 : x = y := Option.some.inj h1
        rw [← e, ← e2]
        exact ⟨gt, Int.mul_emod_right x k⟩
      · rw [List.getElem?_append_right (by omega)] at h2
        cases e : i + 1 - ns.length with
        | zero => omega
        | succ n => rw [e] at h2; simp at h2
def spSizes : Sp := fun vs H Q _ => ∃ (r : Addr) (lv gr : Int), vs = [.ref r, .int lv, .int gr] ∧ Rng H r ∧ 1 ≤ lv ∧ lv ≤ 8 ∧ 2 ≤ gr ∧ gr ≤ 1000000 ∧
  ∀ l ns H', Good ns → H l = none → H' l = some (.lst (ns.map V.int)) → Stp r H H' → Q (.ref l) H'
theorem at_last (ys : List Int) (x : Int) : atI ((ys ++ [x]).map V.int) (-1) = some (.int x) := by
  rw [List.map_append]
  exact atI_last _ _
theorem last_of : ∀ {ns : List Int}, 1 ≤ ns.length → ∃ ys x, ns = ys ++ [x]
  | [], h => absurd h (by decide)
  | [x], _ => ⟨[], x, rfl⟩
  | a :: b :: r, _ => by
    obtain ⟨ys, x, e⟩ := last_of (ns := b :: r) (by simp)
    exact ⟨a :: ys, x, by rw [e]; rfl⟩
theorem last_get (ys : List Int) (x : Int) : (ys ++ [x])[(ys ++ [x]).length - 1]? = some x := by
  rw [List.length_append, List.length_singleton, Nat.add_sub_cancel, List.getElem?_append_right (Nat.le_refl _), Nat.sub_self]
  rfl
theorem sc__law_sizes : FnScope ["_law_rng_here", "_law_levels", "_law_greatest", "_law_result", "_law_k", "_law_factor"] ["_law_rng_here", "_law_levels", "_law_greatest"] (defScope (top 25)) := ⟨rfl, rfl, rfl, by decide +kernel, rfl, by decide +kernel, by decide +kernel⟩
theorem ok_sizes (T : Tx K mg) (D__law_draw : Df P w K mg base 1 "_law_draw" ["_law_rng_here", "_law_many"] spDraw) (F : FnP K "_law_sizes" "_law_sizes" (top 25) f fd) :
    FnOk P w K mg base CX0 2 f fd ["_law_rng_here", "_law_levels", "_law_greatest"] spSizes := by
  refine F.ok sc__law_sizes (fun vs H Q E h => ?_) (fun cdv A outer s H vs Q E hr h => ⟨_, PSs.nox (pss_cons (ps_set (i := 3) sc__law_sizes.nd rfl (by first | exact Or.inl rfl | exact Or.inr rfl) (pe_lst (pa_cons pe_int pa_nil))) (pss_cons (ps_for PassesOwn.never rfl (pi_range1 rfl T.n_range (pa_cons (pcall D__law_draw hr (pa_cons (pv 0) (pa_cons (pv 1) pa_nil))) pa_nil)) (pg_name (i := 4) sc__law_sizes.nd rfl (by first | exact Or.inl rfl | exact Or.inr rfl)) (pss_cons (ps_set (i := 5) sc__law_sizes.nd rfl (by first | exact Or.inl rfl | exact Or.inr rfl) (pe_ix ix_list (pe_lst (pa_cons pe_int (pa_cons pe_int (pa_cons pe_int (pa_cons pe_int (pa_cons (pe_op op_add pe_int (pcall D__law_draw hr (pa_cons (pv 0) (pa_cons (pe_op op_sub (pv 2) pe_int) pa_nil)))) pa_nil)))))) (pcall D__law_draw hr (pa_cons (pv 0) (pa_cons pe_int pa_nil))) (fun _ _ => rfl))) (pss_one (ps_if (PW.pt (pw_and (pt_cmpR op_le (pe_op op_mul (pe_ix ix_list (pv 3) (pe_un un_neg pe_int) (fun _ _ => rfl)) (pv 5)) (pe_op op_pow pe_int pe_int) (nomark _)) (pw_and1 (pt_cmpR op_le (pv 5) (pv 2) (nomark _))))) (pss_one (ps_expr (pe_bm PySem.F.plainAttrs_list PySem.F.slot_list_append PySem.F.type_list_append mt_append (pv 3) (pa_cons (pe_op op_mul (pe_ix ix_list (pv 3) (pe_un un_neg pe_int) (fun _ _ => rfl)) (pv 5)) pa_nil)))) pss_nil)))) (pss_one (ps_ret (pv 3))))), ?_⟩)
  · obtain ⟨r, lv, gr, rfl, _⟩ := h
    rfl
  · obtain ⟨r, lv, gr, rfl, hR, l1, l2, g1, g2, q⟩ := h
    have big : (10 : Int) ^ 40 = 10000000000000000000000000000000000000000 := by decide
    refine ⟨(by show 1 ≤ sizeLine; decide), fun l hl => ?_⟩
    have nrl : r ≠ l := hR.ne hl
    have s0 : Stp r H (upd H l (.lst [.int 1])) := (Stp.refl hR).new hl
    refine ⟨_, rfl, _, rfl, r, lv, rfl, s0.1, l1, by omega, fun d H1 d0 d1 s1 => ?_⟩
    refine ⟨d, rfl, by omega, by omega, ?_⟩
    have s01 := s0.trans s1
    refine for_range (fun i σ H' => ∃ ns x y, σ = [some (.ref r), some (.int lv), some (.int gr), some (.ref l), x, y] ∧ Good ns ∧ ns.length ≤ i + 1 ∧ H' l = some (.lst (ns.map V.int)) ∧ Stp r H H') ⟨[1], none, none, rfl, good_one, by simp, s1.2 l _ nrl.symm upd_same, s01⟩ ?_ ?_
    · rintro i σ H' hi ⟨ns, x, y, rfl, g, hlen, hL, st⟩
      have hi8 : i < 8 := by omega
      obtain ⟨ys, z, rfl⟩ := last_of g.len.1
      have zr := g.rng _ _ (last_get ys z)
      refine ⟨_, rfl, _, rfl, _, _, rfl, rfl, r, gr - 1, rfl, st.1, by omega, by omega, fun d1 H1 a0 a1 t1 => ?_⟩
      have st1 := st.trans t1
      have hL1 : H1 l = some (.lst ((ys ++ [z]).map V.int)) := t1.2 l _ nrl.symm hL
      refine ⟨_, _, rfl, rfl, (by show 5 ≤ sizeLine; decide), fun t ht => ?_⟩
      have st2 := st1.new (o := .lst [.int 2, .int 2, .int 3, .int 4, .int (2 + d1)]) ht
      have nrt : r ≠ t := st1.1.ne ht
      have hL2 : (upd H1 t (.lst [.int 2, .int 2, .int 3, .int 4, .int (2 + d1)])) l = some (.lst ((ys ++ [z]).map V.int)) := by rw [upd_ne (ne_of_none hL1 ht)]; exact hL1
      refine ⟨_, rfl, r, 5, rfl, st2.1, by decide, by omega, fun d2 H3 b0 b1 t3 => ?_⟩
      have st3 := st2.trans t3
      have hL3 : H3 l = some (.lst ((ys ++ [z]).map V.int)) := t3.2 l _ nrl.symm hL2
      obtain ⟨v, hv, hm⟩ := at_of (xs := [.int 2, .int 2, .int 3, .int 4, .int (2 + d1)]) b0 b1
      obtain ⟨k, rfl, k2⟩ : ∃ k : Int, v = .int k ∧ 2 ≤ k := by
        simp only [List.mem_cons, List.not_mem_nil, or_false] at hm
        rcases hm with rfl | rfl | rfl | rfl | rfl
        · exact ⟨_, rfl, by omega⟩
        · exact ⟨_, rfl, by omega⟩
        · exact ⟨_, rfl, by omega⟩
        · exact ⟨_, rfl, by omega⟩
        · exact ⟨_, rfl, by omega⟩
      refine ⟨t, _, _, _, rfl, rfl, SqL.of (t3.2 t _ nrt.symm upd_same), hv, ?_⟩
      refine ⟨_, rfl, _, rfl, l, _, _, _, rfl, rfl, SqL.of hL3, at_last ys z, _, rfl, _, _, rfl, rfl, .inl ⟨by omega, by omega⟩, _, _, rfl, rfl, ⟨by decide, by decide, by decide⟩, _, _, rfl, rfl, _, rfl, ?_⟩
      by_cases hc : z * k ≤ 10 ^ (9 : Int).toNat
      · refine ifT (decide_eq_true hc) ?_
        refine ⟨_, rfl, _, rfl, _, _, rfl, rfl, _, rfl, ite2 (fun hk => ?_) (fun _ => ?_)⟩
        · refine ⟨_, rfl, .inl ⟨rfl, _, SqL.of hL3⟩, _, rfl, _, rfl, l, _, _, _, rfl, rfl, SqL.of hL3, at_last ys z, _, rfl, _, _, rfl, rfl, .inl ⟨by omega, by omega⟩, l, _, _, rfl, rfl, hL3, ?_, ?_⟩
          · exact small1000 (by rw [List.length_map]; omega)
          · have hc2 : z * k ≤ 1000000000 := hc
            refine ⟨(ys ++ [z]) ++ [z * k], _, _, rfl, good_more g (by omega) (last_get ys z) k2 hc2, by rw [List.length_append (bs := [z * k]), List.length_singleton]; omega, ?_, ?_⟩
            · rw [upd_same, List.map_append (l₂ := [z * k])]
              rfl
            · obtain ⟨⟨x1, x2, e1, e2⟩, kk⟩ := st3
              refine ⟨⟨x1, x2, by rw [upd_ne nrl]; exact e1, e2⟩, fun b o n e => ?_⟩
              rw [upd_ne (ne_of_none e hl)]
              exact kk b o n e
        · exact ⟨_, _, _, rfl, g, by omega, hL3, st3⟩
      · exact ifF (decide_eq_false hc) ⟨_, _, _, rfl, g, by omega, hL3, st3⟩
    · rintro σ H' ⟨ns, x, y, rfl, g, hlen, hL, st⟩
      exact ⟨_, rfl, q l ns H' g hl hL st⟩
end
end K16

set_option Elab.async false
set_option linter.all false
set_option maxRecDepth 100000
set_option maxHeartbeats 4000000
/-! Own layer: range(a, b, c) of any whole numbers a, b and a step from 1 to 2^30; a comprehension over it. -/
namespace Ex
open PySem PySem.Spec PyProof.Rows L2 Gu
theorem turn_longC {P : Program} {w : World} {K : PySem.W.Frag} {tg : Expr} (it : Addr) (lo c : Int) (n : Nat) :
    Turn P w K tg (Itc lo c n) [it] it (fun i h => IsLongIter h it (lo + (i : Nat) * c) ((n : Int) - (i : Nat)) c) where
  mem := List.mem_singleton.mpr rfl
  obj := fun i h st b hb => by
    obtain rfl := List.mem_singleton.mp hb
    exact ⟨_, st, fun v z => nomatch (show Data.fields _ = Data.cell v from z)⟩
  keep := fun i h h' st k => k it (List.mem_singleton.mpr rfl) _ st
  item := by
    rintro X rfl rfl rfl hc i pins s σ H E I hf st hg
    obtain ⟨f0, f1, f2, f3, f4, f5⟩ := hf it (List.mem_singleton.mpr rfl)
    refine (Walks.longrange (prog := X.prog) (w := X.w) (I.ok.hd hc) it lo c n).item i s _ _ hg st fun v h' tk hv st' kk => ?_
    obtain ⟨t, rfl⟩ := hv
    have J : Inv X pins σ H { s with heap := h', toks := tk } := I.turned (fun b o hb e => kk b o (fun z => hb (List.mem_singleton.mp z)) e) f0 f1 f3 f4 f5
    exact ⟨_, rfl, go_of (s := { s with heap := h', toks := tk }) (n := "longrange_iterator") st' rfl rfl (by decide) ⟨.int (lo + (i : Nat) * c), H, J, ⟨t, rfl⟩, ⟨rfl, rfl⟩, st', fun b hb => (hf b hb).1⟩⟩
  done := by
    rintro X rfl rfl rfl hc i pins s σ H E I hf st hg
    obtain ⟨f0, f1, f2, f3, f4, f5⟩ := hf it (List.mem_singleton.mpr rfl)
    have hn : n ≤ i := hg
    exact wpAny_pyNext_long_end (I.ok.hd hc) st (by omega) fun h' eb => ⟨rfl, I.turned (t' := s.toks) (fun b o hb e => eb b o hb e) f0 f1 f3 f4 f5⟩
  self := fun _ _ _ _ _ st h => wpAny_pyIter_longiter st h
section
variable {X : Cx} {tg : Expr}
theorem range_anyC {pins : List (Addr × Obj)} {σ : L2.St} {H : Hp} {s : Shared} {R : It → Hp → Prop} {E : Value → Shared → Prop} {lo hi c : Int} {t u v : Tok} {tk : Nat} (I : Inv X pins σ H s) (q : R (Itc lo c (Builtin.Range.rangeSize lo hi c).toNat) H) :
    wpAny (model X.prog X.w) X.A (pyIter (.ref s.heap.objs.size)) (PIE X pins σ tg R) E { s with heap := s.heap.push { cls := .type "range", data := .fields #[.int lo t, .int hi u, .int c v] }, toks := tk } := by
  have J : Inv X pins σ H { s with heap := s.heap.push { cls := .type "range", data := .fields #[.int lo t, .int hi u, .int c v] }, toks := tk } := I.kept fun b o e => Heap.get?_push_of_some _ e
  have e1 : lo + ((0 : Nat) : Int) * c = lo := by simp
  have e2 : (((Builtin.Range.rangeSize lo hi c).toNat : Nat) : Int) - ((0 : Nat) : Int) = Builtin.Range.rangeSize lo hi c := by
    rw [← rangeSize_toNat]
    simp
  have fr : ∀ b ∈ [(s.heap.push { cls := .type "range", data := .fields #[.int lo t, .int hi u, .int c v] }).objs.size], _ := fun b hb => by
    obtain rfl := List.mem_singleton.mp hb
    exact J.fpOk (Nat.le_refl _) (J.hok.fresh (Nat.le_refl _))
  cases hs : Builtin.Range.small lo hi c with
  | true =>
    refine wpAny_pyIter_range (IsRange.new ..) hs ⟨_, [_], _, _, H, rfl, J.kept (t' := tk) fun b o e => Heap.get?_push_of_some _ e, turn_rangeC _ lo c (Builtin.Range.rangeSize lo hi c).toNat, ?_, fr, q⟩
    show IsRangeIter _ _ (lo + ((0 : Nat) : Int) * c) ((((Builtin.Range.rangeSize lo hi c).toNat : Nat) : Int) - ((0 : Nat) : Int)) c
    rw [e1, e2]
    exact Heap.get?_push_size _ rfl
  | false =>
    refine wpAny_pyIter_longrange (IsRange.new ..) hs ⟨_, [_], _, _, H, rfl, J.kept (t' := tk) fun b o e => Heap.get?_push_of_some _ e, turn_longC _ lo c (Builtin.Range.rangeSize lo hi c).toNat, ?_, fr, q⟩
    show IsLongIter _ _ (lo + ((0 : Nat) : Int) * c) ((((Builtin.Range.rangeSize lo hi c).toNat : Nat) : Int) - ((0 : Nat) : Int)) c
    rw [e1, e2]
    exact Heap.get?_push_size _ rfl
/-- how many turns range(i, j, c) has -/
def stepsN (i j c : Int) : Nat := (Builtin.Range.rangeSize i j c).toNat
def iRngS (ta : TA) : TI := fun σ H R => ta σ H fun vs H1 => ∃ i j c : Int, vs = [.int i, .int j, .int c] ∧ 1 ≤ c ∧ c < 1073741824 ∧ R (Itc i c (stepsN i j c)) H1
theorem pi_rangeS {a b c : Expr} {ta : TA} {p pos : Pos} (hg : Gl X "range") (hm : X.mg "range" = none) (ha : PA X [a, b, c] ta)
    (hs : starEach [a, b, c] X.env = (false, eval a X.env) :: starEach [b, c] X.env := by rfl) (hpl : (backTo pos (starEach [b, c] X.env)).any (·.1) = false := by rfl) :
    PI X tg (.Call (.Name "range" p) [a, b, c] [] pos) (iRngS ta) := by
  refine ⟨fun pins s σ H R I h => ?_⟩
  refine Call_ (ld_blt I hg hm boot_range (PyProof.Rows.callWith_type1 (thn (ha.run pos pins s σ H _ I h) fun us s1 ⟨vs, H1, I1, r1, q1⟩ => ?_) hs hpl))
  obtain ⟨i, j, k, e, c0, c1, q⟩ := q1
  subst e
  cases r1 with
  | cons r rr =>
    cases rr with
    | cons r' rr =>
      cases rr with
      | cons r'' rr =>
        cases rr
        obtain ⟨t, rfl⟩ := r
        obtain ⟨t', rfl⟩ := r'
        obtain ⟨t'', rfl⟩ := r''
        exact call_range_3 (by omega) (range_anyC (tk := s1.toks) I1 q) (.inl (PyProof.noPylong_small (by omega)))
end
theorem steps_le {i j c : Int} (hc : 1 ≤ c) (h : j - i ≤ 100) : stepsN i j c ≤ 100 := by
  unfold stepsN Builtin.Range.rangeSize
  rw [if_pos (by omega)]
  split
  · have h1 := Int.ediv_le_self c (show (0 : Int) ≤ j - i - 1 by omega)
    omega
  · decide
/-- the turns reach every step below the end, and no other -/
theorem steps_lt {i j c : Int} (hc : 1 ≤ c) (n : Nat) : n < stepsN i j c ↔ i + (n : Int) * c < j := by
  unfold stepsN Builtin.Range.rangeSize
  rw [if_pos (by omega)]
  by_cases hij : i < j
  · rw [if_pos hij]
    have d0 : 0 ≤ (j - i - 1) / c := Int.ediv_nonneg (by omega) (by omega)
    have e1 := Int.mul_ediv_add_emod (j - i - 1) c
    have e2 := Int.emod_nonneg (j - i - 1) (show c ≠ 0 by omega)
    have e3 := Int.emod_lt_of_pos (j - i - 1) (show 0 < c by omega)
    generalize (j - i - 1) / c = q at *
    constructor
    · intro h
      have h2 : (n : Int) ≤ q := by omega
      have h3 := Int.mul_le_mul_of_nonneg_left h2 (show 0 ≤ c by omega)
      have h4 : (n : Int) * c = c * n := Int.mul_comm _ _
      omega
    · intro h
      have h4 : (n : Int) * c = c * n := Int.mul_comm _ _
      have h2 : (n : Int) ≤ q := by
        refine Int.not_lt.mp fun z => ?_
        have h3 := Int.mul_le_mul_of_nonneg_left (show q + 1 ≤ (n : Int) by omega) (show 0 ≤ c by omega)
        rw [Int.mul_add, Int.mul_one] at h3
        omega
      omega
  · rw [if_neg hij]
    have : 0 ≤ (n : Int) * c := Int.mul_nonneg (by omega) (by omega)
    constructor
    · intro h
      have : n < (0 : Int).toNat := h
      exact absurd this (Nat.not_lt_zero _)
    · intro h
      omega
/-- a comprehension over such a range -/
theorem lc_rangeC {lo c : Int} {n : Nat} {g : TG} {tt : TT} {te : TE} {vs : List Nat} {σ : L2.St} {H1 : Hp} {D : Addr} {Qd : Hp → Prop} (Pv : Nat → Hp → Prop) (h0 : Pv 0 (upd H1 D (.lst [])))
    (hs : ∀ i H, i < n → Pv i H → g (.int (lo + (i : Nat) * c)) (wipe σ vs) H fun σ2 H2 => wipe σ2 vs = wipe σ vs ∧ tt σ2 H2 fun b H3 =>
      if b = true then te σ2 H3 fun y H4 => ∃ acc, H4 D = some (.lst acc) ∧ acc.length < sizeLine ∧ Pv (i + 1) (upd H4 D (.lst (acc ++ [y]))) else Pv (i + 1) H3) (hd : ∀ H, Pv n H → Qd H) :
    ∃ W : Nat → Nat → Hp → Prop, (∃ m, W 0 m (upd H1 D (.lst []))) ∧ ∀ i m H, W i m H →
      ((Itc lo c n).stop i H ∧ Qd H) ∨ ((Itc lo c n).go i H ∧ ∃ Nx : Hp → Prop, (∀ H', Nx H' → ∃ m', m' < m ∧ W (i + 1) m' H') ∧ ∀ x H', (Itc lo c n).yld i H x H' → g x (wipe σ vs) H' fun σ2 H2 => wipe σ2 vs = wipe σ vs ∧ tt σ2 H2 fun b H3 =>
        if b = true then te σ2 H3 fun y H4 => ∃ acc, H4 D = some (.lst acc) ∧ acc.length < sizeLine ∧ Nx (upd H4 D (.lst (acc ++ [y]))) else Nx H3) := by
  refine ⟨fun i m H => m = n - i ∧ i ≤ n ∧ Pv i H, ⟨n, by simp, Nat.zero_le _, h0⟩, ?_⟩
  rintro i m H ⟨rfl, hi, p⟩
  by_cases hlt : i < n
  · refine .inr ⟨hlt, Pv (i + 1), fun H' p' => ⟨n - (i + 1), by omega, rfl, hlt, p'⟩, fun x H' y => ?_⟩
    obtain ⟨e, y⟩ := y
    subst e y
    exact hs i _ hlt p
  · have e : i = n := by omega
    subst e
    exact .inl ⟨Nat.le_refl _, hd H p⟩
end Ex

set_option Elab.async false
set_option linter.all false
/-! The mathematics of maximal regions: sizes that divide each other, a range from lo to hi. -/
namespace M16
structure Ch (s : Nat → Int) (m : Nat) : Prop where
  m1 : 1 ≤ m
  one : s 0 = 1
  pos : ∀ k, k < m → 1 ≤ s k
  dv : ∀ k, k + 1 < m → s k ∣ s (k + 1)
theorem Ch.dvd {s : Nat → Int} {m : Nat} (c : Ch s m) {j : Nat} : ∀ {k : Nat}, j ≤ k → k < m → s j ∣ s k
  | 0, h, _ => by
    rw [show j = 0 by omega]
    exact Int.dvd_refl _
  | k + 1, h, hk => by
    by_cases e : j = k + 1
    · rw [e]
      exact Int.dvd_refl _
    · exact Int.dvd_trans (Ch.dvd c (show j ≤ k by omega) (by omega)) (c.dv k hk)
theorem gap {z q e : Int} (h1 : z ∣ q) (h2 : z ∣ e) (h : q < e) : q + z ≤ e := by
  have := Int.le_of_dvd (by omega) (Int.dvd_sub h2 h1)
  omega
theorem mod0 {z x : Int} (h : z ∣ x) : x % z = 0 := Int.emod_eq_zero_of_dvd h
theorem dvd0 {z x : Int} (h : x % z = 0) : z ∣ x := Int.dvd_of_emod_eq_zero h
theorem fl_dvd (z x : Int) : z ∣ x - x % z := ⟨x / z, by have := Int.mul_ediv_add_emod x z; omega⟩
theorem fl_le {z : Int} (x : Int) (hz : 1 ≤ z) : x - x % z ≤ x := by
  have := Int.emod_nonneg x (show z ≠ 0 by omega)
  omega
theorem fl_lt {z : Int} (x : Int) (hz : 1 ≤ z) : x < x - x % z + z := by
  have := Int.emod_lt_of_pos x (show 0 < z by omega)
  omega
theorem fl_eq {z q x : Int} (hz : 1 ≤ z) (h : z ∣ q) (h1 : q ≤ x) (h2 : x < q + z) : x - x % z = q := by
  have a := fl_le x hz
  have b := fl_lt x hz
  have d := fl_dvd z x
  rcases Int.lt_trichotomy (x - x % z) q with e | e | e
  · have := gap d h e
    omega
  · exact e
  · have := gap h d e
    omega
theorem fl_ge {z q x : Int} (hz : 1 ≤ z) (h : z ∣ q) (h1 : q ≤ x) : q ≤ x - x % z := by
  have b := fl_lt x hz
  refine Int.not_lt.mp fun e => ?_
  have := gap (fl_dvd z x) h e
  omega
/-- the least multiple from a on -/
def nx (z a : Int) : Int := -(-a / z) * z
theorem nx_is (z a : Int) : nx z a = a + (-a) % z := by
  have e := Int.mul_ediv_add_emod (-a) z
  have h : nx z a = -(z * (-a / z)) := by
    unfold nx
    rw [Int.neg_mul, Int.mul_comm]
  omega
theorem nx_dvd (z a : Int) : z ∣ nx z a := ⟨-(-a / z), by unfold nx; rw [Int.mul_comm]⟩
theorem nx_ge {z : Int} (a : Int) (hz : 1 ≤ z) : a ≤ nx z a := by
  have := Int.emod_nonneg (-a) (show z ≠ 0 by omega)
  rw [nx_is]
  omega
theorem nx_lt {z : Int} (a : Int) (hz : 1 ≤ z) : nx z a < a + z := by
  have := Int.emod_lt_of_pos (-a) (show 0 < z by omega)
  rw [nx_is]
  omega
theorem nx_least {z a q : Int} (hz : 1 ≤ z) (h : z ∣ q) (ha : a ≤ q) : nx z a ≤ q := by
  refine Int.not_lt.mp fun e => ?_
  have := gap h (nx_dvd z a) e
  have := nx_lt a hz
  omega
theorem nx_self {z a : Int} (hz : 1 ≤ z) (h : z ∣ a) : nx z a = a := by
  have := nx_ge a hz
  have := nx_least hz h (Int.le_refl a)
  omega
/-- count_regions is positive just if the first region ends by b -/
theorem cnt_pos {z a b : Int} (hz : 1 ≤ z) : 0 < ((b - b % z) - nx z a) / z ↔ nx z a + z ≤ b := by
  have h : (1 : Int) ≤ ((b - b % z) - nx z a) / z ↔ 1 * z ≤ (b - b % z) - nx z a := Int.le_ediv_iff_mul_le (by omega)
  rw [Int.one_mul] at h
  have l := fl_le b hz
  constructor
  · intro k
    have := h.mp (by omega)
    omega
  · intro k
    have d : z ∣ nx z a + z := Int.dvd_add (nx_dvd z a) (Int.dvd_refl z)
    have := fl_ge hz d k
    have := h.mpr (by omega)
    omega
section
variable (s : Nat → Int) (m : Nat) (hi : Int)
def Lies (a : Int) (k : Nat) : Prop := a % s k = 0 ∧ a + s k ≤ hi
instance (a : Int) (k : Nat) : Decidable (Lies s hi a k) := inferInstanceAs (Decidable (a % s k = 0 ∧ a + s k ≤ hi))
/-- the highest level of a region at a, sought from n down -/
def lev (a : Int) : Nat → Nat
  | 0 => 0
  | n + 1 => if Lies s hi a (n + 1) then n + 1 else lev a n
def L (a : Int) : Nat := lev s hi a (m - 1)
def en (a : Int) : Int := if L s m hi a + 1 < m ∧ nx (s (L s m hi a + 1)) a + s (L s m hi a + 1) ≤ hi then nx (s (L s m hi a + 1)) a else hi - hi % s (L s m hi a)
/-- no region that lies in the range goes across a -/
def B (lo a : Int) : Prop := ∀ j, j < m → a % s j ≠ 0 → ¬ (lo ≤ a - a % s j ∧ a - a % s j + s j ≤ hi)
abbrev Run : Type := Nat × Int × Int
def run (a : Int) : Run := (L s m hi a, a, (en s m hi a - a) / s (L s m hi a))
def lay : Nat → Int → List Run
  | 0, _ => []
  | n + 1, a => if a < hi then run s m hi a :: lay n (en s m hi a) else []
def R (a : Int) : List Run := lay s m hi (hi - a).toNat a
end
section
variable {s : Nat → Int} {m : Nat} {hi a lo : Int}
theorem lev_le : ∀ n, lev s hi a n ≤ n
  | 0 => Nat.le_refl _
  | n + 1 => by
    show (if Lies s hi a (n + 1) then n + 1 else lev s hi a n) ≤ n + 1
    split
    · exact Nat.le_refl _
    · have := lev_le n
      omega
theorem lev_lies (h0 : Lies s hi a 0) : ∀ n, Lies s hi a (lev s hi a n)
  | 0 => h0
  | n + 1 => by
    show Lies s hi a (if Lies s hi a (n + 1) then n + 1 else lev s hi a n)
    split
    · assumption
    · exact lev_lies h0 n
theorem lev_max : ∀ n j, j ≤ n → lev s hi a n < j → ¬ Lies s hi a j
  | 0, j, h, h2 => by
    have : lev s hi a 0 = 0 := rfl
    omega
  | n + 1, j, h, h2 => by
    have e : lev s hi a (n + 1) = if Lies s hi a (n + 1) then n + 1 else lev s hi a n := rfl
    by_cases hl : Lies s hi a (n + 1)
    · rw [e, if_pos hl] at h2
      omega
    · rw [e, if_neg hl] at h2
      by_cases ej : j = n + 1
      · rw [ej]
        exact hl
      · exact lev_max n j (by omega) h2
theorem lies0 (c : Ch s m) (h : a < hi) : Lies s hi a 0 := by
  unfold Lies
  rw [c.one]
  exact ⟨Int.emod_one a, by omega⟩
theorem L_lt (c : Ch s m) : L s m hi a < m := by
  have := lev_le (s := s) (hi := hi) (a := a) (m - 1)
  have := c.m1
  show lev s hi a (m - 1) < m
  omega
theorem L_lies (c : Ch s m) (h : a < hi) : Lies s hi a (L s m hi a) := lev_lies (lies0 c h) _
theorem L_max (c : Ch s m) {j : Nat} (hj : j < m) (h : L s m hi a < j) : ¬ Lies s hi a j := lev_max (m - 1) j (by omega) h
theorem lies_down (c : Ch s m) {j k : Nat} (h : j ≤ k) (hk : k < m) (x : Lies s hi a k) : Lies s hi a j := by
  have d := c.dvd h hk
  have p := c.pos k hk
  have l := Int.le_of_dvd (by omega) d
  exact ⟨mod0 (Int.dvd_trans d (dvd0 x.1)), by have := x.2; omega⟩
theorem en1 (c1 : L s m hi a + 1 < m ∧ nx (s (L s m hi a + 1)) a + s (L s m hi a + 1) ≤ hi) : en s m hi a = nx (s (L s m hi a + 1)) a := if_pos c1
theorem en2 (c2 : ¬ (L s m hi a + 1 < m ∧ nx (s (L s m hi a + 1)) a + s (L s m hi a + 1) ≤ hi)) : en s m hi a = hi - hi % s (L s m hi a) := if_neg c2
theorem en_gt (c : Ch s m) (h : a < hi) : a < en s m hi a := by
  have hl := L_lies c h
  have hm := L_lt (a := a) (hi := hi) c
  by_cases c1 : L s m hi a + 1 < m ∧ nx (s (L s m hi a + 1)) a + s (L s m hi a + 1) ≤ hi
  · rw [en1 c1]
    have z := c.pos _ c1.1
    have g := nx_ge a z
    refine Int.not_le.mp fun hle => ?_
    have e : a = nx (s (L s m hi a + 1)) a := by omega
    refine L_max c c1.1 (Nat.lt_succ_self _) ⟨mod0 ?_, ?_⟩
    · have d := nx_dvd (s (L s m hi a + 1)) a
      rw [← e] at d
      exact d
    · have := c1.2
      rw [← e] at this
      exact this
  · rw [en2 c1]
    have z := c.pos _ hm
    have := fl_ge (x := hi) z (Int.dvd_add (dvd0 hl.1) (Int.dvd_refl _)) hl.2
    omega
theorem en_le (c : Ch s m) : en s m hi a ≤ hi := by
  by_cases c1 : L s m hi a + 1 < m ∧ nx (s (L s m hi a + 1)) a + s (L s m hi a + 1) ≤ hi
  · rw [en1 c1]
    have := c.pos _ c1.1
    have := c1.2
    omega
  · rw [en2 c1]
    exact fl_le hi (c.pos _ (L_lt c))
theorem en_dvd (c : Ch s m) : s (L s m hi a) ∣ en s m hi a := by
  by_cases c1 : L s m hi a + 1 < m ∧ nx (s (L s m hi a + 1)) a + s (L s m hi a + 1) ≤ hi
  · rw [en1 c1]
    exact Int.dvd_trans (c.dv _ c1.1) (nx_dvd _ _)
  · rw [en2 c1]
    exact fl_dvd _ _
/-- one way up, the other down -/
theorem up (c : Ch s m) (c1 : L s m hi a + 1 < m ∧ nx (s (L s m hi a + 1)) a + s (L s m hi a + 1) ≤ hi) : en s m hi a < hi ∧ L s m hi a < L s m hi (en s m hi a) := by
  have z := c.pos _ c1.1
  have e := en1 c1
  have h2 := c1.2
  rw [← e] at h2
  refine ⟨by omega, Nat.lt_of_not_le fun hle => ?_⟩
  refine L_max (a := en s m hi a) c c1.1 (by omega) ⟨mod0 ?_, h2⟩
  rw [e]
  exact nx_dvd _ _
def NoHi (s : Nat → Int) (m : Nat) (hi a : Int) : Prop := ¬ (L s m hi a + 1 < m ∧ nx (s (L s m hi a + 1)) a + s (L s m hi a + 1) ≤ hi)
theorem down (c : Ch s m) (c2 : NoHi s m hi a) (h : en s m hi a < hi) : L s m hi (en s m hi a) < L s m hi a ∧ NoHi s m hi (en s m hi a) := by
  have e := en2 c2
  have hm := L_lt (a := a) (hi := hi) c
  have z := c.pos _ hm
  have l := fl_lt hi z
  have dk : s (L s m hi a) ∣ en s m hi a := en_dvd c
  have lt : L s m hi (en s m hi a) < L s m hi a := Nat.lt_of_not_le fun hle => by
    have x := lies_down c hle (L_lt c) (L_lies c h)
    have := x.2
    omega
  refine ⟨lt, fun c1 => ?_⟩
  have d := Int.dvd_trans (c.dvd (show L s m hi (en s m hi a) + 1 ≤ L s m hi a by omega) hm) dk
  have n := nx_self (c.pos _ c1.1) d
  have k := c1.2
  rw [n] at k
  exact L_max (a := en s m hi a) c c1.1 (Nat.lt_succ_self _) ⟨mod0 d, k⟩
theorem other (c : Ch s m) (h : en s m hi a < hi) : L s m hi a ≠ L s m hi (en s m hi a) := by
  by_cases c1 : L s m hi a + 1 < m ∧ nx (s (L s m hi a + 1)) a + s (L s m hi a + 1) ≤ hi
  · have := (up c c1).2
    omega
  · have := (down c c1 h).1
    omega
theorem B_lo (c : Ch s m) : B s m hi lo lo := fun j hj n h => by
  have := Int.emod_nonneg lo (show s j ≠ 0 by have := c.pos j hj; omega)
  omega
theorem B_next (c : Ch s m) (h : a < hi) (b : B s m hi lo a) : B s m hi lo (en s m hi a) := fun j hj n ⟨h1, h2⟩ => by
  have hm := L_lt (a := a) (hi := hi) c
  have zj := c.pos j hj
  have q0 := fl_dvd (s j) (en s m hi a)
  have q1 := fl_le (en s m hi a) zj
  have q2 := fl_lt (en s m hi a) zj
  have gt := en_gt c h
  have nq : en s m hi a - en s m hi a % s j < en s m hi a := by
    have := Int.emod_nonneg (en s m hi a) (show s j ≠ 0 by omega)
    omega
  generalize en s m hi a - en s m hi a % s j = q at *
  have hk : L s m hi a < j := Nat.lt_of_not_le fun hle => n (mod0 (Int.dvd_trans (c.dvd hle hm) (en_dvd c)))
  have k1 : L s m hi a + 1 < m := by omega
  have z1 := c.pos _ k1
  have dq : s (L s m hi a + 1) ∣ q := Int.dvd_trans (c.dvd (by omega) hj) q0
  have lz : s (L s m hi a + 1) ≤ s j := Int.le_of_dvd (by omega) (c.dvd (by omega) hj)
  have qa : q < a := by
    by_cases c1 : L s m hi a + 1 < m ∧ nx (s (L s m hi a + 1)) a + s (L s m hi a + 1) ≤ hi
    · have e := en1 c1
      have l := nx_lt a z1
      have d := nx_dvd (s (L s m hi a + 1)) a
      rw [← e] at l d
      have := gap dq d nq
      omega
    · refine Int.not_le.mp fun ha => c1 ⟨k1, ?_⟩
      have := nx_least z1 dq ha
      omega
  have f := fl_eq zj q0 (show q ≤ a by omega) (by omega)
  refine b j hj ?_ ?_
  · omega
  · rw [f]
    exact ⟨h1, h2⟩
/-- no higher region around an address of the run lies in the range -/
theorem no_high (c : Ch s m) (h : a < hi) (b : B s m hi lo a) (k1 : L s m hi a + 1 < m) {x : Int} (x1 : a ≤ x) (x2 : x < en s m hi a) :
    ¬ (lo ≤ x - x % s (L s m hi a + 1) ∧ x - x % s (L s m hi a + 1) + s (L s m hi a + 1) ≤ hi) := fun ⟨h1, h2⟩ => by
  have z1 := c.pos _ k1
  have q0 := fl_dvd (s (L s m hi a + 1)) x
  have q1 := fl_le x z1
  have q2 := fl_lt x z1
  generalize x - x % s (L s m hi a + 1) = q at *
  by_cases qa : q < a
  · have f := fl_eq z1 q0 (show q ≤ a by omega) (by omega)
    refine b _ k1 ?_ ?_
    · omega
    · rw [f]
      exact ⟨h1, h2⟩
  · have n := nx_least z1 q0 (show a ≤ q by omega)
    by_cases c1 : L s m hi a + 1 < m ∧ nx (s (L s m hi a + 1)) a + s (L s m hi a + 1) ≤ hi
    · rw [en1 c1] at x2
      omega
    · exact c1 ⟨k1, by omega⟩
theorem top_in (c : Ch s m) (h : a < hi) {x : Int} (x1 : a ≤ x) (x2 : x < en s m hi a) : a ≤ x - x % s (L s m hi a) ∧ x - x % s (L s m hi a) + s (L s m hi a) ≤ en s m hi a := by
  have z := c.pos _ (L_lt (a := a) (hi := hi) c)
  have l := fl_le x z
  refine ⟨fl_ge z (dvd0 (L_lies c h).1) x1, gap (fl_dvd _ _) (en_dvd c) (by omega)⟩
theorem top_max (c : Ch s m) (h : a < hi) (b : B s m hi lo a) {x : Int} (x1 : a ≤ x) (x2 : x < en s m hi a) {j : Nat} (hj : j < m) (h1 : lo ≤ x - x % s j) (h2 : x - x % s j + s j ≤ hi) : j ≤ L s m hi a := by
  refine Nat.le_of_not_lt fun hlt => ?_
  have k1 : L s m hi a + 1 < m := by omega
  have z1 := c.pos _ k1
  have zj := c.pos j hj
  have d := c.dvd (show L s m hi a + 1 ≤ j by omega) hj
  have g1 := fl_ge (x := x) z1 (Int.dvd_trans d (fl_dvd (s j) x)) (fl_le x zj)
  have g2 := gap (fl_dvd (s (L s m hi a + 1)) x) (Int.dvd_add (Int.dvd_trans d (fl_dvd (s j) x)) d) (show x - x % s (L s m hi a + 1) < x - x % s j + s j by
    have := fl_le x z1
    have := fl_lt x zj
    omega)
  exact no_high c h b k1 x1 x2 ⟨by omega, by omega⟩
theorem lay_eq (c : Ch s m) : ∀ n n' a, (hi - a).toNat ≤ n → (hi - a).toNat ≤ n' → lay s m hi n a = lay s m hi n' a
  | 0, 0, _, _, _ => rfl
  | 0, n' + 1, a, h, _ => by
    show ([] : List Run) = if a < hi then run s m hi a :: lay s m hi n' (en s m hi a) else []
    rw [if_neg (by omega)]
  | n + 1, 0, a, _, h => by
    show (if a < hi then run s m hi a :: lay s m hi n (en s m hi a) else []) = []
    rw [if_neg (by omega)]
  | n + 1, n' + 1, a, h, h' => by
    show (if a < hi then run s m hi a :: lay s m hi n (en s m hi a) else []) = if a < hi then run s m hi a :: lay s m hi n' (en s m hi a) else []
    by_cases e : a < hi
    · have g := en_gt c e
      rw [if_pos e, if_pos e, lay_eq c n n' (en s m hi a) (by omega) (by omega)]
    · rw [if_neg e, if_neg e]
theorem R_end (h : ¬ a < hi) : R s m hi a = [] := by
  unfold R
  rw [show (hi - a).toNat = 0 by omega]
  rfl
theorem R_step (c : Ch s m) (h : a < hi) : R s m hi a = run s m hi a :: R s m hi (en s m hi a) := by
  unfold R
  obtain ⟨n, e⟩ : ∃ n, (hi - a).toNat = n + 1 := ⟨(hi - a).toNat - 1, by omega⟩
  rw [e]
  show (if a < hi then run s m hi a :: lay s m hi n (en s m hi a) else []) = _
  have g := en_gt c h
  rw [if_pos h, lay_eq c n (hi - en s m hi a).toNat (en s m hi a) (by omega) (Nat.le_refl _)]
theorem R_down (c : Ch s m) : ∀ (n : Nat) (a : Int), (hi - a).toNat ≤ n → a < hi → NoHi s m hi a → (R s m hi a).length ≤ L s m hi a + 1
  | 0, a, h, h2, _ => by omega
  | n + 1, a, h, h2, c2 => by
    rw [R_step c h2, List.length_cons]
    by_cases e : en s m hi a < hi
    · obtain ⟨d1, d2⟩ := down c c2 e
      have g := en_gt c h2
      have := R_down c n (en s m hi a) (by omega) e d2
      omega
    · rw [R_end e]
      simp
theorem R_len (c : Ch s m) : ∀ (n : Nat) (a : Int), (hi - a).toNat ≤ n → a < hi → (R s m hi a).length + L s m hi a ≤ 2 * m
  | 0, a, h, h2 => by omega
  | n + 1, a, h, h2 => by
    have l := L_lt (a := a) (hi := hi) c
    by_cases c1 : L s m hi a + 1 < m ∧ nx (s (L s m hi a + 1)) a + s (L s m hi a + 1) ≤ hi
    · obtain ⟨u1, u2⟩ := up c c1
      have g := en_gt c h2
      have := R_len c n (en s m hi a) (by omega) u1
      rw [R_step c h2, List.length_cons]
      omega
    · have := R_down c (n + 1) a h h2 c1
      omega
theorem R_short (c : Ch s m) (h8 : m ≤ 8) : (R s m hi a).length ≤ 16 := by
  by_cases h : a < hi
  · have := R_len c _ a (Nat.le_refl _) h
    omega
  · rw [R_end h]
    simp
/-- a place between two runs -/
structure Mid (s : Nat → Int) (m : Nat) (hi lo a : Int) (done : List Run) : Prop where
  eq : R s m hi lo = done ++ R s m hi a
  lo_le : lo ≤ a
  le_hi : a ≤ hi
  bd : B s m hi lo a
  last : a < hi → ∀ t, done.getLast? = some t → t.1 ≠ L s m hi a
theorem mid0 (c : Ch s m) (h : lo ≤ hi) : Mid s m hi lo lo [] := ⟨rfl, Int.le_refl _, h, B_lo c, fun _ t e => by cases e⟩
theorem Mid.next {done : List Run} (c : Ch s m) (M : Mid s m hi lo a done) (h : a < hi) : Mid s m hi lo (en s m hi a) (done ++ [run s m hi a]) := by
  have g := en_gt c h
  have l := M.lo_le
  refine ⟨?_, by omega, en_le c, B_next c h M.bd, fun h2 t e => ?_⟩
  · rw [M.eq, R_step c h, List.append_assoc]
    rfl
  · rw [List.getLast?_concat] at e
    cases e
    exact other c h2
/-- the number of cells of a run -/
theorem run_cells (c : Ch s m) (h : a < hi) : (en s m hi a - a) / s (L s m hi a) * s (L s m hi a) = en s m hi a - a := Int.ediv_mul_cancel (Int.dvd_sub (en_dvd c) (dvd0 (L_lies c h).1))
theorem run_one (c : Ch s m) (h : a < hi) : 1 ≤ (en s m hi a - a) / s (L s m hi a) := by
  have z := c.pos _ (L_lt (a := a) (hi := hi) c)
  have g := gap (dvd0 (L_lies c h).1) (en_dvd c) (en_gt c h)
  exact (Int.le_ediv_iff_mul_le (by omega)).mpr (by omega)
/-- multiples of z below y, from 0 on -/
def cd (z y : Int) : Int := (y + z - 1) / z
theorem cd_zero {z : Int} (hz : 1 ≤ z) : cd z 0 = 0 := by
  unfold cd
  exact Int.ediv_eq_zero_of_lt (by omega) (by omega)
theorem cd_mul {z y : Int} (hz : 1 ≤ z) (h : z ∣ y) : cd z y = y / z := by
  obtain ⟨q, rfl⟩ := h
  unfold cd
  rw [show z * q + z - 1 = (z - 1) + z * q by omega, Int.add_mul_ediv_left _ _ (by omega), Int.mul_ediv_cancel_left _ (by omega), Int.ediv_eq_zero_of_lt (by omega) (by omega)]
  omega
theorem cd_next {z y : Int} (hz : 1 ≤ z) (h : z ∣ y) : cd z (y + 1) = y / z + 1 := by
  obtain ⟨q, rfl⟩ := h
  unfold cd
  rw [show z * q + 1 + z - 1 = z * (q + 1) by rw [Int.mul_add]; omega, Int.mul_ediv_cancel_left _ (by omega), Int.mul_ediv_cancel_left _ (by omega)]
theorem cd_stay {z y : Int} (hz : 1 ≤ z) (h : ¬ z ∣ y) : cd z (y + 1) = cd z y := by
  unfold cd
  have e := Int.mul_ediv_add_emod y z
  have e1 := Int.emod_nonneg y (show z ≠ 0 by omega)
  have e2 := Int.emod_lt_of_pos y (show 0 < z by omega)
  have n : y % z ≠ 0 := fun q => h (dvd0 q)
  have a1 : (y + 1 + z - 1) / z = y / z + 1 := by
    rw [show y + 1 + z - 1 = (y % z) + z * (y / z + 1) by rw [Int.mul_add]; omega, Int.add_mul_ediv_left _ _ (by omega), Int.ediv_eq_zero_of_lt e1 e2]
    omega
  have a2 : (y + z - 1) / z = y / z + 1 := by
    rw [show y + z - 1 = (y % z - 1) + z * (y / z + 1) by rw [Int.mul_add]; omega, Int.add_mul_ediv_left _ _ (by omega), Int.ediv_eq_zero_of_lt (by omega) (by omega)]
    omega
  rw [a1, a2]
end
end M16

set_option Elab.async false
set_option linter.all false
set_option maxRecDepth 100000
set_option maxHeartbeats 4000000
namespace K16
open PySem PySem.Spec PyProof.Rows L2 Gu Ex
def sz (ns : List Int) (k : Nat) : Int := ns.getD k 0
theorem sz_at {ns : List Int} {k : Nat} (h : k < ns.length) : ns[k]? = some (sz ns k) := by
  unfold sz
  rw [List.getD_eq_getElem?_getD, List.getElem?_eq_getElem h]
  rfl
theorem chain {ns : List Int} (g : Good ns) : M16.Ch (sz ns) ns.length := by
  refine ⟨g.len.1, ?_, fun k h => (g.rng k _ (sz_at h)).1, fun k h => Int.dvd_of_emod_eq_zero (g.up k _ _ (sz_at (by omega)) (sz_at h)).2⟩
  have := (sz_at (ns := ns) (k := 0) (by have := g.len.1; omega)).symm.trans g.one
  exact Option.some.inj this
theorem sz_le {ns : List Int} (g : Good ns) {k : Nat} (h : k < ns.length) : sz ns k ≤ 1000000000 := (g.rng k _ (sz_at h)).2
/-- the run at a, the level and where it ends -/
abbrev lv (ns : List Int) (hi a : Int) : Nat := M16.L (sz ns) ns.length hi a
abbrev eN (ns : List Int) (hi a : Int) : Int := M16.en (sz ns) ns.length hi a
section
variable {P : Program} {w : World} {K : PySem.W.Frag} {mg : Str → Option Value} {base : Heap} {f : Addr} {fd : FuncData}
def spBelow (K : PySem.W.Frag) : Sp := fun vs H Q _ => ∃ (p : Addr) (ns : List Int) (i : Nat) (x a e : Int), vs = [.ref p, .int i, .int a, .int e] ∧ SzAt (He.ga K "Sizes") H p ns ∧ ns[i]? = some x ∧ 1 ≤ x ∧ Q (.bl (decide (a % x = 0 ∧ a + x ≤ e))) H
theorem sc_lies_below : FnScope ["sizes", "level", "address", "end", "size"] ["sizes", "level", "address", "end"] (defScope (top 15)) := ⟨rfl, rfl, rfl, by decide +kernel, rfl, by decide +kernel, by decide +kernel⟩
theorem ok_below (T : Tx K mg) (M_size : Mf P w K mg base 5 "Sizes" "size" ["self", "level"] (spSize K)) (F : FnP K "lies_below" "lies_below" (top 15) f fd) : FnOk P w K mg base CX0 6 f fd ["sizes", "level", "address", "end"] (spBelow K) := by
  refine F.ok sc_lies_below (fun vs H Q E h => ?_) (fun cdv A outer s H vs Q E hr h => ⟨_, PSs.nox (pss_cons (ps_set (i := 4) sc_lies_below.nd rfl (by first | exact Or.inl rfl | exact Or.inr rfl) (pmeth M_size hr (pv 0) (pa_cons (pv 1) pa_nil))) (pss_one (ps_ret (pe_and (pe_cmpR op_eq (pe_op op_mod (pv 2) (pv 4)) pe_int (nomark _)) (pe_one (pe_cmpR op_le (pe_op op_add (pv 2) (pv 4)) (pv 3) (nomark _))))))), ?_⟩)
  · obtain ⟨p, ns, i, x, a, e, rfl, _⟩ := h
    rfl
  · obtain ⟨p, ns, i, x, a, e, rfl, hz, hx, x1, q⟩ := h
    obtain ⟨dx, l, h1, h2⟩ := id hz
    refine ⟨_, rfl, p, dx, _, rfl, h1, szF_no l (by decide +kernel), _, rfl, p, ns, i, x, rfl, hz, hx, ?_⟩
    refine ⟨_, rfl, _, rfl, _, _, rfl, rfl, (by show (0 : Int) < x; omega), rfl, _, rfl, ?_⟩
    by_cases hm : a % x = 0
    · refine ifT (vT hm) ⟨_, rfl, _, rfl, _, _, rfl, rfl, _, rfl, _, _, rfl, rfl, ?_⟩
      have e2 : decide (a % x = 0 ∧ a + x ≤ e) = decide (a + x ≤ e) := by
        by_cases z : a + x ≤ e
        · rw [decide_eq_true z, decide_eq_true ⟨hm, z⟩]
        · rw [decide_eq_false z, decide_eq_false fun y => z y.2]
      rw [e2] at q
      exact q
    · have e2 : decide (a % x = 0 ∧ a + x ≤ e) = false := decide_eq_false fun y => hm y.1
      rw [e2] at q
      exact ifF (vF hm) q
def spHigh (K : PySem.W.Frag) : Sp := fun vs H Q _ => ∃ (p : Addr) (ns : List Int) (a e : Int), vs = [.ref p, .int a, .int e] ∧ SzAt (He.ga K "Sizes") H p ns ∧ Good ns ∧ a < e ∧ Q (.int (lv ns e a)) H
theorem sc_highest_level_at : FnScope ["sizes", "low", "high", "level"] ["sizes", "low", "high"] (defScope (top 18)) := ⟨rfl, rfl, rfl, by decide +kernel, rfl, by decide +kernel, by decide +kernel⟩
theorem ok_high (T : Tx K mg) (P_top : Pf P w K mg base 1 "Sizes" "top" (spTop K)) (D_lies_below : Df P w K mg base 6 "lies_below" ["sizes", "level", "address", "end"] (spBelow K)) (F : FnP K "highest_level_at" "highest_level_at" (top 18) f fd) :
    FnOk P w K mg base CX0 7 f fd ["sizes", "low", "high"] (spHigh K) := by
  refine F.ok sc_highest_level_at (fun vs H Q E h => ?_) (fun cdv A outer s H vs Q E hr h => ⟨_, PSs.nox (pss_cons (ps_set (i := 3) sc_highest_level_at.nd rfl (by first | exact Or.inl rfl | exact Or.inr rfl) (pprop P_top hr (pv 0))) (pss_cons (ps_while PassesOwn.never (pt_not (pt_val (pcall D_lies_below hr (pa_cons (pv 0) (pa_cons (pv 3) (pa_cons (pv 1) (pa_cons (pv 2) pa_nil))))))) (pss_one (ps_aug (i := 3) sc_highest_level_at.nd rfl (by first | exact Or.inl rfl | exact Or.inr rfl) pe_int ip_sub))) (pss_one (ps_ret (pv 3))))), ?_⟩)
  · obtain ⟨p, ns, a, e, rfl, _⟩ := h
    rfl
  · obtain ⟨p, ns, a, e, rfl, hz, g, hlt, q⟩ := h
    obtain ⟨dx, l, h1, h2⟩ := id hz
    have c := chain g
    have l1 := g.len.1
    refine ⟨_, rfl, p, dx, _, rfl, h1, p, ns, rfl, hz, ?_⟩
    refine ⟨fun m σ G => ∃ n : Nat, m = n ∧ n < ns.length ∧ G = H ∧ σ = [some (.ref p), some (.int a), some (.int e), some (.int (n : Nat))] ∧ lv ns e a = M16.lev (sz ns) e a n, ⟨ns.length - 1, ns.length - 1, rfl, by omega, rfl, ?_, rfl⟩, ?_⟩
    · rw [show ((ns.length : Int) - 1) = ((ns.length - 1 : Nat) : Int) by omega]
      rfl
    · rintro m σ G ⟨n, rfl, hn, rfl, rfl, hl⟩
      refine ⟨_, rfl, _, rfl, _, rfl, _, rfl, p, ns, m, _, a, e, rfl, hz, sz_at hn, c.pos _ hn, _, rfl, ?_⟩
      by_cases hs : a % sz ns m = 0 ∧ a + sz ns m ≤ e
      · refine ifF (by rw [decide_eq_true hs]; rfl) ⟨_, rfl, ?_⟩
        have e1 : M16.lev (sz ns) e a m = m := by
          cases m with
          | zero => rfl
          | succ k => exact if_pos hs
        rw [hl, e1] at q
        exact q
      · refine ifT (by rw [decide_eq_false hs]; rfl) ?_
        cases m with
        | zero => exact absurd (M16.lies0 c hlt) hs
        | succ k =>
          refine ⟨fun σ' G' => ∃ n : Nat, n = k ∧ n < ns.length ∧ G' = G ∧ σ' = [some (.ref p), some (.int a), some (.int e), some (.int (n : Nat))] ∧ lv ns e a = M16.lev (sz ns) e a n, fun σ' G' ⟨n, e0, r⟩ => ⟨n, by omega, n, rfl, r⟩, ?_⟩
          refine ⟨_, rfl, _, _, rfl, rfl, k, rfl, by omega, rfl, ?_, ?_⟩
          · show [some (V.ref p), some (V.int a), some (V.int e), some (V.int (((k + 1 : Nat) : Int) - 1))] = _
            rw [show (((k + 1 : Nat) : Int) - 1) = ((k : Nat) : Int) by omega]
          · rw [hl]
            exact if_neg hs
def spFirst (K : PySem.W.Frag) : Sp := fun vs H Q _ => ∃ (p : Addr) (ns : List Int) (a e : Int), vs = [.ref p, .int a, .int e] ∧ SzAt (He.ga K "Sizes") H p ns ∧ Good ns ∧ 0 ≤ a ∧ a < e ∧ ∀ t, H t = none → Q (.ref t) (upd H t (.tup [.int (lv ns e a), .int (eN ns e a)]))
theorem cntI_pos {z a b : Int} (hz : 1 ≤ z) : 0 < cntI z a b ↔ M16.nx z a + z ≤ b := by
  have h := M16.cnt_pos (z := z) (a := a) (b := b) hz
  have e : cntI z a b = if ((b - b % z) - M16.nx z a) / z > 0 then ((b - b % z) - M16.nx z a) / z else 0 := rfl
  rw [e, ← h]
  split <;> omega
theorem sc_first_run : FnScope ["sizes", "low", "high", "level"] ["sizes", "low", "high"] (defScope (top 19)) := ⟨rfl, rfl, rfl, by decide +kernel, rfl, by decide +kernel, by decide +kernel⟩
theorem ok_first (T : Tx K mg) (P_top : Pf P w K mg base 1 "Sizes" "top" (spTop K)) (M_size : Mf P w K mg base 5 "Sizes" "size" ["self", "level"] (spSize K)) (D_highest_level_at : Df P w K mg base 7 "highest_level_at" ["sizes", "low", "high"] (spHigh K))
    (D_count_regions : Df P w K mg base 7 "count_regions" ["sizes", "level", "low", "high"] (spCount K)) (D_next_start : Df P w K mg base 1 "next_start" ["size", "address"] spNext) (D_region_start : Df P w K mg base 6 "region_start" ["sizes", "level", "address"] (spStart K))
    (F : FnP K "first_run" "first_run" (top 19) f fd) : FnOk P w K mg base CX0 8 f fd ["sizes", "low", "high"] (spFirst K) := by
  refine F.ok sc_first_run (fun vs H Q E h => ?_) (fun cdv A outer s H vs Q E hr h => ⟨_, PSs.nox (pss_cons (ps_set (i := 3) sc_first_run.nd rfl (by first | exact Or.inl rfl | exact Or.inr rfl) (pcall D_highest_level_at hr (pa_cons (pv 0) (pa_cons (pv 1) (pa_cons (pv 2) pa_nil))))) (pss_cons (ps_if (PW.pt (pw_and (pt_cmpR op_lt (pv 3) (pprop P_top hr (pv 0)) (nomark _)) (pw_and1 (pt_cmpR op_gt (pcall D_count_regions hr (pa_cons (pv 0) (pa_cons (pe_op op_add (pv 3) pe_int) (pa_cons (pv 1) (pa_cons (pv 2) pa_nil))))) pe_int (nomark _))))) (pss_one (ps_ret (pe_tup (pa_cons (pv 3) (pa_cons (pcall D_next_start hr (pa_cons (pmeth M_size hr (pv 0) (pa_cons (pe_op op_add (pv 3) pe_int) pa_nil)) (pa_cons (pv 1) pa_nil))) pa_nil))))) pss_nil) (pss_one (ps_ret (pe_tup (pa_cons (pv 3) (pa_cons (pcall D_region_start hr (pa_cons (pv 0) (pa_cons (pv 3) (pa_cons (pv 2) pa_nil)))) pa_nil))))))), ?_⟩)
  · obtain ⟨p, ns, a, e, rfl, _⟩ := h
    rfl
  · obtain ⟨p, ns, a, e, rfl, hz, g, a0, hlt, q⟩ := h
    obtain ⟨dx, l, h1, h2⟩ := id hz
    have c := chain g
    have two : 2 ≤ sizeLine := by decide
    have lm : lv ns e a < ns.length := M16.L_lt c
    refine ⟨_, rfl, _, rfl, _, rfl, p, ns, a, e, rfl, hz, g, hlt, ?_⟩
    refine ⟨_, rfl, _, rfl, p, dx, _, rfl, h1, p, ns, rfl, hz, _, _, rfl, rfl, _, rfl, ?_⟩
    have last : ¬ (lv ns e a + 1 < ns.length ∧ M16.nx (sz ns (lv ns e a + 1)) a + sz ns (lv ns e a + 1) ≤ e) → eN ns e a = e - e % sz ns (lv ns e a) := M16.en2
    by_cases hk : ((lv ns e a : Nat) : Int) < (ns.length : Int) - 1
    · have k1 : lv ns e a + 1 < ns.length := by omega
      have z1 := c.pos _ k1
      have z2 := sz_le g k1
      refine ifT (decide_eq_true hk) ⟨_, rfl, _, rfl, _, _, rfl, rfl, _, rfl, _, rfl, p, ns, lv ns e a + 1, _, a, e, rfl, hz, sz_at k1, z1, z2, a0, by omega, _, _, rfl, rfl, _, rfl, ?_⟩
      by_cases hc : 0 < cntI (sz ns (lv ns e a + 1)) a e
      · refine ifT (decide_eq_true hc) ⟨_, rfl, _, rfl, p, dx, _, rfl, h1, szF_no l (by decide +kernel), _, rfl, _, _, rfl, rfl, p, ns, lv ns e a + 1, _, rfl, hz, sz_at k1, _, rfl, _, a, rfl, z1, z2, two, fun t ht => ?_⟩
        have e1 : eN ns e a = M16.nx (sz ns (lv ns e a + 1)) a := M16.en1 ⟨k1, (cntI_pos z1).mp hc⟩
        have r := q t ht
        rw [e1] at r
        exact r
      · refine ifF (decide_eq_false hc) ⟨_, rfl, _, rfl, _, rfl, _, rfl, p, ns, lv ns e a, _, e, rfl, hz, sz_at lm, c.pos _ lm, by omega, two, fun t ht => ?_⟩
        have r := q t ht
        rw [last fun y => hc ((cntI_pos z1).mpr y.2)] at r
        exact r
    · refine ifF (decide_eq_false hk) (iteF ⟨_, rfl, _, rfl, _, rfl, _, rfl, p, ns, lv ns e a, _, e, rfl, hz, sz_at lm, c.pos _ lm, by omega, two, fun t ht => ?_⟩)
      have r := q t ht
      rw [last fun y => hk (by omega)] at r
      exact r
end
end K16

set_option Elab.async false
set_option linter.all false
set_option maxRecDepth 100000
set_option maxHeartbeats 4000000
namespace K16
open PySem PySem.Spec PyProof.Rows L2 Gu Ex
theorem same_upd {H : Hp} {p : Addr} {o : HO} (h : H p = none) : Same H (upd H p o) := fun b x e => by
  rw [upd_ne (ne_of_none e h)]
  exact e
/-- a run as a tuple -/
def runV (t : M16.Run) : List V := [.int (t.1 : Nat), .int t.2.1, .int t.2.2]
def runD (t : M16.Run) : PyData := .tuple [.int (t.1 : Nat), .int t.2.1, .int t.2.2]
/-- the tuples of runs at these addresses -/
inductive Tups (H : Hp) : List Addr → List M16.Run → Prop
  | nil : Tups H [] []
  | cons {p : Addr} {ps : List Addr} {t : M16.Run} {ts : List M16.Run} : H p = some (.tup (runV t)) → Tups H ps ts → Tups H (p :: ps) (t :: ts)
section
variable {H H' : Hp} {ps : List Addr} {ts : List M16.Run}
theorem Tups.mono (h : Tups H ps ts) (k : ∀ p xs, H p = some (.tup xs) → H' p = some (.tup xs)) : Tups H' ps ts := by
  induction h with
  | nil => exact .nil
  | cons a _ ih => exact .cons (k _ _ a) ih
theorem Tups.same (h : Tups H ps ts) (k : Same H H') : Tups H' ps ts := h.mono fun p xs e => k p _ e
theorem Tups.snoc {p : Addr} {t : M16.Run} (h : Tups H ps ts) (a : H p = some (.tup (runV t))) : Tups H (ps ++ [p]) (ts ++ [t]) := by
  induction h with
  | nil => exact .cons a .nil
  | cons b _ ih => exact .cons b ih
theorem Tups.len (h : Tups H ps ts) : ps.length = ts.length := by
  induction h with
  | nil => rfl
  | cons _ _ ih => rw [List.length_cons, List.length_cons, ih]
theorem Tups.get (h : Tups H ps ts) : ∀ {i : Nat} {p : Addr}, ps[i]? = some p → ∃ t, ts[i]? = some t ∧ H p = some (.tup (runV t)) := by
  induction h with
  | nil => intro i p e; cases e
  | cons a _ ih =>
    intro i p e
    cases i with
    | zero =>
      cases e
      exact ⟨_, rfl, a⟩
    | succ i => exact ih e
end
section
variable {P : Program} {w : World} {K : PySem.W.Frag} {mg : Str → Option Value} {base : Heap} {f : Addr} {fd : FuncData}
abbrev Rs (ns : List Int) (hi a : Int) : List M16.Run := M16.R (sz ns) ns.length hi a
def spMax (K : PySem.W.Frag) : Sp := fun vs H Q _ => ∃ (p : Addr) (ns : List Int) (lo hi : Int), vs = [.ref p, .int lo, .int hi] ∧ SzAt (He.ga K "Sizes") H p ns ∧ Good ns ∧ 0 ≤ lo ∧ lo ≤ hi ∧
  ∀ L ps H', H L = none → Same H H' → H' L = some (.lst (ps.map V.ref)) → Tups H' ps (Rs ns hi lo) → Q (.ref L) H'
theorem SzAt.same {C p : Addr} {H H' : Hp} {ns : List Int} (h : SzAt C H p ns) (s : Same H H') : SzAt C H' p ns := by
  obtain ⟨dx, l, a, b⟩ := h
  exact ⟨dx, l, s _ _ a, s _ _ b⟩
theorem sc_maximal_runs : FnScope ["sizes", "low", "high", "runs", "address", "level", "end"] ["sizes", "low", "high"] (defScope (top 20)) := ⟨rfl, rfl, rfl, by decide +kernel, rfl, by decide +kernel, by decide +kernel⟩
theorem ok_max (T : Tx K mg) (D_check_range : Df P w K mg base 3 "check_range" ["low", "high"] spRange) (M_size : Mf P w K mg base 5 "Sizes" "size" ["self", "level"] (spSize K)) (D_first_run : Df P w K mg base 8 "first_run" ["sizes", "low", "high"] (spFirst K))
    (F : FnP K "maximal_runs" "maximal_runs" (top 20) f fd) : FnOk P w K mg base CX0 9 f fd ["sizes", "low", "high"] (spMax K) := by
  refine F.ok sc_maximal_runs (fun vs H Q E h => ?_) (fun cdv A outer s H vs Q E hr h => ⟨_, PSs.nox (pss_cons (ps_expr (pcall D_check_range hr (pa_cons (pv 1) (pa_cons (pv 2) pa_nil)))) (pss_cons (ps_set (i := 3) sc_maximal_runs.nd rfl (by first | exact Or.inl rfl | exact Or.inr rfl) (pe_lst pa_nil)) (pss_cons (ps_set (i := 4) sc_maximal_runs.nd rfl (by first | exact Or.inl rfl | exact Or.inr rfl) (pv 1)) (pss_cons (ps_while PassesOwn.never (pt_cmpR op_lt (pv 4) (pv 2) (nomark _)) (pss_cons (ps_asg (pcall D_first_run hr (pa_cons (pv 0) (pa_cons (pv 4) (pa_cons (pv 2) pa_nil)))) (pg_tup (by rfl) (pgs_cons (pg_name (i := 5) sc_maximal_runs.nd rfl (by first | exact Or.inl rfl | exact Or.inr rfl)) (pgs_cons (pg_name (i := 6) sc_maximal_runs.nd rfl (by first | exact Or.inl rfl | exact Or.inr rfl)) pgs_nil)))) (pss_cons (ps_expr (pe_bm PySem.F.plainAttrs_list PySem.F.slot_list_append PySem.F.type_list_append mt_append (pv 3) (pa_cons (pe_tup (pa_cons (pv 5) (pa_cons (pv 4) (pa_cons (pe_op op_fdivW (pe_op op_sub (pv 6) (pv 4)) (pmeth M_size hr (pv 0) (pa_cons (pv 5) pa_nil))) pa_nil)))) pa_nil))) (pss_one (ps_set (i := 4) sc_maximal_runs.nd rfl (by first | exact Or.inl rfl | exact Or.inr rfl) (pv 6)))))) (pss_one (ps_ret (pv 3))))))), ?_⟩)
  · obtain ⟨p, ns, a, e, rfl, _⟩ := h
    rfl
  · obtain ⟨p, ns, lo, hi, rfl, hz, g, a0, hlt, q⟩ := h
    have c := chain g
    have sl : sizeLine = 16777216 := sizeLine_eq
    refine ⟨_, rfl, _, rfl, lo, hi, rfl, a0, hlt, ?_⟩
    refine ⟨Nat.zero_le _, fun L hL => ⟨_, rfl, ?_⟩⟩
    have short : ∀ {done : List M16.Run} {a : Int}, Rs ns hi lo = done ++ Rs ns hi a → done.length ≤ 16 := fun {done a} e => by
      have l := M16.R_short (s := sz ns) (a := lo) (hi := hi) c g.len.2
      have l2 := congrArg List.length e
      rw [List.length_append] at l2
      have : (Rs ns hi lo).length ≤ 16 := l
      omega
    refine ⟨fun m σ G => ∃ (a : Int) (ps : List Addr) (done : List M16.Run) (x y : Option V), m = (hi - a).toNat ∧ σ = [some (.ref p), some (.int lo), some (.int hi), some (.ref L), some (.int a), x, y] ∧ Same H G ∧ G L = some (.lst (ps.map V.ref)) ∧ Tups G ps done ∧ M16.Mid (sz ns) ns.length hi lo a done,
      ⟨_, lo, [], [], none, none, rfl, rfl, same_upd hL, upd_same, .nil, M16.mid0 c hlt⟩, ?_⟩
    rintro m σ G ⟨a, ps, done, x, y, rfl, rfl, sm, hG, tp, M⟩
    refine ⟨_, rfl, _, rfl, _, _, rfl, rfl, _, rfl, ?_⟩
    by_cases hc : a < hi
    · refine ifT (decide_eq_true hc) ?_
      have la := M.lo_le
      have zG := hz.same sm
      refine ⟨fun σ' G' => ∃ (ps : List Addr) (done : List M16.Run) (x y : Option V), σ' = [some (.ref p), some (.int lo), some (.int hi), some (.ref L), some (.int (eN ns hi a)), x, y] ∧ Same H G' ∧ G' L = some (.lst (ps.map V.ref)) ∧ Tups G' ps done ∧ M16.Mid (sz ns) ns.length hi lo (eN ns hi a) done,
        fun σ' G' ⟨ps, done, x, y, r⟩ => ⟨_, (by have gg : a < eN ns hi a := M16.en_gt c hc; show (hi - eN ns hi a).toNat < _; omega), eN ns hi a, ps, done, x, y, rfl, r⟩, ?_⟩
      refine ⟨_, rfl, _, rfl, _, rfl, p, ns, a, hi, rfl, zG, g, by omega, hc, fun t ht => ?_⟩
      refine ⟨t, _, rfl, .inl (.inl upd_same), rfl, _, _, rfl, _, _, rfl, rfl, ?_⟩
      have sm1 := same_upd (o := .tup [.int (lv ns hi a), .int (eN ns hi a)]) ht
      have hG1 := sm1 _ _ hG
      have zG1 := zG.same sm1
      generalize (upd G t (.tup [.int (lv ns hi a), .int (eN ns hi a)])) = G1 at sm1 hG1 zG1 ⊢
      obtain ⟨dx, l, h1, h2⟩ := id zG1
      have lm : lv ns hi a < ns.length := M16.L_lt c
      refine ⟨_, rfl, .inl ⟨rfl, _, SqL.of hG1⟩, ?_⟩
      refine ⟨_, rfl, _, rfl, _, rfl, _, rfl, _, _, rfl, rfl, _, rfl, p, dx, _, rfl, h1, szF_no l (by decide +kernel), _, rfl, p, ns, lv ns hi a, _, rfl, zG1, sz_at lm, _, _, rfl, rfl, div_ok (c.pos _ lm) (sz_le g lm), (by show 3 ≤ sizeLine; decide), fun t2 ht2 => ?_⟩
      have nL : L ≠ t2 := ne_of_none hG1 ht2
      have hl := short M.eq
      refine ⟨L, _, _, rfl, rfl, (by rw [upd_ne nL]; exact hG1), (by rw [List.length_map, tp.len]; omega), ?_⟩
      have tp2 : Tups (upd (upd G1 t2 (.tup (runV (M16.run (sz ns) ns.length hi a)))) L (.lst (ps.map V.ref ++ [.ref t2]))) (ps ++ [t2]) (done ++ [M16.run (sz ns) ns.length hi a]) := by
        refine Tups.snoc ((tp.same sm1).mono fun b xs e => ?_) ?_
        · rw [upd_ne (fun z => by rw [z, hG1] at e; cases e), upd_ne (ne_of_none e ht2)]
          exact e
        · rw [upd_ne nL.symm, upd_same]
      refine ⟨_, rfl, ps ++ [t2], _, _, _, rfl, fun b o e => ?_, ?_, tp2, M.next c hc⟩
      · rw [upd_ne (ne_of_none e hL), upd_ne (ne_of_none (sm1 _ _ (sm b o e)) ht2)]
        exact sm1 _ _ (sm b o e)
      · rw [upd_same, List.map_append]
        rfl
    · refine ifF (decide_eq_false hc) ⟨_, rfl, q L ps G hL sm hG ?_⟩
      have e := M.eq
      rw [M16.R_end hc, List.append_nil] at e
      show Tups G ps (M16.R (sz ns) ns.length hi lo)
      rw [e]
      exact tp
end
end K16

set_option Elab.async false
set_option linter.all false
set_option maxRecDepth 100000
set_option maxHeartbeats 4000000
namespace K16
open PySem PySem.Spec PyProof.Rows L2 Gu Ex
section
variable {K : PySem.W.Frag} {H : Hp} {ps : List Addr} {ts : List M16.Run}
theorem runs_dp (h : Tups H ps ts) : DpAll K H (ps.map V.ref) (ts.map runD) := by
  induction h with
  | nil => exact .nil
  | cons a _ ih => exact .cons (.tup (SqT.of a) (.cons (.int _) (.cons (.int _) (.cons (.int _) .nil)))) ih
theorem runs_lay : ∀ ts : List M16.Run, PyData.canLayAll0 (ts.map runD) = true
  | [] => rfl
  | t :: r => by
    show (PyData.canLay0 (runD t) && PyData.canLayAll0 (r.map runD)) = true
    rw [runs_lay r]
    rfl
theorem runs_depth : ∀ ts : List M16.Run, PyData.depthAll (ts.map runD) ≤ 1
  | [] => by decide
  | t :: r => by
    show max (PyData.depth (runD t)) (PyData.depthAll (r.map runD)) ≤ 1
    have := runs_depth r
    have e : PyData.depth (runD t) = 1 := rfl
    omega
theorem runs_shaped (ts : List M16.Run) : SeqAt.shaped (.list (ts.map runD)) = true := by
  have c : (PyData.list (ts.map runD)).canLay0 = true := runs_lay ts
  have d : (PyData.list (ts.map runD)).depth ≤ 64 := by
    show PyData.depthAll (ts.map runD) + 1 ≤ 64
    have := runs_depth ts
    omega
  unfold SeqAt.shaped
  rw [c, decide_eq_true d]
  rfl
theorem tq_run {p : Addr} {t : M16.Run} (h : H p = some (.tup (runV t))) (h1 : t.1 ≤ 100) (h2 : 0 ≤ t.2.1 ∧ t.2.1 ≤ 10 ^ 38) (h3 : 0 ≤ t.2.2 ∧ t.2.2 ≤ 10 ^ 38) : Tq K H (.ref p) (runD t) 1 140 := by
  have b39 : (10 : Int) ^ 39 = 1000000000000000000000000000000000000000 := by decide
  have b38 : (10 : Int) ^ 38 = 100000000000000000000000000000000000000 := by decide
  have t1 : Tq K H (.int (t.1 : Nat)) (.int (t.1 : Nat)) 0 41 := tq_int (by omega) (by omega)
  have t2 : Tq K H (.int t.2.1) (.int t.2.1) 0 41 := tq_int (by omega) (by omega)
  have t3 : Tq K H (.int t.2.2) (.int t.2.2) 0 41 := tq_int (by omega) (by omega)
  have ta : TqAll K H (runV t) [.int (t.1 : Nat), .int t.2.1, .int t.2.2] 0 41 := by
    refine ⟨.cons t1.dq (.cons t2.dq (.cons t3.dq .nil)), ?_, Nat.le_refl _, ?_⟩
    · show (PyData.showable (.int (t.1 : Nat)) && (PyData.showable (.int t.2.1) && (PyData.showable (.int t.2.2) && true))) = true
      rw [t1.sh, t2.sh, t3.sh]
      rfl
    · show ((PyData.int (t.1 : Nat)).shown.length + ((PyData.int t.2.1).shown.length + ((PyData.int t.2.2).shown.length + 0))) + 2 * 3 ≤ 3 * (41 + 2)
      have := t1.ln
      have := t2.ln
      have := t3.ln
      omega
  exact (ta.tup h).mono (Nat.le_refl _) (by show 3 * (41 + 2) + 3 ≤ 140; decide)
/-- the runs' list, shown -/
theorem tq_runs (h : Tups H ps ts) (hb : ∀ t ∈ ts, t.1 ≤ 100 ∧ (0 ≤ t.2.1 ∧ t.2.1 ≤ 10 ^ 38) ∧ (0 ≤ t.2.2 ∧ t.2.2 ≤ 10 ^ 38)) : TqAll K H (ps.map V.ref) (ts.map runD) 1 140 := by
  induction h with
  | nil => exact ⟨.nil, rfl, Nat.zero_le _, Nat.zero_le _⟩
  | @cons p ps t ts a _ ih =>
    obtain ⟨b1, b2, b3⟩ := hb t List.mem_cons_self
    have x := tq_run (K := K) a b1 b2 b3
    have y := ih fun u hu => hb u (List.mem_cons_of_mem _ hu)
    refine ⟨.cons x.dq y.dq, ?_, ?_, ?_⟩
    · show ((runD t).showable && PyData.showableAll (ts.map runD)) = true
      rw [x.sh, y.sh]
      rfl
    · show max (runD t).depth (PyData.depthAll (ts.map runD)) ≤ 1
      have := x.dp
      have := y.dp
      omega
    · show ((runD t).shown.length + ((PyData.shownAll (ts.map runD)).map (·.length)).sum) + 2 * ((PyData.shownAll (ts.map runD)).length + 1) ≤ ((ps.map V.ref).length + 1) * (140 + 2)
      have := x.ln
      have := y.ln
      rw [Nat.add_mul, Nat.one_mul]
      omega
end
section
variable {P : Program} {w : World} {K : PySem.W.Frag} {mg : Str → Option Value} {base : Heap} {f : Addr} {fd : FuncData}
theorem fl_is {z x : Int} : x / z * z = x - x % z := by
  have e := Int.mul_ediv_add_emod x z
  rw [Int.mul_comm]
  omega
def spIn : Sp := fun vs H Q _ => ∃ z x lo hi : Int, vs = [.int z, .int x, .int lo, .int hi] ∧ 1 ≤ z ∧ z ≤ 1000000000 ∧ Q (.bl (decide (lo ≤ x - x % z ∧ x - x % z + z ≤ hi))) H
theorem sc__law_lies_in : FnScope ["_law_size", "_law_address", "_law_low_here", "_law_high", "_law_start"] ["_law_size", "_law_address", "_law_low_here", "_law_high"] (defScope (top 27)) := ⟨rfl, rfl, rfl, by decide +kernel, rfl, by decide +kernel, by decide +kernel⟩
theorem ok_in (T : Tx K mg) (F : FnP K "_law_lies_in" "_law_lies_in" (top 27) f fd) : FnOk P w K mg base CX0 1 f fd ["_law_size", "_law_address", "_law_low_here", "_law_high"] spIn := by
  refine F.ok sc__law_lies_in (fun vs H Q E h => ?_) (fun cdv A outer s H vs Q E hr h => ⟨_, PSs.nox (pss_cons (ps_set (i := 4) sc__law_lies_in.nd rfl (by first | exact Or.inl rfl | exact Or.inr rfl) (pe_op op_mul (pe_op op_fdivW (pv 1) (pv 0)) (pv 0))) (pss_one (ps_ret (pe_and (pe_cmpR op_le (pv 2) (pv 4) (nomark _)) (pe_one (pe_cmpR op_le (pe_op op_add (pv 4) (pv 0)) (pv 3) (nomark _))))))), ?_⟩)
  · obtain ⟨z, x, lo, hi, rfl, _⟩ := h
    rfl
  · obtain ⟨z, x, lo, hi, rfl, z1, z2, q⟩ := h
    refine ⟨_, rfl, _, rfl, _, _, rfl, rfl, div_ok z1 z2, _, rfl, _, _, rfl, rfl, .inr ⟨by omega, by omega⟩, ?_⟩
    rw [← fl_is] at q
    refine ⟨_, rfl, _, rfl, _, _, rfl, rfl, _, rfl, ?_⟩
    by_cases h1 : lo ≤ x / z * z
    · refine ifT (decide_eq_true h1) ⟨_, rfl, _, rfl, _, _, rfl, rfl, _, rfl, _, _, rfl, rfl, ?_⟩
      have e2 : decide (lo ≤ x / z * z ∧ x / z * z + z ≤ hi) = decide (x / z * z + z ≤ hi) := by
        by_cases y : x / z * z + z ≤ hi
        · rw [decide_eq_true y, decide_eq_true ⟨h1, y⟩]
        · rw [decide_eq_false y, decide_eq_false fun k => y k.2]
      rw [e2] at q
      exact q
    · have e2 : decide (lo ≤ x / z * z ∧ x / z * z + z ≤ hi) = false := decide_eq_false fun y => h1 y.1
      rw [e2] at q
      exact ifF (decide_eq_false h1) q
theorem ceil_nx {z a : Int} (hz : 1 ≤ z) : (a + z - 1) / z * z = M16.nx z a := by
  rw [fl_is]
  have h1 := M16.nx_ge a hz
  have h2 := M16.nx_lt a hz
  exact M16.fl_eq hz (M16.nx_dvd z a) (by omega) (by omega)
def spFar : Sp := fun vs H Q _ => ∃ (l L : Addr) (ns : List Int) (lo hi : Int) (ps : List Addr), vs = [.ref l, .int lo, .int hi, .ref L] ∧ H l = some (.lst (ns.map V.int)) ∧ Good ns ∧ lo ≤ hi ∧ H L = some (.lst (ps.map V.ref)) ∧ Tups H ps (Rs ns hi lo) ∧ Q (.bl true) H
theorem at_sz {ns : List Int} {k : Nat} (h : k < ns.length) : atI (ns.map V.int) (k : Int) = some (.int (sz ns k)) := at_map (sz_at h)
/-- the run behind the first ones -/
theorem mid_get {ns : List Int} {hi lo a : Int} {done : List M16.Run} (c : M16.Ch (sz ns) ns.length) (M : M16.Mid (sz ns) ns.length hi lo a done) {t : M16.Run} (h : (Rs ns hi lo)[done.length]? = some t) : a < hi ∧ t = M16.run (sz ns) ns.length hi a := by
  have e : Rs ns hi lo = done ++ M16.R (sz ns) ns.length hi a := M.eq
  rw [e, List.getElem?_append_right (Nat.le_refl _), Nat.sub_self] at h
  by_cases ha : a < hi
  · rw [M16.R_step c ha] at h
    exact ⟨ha, (Option.some.inj h).symm⟩
  · rw [M16.R_end ha] at h
    cases h
theorem sc__law_far_right : FnScope ["_law_sizes_here", "_law_low_here", "_law_high", "_law_runs", "_law_at", "_law_before", "_law_level", "_law_address", "_law_count", "_law_size", "_law_more"] ["_law_sizes_here", "_law_low_here", "_law_high", "_law_runs"] (defScope (top 28)) := ⟨rfl, rfl, rfl, by decide +kernel, rfl, by decide +kernel, by decide +kernel⟩
theorem ok_far (T : Tx K mg) (D__law_lies_in : Df P w K mg base 1 "_law_lies_in" ["_law_size", "_law_address", "_law_low_here", "_law_high"] spIn) (F : FnP K "_law_far_right" "_law_far_right" (top 28) f fd) :
    FnOk P w K mg base CX0 2 f fd ["_law_sizes_here", "_law_low_here", "_law_high", "_law_runs"] spFar := by
  refine F.ok sc__law_far_right (fun vs H Q E h => ?_) (fun cdv A outer s H vs Q E hr h => ⟨_, PSs.nox (pss_cons (ps_par (by rfl) sc__law_far_right.nd (i := 4) (j := 5) rfl rfl (by decide) rfl rfl (pa_cons (pv 1) (pa_cons (pe_un un_neg pe_int) pa_nil)) (by rfl)) (pss_cons (ps_for PassesOwn.never rfl (pi_list (pv 3)) (pg_tup (by rfl) (pgs_cons (pg_name (i := 6) sc__law_far_right.nd rfl (by first | exact Or.inl rfl | exact Or.inr rfl)) (pgs_cons (pg_name (i := 7) sc__law_far_right.nd rfl (by first | exact Or.inl rfl | exact Or.inr rfl)) (pgs_cons (pg_name (i := 8) sc__law_far_right.nd rfl (by first | exact Or.inl rfl | exact Or.inr rfl)) pgs_nil)))) (pss_cons (ps_if (PW.pt (pw_or (pt_not (pt_chain op_le op_lt pe_int (pv 6) (pe_callB call_len_seq (by rfl) T.n_len (by decide +kernel) (pa_cons (pv 0) pa_nil)))) (pw_or (pt_cmpR op_ne (pv 7) (pv 4) (nomark _)) (pw_or (pt_cmpR op_lt (pv 8) pe_int (nomark _)) (pw_or1 (pt_cmpR op_eq (pv 6) (pv 5) (nomark _))))))) (pss_one (ps_ret pe_bl)) pss_nil) (pss_cons (ps_par (by rfl) sc__law_far_right.nd (i := 9) (j := 4) rfl rfl (by decide) rfl rfl (pa_cons (pe_ix ix_list (pv 0) (pv 6) (fun _ _ => rfl)) (pa_cons (pe_op op_add (pv 7) (pe_op op_mul (pv 8) (pe_ix ix_list (pv 0) (pv 6) (fun _ _ => rfl)))) pa_nil)) (by rfl)) (pss_cons (ps_set (i := 5) sc__law_far_right.nd rfl (by first | exact Or.inl rfl | exact Or.inr rfl) (pv 6)) (pss_cons (ps_if (PW.pt (pw_or (pt_cmpR op_ne (pe_op op_mod (pv 7) (pv 9)) pe_int (nomark _)) (pw_or1 (pt_cmpR op_gt (pv 4) (pv 2) (nomark _))))) (pss_one (ps_ret pe_bl)) pss_nil) (pss_one (ps_if (pt_cmpR op_lt (pe_op op_add (pv 6) pe_int) (pe_callB call_len_seq (by rfl) T.n_len (by decide +kernel) (pa_cons (pv 0) pa_nil)) (nomark _)) (pss_cons (ps_set (i := 10) sc__law_far_right.nd rfl (by first | exact Or.inl rfl | exact Or.inr rfl) (pe_ix ix_list (pv 0) (pe_op op_add (pv 6) pe_int) (fun _ _ => rfl))) (pss_cons (ps_if (PW.pt (pw_or (pt_val (pcall D__law_lies_in hr (pa_cons (pv 10) (pa_cons (pv 7) (pa_cons (pv 1) (pa_cons (pv 2) pa_nil)))))) (pw_or1 (pt_val (pcall D__law_lies_in hr (pa_cons (pv 10) (pa_cons (pe_op op_sub (pv 4) (pv 9)) (pa_cons (pv 1) (pa_cons (pv 2) pa_nil))))))))) (pss_one (ps_ret pe_bl)) pss_nil) (pss_one (ps_if (pt_cmpR op_le (pe_op op_add (pe_op op_mul (pe_op op_fdivW (pe_op op_sub (pe_op op_add (pv 7) (pv 10)) pe_int) (pv 10)) (pv 10)) (pv 10)) (pv 4) (nomark _)) (pss_one (ps_ret pe_bl)) pss_nil)))) pss_nil))))))) (pss_one (ps_ret (pe_cmpR op_eq (pv 4) (pv 2) (nomark _)))))), ?_⟩)
  · obtain ⟨l, L, ns, lo, hi, ps, rfl, _⟩ := h
    rfl
  · obtain ⟨l, L, ns, lo, hi, ps, rfl, hl, g, hlt, hL, tp, q⟩ := h
    have c := chain g
    refine ⟨_, rfl, _, rfl, _, _, rfl, ?_⟩
    refine ⟨_, rfl, L, rfl, ⟨_, SqL.of hL⟩, ?_⟩
    refine for_list (K := K) (a := L) (xs := ps.map V.ref) (fun i σ G => ∃ (a bf : Int) (done : List M16.Run) (y6 y7 y8 y9 y10 : Option V), G = H ∧ σ = [some (.ref l), some (.int lo), some (.int hi), some (.ref L), some (.int a), some (.int bf), y6, y7, y8, y9, y10] ∧ done.length = i ∧ M16.Mid (sz ns) ns.length hi lo a done ∧ (a < hi → ((lv ns hi a : Nat) : Int) ≠ bf))
      ⟨lo, -1, [], none, none, none, none, none, rfl, rfl, rfl, M16.mid0 c hlt, fun _ => by omega⟩ (fun i σ G _ ⟨a, bf, done, y6, y7, y8, y9, y10, e, _⟩ => by rw [e]; exact SqL.of hL) ?_ ?_
    · rintro i x σ G hx ⟨a, bf, done, y6, y7, y8, y9, y10, rfl, rfl, hdone, M, hbf⟩
      obtain ⟨p, hp, rfl⟩ : ∃ p, ps[i]? = some p ∧ V.ref p = x := by
        rw [List.getElem?_map] at hx
        cases e : ps[i]? with
        | none => rw [e] at hx; cases hx
        | some p => rw [e] at hx; exact ⟨p, rfl, Option.some.inj hx⟩
      obtain ⟨t, ht, hT⟩ := tp.get hp
      rw [← hdone] at ht
      obtain ⟨ha, rfl⟩ := mid_get c M ht
      have lm : lv ns hi a < ns.length := M16.L_lt c
      have z1 := c.pos _ lm
      have z2 := sz_le g lm
      have cells : (eN ns hi a - a) / sz ns (lv ns hi a) * sz ns (lv ns hi a) = eN ns hi a - a := M16.run_cells c ha
      have one : 1 ≤ (eN ns hi a - a) / sz ns (lv ns hi a) := M16.run_one c ha
      have gt : a < eN ns hi a := M16.en_gt c ha
      have le : eN ns hi a ≤ hi := M16.en_le c
      have lie : a % sz ns (lv ns hi a) = 0 := (M16.L_lies c ha).1
      have hT' : G p = some (.tup [.int (lv ns hi a : Nat), .int a, .int ((eN ns hi a - a) / sz ns (lv ns hi a))]) := hT
      have nh : ∀ {x : Int}, a ≤ x → x < eN ns hi a → ∀ k1 : lv ns hi a + 1 < ns.length, ¬ (lo ≤ x - x % sz ns (lv ns hi a + 1) ∧ x - x % sz ns (lv ns hi a + 1) + sz ns (lv ns hi a + 1) ≤ hi) := fun x1 x2 k1 => M16.no_high c ha M.bd k1 x1 x2
      have nxt : ∀ k1 : lv ns hi a + 1 < ns.length, ¬ M16.nx (sz ns (lv ns hi a + 1)) a + sz ns (lv ns hi a + 1) ≤ eN ns hi a := fun k1 hle => by
        have z := c.pos _ k1
        by_cases c1 : lv ns hi a + 1 < ns.length ∧ M16.nx (sz ns (lv ns hi a + 1)) a + sz ns (lv ns hi a + 1) ≤ hi
        · have e : eN ns hi a = M16.nx (sz ns (lv ns hi a + 1)) a := M16.en1 c1
          omega
        · exact c1 ⟨k1, by omega⟩
      generalize hcnt : (eN ns hi a - a) / sz ns (lv ns hi a) = cnt at *
      have ee : a + cnt * sz ns (lv ns hi a) = eN ns hi a := by omega
      have gp : a + sz ns (lv ns hi a) ≤ eN ns hi a := M16.gap (M16.dvd0 lie) (M16.en_dvd c) gt
      have Mn : M16.Mid (sz ns) ns.length hi lo (a + cnt * sz ns (lv ns hi a)) (done ++ [M16.run (sz ns) ns.length hi a]) := by
        rw [ee]
        exact M.next c ha
      have Ml : (done ++ [M16.run (sz ns) ns.length hi a]).length = i + 1 := by
        rw [List.length_append, hdone]
        rfl
      have Mb : a + cnt * sz ns (lv ns hi a) < hi → ((lv ns hi (a + cnt * sz ns (lv ns hi a)) : Nat) : Int) ≠ (lv ns hi a : Nat) := by
        rw [ee]
        intro h z
        have z2 : lv ns hi (eN ns hi a) = lv ns hi a := Int.ofNat.inj z
        exact M16.other c h z2.symm
      refine ⟨p, _, rfl, .inl (.inl hT'), rfl, _, _, rfl, _, _, rfl, _, _, rfl, rfl, ?_⟩
      refine ⟨_, rfl, _, _, rfl, rfl, _, rfl, ifT (decide_eq_true (by omega)) ⟨_, rfl, l, _, rfl, .inl (SqL.of hl), _, _, rfl, rfl, _, rfl, ifF (by rw [decide_eq_true (by rw [List.length_map]; omega)]; rfl) ?_⟩⟩
      refine ⟨_, rfl, _, rfl, rfl, _, rfl, ifF (by rw [vT rfl]; rfl) ⟨_, rfl, _, _, rfl, rfl, _, rfl, ifF (decide_eq_false (by omega)) ⟨_, rfl, _, rfl, rfl, _, rfl, ifF (vF (hbf ha)) ?_⟩⟩⟩
      refine ⟨_, rfl, _, rfl, l, _, _, _, rfl, rfl, SqL.of hl, at_sz lm, _, rfl, _, rfl, _, rfl, _, rfl, l, _, _, _, rfl, rfl, SqL.of hl, at_sz lm, _, _, rfl, rfl, .inr ⟨by omega, by omega⟩, _, _, rfl, rfl, _, _, rfl, ?_⟩
      refine ⟨_, rfl, ?_⟩
      refine ⟨_, rfl, _, rfl, _, _, rfl, rfl, (by show (0 : Int) < sz ns (lv ns hi a); omega), rfl, _, rfl, ifF (by rw [vT lie]; rfl) ⟨_, rfl, _, rfl, _, _, rfl, rfl, _, rfl, ifF (decide_eq_false (by omega)) ?_⟩⟩
      refine ⟨_, rfl, _, _, rfl, rfl, _, rfl, l, _, rfl, .inl (SqL.of hl), _, _, rfl, rfl, _, rfl, ?_⟩
      by_cases hk : ((lv ns hi a : Nat) : Int) + 1 < (((ns.map V.int).length : Nat) : Int)
      · have k1 : lv ns hi a + 1 < ns.length := by rw [List.length_map] at hk; omega
        have w1 := c.pos _ k1
        have w2 := sz_le g k1
        have w3 : -(2 ^ 64) < sz ns (lv ns hi a + 1) := by omega
        have w4 : sz ns (lv ns hi a + 1) < 2 ^ 64 := by omega
        have n1 := nh (Int.le_refl a) gt k1
        have n2 := nh (x := a + cnt * sz ns (lv ns hi a) - sz ns (lv ns hi a)) (by omega) (by omega) k1
        have n3 := nxt k1
        rw [← ceil_nx w1] at n3
        refine ifT (decide_eq_true hk) ⟨_, rfl, _, rfl, _, _, rfl, rfl, l, _, _, _, rfl, rfl, SqL.of hl, at_sz k1, ?_⟩
        refine ⟨_, rfl, _, rfl, _, rfl, _, rfl, _, a, lo, hi, rfl, w1, w2, _, rfl, ifF (decide_eq_false n1) ?_⟩
        refine ⟨_, rfl, _, rfl, _, rfl, _, _, rfl, rfl, _, rfl, _, rfl, _, _, lo, hi, rfl, w1, w2, _, rfl, ifF (decide_eq_false n2) ?_⟩
        refine ⟨_, rfl, _, rfl, _, _, rfl, rfl, _, _, rfl, rfl, _, rfl, _, _, rfl, rfl, div_ok w1 w2, _, rfl, _, _, rfl, rfl, .inr ⟨w3, w4⟩, _, rfl, _, _, rfl, rfl, _, rfl, _, _, rfl, rfl, _, rfl, ifF (decide_eq_false (by rw [ee]; exact n3)) ?_⟩
        exact ⟨_, _, _, _, _, _, _, _, rfl, rfl, Ml, Mn, Mb⟩
      · exact ifF (decide_eq_false hk) ⟨_, _, _, _, _, _, _, _, rfl, rfl, Ml, Mn, Mb⟩
    · rintro σ G ⟨a, bf, done, y6, y7, y8, y9, y10, rfl, rfl, hdone, M, hbf⟩
      have e1 := congrArg List.length M.eq
      rw [List.length_append, hdone, List.length_map, tp.len] at e1
      have e2 : (M16.R (sz ns) ns.length hi a).length = 0 := by
        have e3 : (M16.R (sz ns) ns.length hi lo).length = (Rs ns hi lo).length := rfl
        omega
      have na : ¬ a < hi := fun h => by
        rw [M16.R_step c h] at e2
        cases e2
      have le := M.le_hi
      refine ⟨_, rfl, _, rfl, rfl, ?_⟩
      rw [show decide (V.int a = V.int hi) = true from vT (by omega)]
      exact q
end
end K16

set_option Elab.async false
set_option linter.all false
set_option maxRecDepth 100000
set_option maxHeartbeats 4000000
namespace K16
open PySem PySem.Spec PyProof.Rows L2 Gu Ex
/-- pairs of a level and an address, as tuples at these addresses -/
inductive Prs (H : Hp) : List Addr → List (Nat × Int) → Prop
  | nil : Prs H [] []
  | cons {p : Addr} {ps : List Addr} {t : Nat × Int} {ts : List (Nat × Int)} : H p = some (.tup [.int (t.1 : Nat), .int t.2]) → Prs H ps ts → Prs H (p :: ps) (t :: ts)
section
variable {H H' : Hp} {ps qs : List Addr} {ts us : List (Nat × Int)}
theorem Prs.mono (h : Prs H ps ts) (k : ∀ p xs, H p = some (.tup xs) → H' p = some (.tup xs)) : Prs H' ps ts := by
  induction h with
  | nil => exact .nil
  | cons a _ ih => exact .cons (k _ _ a) ih
theorem Prs.same (h : Prs H ps ts) (k : Same H H') : Prs H' ps ts := h.mono fun p xs e => k p _ e
theorem Prs.app (h : Prs H ps ts) (h2 : Prs H qs us) : Prs H (ps ++ qs) (ts ++ us) := by
  induction h with
  | nil => exact h2
  | cons b _ ih => exact .cons b ih
theorem Prs.len (h : Prs H ps ts) : ps.length = ts.length := by
  induction h with
  | nil => rfl
  | cons _ _ ih => rw [List.length_cons, List.length_cons, ih]
theorem Prs.get (h : Prs H ps ts) : ∀ {i : Nat} {p : Addr}, ps[i]? = some p → ∃ t, ts[i]? = some t ∧ H p = some (.tup [.int (t.1 : Nat), .int t.2]) := by
  induction h with
  | nil => intro i p e; cases e
  | cons a _ ih =>
    intro i p e
    cases i with
    | zero =>
      cases e
      exact ⟨_, rfl, a⟩
    | succ i => exact ih e
end
/-- the regions of the levels below i that lie in the range -/
def Regs (ns : List Int) (lo hi : Int) (i : Nat) (rs : List (Nat × Int)) : Prop :=
  (∀ t ∈ rs, t.1 < i ∧ sz ns t.1 ∣ t.2 ∧ lo ≤ t.2 ∧ t.2 + sz ns t.1 ≤ hi) ∧ ∀ j q, j < i → sz ns j ∣ q → lo ≤ q → q + sz ns j ≤ hi → (j, q) ∈ rs
/-- n steps from a on -/
def stepL (i : Nat) (a z : Int) (n : Nat) : List (Nat × Int) := (List.range n).map fun t : Nat => (i, a + (t : Int) * z)
theorem stepL_more (i : Nat) (a z : Int) (n : Nat) : stepL i a z (n + 1) = stepL i a z n ++ [(i, a + (n : Int) * z)] := by
  unfold stepL
  rw [List.range_succ, List.map_append]
  rfl
theorem stepL_len (i : Nat) (a z : Int) (n : Nat) : (stepL i a z n).length = n := by
  unfold stepL
  rw [List.length_map, List.length_range]
theorem regs_more {ns : List Int} {lo hi : Int} {i : Nat} {rs : List (Nat × Int)} (c : M16.Ch (sz ns) ns.length) (hi' : i < ns.length) (h : Regs ns lo hi i rs) :
    Regs ns lo hi (i + 1) (rs ++ stepL i (M16.nx (sz ns i) lo) (sz ns i) (stepsN (M16.nx (sz ns i) lo) (hi - sz ns i + 1) (sz ns i))) := by
  have z := c.pos i hi'
  have g1 := M16.nx_ge lo z
  have g2 := M16.nx_dvd (sz ns i) lo
  refine ⟨fun t ht => ?_, fun j q hj hd h1 h2 => ?_⟩
  · rcases List.mem_append.mp ht with e | e
    · obtain ⟨a, b⟩ := h.1 t e
      exact ⟨by omega, b⟩
    · unfold stepL at e
      obtain ⟨n, hn, rfl⟩ := List.mem_map.mp e
      have lt := (steps_lt z n).mp (List.mem_range.mp hn)
      have p : 0 ≤ (n : Int) * sz ns i := Int.mul_nonneg (by omega) (by omega)
      exact ⟨Nat.lt_succ_self _, Int.dvd_add g2 (Int.dvd_mul_left _ _), by show lo ≤ _ + _; omega, by show _ + _ + sz ns i ≤ hi; omega⟩
  · by_cases e : j = i
    · subst e
      refine List.mem_append_right _ ?_
      have l := M16.nx_least z hd h1
      obtain ⟨y, hy⟩ := Int.dvd_sub hd g2
      have y0 : 0 ≤ y := by
        refine Int.not_lt.mp fun hn => ?_
        have := Int.mul_le_mul_of_nonneg_left (show y ≤ -1 by omega) (show 0 ≤ sz ns j by omega)
        omega
      obtain ⟨n, rfl⟩ := Int.eq_ofNat_of_zero_le y0
      have hc : (n : Int) * sz ns j = sz ns j * n := Int.mul_comm _ _
      refine List.mem_map.mpr ⟨n, List.mem_range.mpr ((steps_lt z n).mpr (by omega)), ?_⟩
      rw [hc, ← hy]
      congr 1
      omega
    · exact List.mem_append_left _ (h.2 j q (by omega) hd h1 h2)
/-- what the walk over the addresses has made of those below x -/
def Scan (ns : List Int) (lo hi x : Int) (rn : List M16.Run) : Prop := ∃ (a : Int) (done : List M16.Run), M16.Mid (sz ns) ns.length hi lo a done ∧
  ((x = a ∧ rn = done) ∨ (a < x ∧ x < eN ns hi a ∧ a < hi ∧ rn = done ++ [(lv ns hi a, a, M16.cd (sz ns (lv ns hi a)) (x - a))]))
theorem scan_end {ns : List Int} {lo hi : Int} {rn : List M16.Run} (c : M16.Ch (sz ns) ns.length) (h : Scan ns lo hi hi rn) : rn = Rs ns hi lo := by
  obtain ⟨a, done, M, h⟩ := h
  rcases h with ⟨e0, rfl⟩ | ⟨h1, h2, h3, _⟩
  · have e := M.eq
    rw [← e0, M16.R_end (a := hi) (Int.lt_irrefl hi), List.append_nil] at e
    exact e.symm
  · have : eN ns hi a ≤ hi := M16.en_le c
    omega
/-- the run whose address is x: before it, within it -/
theorem scan_at {ns : List Int} {lo hi x : Int} {rn : List M16.Run} (c : M16.Ch (sz ns) ns.length) (hx : x < hi) (h : Scan ns lo hi x rn) :
    ∃ (a : Int) (done : List M16.Run), M16.Mid (sz ns) ns.length hi lo a done ∧ a < hi ∧ a ≤ x ∧ x < eN ns hi a ∧ ((x = a ∧ rn = done) ∨ (a < x ∧ rn = done ++ [(lv ns hi a, a, M16.cd (sz ns (lv ns hi a)) (x - a))])) := by
  obtain ⟨a, done, M, h⟩ := h
  rcases h with ⟨rfl, rfl⟩ | ⟨h1, h2, h3, e⟩
  · exact ⟨x, rn, M, hx, Int.le_refl _, M16.en_gt c hx, .inl ⟨rfl, rfl⟩⟩
  · exact ⟨a, done, M, h3, by omega, h2, .inr ⟨h1, e⟩⟩
/-- one address more -/
theorem scan_next {ns : List Int} {lo hi x a : Int} {done : List M16.Run} (c : M16.Ch (sz ns) ns.length) (M : M16.Mid (sz ns) ns.length hi lo a done) (ha : a < hi) (h1 : a ≤ x) (h2 : x < eN ns hi a) :
    Scan ns lo hi (x + 1) (done ++ [(lv ns hi a, a, M16.cd (sz ns (lv ns hi a)) (x + 1 - a))]) := by
  by_cases e : x + 1 = eN ns hi a
  · refine ⟨eN ns hi a, _, M.next c ha, .inl ⟨e, ?_⟩⟩
    have d : sz ns (lv ns hi a) ∣ eN ns hi a - a := Int.dvd_sub (M16.en_dvd c) (M16.dvd0 (M16.L_lies c ha).1)
    rw [e, M16.cd_mul (c.pos _ (M16.L_lt c)) d]
    rfl
  · exact ⟨a, done, M, .inr ⟨by omega, by omega, ha, rfl⟩⟩
theorem scan_first {ns : List Int} {lo hi x a : Int} {done : List M16.Run} (c : M16.Ch (sz ns) ns.length) (M : M16.Mid (sz ns) ns.length hi lo a done) (ha : a < hi) (e : x = a) : Scan ns lo hi (x + 1) (done ++ [(lv ns hi a, a, 1)]) := by
  subst e
  have h := scan_next c M ha (Int.le_refl x) (M16.en_gt c ha)
  have z := c.pos _ (M16.L_lt (a := x) (hi := hi) c)
  have e1 : M16.cd (sz ns (lv ns hi x)) (x + 1 - x) = 1 := by
    rw [show x + 1 - x = 0 + 1 by omega, M16.cd_next z (Int.dvd_zero _)]
    simp
  rw [e1] at h
  exact h
theorem scan_more {ns : List Int} {lo hi x a : Int} {done : List M16.Run} (c : M16.Ch (sz ns) ns.length) (M : M16.Mid (sz ns) ns.length hi lo a done) (ha : a < hi) (h1 : a ≤ x) (h2 : x < eN ns hi a) (hd : sz ns (lv ns hi a) ∣ x) :
    Scan ns lo hi (x + 1) (done ++ [(lv ns hi a, a, M16.cd (sz ns (lv ns hi a)) (x - a) + 1)]) ∧ a + M16.cd (sz ns (lv ns hi a)) (x - a) * sz ns (lv ns hi a) = x := by
  have h := scan_next c M ha h1 h2
  have z := c.pos _ (M16.L_lt (a := a) (hi := hi) c)
  have d : sz ns (lv ns hi a) ∣ x - a := Int.dvd_sub hd (M16.dvd0 (M16.L_lies c ha).1)
  have e1 : M16.cd (sz ns (lv ns hi a)) (x + 1 - a) = M16.cd (sz ns (lv ns hi a)) (x - a) + 1 := by
    rw [show x + 1 - a = (x - a) + 1 by omega, M16.cd_next z d, M16.cd_mul z d]
  rw [e1] at h
  refine ⟨h, ?_⟩
  rw [M16.cd_mul z d, Int.ediv_mul_cancel d]
  omega
theorem scan_stay {ns : List Int} {lo hi x a : Int} {done : List M16.Run} (c : M16.Ch (sz ns) ns.length) (M : M16.Mid (sz ns) ns.length hi lo a done) (ha : a < hi) (h1 : a ≤ x) (h2 : x < eN ns hi a) (hd : ¬ sz ns (lv ns hi a) ∣ x) :
    Scan ns lo hi (x + 1) (done ++ [(lv ns hi a, a, M16.cd (sz ns (lv ns hi a)) (x - a))]) := by
  have h := scan_next c M ha h1 h2
  have z := c.pos _ (M16.L_lt (a := a) (hi := hi) c)
  have da := M16.dvd0 (M16.L_lies c ha).1
  have e1 : M16.cd (sz ns (lv ns hi a)) (x + 1 - a) = M16.cd (sz ns (lv ns hi a)) (x - a) := by
    rw [show x + 1 - a = (x - a) + 1 by omega, M16.cd_stay z fun d => hd (by
      have := Int.dvd_add d da
      rw [show x - a + a = x by omega] at this
      exact this)]
  rw [e1] at h
  exact h
theorem eqv_nil : ∀ {ds : List PyData}, ds ≠ [] → PyData.eqv (.list ds) (.list []) = false
  | [], h => absurd rfl h
  | _ :: _, _ => rfl
theorem Tups.cut {H : Hp} {t : M16.Run} : ∀ {ts : List M16.Run} {ps : List Addr}, Tups H ps (ts ++ [t]) → ∃ qs p, ps = qs ++ [p] ∧ Tups H qs ts ∧ H p = some (.tup (runV t))
  | [], _, h => by
    cases h with
    | cons a b =>
      cases b
      exact ⟨[], _, rfl, .nil, a⟩
  | u :: ts, _, h => by
    cases h with
    | cons a b =>
      obtain ⟨qs, p, rfl, h1, h2⟩ := Tups.cut b
      exact ⟨_ :: qs, p, rfl, .cons a h1, h2⟩
theorem add_run {H : Hp} {ps : List Addr} {ts : List M16.Run} {L t : Addr} {u : M16.Run} {xs : List V} (h : Tups H ps ts) (hL : H L = some (.lst xs)) (ht : H t = none) : Tups (upd (upd H t (.tup (runV u))) L (.lst (xs ++ [.ref t]))) (ps ++ [t]) (ts ++ [u]) := by
  have nL : L ≠ t := ne_of_none hL ht
  refine (h.mono fun b ys e => ?_).snoc ?_
  · rw [upd_ne (fun z => by rw [z, hL] at e; cases e), upd_ne (ne_of_none e ht)]
    exact e
  · rw [upd_ne nL.symm, upd_same]
theorem cut_last (xs : List V) (y : V) : cutV (xs ++ [y]) none (some (-1)) = xs := by
  unfold cutV
  show ((xs ++ [y]).drop 0).take ((if (-1 : Int) < 0 then (-1 + ((xs ++ [y]).length : Int)).toNat else min (-1 : Int).toNat (xs ++ [y]).length) - 0) = xs
  rw [if_pos (by decide), List.length_append, List.length_singleton, List.drop_zero]
  have e : (-1 + ((xs.length + 1 : Nat) : Int)).toNat - 0 = xs.length := by omega
  rw [e, List.take_left']
  rfl
section
variable {P : Program} {w : World} {K : PySem.W.Frag} {mg : Str → Option Value} {base : Heap} {f : Addr} {fd : FuncData}
def spListed : Sp := fun vs H Q _ => ∃ (l : Addr) (ns : List Int) (lo hi : Int), vs = [.ref l, .int lo, .int hi] ∧ H l = some (.lst (ns.map V.int)) ∧ Good ns ∧ lo ≤ hi ∧ hi - lo ≤ 60 ∧
  ∀ L ps H', H L = none → Same H H' → H' L = some (.lst (ps.map V.ref)) → Tups H' ps (Rs ns hi lo) → Q (.ref L) H'
theorem sc__law_listed : FnScope ["_law_sizes_here", "_law_low_here", "_law_high", "_law_regions", "_law_runs", "_law_address", "_law_level", "_law_size", "_law_first", "_law_top", "_law_start"] ["_law_sizes_here", "_law_low_here", "_law_high"] (defScope (top 26)) := ⟨rfl, rfl, rfl, by decide +kernel, rfl, by decide +kernel, by decide +kernel⟩
theorem ok_listed (T : Tx K mg) (F : FnP K "_law_listed" "_law_listed" (top 26) f fd) : FnOk P w K mg base CX0 1 f fd ["_law_sizes_here", "_law_low_here", "_law_high"] spListed := by
  refine F.ok sc__law_listed (fun vs H Q E h => ?_) (fun cdv A outer s H vs Q E hr h => ⟨_, PSs.nox (pss_cons (ps_set (i := 3) sc__law_listed.nd rfl (by first | exact Or.inl rfl | exact Or.inr rfl) (pe_lst pa_nil)) (pss_cons (ps_for PassesOwn.never rfl (pi_enum rfl T.n_enumerate (pa_cons (pv 0) pa_nil)) (pg_tup (by rfl) (pgs_cons (pg_name (i := 6) sc__law_listed.nd rfl (by first | exact Or.inl rfl | exact Or.inr rfl)) (pgs_cons (pg_name (i := 7) sc__law_listed.nd rfl (by first | exact Or.inl rfl | exact Or.inr rfl)) pgs_nil))) (pss_cons (ps_set (i := 8) sc__law_listed.nd rfl (by first | exact Or.inl rfl | exact Or.inr rfl) (pe_op op_mul (pe_op op_fdivW (pe_op op_sub (pe_op op_add (pv 1) (pv 7)) pe_int) (pv 7)) (pv 7))) (pss_one (ps_set (i := 3) sc__law_listed.nd rfl (by first | exact Or.inl rfl | exact Or.inr rfl) (pe_op op_cat (pv 3) (pe_lc (own := [("_law_start", 10)]) (g := gName 10) rfl sc__law_listed.nd (pi_rangeS rfl T.n_range (pa_cons (pv 8) (pa_cons (pe_op op_add (pe_op op_sub (pv 2) (pv 7)) pe_int) (pa_cons (pv 7) pa_nil)))) (blkOk_by (own := [("_law_start", 10)]) (N := ["_law_sizes_here", "_law_low_here", "_law_high", "_law_regions", "_law_runs", "_law_address", "_law_level", "_law_size", "_law_first", "_law_top", "_law_start"]) (sc := defScope (top 26)) (by decide +kernel)) (fun _ _ _ _ _ => pg_name (i := 10) sc__law_listed.nd rfl (Or.inl rfl)) (fun _ _ _ _ _ => pts_nil) (fun _ _ _ _ _ => (pe_tup (pa_cons (pv 6) (pa_cons (pv 10) pa_nil)))))))))) (pss_cons (ps_set (i := 4) sc__law_listed.nd rfl (by first | exact Or.inl rfl | exact Or.inr rfl) (pe_lst pa_nil)) (pss_cons (ps_for PassesOwn.never rfl (pi_rangeA rfl T.n_range (pa_cons (pv 1) (pa_cons (pv 2) pa_nil))) (pg_name (i := 5) sc__law_listed.nd rfl (by first | exact Or.inl rfl | exact Or.inr rfl)) (pss_cons (ps_set (i := 9) sc__law_listed.nd rfl (by first | exact Or.inl rfl | exact Or.inr rfl) (pe_callB (cr_max rfl) (by rfl) T.n_max (by decide +kernel) (pa_cons (pe_lc (own := [("_law_level", 6), ("_law_start", 10)]) (g := gTup K 2 (gCons (gName 6) (gCons (gName 10) gNil))) rfl sc__law_listed.nd (pi_list (pv 3)) (blkOk_by (own := [("_law_level", 6), ("_law_start", 10)]) (N := ["_law_sizes_here", "_law_low_here", "_law_high", "_law_regions", "_law_runs", "_law_address", "_law_level", "_law_size", "_law_first", "_law_top", "_law_start"]) (sc := defScope (top 26)) (by decide +kernel)) (fun _ _ _ _ _ => pg_tup rfl (pgs_cons (pg_name (i := 6) sc__law_listed.nd rfl (Or.inl rfl)) (pgs_cons (pg_name (i := 10) sc__law_listed.nd rfl (Or.inl rfl)) pgs_nil))) (fun _ _ _ _ _ => (pts_one (pt_chain op_le op_lt (pv 10) (pv 5) (pe_op op_add (pv 10) (pe_ix (r := rIxL K) ix_list (pv 0) (pv 6) (fun _ _ => rfl)))))) (fun _ _ _ _ _ => (pv 6))) pa_nil))) (pss_cons (ps_set (i := 10) sc__law_listed.nd rfl (by first | exact Or.inl rfl | exact Or.inr rfl) (pe_op op_mul (pe_op op_fdivW (pv 5) (pe_ix ix_list (pv 0) (pv 9) (fun _ _ => rfl))) (pe_ix ix_list (pv 0) (pv 9) (fun _ _ => rfl)))) (pss_one (ps_if (pt_cmpR op_eq (pv 10) (pv 5) (nomark _)) (pss_one (ps_if (PW.pt (pw_and (pt_cmpR (op_neD hr.units) (pv 4) (pe_lst pa_nil) (nomark _)) (pw_and (pt_cmpR op_eq (pe_ix ix_tup (pe_ix ix_list (pv 4) (pe_un un_neg pe_int) (fun _ _ => rfl)) pe_int (fun _ _ => rfl)) (pv 9) (nomark _)) (pw_and1 (pt_cmpR op_eq (pe_op op_add (pe_ix ix_tup (pe_ix ix_list (pv 4) (pe_un un_neg pe_int) (fun _ _ => rfl)) pe_int (fun _ _ => rfl)) (pe_op op_mul (pe_ix ix_tup (pe_ix ix_list (pv 4) (pe_un un_neg pe_int) (fun _ _ => rfl)) pe_int (fun _ _ => rfl)) (pe_ix ix_list (pv 0) (pv 9) (fun _ _ => rfl)))) (pv 5) (nomark _)))))) (pss_one (ps_set (i := 4) sc__law_listed.nd rfl (by first | exact Or.inl rfl | exact Or.inr rfl) (pe_op op_cat (pe_slice sl_list (pv 4) po_none (po_some (pe_un un_neg pe_int))) (pe_lst (pa_cons (pe_tup (pa_cons (pv 9) (pa_cons (pe_ix ix_tup (pe_ix ix_list (pv 4) (pe_un un_neg pe_int) (fun _ _ => rfl)) pe_int (fun _ _ => rfl)) (pa_cons (pe_op op_add (pe_ix ix_tup (pe_ix ix_list (pv 4) (pe_un un_neg pe_int) (fun _ _ => rfl)) pe_int (fun _ _ => rfl)) pe_int) pa_nil)))) pa_nil))))) (pss_one (ps_expr (pe_bm PySem.F.plainAttrs_list PySem.F.slot_list_append PySem.F.type_list_append mt_append (pv 4) (pa_cons (pe_tup (pa_cons (pv 9) (pa_cons (pv 5) (pa_cons pe_int pa_nil)))) pa_nil)))))) pss_nil))))) (pss_one (ps_ret (pv 4))))))), ?_⟩)
  · obtain ⟨l, ns, lo, hi, rfl, _⟩ := h
    rfl
  · obtain ⟨l, ns, lo, hi, rfl, hl, g, hlt, h60, q⟩ := h
    have c := chain g
    have l8 := g.len.2
    have sl : sizeLine = 16777216 := sizeLine_eq
    have two : 2 ≤ sizeLine := by decide
    refine ⟨Nat.zero_le _, fun Lr hLr => ?_⟩
    refine ⟨_, rfl, l, _, rfl, SqL.of (same_upd hLr _ _ hl), ?_⟩
    refine for_it (walk_enum (xs := ns.map V.int)) (fun i σ G => ∃ (Lr : Addr) (ps : List Addr) (rs : List (Nat × Int)) (y4 y5 y6 y7 y8 y9 y10 : Option V), σ = [some (.ref l), some (.int lo), some (.int hi), some (.ref Lr), y4, y5, y6, y7, y8, y9, y10] ∧ Same H G ∧ G Lr = some (.lst (ps.map V.ref)) ∧ Prs G ps rs ∧ rs.length ≤ 100 * i ∧ Regs ns lo hi i rs)
      ⟨Lr, [], [], none, none, none, none, none, none, none, rfl, same_upd hLr, upd_same, .nil, Nat.zero_le _, fun t ht => absurd ht List.not_mem_nil, fun j q hj => absurd hj (Nat.not_lt_zero _)⟩ (fun i σ G _ ⟨_, _, _, _, _, _, _, _, _, _, _, sm, _⟩ => SqL.of (sm _ _ hl)) ?_ ?_
    · rintro i x σ H1 H2 hi' ⟨Lr, ps, rs, y4, y5, y6, y7, y8, y9, y10, rfl, sm, hLr, pr, rl, rg⟩ ⟨T', y1, y2, rfl, hT, rfl, e1, e2⟩
      cases e1
      have hi2 : i < ns.length := by rw [List.length_map] at hi'; exact hi'
      have e3 : y2 = .int (sz ns i) := by
        have e2' : (ns.map V.int)[i]? = some y2 := e2
        rw [List.getElem?_map, sz_at hi2] at e2'
        exact (Option.some.inj e2').symm
      subst e3
      have z1 := c.pos i hi2
      have z2 := sz_le g hi2
      have sm1 := same_upd (o := .tup [.int (i : Nat), .int (sz ns i)]) hT
      refine ⟨T', _, rfl, .inl (.inl upd_same), rfl, _, _, rfl, _, _, rfl, rfl, ?_⟩
      have sm2 := sm.trans sm1
      have hLr2 := sm1 _ _ hLr
      have pr2 := pr.same sm1
      generalize upd H1 T' (.tup [.int (i : Nat), .int (sz ns i)]) = G at sm2 hLr2 pr2 ⊢
      have en : (lo + sz ns i - 1) / sz ns i * sz ns i = M16.nx (sz ns i) lo := ceil_nx z1
      have w3 : -(2 ^ 64) < sz ns i := by omega
      have w4 : sz ns i < 2 ^ 64 := by omega
      refine ⟨_, rfl, _, rfl, _, _, rfl, rfl, _, _, rfl, rfl, _, rfl, _, _, rfl, rfl, div_ok z1 z2, _, rfl, _, _, rfl, rfl, .inr ⟨w3, w4⟩, ?_⟩
      refine ⟨_, rfl, _, rfl, _, rfl, _, rfl, _, _, rfl, rfl, _, _, rfl, rfl, _, rfl, _, _, _, rfl, z1, by omega, fun D hD => ?_⟩
      have n100 : stepsN ((lo + sz ns i - 1) / sz ns i * sz ns i) (hi - sz ns i + 1) (sz ns i) ≤ 100 := steps_le z1 (by rw [en]; have := M16.nx_ge lo z1; omega)
      refine lc_rangeC (fun n G' => ∃ qs, G' D = some (.lst (qs.map V.ref)) ∧ Prs G' qs (stepL i ((lo + sz ns i - 1) / sz ns i * sz ns i) (sz ns i) n) ∧ Same G G') ⟨[], upd_same, .nil, same_upd hD⟩ ?_ ?_
      · rintro n G' hn ⟨qs, hq, hp, sq⟩
        refine ⟨rfl, _, rfl, _, rfl, two, fun t ht => ?_⟩
        have nD : D ≠ t := ne_of_none hq ht
        have hp2 := hp.len
        rw [stepL_len] at hp2
        refine ⟨_, (by rw [upd_ne nD]; exact hq), (by rw [List.length_map]; omega), qs ++ [t], ?_, ?_, fun b o e => ?_⟩
        · rw [upd_same, List.map_append]
          rfl
        · rw [stepL_more]
          refine (hp.mono fun b xs e => ?_).app (.cons ?_ .nil)
          · rw [upd_ne (fun z => by rw [z, hq] at e; cases e), upd_ne (ne_of_none e ht)]
            exact e
          · rw [upd_ne nD.symm, upd_same]
        · rw [upd_ne (ne_of_none e hD), upd_ne (ne_of_none (sq b o e) ht)]
          exact sq b o e
      · rintro G' ⟨qs, hq, hp, sq⟩
        have hp2 := hp.len
        rw [stepL_len] at hp2
        have pl := pr2.len
        refine ⟨Lr, D, _, _, rfl, rfl, sq _ _ hLr2, hq, (by rw [List.length_map, List.length_map]; omega), fun p hp' => ?_⟩
        refine ⟨p, ps ++ qs, rs ++ stepL i ((lo + sz ns i - 1) / sz ns i * sz ns i) (sz ns i) _, _, _, _, _, _, _, _, rfl, (sm2.trans sq).trans (same_upd hp'), ?_, ((pr2.same sq).app hp).same (same_upd hp'), ?_, ?_⟩
        · rw [upd_same, List.map_append]
        · rw [List.length_append, stepL_len]
          omega
        · rw [en]
          exact regs_more c hi2 rg
    · rintro σ H1 ⟨Lr, ps, rs, y4, y5, y6, y7, y8, y9, y10, rfl, sm, hLr, pr, rl, rg⟩
      rw [List.length_map] at rl rg
      have pl := pr.len
      refine ⟨Nat.zero_le _, fun Lq hLq => ?_⟩
      refine ⟨_, rfl, _, rfl, lo, hi, rfl, ?_⟩
      refine for_range (fun i σ G => ∃ (Lq : Addr) (qs : List Addr) (rn : List M16.Run) (y5 y6 y7 y8 y9 y10 : Option V), σ = [some (.ref l), some (.int lo), some (.int hi), some (.ref Lr), some (.ref Lq), y5, y6, y7, y8, y9, y10] ∧ Same H1 G ∧ H1 Lq = none ∧ G Lq = some (.lst (qs.map V.ref)) ∧ Tups G qs rn ∧ rn.length ≤ i ∧ Scan ns lo hi (lo + (i : Int)) rn)
        ⟨Lq, [], [], y5, y6, y7, y8, y9, y10, rfl, same_upd hLq, hLq, upd_same, .nil, Nat.le_refl _, lo, [], M16.mid0 c hlt, .inl ⟨by simp, rfl⟩⟩ ?_ ?_
      · rintro i σ G hi' ⟨Lq, qs, rn, y5, y6, y7, y8, y9, y10, rfl, smG, nLq, hLq, tp, rlen, sc⟩
        have hx : lo + (i : Int) < hi := by omega
        have i60 : i ≤ 60 := by omega
        have ex : lo + ((i + 1 : Nat) : Int) = lo + (i : Int) + 1 := by omega
        generalize hX : lo + (i : Int) = x at *
        obtain ⟨a, done, M, ha, ax, xe, cs⟩ := scan_at c hx sc
        have lm : lv ns hi a < ns.length := M16.L_lt c
        have z1 := c.pos _ lm
        have z2 := sz_le g lm
        have hlG := smG _ _ (sm _ _ hl)
        have prG := pr.same smG
        refine ⟨_, rfl, Lr, rfl, ⟨_, SqL.of (smG _ _ hLr)⟩, fun D hD => ?_⟩
        refine lc_list (K := K) (a := Lr) (xs := ps.map V.ref) (fun n G' => ∃ ms : List Int, G' D = some (.lst (ms.map V.int)) ∧ ms.length ≤ n ∧ (∀ v ∈ ms, ∃ t ∈ rs, v = (t.1 : Nat) ∧ t.2 ≤ x ∧ x < t.2 + sz ns t.1) ∧ (∀ m, m < n → ∀ t, rs[m]? = some t → t.2 ≤ x → x < t.2 + sz ns t.1 → ((t.1 : Nat) : Int) ∈ ms) ∧ Same G G')
          ⟨[], upd_same, Nat.le_refl _, fun v hv => absurd hv List.not_mem_nil, fun m hm => absurd hm (Nat.not_lt_zero _), same_upd hD⟩ (fun n G' _ ⟨_, _, _, _, _, sq⟩ => SqL.of (sq _ _ (smG _ _ hLr))) ?_ ?_
        · rintro n y G' hy ⟨ms, hms, ml, m1, m2, sq⟩
          obtain ⟨p, hp, rfl⟩ : ∃ p, ps[n]? = some p ∧ V.ref p = y := by
            rw [List.getElem?_map] at hy
            cases e : ps[n]? with
            | none => rw [e] at hy; cases hy
            | some p => rw [e] at hy; exact ⟨p, rfl, Option.some.inj hy⟩
          obtain ⟨t, ht, hT⟩ := (prG.same sq).get hp
          have nl : n < rs.length := (List.getElem?_eq_some_iff.mp ht).1
          have tm := List.mem_of_getElem? ht
          have tl := (rg.1 t tm).1
          have skip : ¬ (t.2 ≤ x ∧ x < t.2 + sz ns t.1) → ∃ ms : List Int, G' D = some (.lst (ms.map V.int)) ∧ ms.length ≤ n + 1 ∧ (∀ v ∈ ms, ∃ t ∈ rs, v = (t.1 : Nat) ∧ t.2 ≤ x ∧ x < t.2 + sz ns t.1) ∧ (∀ m, m < n + 1 → ∀ t, rs[m]? = some t → t.2 ≤ x → x < t.2 + sz ns t.1 → ((t.1 : Nat) : Int) ∈ ms) ∧ Same G G' := fun no => by
            refine ⟨ms, hms, by omega, m1, fun m hm u hu h1 h2 => ?_, sq⟩
            by_cases e : m = n
            · rw [e, ht] at hu
              cases hu
              exact absurd ⟨h1, h2⟩ no
            · exact m2 m (by omega) u hu h1 h2
          refine ⟨p, _, rfl, .inl (.inl hT), rfl, _, _, rfl, _, _, rfl, rfl, rfl, ?_⟩
          refine ⟨_, rfl, _, rfl, _, _, rfl, rfl, _, rfl, ?_⟩
          by_cases h1 : t.2 ≤ x
          · refine ifT (decide_eq_true h1) ⟨_, rfl, _, rfl, _, rfl, l, _, _, _, rfl, rfl, SqL.of (sq _ _ hlG), at_sz tl, _, _, rfl, rfl, _, _, rfl, rfl, _, rfl, ?_⟩
            by_cases h2 : x < t.2 + sz ns t.1
            · refine ifT (decide_eq_true h2) ⟨_, rfl, _, hms, (by rw [List.length_map]; omega), ms ++ [((t.1 : Nat) : Int)], by rw [upd_same, List.map_append]; rfl, by rw [List.length_append, List.length_singleton]; omega, fun v hv => ?_, fun m hm u hu k1 k2 => ?_, fun b o e => ?_⟩
              · rcases List.mem_append.mp hv with zz | zz
                · exact m1 v zz
                · exact ⟨t, tm, List.mem_singleton.mp zz, h1, h2⟩
              · by_cases e : m = n
                · rw [e, ht] at hu
                  cases hu
                  exact List.mem_append_right _ List.mem_cons_self
                · exact List.mem_append_left _ (m2 m (by omega) u hu k1 k2)
              · rw [upd_ne (ne_of_none e hD)]
                exact sq b o e
            · exact ifF (decide_eq_false h2) (skip fun y => h2 y.2)
          · exact ifF (decide_eq_false h1) ⟨_, rfl, iteF (skip fun y => h1 y.1)⟩
        · rintro G2 ⟨ms, hms, ml, m1, m2, sq⟩
          have in12 : a ≤ x - x % sz ns (lv ns hi a) ∧ x - x % sz ns (lv ns hi a) + sz ns (lv ns hi a) ≤ eN ns hi a := M16.top_in c ha ax xe
          obtain ⟨in1, in2⟩ := in12
          have le : eN ns hi a ≤ hi := M16.en_le c
          have la := M.lo_le
          have km : ((lv ns hi a : Nat) : Int) ∈ ms := by
            have mem := rg.2 (lv ns hi a) (x - x % sz ns (lv ns hi a)) lm (M16.fl_dvd _ _) (by omega) (by omega)
            obtain ⟨m, hm, em⟩ := List.getElem_of_mem mem
            refine m2 m (by rw [List.length_map]; omega) _ ((List.getElem?_eq_getElem hm).trans (congrArg some em)) (M16.fl_le x z1) (M16.fl_lt x z1)
          refine ⟨D, ms, rfl, SqL.of hms, List.length_pos_of_mem km, fun v hv hle => ?_⟩
          have hk : v = ((lv ns hi a : Nat) : Int) := by
            have g1 := hle _ km
            obtain ⟨t, tm, e1, t1, t2⟩ := m1 v hv
            obtain ⟨r1, r2, r3, r4⟩ := rg.1 t tm
            have f := M16.fl_eq (c.pos _ r1) r2 t1 t2
            have g2 := M16.top_max c ha M.bd ax xe r1 (by rw [f]; exact r3) (by rw [f]; exact r4)
            have g3 : t.1 ≤ lv ns hi a := g2
            omega
          subst hk
          have smA := smG.trans sq
          have hl2 := sq _ _ hlG
          have hq2 := sq _ _ hLq
          have tp2 := tp.same sq
          have w3 : -(2 ^ 64) < sz ns (lv ns hi a) := by omega
          have w4 : sz ns (lv ns hi a) < 2 ^ 64 := by omega
          refine ⟨_, rfl, _, rfl, _, rfl, l, _, _, _, rfl, rfl, SqL.of hl2, at_sz lm, _, _, rfl, rfl, div_ok z1 z2, _, rfl, _, rfl, l, _, _, _, rfl, rfl, SqL.of hl2, at_sz lm, _, _, rfl, rfl, .inr ⟨w3, w4⟩, ?_⟩
          refine ⟨_, rfl, _, rfl, rfl, _, rfl, ?_⟩
          by_cases hs : x / sz ns (lv ns hi a) * sz ns (lv ns hi a) = x
          · have hd : sz ns (lv ns hi a) ∣ x := ⟨x / sz ns (lv ns hi a), by rw [Int.mul_comm]; exact hs.symm⟩
            have three : 3 ≤ sizeLine := by decide
            refine ifT (vT hs) ⟨_, rfl, Nat.zero_le _, fun e0 he0 => ?_⟩
            have sm0 := same_upd (o := .lst []) he0
            have q0 := sm0 _ _ hq2
            have t0 := tp2.same sm0
            have l0 := sm0 _ _ hl2
            have sA := smA.trans sm0
            have k0 : (upd G2 e0 (.lst [])) e0 = some (.lst []) := upd_same
            generalize upd G2 e0 (.lst []) = G3 at q0 t0 l0 sA k0 ⊢
            refine ⟨_, _, .lst (SqL.of q0) (runs_dp t0), .lst (SqL.of k0) .nil, runs_shaped _, rfl, _, rfl, ?_⟩
            rcases cs with ⟨e, er⟩ | ⟨e, er⟩
            · subst e
              subst er
              have fin := scan_first c M ha rfl
              by_cases hn : rn = []
              · subst hn
                refine ifF rfl ⟨_, rfl, .inl ⟨rfl, _, SqL.of q0⟩, _, rfl, _, rfl, three, fun t ht => ?_⟩
                have nL : Lq ≠ t := ne_of_none q0 ht
                refine ⟨Lq, _, _, rfl, rfl, (by rw [upd_ne nL]; exact q0), (by rw [List.length_map, t0.len]; omega), Lq, qs ++ [t], _, _, _, _, _, _, _, rfl, fun b o e => ?_, nLq, ?_, add_run t0 q0 ht (u := (lv ns hi x, x, 1)), (by rw [List.length_append, List.length_singleton]; omega), (by rw [ex]; exact fin)⟩
                · rw [upd_ne (ne_of_none e nLq), upd_ne (ne_of_none (sA b o e) ht)]
                  exact sA b o e
                · rw [upd_same, List.map_append]
                  rfl
              · obtain ⟨d0, u, rfl⟩ : ∃ d0 u, rn = d0 ++ [u] := ⟨rn.dropLast, rn.getLast hn, (List.dropLast_concat_getLast hn).symm⟩
                have ul := M.last ha u (List.getLast?_concat)
                obtain ⟨qs0, pt, rfl, tq, hpt⟩ := Tups.cut t0
                have last : atI ((qs0 ++ [pt]).map V.ref) (-1) = some (.ref pt) := by
                  rw [List.map_append]
                  exact atI_last _ _
                refine ifT (by rw [eqv_nil (fun z => by simp at z)]; rfl) ⟨_, rfl, _, rfl, Lq, _, _, _, rfl, rfl, SqL.of q0, last, pt, _, _, _, rfl, rfl, SqT.of hpt, rfl, _, rfl, rfl, _, rfl, ifF (vF fun z => ul (Int.ofNat.inj z)) ?_⟩
                refine ⟨_, rfl, .inl ⟨rfl, _, SqL.of q0⟩, _, rfl, _, rfl, three, fun t ht => ?_⟩
                have nL : Lq ≠ t := ne_of_none q0 ht
                refine ⟨Lq, _, _, rfl, rfl, (by rw [upd_ne nL]; exact q0), (by rw [List.length_map, t0.len]; omega), Lq, (qs0 ++ [pt]) ++ [t], _, _, _, _, _, _, _, rfl, fun b o e => ?_, nLq, ?_, add_run t0 q0 ht (u := (lv ns hi x, x, 1)), (by rw [List.length_append (bs := [_]), List.length_singleton]; omega), (by rw [ex]; exact fin)⟩
                · rw [upd_ne (ne_of_none e nLq), upd_ne (ne_of_none (sA b o e) ht)]
                  exact sA b o e
                · rw [upd_same, List.map_append (l₂ := [t])]
                  rfl
            · subst er
              obtain ⟨fin, sum⟩ := scan_more c M ha ax xe hd
              obtain ⟨qs0, pt, rfl, tq, hpt0⟩ := Tups.cut t0
              generalize M16.cd (sz ns (lv ns hi a)) (x - a) = cv at *
              have hpt : G3 pt = some (.tup [.int (lv ns hi a : Nat), .int a, .int cv]) := hpt0
              have last : atI ((qs0 ++ [pt]).map V.ref) (-1) = some (.ref pt) := by
                rw [List.map_append]
                exact atI_last _ _
              refine ifT (by rw [eqv_nil (fun z => by simp at z)]; rfl) ⟨_, rfl, _, rfl, Lq, _, _, _, rfl, rfl, SqL.of q0, last, pt, _, _, _, rfl, rfl, SqT.of hpt, rfl, _, rfl, rfl, _, rfl, ifT (vT rfl) ?_⟩
              refine ⟨_, rfl, _, rfl, Lq, _, _, _, rfl, rfl, SqL.of q0, last, pt, _, _, _, rfl, rfl, SqT.of hpt, rfl, _, rfl, _, rfl, Lq, _, _, _, rfl, rfl, SqL.of q0, last, pt, _, _, _, rfl, rfl, SqT.of hpt, rfl, _, rfl, _, rfl, l, _, _, _, rfl, rfl, SqL.of l0, at_sz lm, _, _, rfl, rfl, .inr ⟨w3, w4⟩, _, _, rfl, rfl, _, rfl, rfl, _, rfl, ifT (vT sum) ?_⟩
              refine ⟨_, rfl, _, rfl, _, rfl, Lq, _, rfl, SqL.of q0, fun c1 h1 => ?_⟩
              rw [show cutV ((qs0 ++ [pt]).map V.ref) none (some (-1)) = qs0.map V.ref by rw [List.map_append]; exact cut_last _ _]
              have s1 := same_upd (o := .lst (qs0.map V.ref)) h1
              have j1 : (upd G3 c1 (.lst (qs0.map V.ref))) c1 = some (.lst (qs0.map V.ref)) := upd_same
              have q1 := s1 _ _ q0
              have p1 := s1 _ _ hpt
              have tq1 := tq.same s1
              have sB := sA.trans s1
              generalize upd G3 c1 (.lst (qs0.map V.ref)) = G4 at j1 q1 p1 tq1 sB ⊢
              refine ⟨_, rfl, _, rfl, _, rfl, Lq, _, _, _, rfl, rfl, SqL.of q1, last, pt, _, _, _, rfl, rfl, SqT.of p1, rfl, _, rfl, _, rfl, Lq, _, _, _, rfl, rfl, SqL.of q1, last, pt, _, _, _, rfl, rfl, SqT.of p1, rfl, _, _, rfl, rfl, three, fun t ht => ?_⟩
              have s2 := same_upd (o := .tup [.int (lv ns hi a : Nat), .int a, .int (cv + 1)]) ht
              have j2 : (upd G4 t (.tup [.int (lv ns hi a : Nat), .int a, .int (cv + 1)])) t = some (.tup (runV (lv ns hi a, a, cv + 1))) := upd_same
              have j1' := s2 _ _ j1
              have tq2 := tq1.same s2
              have sC := sB.trans s2
              generalize upd G4 t (.tup [.int (lv ns hi a : Nat), .int a, .int (cv + 1)]) = G5 at j1' j2 tq2 sC ⊢
              refine ⟨(by show 1 ≤ sizeLine; decide), fun c2 h2 => ?_⟩
              have s3 := same_upd (o := .lst [.ref t]) h2
              have ql := tq.len
              have tl := t0.len
              rw [List.length_append, List.length_append, List.length_singleton] at tl
              rw [List.length_append, List.length_singleton] at rlen
              refine ⟨c1, c2, _, _, rfl, rfl, s3 _ _ j1', upd_same, (by rw [List.length_map, List.length_singleton]; omega), fun c3 h3 => ?_⟩
              have s4 := s3.trans (same_upd (o := .lst (qs0.map V.ref ++ [.ref t])) h3)
              refine ⟨c3, qs0 ++ [t], _, _, _, _, _, _, _, rfl, sC.trans s4, (sC.trans s3).free h3, ?_, (tq2.same s4).snoc (s4 _ _ j2), (by rw [List.length_append, List.length_singleton]; omega), (by rw [ex]; exact fin)⟩
              rw [upd_same, List.map_append]
              rfl
          · have nd : ¬ sz ns (lv ns hi a) ∣ x := fun d => hs (Int.ediv_mul_cancel d)
            rcases cs with ⟨e, er⟩ | ⟨e, er⟩
            · exact absurd (by rw [e]; exact M16.dvd0 (M16.L_lies c ha).1) nd
            · subst er
              exact ifF (vF hs) ⟨Lq, qs, _, _, _, _, _, _, _, rfl, smA, nLq, hq2, tp2, Nat.le_succ_of_le rlen, by rw [ex]; exact scan_stay c M ha ax xe nd⟩
      · rintro σ G ⟨Lq, qs, rn, y5, y6, y7, y8, y9, y10, rfl, smG, nLq, hLq, tp, rlen, sc⟩
        have e : lo + (((hi - lo).toNat : Nat) : Int) = hi := by omega
        rw [e] at sc
        have er := scan_end c sc
        rw [er] at tp
        exact ⟨_, rfl, q Lq qs G (sm.free nLq) (sm.trans smG) hLq tp⟩
end
end K16

set_option Elab.async false
set_option linter.all false
set_option maxRecDepth 100000
set_option maxHeartbeats 4000000
namespace K16
open PySem PySem.Spec PyProof.Rows L2 Gu Ex
theorem dp_ints {K : PySem.W.Frag} {H : Hp} : ∀ ns : List Int, DpAll K H (ns.map V.int) (ns.map PyData.int)
  | [] => .nil
  | n :: r => .cons (.int n) (dp_ints r)
theorem flat : ∀ ns : List Int, PyData.depthAll (ns.map PyData.int) = 0
  | [] => rfl
  | n :: r => by simp only [List.map_cons, PyData.depthAll, PyData.depth, flat r, Nat.max_self]
theorem can_lay : ∀ ns : List Int, PyData.canLayAll0 (ns.map PyData.int) = true
  | [] => rfl
  | n :: r => by simp only [List.map_cons, PyData.canLayAll0, PyData.canLay0, can_lay r, Bool.and_self]
theorem shaped_ints (ns : List Int) : SeqAt.shaped (.list (ns.map PyData.int)) = true := by
  have e : (PyData.list (ns.map PyData.int)).depth = 1 := by
    show PyData.depthAll (ns.map PyData.int) + 1 = 1
    rw [flat]
  have c : (PyData.list (ns.map PyData.int)).canLay0 = true := can_lay ns
  unfold SeqAt.shaped
  rw [c, e]
  rfl
/-- what a turn sees: the drawing list, the sizes' object, the own list -/
structure Ctx (C : Addr) (H : Hp) (r made own : Addr) (ns : List Int) : Prop where
  rng : Rng H r
  sz : ∃ dx l, l ≠ r ∧ H made = some (.ins C dx (szF l)) ∧ H l = some (.lst (ns.map V.int))
  own_ : H own = some (.lst (ns.map V.int))
  ne : own ≠ r
theorem Ctx.at {C : Addr} {H : Hp} {r made own : Addr} {ns : List Int} (c : Ctx C H r made own ns) : SzAt C H made ns := by
  obtain ⟨dx, l, _, h1, h2⟩ := c.sz
  exact ⟨dx, l, h1, h2⟩
theorem Ctx.step {C : Addr} {H H' : Hp} {r made own : Addr} {ns : List Int} (c : Ctx C H r made own ns) (s : Stp r H H') : Ctx C H' r made own ns := by
  obtain ⟨dx, l, h0, h1, h2⟩ := c.sz
  obtain ⟨_, _, hr, _⟩ := c.rng
  have nm : made ≠ r := ne_of h1 hr (by intro z; cases z)
  exact ⟨s.1, ⟨dx, l, h0, s.2 made _ nm h1, s.2 l _ h0 h2⟩, s.2 own _ c.ne c.own_, c.ne⟩

theorem Stp.same {r : Addr} {H H' : Hp} (h : Rng H r) (s : Same H H') : Stp r H H' := by
  obtain ⟨a, b, e, z⟩ := h
  exact ⟨⟨a, b, s _ _ e, z⟩, fun c o _ e2 => s c o e2⟩
/-- the numbers of the runs are within the range -/
theorem R_in {s : Nat → Int} {m : Nat} {hi : Int} (c : M16.Ch s m) : ∀ (n : Nat) (a : Int), (hi - a).toNat ≤ n → 0 ≤ a → ∀ t ∈ M16.R s m hi a, t.1 < m ∧ (0 ≤ t.2.1 ∧ t.2.1 ≤ hi) ∧ (0 ≤ t.2.2 ∧ t.2.2 ≤ hi)
  | 0, a, h, _, t, ht => by
    rw [M16.R_end (by omega)] at ht
    cases ht
  | n + 1, a, h, h0, t, ht => by
    by_cases ha : a < hi
    · rw [M16.R_step c ha] at ht
      have gt := M16.en_gt c ha
      have le := M16.en_le (a := a) (hi := hi) c
      rcases List.mem_cons.mp ht with rfl | ht
      · have one := M16.run_one c ha
        have d := Int.ediv_le_self (s (M16.L s m hi a)) (show 0 ≤ M16.en s m hi a - a by omega)
        exact ⟨M16.L_lt c, ⟨h0, by show a ≤ hi; omega⟩, ⟨by show 0 ≤ (M16.en s m hi a - a) / s (M16.L s m hi a); omega, by show (M16.en s m hi a - a) / s (M16.L s m hi a) ≤ hi; omega⟩⟩
      · exact R_in c n (M16.en s m hi a) (by omega) (by omega) t ht
    · rw [M16.R_end ha] at ht
      cases ht
theorem tq_told {K : PySem.W.Frag} {H : Hp} {L : Addr} {ps : List Addr} {ns : List Int} {lo hi : Int} (g : Good ns) (h0 : 0 ≤ lo) (h1 : hi ≤ 10 ^ 38) (tp : Tups H ps (Rs ns hi lo)) (hL : H L = some (.lst (ps.map V.ref))) : Tq K H (.ref L) (.list ((Rs ns hi lo).map runD)) 2 3000 := by
  have c := chain g
  have l8 := g.len.2
  have t := tq_runs (K := K) tp fun t ht => by
    obtain ⟨a, b, d⟩ := R_in c _ lo (Nat.le_refl _) h0 t ht
    exact ⟨by omega, ⟨b.1, by omega⟩, ⟨d.1, by omega⟩⟩
  refine (t.lst hL).mono (Nat.le_refl _) ?_
  have s := M16.R_short (s := sz ns) (a := lo) (hi := hi) c l8
  have e := tp.len
  rw [List.length_map]
  have e2 : (Rs ns hi lo).length ≤ 16 := s
  omega
section
variable {P : Program} {w : World} {K : PySem.W.Frag} {mg : Str → Option Value} {base : Heap} {f : Addr} {fd : FuncData}
def trues (i : Nat) : List V := (List.replicate i true).map V.bl
theorem trues_more (i : Nat) : trues i ++ [V.bl true] = trues (i + 1) := by
  unfold trues
  rw [List.replicate_succ', List.map_append]
  rfl
theorem trues_len (i : Nat) : (trues i).length = i := by
  unfold trues
  rw [List.length_map, List.length_replicate]
theorem all_trues (i : Nat) : (List.replicate i true).all id = true := by
  rw [List.all_replicate]
  split <;> rfl
theorem Stp.at {r D : Addr} {M H' : Hp} {o : HO} (s : Stp r M H') (hD : M D = none) (n : D ≠ r) : Stp r M (upd H' D o) := by
  obtain ⟨⟨a, b, e, z⟩, k⟩ := s
  refine ⟨⟨a, b, by rw [upd_ne n.symm]; exact e, z⟩, fun c u m h => ?_⟩
  rw [upd_ne (ne_of_none h hD)]
  exact k c u m h
def spLow : Sp := fun vs H Q _ => ∃ (r l : Addr) (ns : List Int), vs = [.ref r, .ref l] ∧ Rng H r ∧ H l = some (.lst (ns.map V.int)) ∧ l ≠ r ∧ Good ns ∧ ∀ v H', 0 ≤ v → v ≤ 10 ^ 34 → Stp r H H' → Q (.int v) H'
theorem sc__law_low : FnScope ["_law_rng_here", "_law_sizes_here", "_law_size", "_law_some"] ["_law_rng_here", "_law_sizes_here"] (defScope (top 29)) := ⟨rfl, rfl, rfl, by decide +kernel, rfl, by decide +kernel, by decide +kernel⟩
theorem ok_low (T : Tx K mg) (D__law_draw : Df P w K mg base 1 "_law_draw" ["_law_rng_here", "_law_many"] spDraw) (D__law_choice : Df P w K mg base 2 "_law_choice" ["_law_rng_here", "_law_options"] spChoice) (F : FnP K "_law_low" "_law_low" (top 29) f fd) :
    FnOk P w K mg base CX0 3 f fd ["_law_rng_here", "_law_sizes_here"] spLow := by
  refine F.ok sc__law_low (fun vs H Q E h => ?_) (fun cdv A outer s H vs Q E hr h => ⟨_, PSs.nox (pss_cons (ps_set (i := 2) sc__law_low.nd rfl (by first | exact Or.inl rfl | exact Or.inr rfl) (pcall D__law_choice hr (pa_cons (pv 0) (pa_cons (pv 1) pa_nil)))) (pss_cons (ps_set (i := 3) sc__law_low.nd rfl (by first | exact Or.inl rfl | exact Or.inr rfl) (pe_lst (pa_cons (pcall D__law_draw hr (pa_cons (pv 0) (pa_cons pe_int pa_nil))) (pa_cons (pe_op op_mul (pcall D__law_draw hr (pa_cons (pv 0) (pa_cons pe_int pa_nil))) (pv 2)) (pa_cons (pcall D__law_draw hr (pa_cons (pv 0) (pa_cons (pe_op op_pow pe_int pe_int) pa_nil))) (pa_cons (pe_op op_add (pe_op op_pow pe_int pe_int) (pcall D__law_draw hr (pa_cons (pv 0) (pa_cons (pe_op op_pow pe_int pe_int) pa_nil)))) pa_nil)))))) (pss_one (ps_ret (pe_callB (call_max2 rfl) (by rfl) T.n_max (by decide +kernel) (pa_cons pe_int (pa_cons (pe_op op_sub (pe_ix ix_list (pv 3) (pcall D__law_draw hr (pa_cons (pv 0) (pa_cons pe_int pa_nil))) (fun _ _ => rfl)) (pcall D__law_draw hr (pa_cons (pv 0) (pa_cons pe_int pa_nil)))) pa_nil))))))), ?_⟩)
  · obtain ⟨r, l, ns, rfl, _⟩ := h
    rfl
  · obtain ⟨r, l, ns, rfl, hR, hl, ne, g, q⟩ := h
    have big : (10 : Int) ^ 40 = 10000000000000000000000000000000000000000 := by decide
    have b34 : (10 : Int) ^ 34 = 10000000000000000000000000000000000 := by decide
    have p9 : (10 : Int) ^ (9 : Int).toNat = 1000000000 := by decide
    have p12 : (10 : Int) ^ (12 : Int).toNat = 1000000000000 := by decide
    have p33 : (10 : Int) ^ (33 : Int).toNat = 1000000000000000000000000000000000 := by decide
    have pw9 : CPow 10 9 := ⟨by decide, by decide, by decide⟩
    have pw12 : CPow 10 12 := ⟨by decide, by decide, by decide⟩
    have pw33 : CPow 10 33 := ⟨by decide, by decide, by decide⟩
    have l8 := g.len
    refine ⟨_, rfl, _, rfl, r, l, _, rfl, hR, hl, ne, (by rw [List.length_map]; omega), (by rw [List.length_map]; omega), fun v H1 hv s1 => ?_⟩
    obtain ⟨z, z1, z2, rfl⟩ : ∃ z : Int, 1 ≤ z ∧ z ≤ 1000000000 ∧ v = .int z := by
      obtain ⟨z, hz, rfl⟩ := List.mem_map.mp hv
      obtain ⟨i, hi, rfl⟩ := List.getElem_of_mem hz
      have := g.rng i _ (List.getElem?_eq_getElem hi)
      exact ⟨_, this.1, this.2, rfl⟩
    refine ⟨_, rfl, r, 40, rfl, s1.1, by decide, by omega, fun d1 H2 a0 a1 t2 => ?_⟩
    have s2 := s1.trans t2
    refine ⟨_, rfl, r, 30, rfl, s2.1, by decide, by omega, fun d2 H3 b0 b1 t3 => ?_⟩
    have s3 := s2.trans t3
    have n0 : 0 ≤ d2 * z := Int.mul_nonneg b0 (by omega)
    have n1 : d2 * z ≤ 30 * 1000000000 := Int.mul_le_mul (by omega) z2 (by omega) (by decide)
    refine ⟨_, rfl, _, _, rfl, rfl, .inl ⟨by omega, by omega⟩, _, rfl, _, _, rfl, rfl, pw12, r, _, rfl, s3.1, (by rw [p12]; decide), (by rw [p12]; omega), fun d3 H4 c0 c1 t4 => ?_⟩
    have s4 := s3.trans t4
    refine ⟨_, _, rfl, rfl, pw33, _, rfl, _, _, rfl, rfl, pw9, r, _, rfl, s4.1, (by rw [p9]; decide), (by rw [p9]; omega), fun d4 H5 e0 e1 t5 => ?_⟩
    have s5 := s4.trans t5
    refine ⟨_, _, rfl, rfl, (by show 4 ≤ sizeLine; decide), fun t ht => ?_⟩
    have nrt : r ≠ t := s5.1.ne ht
    have s6 := s5.new (o := .lst [.int d1, .int (d2 * z), .int d3, .int (10 ^ (33 : Int).toNat + d4)]) ht
    refine ⟨_, rfl, _, rfl, r, 4, rfl, s6.1, by decide, by omega, fun d5 H6 f0 f1 t6 => ?_⟩
    have s7 := s6.trans t6
    obtain ⟨u, hu, hm⟩ := at_of (xs := [.int d1, .int (d2 * z), .int d3, .int (10 ^ (33 : Int).toNat + d4)]) f0 f1
    obtain ⟨y, rfl, y0, y1⟩ : ∃ y : Int, u = .int y ∧ 0 ≤ y ∧ y ≤ 2000000000000000000000000000000000 := by
      simp only [List.mem_cons, List.not_mem_nil, or_false] at hm
      rcases hm with rfl | rfl | rfl | rfl
      · exact ⟨_, rfl, by omega, by omega⟩
      · exact ⟨_, rfl, by omega, by omega⟩
      · exact ⟨_, rfl, by omega, by omega⟩
      · exact ⟨_, rfl, by omega, by omega⟩
    refine ⟨t, _, _, _, rfl, rfl, SqL.of (t6.2 t _ nrt.symm upd_same), hu, ?_⟩
    refine ⟨_, rfl, r, 3, rfl, s7.1, by decide, by omega, fun d6 H7 g0 g1 t7 => ?_⟩
    refine ⟨_, _, rfl, rfl, _, _, rfl, q _ _ ?_ ?_ (s7.trans t7)⟩
    · split <;> omega
    · split <;> omega
def spRight : Sp := fun vs H Q _ => ∃ r : Addr, vs = [.ref r] ∧ Rng H r ∧ ∀ H', Stp r H H' → Q (.bl true) H'
theorem sc__law_right : FnScope ["_law_rng_here", "_law_sizes_here", "_law_made", "_law_turn", "_law_low_here", "_law_high", "_law_told"] ["_law_rng_here"] (defScope (top 30)) := ⟨rfl, rfl, rfl, by decide +kernel, rfl, by decide +kernel, by decide +kernel⟩
theorem ok_right (T : Tx K mg) (D__law_sizes : Df P w K mg base 2 "_law_sizes" ["_law_rng_here", "_law_levels", "_law_greatest"] spSizes) (D_Sizes : Kf P w K mg base 4 "Sizes" ["self", "values"] (spMade K))
    (M_all_sizes : Mf P w K mg base 1 "Sizes" "all_sizes" ["self"] (spAll K)) (D__law_draw : Df P w K mg base 1 "_law_draw" ["_law_rng_here", "_law_many"] spDraw) (D__law_low : Df P w K mg base 3 "_law_low" ["_law_rng_here", "_law_sizes_here"] spLow)
    (D_maximal_runs : Df P w K mg base 9 "maximal_runs" ["sizes", "low", "high"] (spMax K)) (D__law_listed : Df P w K mg base 1 "_law_listed" ["_law_sizes_here", "_law_low_here", "_law_high"] spListed) (D__law_far_right : Df P w K mg base 2 "_law_far_right" ["_law_sizes_here", "_law_low_here", "_law_high", "_law_runs"] spFar)
    (F : FnP K "_law_right" "_law_right" (top 30) f fd) : FnG P w K mg base CX0 11 f fd ["_law_rng_here"] spRight := by
  refine okG F sc__law_right (fun vs H Q E h => ?_) (fun cdv A outer s H vs Q E hr h => ⟨_, PSs.nox (pss_cons (ps_set (i := 1) sc__law_right.nd rfl (by first | exact Or.inl rfl | exact Or.inr rfl) (pcall D__law_sizes hr.r (pa_cons (pv 0) (pa_cons pe_int (pa_cons pe_int pa_nil))))) (pss_cons (ps_set (i := 2) sc__law_right.nd rfl (by first | exact Or.inl rfl | exact Or.inr rfl) (pmake D_Sizes hr.r (pa_cons (pe_callTy call_list_of (by rfl) T.n_list (by decide +kernel) (pa_cons (pv 1) pa_nil)) pa_nil))) (pss_cons (ps_for PassesOwn.never rfl (pi_range1 rfl T.n_range (pa_cons pe_int pa_nil)) (pg_name (i := 3) sc__law_right.nd rfl (by first | exact Or.inl rfl | exact Or.inr rfl)) (pss_cons (ps_set (i := 4) sc__law_right.nd rfl (by first | exact Or.inl rfl | exact Or.inr rfl) (pcall D__law_low hr.r (pa_cons (pv 0) (pa_cons (pv 1) pa_nil)))) (pss_cons (ps_set (i := 5) sc__law_right.nd rfl (by first | exact Or.inl rfl | exact Or.inr rfl) (pe_op op_add (pv 4) (pcall D__law_draw hr.r (pa_cons (pv 0) (pa_cons pe_int pa_nil))))) (pss_cons (ps_set (i := 6) sc__law_right.nd rfl (by first | exact Or.inl rfl | exact Or.inr rfl) (pcall D_maximal_runs hr.r (pa_cons (pv 2) (pa_cons (pv 4) (pa_cons (pv 5) pa_nil))))) (pss_cons (ps_if (PW.pt (pw_or (pt_cmpR op_ne (pe_callB (call_reprQ hr T.sys) (by rfl) T.n_repr (by decide +kernel) (pa_cons (pv 6) pa_nil)) (pe_callB (call_reprQ hr T.sys) (by rfl) T.n_repr (by decide +kernel) (pa_cons (pcall D__law_listed hr.r (pa_cons (pv 1) (pa_cons (pv 4) (pa_cons (pv 5) pa_nil)))) pa_nil)) (nomark _)) (pw_or1 (pt_not (pt_val (pcall D__law_far_right hr.r (pa_cons (pv 1) (pa_cons (pv 4) (pa_cons (pv 5) (pa_cons (pv 6) pa_nil)))))))))) (pss_one (ps_ret pe_bl)) pss_nil) (pss_cons (ps_expr (pe_bm PySem.F.plainAttrs_list PySem.F.slot_list_append PySem.F.type_list_append mt_append (pv 6) (pa_cons pe_non pa_nil))) (pss_one (ps_if (pt_cmpR op_ne (pe_callB (call_reprQ hr T.sys) (by rfl) T.n_repr (by decide +kernel) (pa_cons (pcall D_maximal_runs hr.r (pa_cons (pv 2) (pa_cons (pv 4) (pa_cons (pv 5) pa_nil)))) pa_nil)) (pe_callB (call_reprQ hr T.sys) (by rfl) T.n_repr (by decide +kernel) (pa_cons (pe_slice sl_list (pv 6) po_none (po_some (pe_un un_neg pe_int))) pa_nil)) (nomark _)) (pss_one (ps_ret pe_bl)) pss_nil)))))))) (pss_cons (ps_for PassesOwn.never rfl (pi_range1 rfl T.n_range (pa_cons pe_int pa_nil)) (pg_name (i := 3) sc__law_right.nd rfl (by first | exact Or.inl rfl | exact Or.inr rfl)) (pss_cons (ps_set (i := 4) sc__law_right.nd rfl (by first | exact Or.inl rfl | exact Or.inr rfl) (pcall D__law_low hr.r (pa_cons (pv 0) (pa_cons (pv 1) pa_nil)))) (pss_cons (ps_set (i := 5) sc__law_right.nd rfl (by first | exact Or.inl rfl | exact Or.inr rfl) (pe_op op_add (pv 4) (pe_ix ix_list (pe_lst (pa_cons (pcall D__law_draw hr.r (pa_cons (pv 0) (pa_cons (pe_op op_pow pe_int pe_int) pa_nil))) (pa_cons (pcall D__law_draw hr.r (pa_cons (pv 0) (pa_cons (pe_op op_pow pe_int pe_int) pa_nil))) (pa_cons (pe_op op_pow pe_int pe_int) pa_nil)))) (pcall D__law_draw hr.r (pa_cons (pv 0) (pa_cons pe_int pa_nil))) (fun _ _ => rfl)))) (pss_one (ps_if (pt_not (pt_val (pcall D__law_far_right hr.r (pa_cons (pv 1) (pa_cons (pv 4) (pa_cons (pv 5) (pa_cons (pcall D_maximal_runs hr.r (pa_cons (pv 2) (pa_cons (pv 4) (pa_cons (pv 5) pa_nil)))) pa_nil))))))) (pss_one (ps_ret pe_bl)) pss_nil))))) (pss_one (ps_ret (pe_and (pe_cmpR (op_eqD hr.r.units) (pcall D_maximal_runs hr.r (pa_cons (pv 2) (pa_cons pe_int (pa_cons pe_int pa_nil)))) (pe_lst pa_nil) (nomark _)) (pe_one (pe_cmpR (op_eqD hr.r.units) (pmeth0 M_all_sizes hr.r (pv 2)) (pv 1) (nomark _)))))))))), ?_⟩)
  · obtain ⟨r, rfl, _⟩ := h
    rfl
  · obtain ⟨r, rfl, hR, q⟩ := h
    have sl : sizeLine = 16777216 := sizeLine_eq
    have big : (10 : Int) ^ 40 = 10000000000000000000000000000000000000000 := by decide
    have b34 : (10 : Int) ^ 34 = 10000000000000000000000000000000000 := by decide
    have b38 : (10 : Int) ^ 38 = 100000000000000000000000000000000000000 := by decide
    have p6 : (10 : Int) ^ (6 : Int).toNat = 1000000 := by decide
    have p12 : (10 : Int) ^ (12 : Int).toNat = 1000000000000 := by decide
    have p36 : (10 : Int) ^ (36 : Int).toNat = 1000000000000000000000000000000000000 := by decide
    have pw6 : CPow 10 6 := ⟨by decide, by decide, by decide⟩
    have pw12 : CPow 10 12 := ⟨by decide, by decide, by decide⟩
    have pw36 : CPow 10 36 := ⟨by decide, by decide, by decide⟩
    refine ⟨_, rfl, r, 8, 40, rfl, hR, by decide, by decide, by decide, by decide, fun l ns H1 g hl hL s1 => ?_⟩
    refine ⟨_, rfl, l, _, rfl, .inl (SqL.of hL), fun l2 hl2 => ?_⟩
    intro x dx hx hdx ndx
    have e1 : (upd (upd (upd H1 l2 (.lst (ns.map V.int))) dx (.own x)) x (.ins (He.ga K "Sizes") dx [])) l2 = some (.lst (ns.map V.int)) := by
      rw [upd_ne (ne_of_none upd_same hx), upd_ne (ne_of_none upd_same hdx), upd_same]
    refine ⟨x, dx, l2, ns, rfl, upd_same, SqL.of e1, .base (.lst e1), g, fun l3 hl3 => ⟨rfl, ?_⟩⟩
    have hl1 : H1 l = some (.lst (ns.map V.int)) := hL
    have x1 : H1 x = none := by
      cases e : H1 x with
      | none => rfl
      | some o => rw [upd_ne (ne_of_none e hl2), e] at hx; cases hx
    have nx3 : x ≠ l3 := ne_of_none upd_same hl3
    have sM : Stp r H1 (upd (upd (upd (upd (upd H1 l2 (HO.lst (ns.map V.int))) dx (HO.own x)) x (HO.ins (He.ga K "Sizes") dx [])) l3 (HO.lst (ns.map V.int))) x (HO.ins (He.ga K "Sizes") dx (szF l3))) := by
      have t1 : Stp r H1 (upd H1 l2 (HO.lst (ns.map V.int))) := (Stp.refl s1.1).new hl2
      have t2 := t1.new (o := HO.own x) hdx
      have t3 := t2.new (o := HO.ins (He.ga K "Sizes") dx []) (by rw [upd_ne ndx.symm]; exact hx)
      have t4 := t3.new (o := HO.lst (ns.map V.int)) hl3
      obtain ⟨⟨a, b, ea, z⟩, kk⟩ := t4
      have nrx : r ≠ x := s1.1.ne x1
      refine ⟨⟨a, b, by rw [upd_ne nrx]; exact ea, z⟩, fun c o n e => ?_⟩
      rw [upd_ne (ne_of_none e x1)]
      exact kk c o n e
    have hM3 : (upd (upd (upd (upd (upd H1 l2 (HO.lst (ns.map V.int))) dx (HO.own x)) x (HO.ins (He.ga K "Sizes") dx [])) l3 (HO.lst (ns.map V.int))) x (HO.ins (He.ga K "Sizes") dx (szF l3))) l3 = some (.lst (ns.map V.int)) := by
      rw [upd_ne nx3.symm, upd_same]
    have hMx : (upd (upd (upd (upd (upd H1 l2 (HO.lst (ns.map V.int))) dx (HO.own x)) x (HO.ins (He.ga K "Sizes") dx [])) l3 (HO.lst (ns.map V.int))) x (HO.ins (He.ga K "Sizes") dx (szF l3))) x = some (.ins (He.ga K "Sizes") dx (szF l3)) := upd_same
    have n3r : l3 ≠ r := by
      have t1 : Stp r H1 (upd H1 l2 (HO.lst (ns.map V.int))) := (Stp.refl s1.1).new hl2
      have t2 := t1.new (o := HO.own x) hdx
      have t3 := t2.new (o := HO.ins (He.ga K "Sizes") dx []) (by rw [upd_ne ndx.symm]; exact hx)
      exact (t3.1.ne hl3).symm
    have nlr : l ≠ r := fun zz => (hR.ne hl) zz.symm
    have ctx : Ctx (He.ga K "Sizes") (upd (upd (upd (upd (upd H1 l2 (HO.lst (ns.map V.int))) dx (HO.own x)) x (HO.ins (He.ga K "Sizes") dx [])) l3 (HO.lst (ns.map V.int))) x (HO.ins (He.ga K "Sizes") dx (szF l3))) r x l ns := ⟨sM.1, ⟨dx, l3, n3r, hMx, hM3⟩, sM.2 l _ nlr hl1, nlr⟩
    have s2 := s1.trans sM
    have ch := chain g
    refine ⟨6, rfl, by decide, by decide, ?_⟩
    refine for_range (n := 6) (fun i σ G => ∃ y3 y4 y5 y6, σ = [some (.ref r), some (.ref l), some (.ref x), y3, y4, y5, y6] ∧ Stp r (upd (upd (upd (upd (upd H1 l2 (HO.lst (ns.map V.int))) dx (HO.own x)) x (HO.ins (He.ga K "Sizes") dx [])) l3 (HO.lst (ns.map V.int))) x (HO.ins (He.ga K "Sizes") dx (szF l3))) G) ⟨none, none, none, none, rfl, Stp.refl sM.1⟩ ?_ ?_
    · rintro i σ G hi' ⟨y3, y4, y5, y6, rfl, st⟩
      have cG := ctx.step st
      refine ⟨_, rfl, _, rfl, r, l, ns, rfl, cG.rng, cG.own_, cG.ne, g, fun lo G1 lo0 lo1 u1 => ?_⟩
      refine ⟨_, rfl, _, rfl, r, 61, rfl, u1.1, by decide, by omega, fun d G2 d0 d1 u2 => ⟨_, _, rfl, rfl, ?_⟩⟩
      have stA := (st.trans u1).trans u2
      have cA := ctx.step stA
      have h38 : lo + d ≤ 10 ^ 38 := by omega
      have lh : lo ≤ lo + d := by omega
      refine ⟨_, rfl, _, rfl, _, rfl, x, ns, lo, lo + d, rfl, cA.at, g, lo0, lh, fun L ps G3 hL m3 k3 tp3 => ?_⟩
      have nL : L ≠ r := (cA.rng.ne hL).symm
      have cB := cA.step (Stp.same cA.rng m3)
      have t1 := tq_told (K := K) g lo0 h38 tp3 k3
      refine ⟨_, rfl, _, _, rfl, t1.dq, t1.sh, Nat.le_trans t1.dp (by decide), Nat.le_trans t1.ln (by decide), ?_⟩
      refine ⟨_, rfl, _, rfl, _, rfl, l, ns, lo, lo + d, rfl, cB.own_, g, lh, by omega, fun L2 ps2 G4 hL2 m4 k4 tp4 => ?_⟩
      have t2 := tq_told (K := K) g lo0 h38 tp4 k4
      refine ⟨_, _, rfl, t2.dq, t2.sh, Nat.le_trans t2.dp (by decide), Nat.le_trans t2.ln (by decide), rfl, _, rfl, ifF (by rw [decide_eq_true rfl]; rfl) ?_⟩
      have cC := cB.step (Stp.same cB.rng m4)
      refine ⟨_, rfl, _, rfl, _, rfl, _, rfl, l, L, ns, lo, lo + d, ps, rfl, cC.own_, g, lh, m4 _ _ k3, tp3.same m4, _, rfl, iteF ?_⟩
      have pl := tp3.len
      have rl : (Rs ns (lo + d) lo).length ≤ 16 := M16.R_short ch g.len.2
      refine ⟨_, rfl, .inl ⟨rfl, _, SqL.of (m4 _ _ k3)⟩, L, _, _, rfl, rfl, m4 _ _ k3, (by rw [List.length_map]; omega), ?_⟩
      have k5 : (upd G4 L (.lst (ps.map V.ref ++ [.non]))) L = some (.lst (ps.map V.ref ++ [.non])) := upd_same
      have stB : Stp r G2 (upd G4 L (.lst (ps.map V.ref ++ [.non]))) := (Stp.same cA.rng (m3.trans m4)).at hL nL
      have tp5 : Tups (upd G4 L (.lst (ps.map V.ref ++ [.non]))) ps (Rs ns (lo + d) lo) := (tp3.same m4).mono fun b xs e => by
        rw [upd_ne (fun z => by rw [z, m4 _ _ k3] at e; cases e)]
        exact e
      generalize upd G4 L (.lst (ps.map V.ref ++ [.non])) = G5 at k5 stB tp5 ⊢
      have cD := cA.step stB
      refine ⟨_, rfl, _, rfl, _, rfl, x, ns, lo, lo + d, rfl, cD.at, g, lo0, lh, fun L6 ps6 G6 hL6 m6 k6 tp6 => ?_⟩
      have t6 := tq_told (K := K) g lo0 h38 tp6 k6
      refine ⟨_, _, rfl, t6.dq, t6.sh, Nat.le_trans t6.dp (by decide), Nat.le_trans t6.ln (by decide), ?_⟩
      refine ⟨_, rfl, _, rfl, _, rfl, L, _, rfl, SqL.of (m6 _ _ k5), fun c1 hc1 => ?_⟩
      rw [cut_last]
      have m7 := same_upd (o := .lst (ps.map V.ref)) hc1
      have t7 := tq_told (K := K) (L := c1) g lo0 h38 ((tp5.same m6).same m7) (show (upd G6 c1 (.lst (ps.map V.ref))) c1 = some (.lst (ps.map V.ref)) from upd_same)
      refine ⟨_, _, rfl, t7.dq, t7.sh, Nat.le_trans t7.dp (by decide), Nat.le_trans t7.ln (by decide), rfl, _, rfl, ifF (by rw [decide_eq_true rfl]; rfl) ?_⟩
      exact ⟨_, _, _, _, rfl, (stA.trans stB).trans (Stp.same cD.rng (m6.trans m7))⟩
    · rintro σ G ⟨y3, y4, y5, y6, rfl, st⟩
      refine ⟨4, rfl, by decide, by decide, ?_⟩
      refine for_range (n := 4) (fun i σ G => ∃ y3 y4 y5 y6, σ = [some (.ref r), some (.ref l), some (.ref x), y3, y4, y5, y6] ∧ Stp r (upd (upd (upd (upd (upd H1 l2 (HO.lst (ns.map V.int))) dx (HO.own x)) x (HO.ins (He.ga K "Sizes") dx [])) l3 (HO.lst (ns.map V.int))) x (HO.ins (He.ga K "Sizes") dx (szF l3))) G) ⟨_, _, _, _, rfl, st⟩ ?_ ?_
      · rintro i σ G hi' ⟨y3, y4, y5, y6, rfl, st⟩
        have cG := ctx.step st
        refine ⟨_, rfl, _, rfl, r, l, ns, rfl, cG.rng, cG.own_, cG.ne, g, fun lo G1 lo0 lo1 u1 => ?_⟩
        refine ⟨_, rfl, _, rfl, _, _, rfl, rfl, pw6, r, _, rfl, u1.1, (by rw [p6]; decide), (by rw [p6]; omega), fun d1 G2 d10 d11 u2 => ?_⟩
        refine ⟨_, rfl, _, _, rfl, rfl, pw12, r, _, rfl, u2.1, (by rw [p12]; decide), (by rw [p12]; omega), fun d2 G3 d20 d21 u3 => ?_⟩
        have s3 := ((st.trans u1).trans u2).trans u3
        refine ⟨_, _, rfl, rfl, pw36, (by show 3 ≤ sizeLine; decide), fun t ht => ?_⟩
        have nrt : r ≠ t := s3.1.ne ht
        have s4 := s3.new (o := .lst [.int d1, .int d2, .int (10 ^ (36 : Int).toNat)]) ht
        refine ⟨_, rfl, r, 3, rfl, s4.1, by decide, by omega, fun d3 G4 d30 d31 u4 => ?_⟩
        obtain ⟨u, hu, hm⟩ := at_of (xs := [.int d1, .int d2, .int (10 ^ (36 : Int).toNat)]) d30 d31
        obtain ⟨y, rfl, yy0, yy1⟩ : ∃ y : Int, u = .int y ∧ 0 ≤ y ∧ y ≤ 1000000000000000000000000000000000000 := by
          simp only [List.mem_cons, List.not_mem_nil, or_false] at hm
          rcases hm with rfl | rfl | rfl
          · exact ⟨_, rfl, by omega, by omega⟩
          · exact ⟨_, rfl, by omega, by omega⟩
          · exact ⟨_, rfl, by omega, by omega⟩
        refine ⟨t, _, _, _, rfl, rfl, SqL.of (u4.2 t _ nrt.symm upd_same), hu, _, _, rfl, rfl, ?_⟩
        have s5 := s4.trans u4
        have cA := ctx.step s5
        have lh : lo ≤ lo + y := by omega
        refine ⟨_, rfl, _, rfl, _, rfl, _, rfl, _, rfl, _, rfl, x, ns, lo, lo + y, rfl, cA.at, g, lo0, lh, fun L ps G5 hL m5 k5 tp5 => ?_⟩
        have cB := cA.step (Stp.same cA.rng m5)
        exact ⟨l, L, ns, lo, lo + y, ps, rfl, cB.own_, g, lh, k5, tp5, _, rfl, iteF ⟨_, _, _, _, rfl, s5.trans (Stp.same cA.rng m5)⟩⟩
      · rintro σ G ⟨y3, y4, y5, y6, rfl, st⟩
        have cG := ctx.step st
        refine ⟨_, rfl, x, ns, 7, 7, rfl, cG.at, g, by decide, by decide, fun L ps G1 hL m1 k1 tp1 => ?_⟩
        have er : Rs ns 7 7 = [] := M16.R_end (by decide)
        rw [er] at tp1
        cases tp1
        have cA := cG.step (Stp.same cG.rng m1)
        refine ⟨Nat.zero_le _, fun e0 he0 => ?_⟩
        have m2 := same_upd (o := .lst []) he0
        have k2 := m2 _ _ k1
        have k3 : (upd G1 e0 (.lst [])) e0 = some (.lst []) := upd_same
        refine ⟨.list [], .list [], .lst (SqL.of k2) .nil, .lst (SqL.of k3) .nil, rfl, rfl, true, rfl, iteT ?_⟩
        have c' := cA.step (Stp.same cA.rng m2)
        obtain ⟨dx', l', h0, h1, h2⟩ := c'.sz
        refine ⟨_, rfl, x, dx', _, rfl, h1, szF_no l' (by decide +kernel), x, ns, rfl, c'.at, fun l4 hl4 => ?_⟩
        have hown : (upd (upd G1 e0 (.lst [])) l4 (.lst (ns.map V.int))) l = some (.lst (ns.map V.int)) := by rw [upd_ne (ne_of_none c'.own_ hl4)]; exact c'.own_
        have ev := SeqAt.eqv_refl (.list (ns.map PyData.int)) (can_lay _)
        refine ⟨_, rfl, _, _, .lst (SqL.of upd_same) (dp_ints ns), .lst (SqL.of hown) (dp_ints ns), shaped_ints _, shaped_ints _, ?_⟩
        rw [ev]
        exact q _ (((s2.trans st).trans (Stp.same cG.rng (m1.trans m2))).new hl4)
def spLaw (K : PySem.W.Frag) : Sp := fun vs H Q _ => ∃ (a : Addr) (ns : List Int), vs = [.ref a] ∧ SqL K H a (ns.map V.int) ∧ ns.length ≤ 63 ∧ ∀ H', Q (.bl true) H'
theorem sc_law : FnScope ["_law_script", "_law_k"] ["_law_script"] (defScope (top 31)) := ⟨rfl, rfl, rfl, by decide +kernel, rfl, by decide +kernel, by decide +kernel⟩
theorem ok_law (T : Tx K mg) (D__law_rng : Df P w K mg base 1 "_law_rng" ["_law_script", "_law_k"] (spRng K)) (D__law_right : DfG P w K mg base 11 "_law_right" ["_law_rng_here"] spRight)
    (F : FnP K "law" "law" (top 31) f fd) : FnG P w K mg base CX0 12 f fd ["_law_script"] (spLaw K) := by
  refine okG F sc_law (fun vs H Q E h => ?_) (fun cdv A outer s H vs Q E hr h => ⟨_, PSs.nox (pss_one (ps_ret (pe_callB (cr_all rfl) (by rfl) T.n_all (by decide +kernel) (pa_cons (pe_lc (own := [("_law_k", 1)]) (g := gName 1) rfl sc_law.nd (pi_range1 rfl T.n_range (pa_cons (pe_callB (call_max2 rfl) (by rfl) T.n_max (by decide +kernel) (pa_cons pe_int (pa_cons (pe_callB (call_min2 rfl) (by rfl) T.n_min (by decide +kernel) (pa_cons (pe_callB call_len_seq (by rfl) T.n_len (by decide +kernel) (pa_cons (pv 0) pa_nil)) (pa_cons pe_int pa_nil))) pa_nil))) pa_nil)) (blkOk_by (own := [("_law_k", 1)]) (N := ["_law_script", "_law_k"]) (sc := defScope (top 31)) (by decide +kernel)) (fun _ _ _ _ _ => pg_name (i := 1) sc_law.nd rfl (Or.inl rfl)) (fun _ _ _ _ _ => pts_nil) (fun _ _ _ _ _ => (pcallG D__law_right hr (pa_cons (pcall D__law_rng hr.r (pa_cons (pv 0) (pa_cons (pv 1) pa_nil))) pa_nil)))) pa_nil)))), ?_⟩)
  · obtain ⟨a, ns, rfl, _⟩ := h
    rfl
  · obtain ⟨a, ns, rfl, hS, hlen, q⟩ := h
    refine ⟨_, rfl, a, _, rfl, .inl hS, _, _, rfl, _, _, rfl, ?_⟩
    obtain ⟨j, ej, j1, j2⟩ : ∃ j : Int, (if (if (4 : Int) < ((ns.map V.int).length : Int) then 4 else ((ns.map V.int).length : Int)) > 1 then (if (4 : Int) < ((ns.map V.int).length : Int) then 4 else ((ns.map V.int).length : Int)) else 1) = j ∧ 1 ≤ j ∧ j ≤ 4 := by
      refine ⟨_, rfl, ?_, ?_⟩
      · split <;> omega
      · split <;> split <;> omega
    refine ⟨j, (by rw [ej]), by omega, by omega, fun D hD => ?_⟩
    refine lc_range (fun i H' => H' D = some (.lst (trues i)) ∧ Same H H') ⟨upd_same, same_upd hD⟩ ?_ ?_
    · rintro i H' hi ⟨hD', sm⟩
      have hi2 : i < 4 := by omega
      refine ⟨rfl, _, rfl, _, rfl, a, ns, i, (by rw [Int.zero_add]; rfl), sm.seq hS, by omega, fun p H1 hp sm1 rg => ?_⟩
      refine ⟨p, rfl, rg, fun H2 st => ?_⟩
      have hD1 : H1 D = some (.lst (trues i)) := sm1 _ _ hD'
      have nDp : D ≠ p := ne_of_none hD' hp
      refine ⟨_, st.2 D _ nDp hD1, small1000 (by rw [trues_len]; omega), by rw [upd_same, trues_more], fun b o e => ?_⟩
      have e' := sm b o e
      rw [upd_ne (ne_of_none e hD)]
      exact st.2 b o (ne_of_none e' hp) (sm1 b o e')
    · rintro H' ⟨hD', sm⟩
      refine ⟨D, List.replicate j.toNat true, rfl, SqL.of hD', ?_⟩
      rw [all_trues]
      exact q _
end
end K16

set_option Elab.async false
set_option linter.all false
set_option maxRecDepth 100000
set_option maxHeartbeats 0
namespace Ex
open PySem PySem.Spec PyProof.Rows L2 Gu
/-! ### facts of a class beyond those by names: constants, a property -/
def cvB (K : PySem.W.Frag) (C : Addr) (f : Str) (i : Int) : Bool := match PySem.W.findCls K (.ref C) (.type "type") f with
  | some (.val (.int j _)) => decide (j = i)
  | _ => false
theorem cvB_ok {K : PySem.W.Frag} {C : Addr} {f : Str} {i : Int} (h : cvB K C f i = true) : ∃ u, ClX.CVal K C (.type "type") f (.int i) u := by
  unfold cvB at h
  split at h
  · rename_i j t e
    have ej : j = i := of_decide_eq_true h
    exact ⟨_, e, t, by rw [ej]⟩
  · cases h
def rdB (K : PySem.W.Frag) (C : Addr) : Bool := PySem.W.readsIn K C (.type "type") && He.eqO (PySem.W.specialIn K (.ref C) "__getattribute__") (some (some (.builtin "type.__getattribute__")))
theorem rdB_ok {K : PySem.W.Frag} {C : Addr} (h : rdB K C = true) : ClX.CRead K C (.type "type") := by
  obtain ⟨h1, h2⟩ := He.ba h
  exact ⟨h1, He.eqO_ok h2⟩
def prA (K : PySem.W.Frag) (C : Addr) (f : Str) : Addr := match PySem.W.findIn K (.ref C) f with
  | some (some (.ref p)) => p
  | _ => 0
def pgA (K : PySem.W.Frag) (C : Addr) (f : Str) : Addr := match PySem.W.recIn K (prA K C f) "property" with
  | some (.ref g :: _) => g
  | _ => 0
def prB (K : PySem.W.Frag) (C : Addr) (f : Str) : Bool := He.eqO (PySem.W.findIn K (.ref C) f) (some (some (.ref (prA K C f)))) &&
  (He.eqO (PySem.W.specialIn K (.ref (prA K C f)) "__get__") (some (some (.builtin "property.__get__"))) && (decide (PySem.W.takesIn K (.ref (prA K C f)) = some true) &&
    (match PySem.W.recIn K (prA K C f) "property" with
    | some (.ref _ :: _) => true
    | _ => false)))
theorem prB_ok {K : PySem.W.Frag} {C : Addr} {f : Str} (h : prB K C f = true) : PropOf K C f (prA K C f) (pgA K C f) := by
  obtain ⟨h1, h⟩ := He.ba h
  obtain ⟨h2, h⟩ := He.ba h
  obtain ⟨h3, h4⟩ := He.ba h
  refine ⟨He.eqO_ok h1, He.eqO_ok h2, of_decide_eq_true h3, ?_⟩
  unfold pgA
  split at h4
  · rename_i g r e
    rw [e]
    exact ⟨r, rfl⟩
  · cases h4
/-- the def at an address -/
def fnAt (K : PySem.W.Frag) (a : Addr) : He.FnW := match K.lookup a with
  | some ⟨_, _, .func fd, _⟩ => some (fd.name, fd.qualname, fd.params, fd.body, fd.scope, fd.globals, fd.closure, fd.builtins)
  | _ => none
def okAt (K : PySem.W.Frag) (a : Addr) (qual : Str) : Bool := PySem.W.keepIn K (.ref a) && (match K.lookup a with
  | some ⟨_, _, .func fd, _⟩ => PySem.W.codeIn K fd.code qual && (He.dflB K fd.defaults [] && He.kwdB K fd.kwdefaults [])
  | _ => false)
theorem fun_at {K : PySem.W.Frag} {a : Addr} {name qual : Str} {params : Arguments} {body : List Stmt} {scope : Scope} (e : fnAt K a = some (name, qual, params, .stmts body, scope, mainGlobals, [], builtinsNs)) (c : okAt K a qual = true) :
    ∃ fd, FunD K name qual params body scope [] [] a fd := by
  obtain ⟨kp, c2⟩ := He.ba c
  unfold fnAt at e
  split at e
  · rename_i oc od fd sl q
    rw [q] at c2
    obtain ⟨k1, k2⟩ := He.ba c2
    obtain ⟨k3, k4⟩ := He.ba k2
    obtain ⟨n1, n2, n3, n4, n5, n6, n7, n8, n9, n10, n11, n12, n13, n14, n15⟩ := fd
    simp only [Option.some.injEq, Prod.mk.injEq] at e
    obtain ⟨rfl, rfl, rfl, rfl, rfl, rfl, rfl, rfl⟩ := e
    exact ⟨_, ⟨oc, od, n8, n9, n10, n11, n12, n13, n14, sl, rfl, q, k1, He.dflB_ok k3, He.kwdB_ok k4⟩, kp⟩
  · cases e
def sysB (K : PySem.W.Frag) : Bool := match K.lookup sysModules with
  | some o => decide (o.cls ≠ .type "list")
  | none => false
end Ex

set_option Elab.async false
set_option linter.all false
set_option maxRecDepth 100000
set_option maxHeartbeats 0
namespace K16
open PySem PySem.Spec PyProof.Rows L2 Gu Ex
abbrev R : PySem.W.OpenRow := PySem.W.OpenLaw.row PySem.Challenge.rw_exactroom_k16_whole_maximal_runs
def dOf (a : Str × Option Str) (x q : Str) (st : Stmt) : He.DefD := ⟨a, x, q, defArgs st, defBody st, defScope st, [], []⟩
def fn : List He.DefD := [dOf ("is_integer", none) "is_integer" "is_integer" (top 7),
  dOf ("size_problem", none) "size_problem" "size_problem" (top 8),
  dOf ("check_sizes", none) "check_sizes" "check_sizes" (top 9),
  dOf ("Sizes", some "__init__") "__init__" "Sizes.__init__" (inClass (top 10) 4),
  dOf ("Sizes", some "has_level") "has_level" "Sizes.has_level" (inClass (top 10) 12),
  dOf ("Sizes", some "check_level") "check_level" "Sizes.check_level" (inClass (top 10) 13),
  dOf ("Sizes", some "size") "size" "Sizes.size" (inClass (top 10) 14),
  dOf ("Sizes", some "all_sizes") "all_sizes" "Sizes.all_sizes" (inClass (top 10) 11),
  dOf ("is_address", none) "is_address" "is_address" (top 12),
  dOf ("check_range", none) "check_range" "check_range" (top 13),
  dOf ("next_start", none) "next_start" "next_start" (top 14),
  dOf ("lies_below", none) "lies_below" "lies_below" (top 15),
  dOf ("region_start", none) "region_start" "region_start" (top 16),
  dOf ("count_regions", none) "count_regions" "count_regions" (top 17),
  dOf ("highest_level_at", none) "highest_level_at" "highest_level_at" (top 18),
  dOf ("first_run", none) "first_run" "first_run" (top 19),
  dOf ("maximal_runs", none) "maximal_runs" "maximal_runs" (top 20),
  dOf ("_law_rng", none) "_law_rng" "_law_rng" (top 22),
  dOf ("_law_draw", none) "_law_draw" "_law_draw" (top 23),
  dOf ("_law_choice", none) "_law_choice" "_law_choice" (top 24),
  dOf ("_law_sizes", none) "_law_sizes" "_law_sizes" (top 25),
  dOf ("_law_listed", none) "_law_listed" "_law_listed" (top 26),
  dOf ("_law_lies_in", none) "_law_lies_in" "_law_lies_in" (top 27),
  dOf ("_law_far_right", none) "_law_far_right" "_law_far_right" (top 28),
  dOf ("_law_low", none) "_law_low" "_law_low" (top 29),
  dOf ("_law_right", none) "_law_right" "_law_right" (top 30),
  dOf ("law", none) "law" "law" (top 31)]
def fa : List He.Fa := [.glo "is_integer", .glo "size_problem", .glo "check_sizes", .glo "is_address", .glo "check_range", .glo "next_start", .glo "lies_below", .glo "region_start", .glo "count_regions", .glo "highest_level_at", .glo "first_run", .glo "maximal_runs", .glo "_law_rng", .glo "_law_draw", .glo "_law_choice", .glo "_law_sizes", .glo "_law_listed", .glo "_law_lies_in", .glo "_law_far_right", .glo "_law_low", .glo "_law_right", .glo "law", .glo "Sizes", .free "len", .free "isinstance", .free "int", .free "bool", .free "list", .free "range", .free "divmod", .free "abs", .free "max", .free "min", .free "enumerate", .free "all", .free "repr", .cls "Sizes", .noat "Sizes" "size_list", .mkr "Sizes", .meth "Sizes" "has_level", .meth "Sizes" "check_level", .meth "Sizes" "size", .meth "Sizes" "all_sizes"]
def exB (K : PySem.W.Frag) : Bool := (rdB K (He.ga K "Sizes") && (cvB K (He.ga K "Sizes") "MAX_SIZE" 1000000000 && (cvB K (He.ga K "Sizes") "MAX_SIZES" 8 && (sysB K && (prB K (He.ga K "Sizes") "top" && (okAt K (pgA K (He.ga K "Sizes") "top") "Sizes.top" && true))))))
def v_top : He.FnW := some ("top", "Sizes.top", defArgs (inClass (top 10) 10), .stmts (defBody (inClass (top 10) 10)), defScope (inClass (top 10) 10), mainGlobals, [], builtinsNs)
abbrev Al : Type := He.AlD × Bool × He.FnW
def ob0 (K : PySem.W.Frag) : Al := (He.obsD fa fn K, exB K, fnAt K (pgA K (He.ga K "Sizes") "top"))
def vl0 : Al := (He.valD fn, true, v_top)
def ob1 (g : Addr → Option Obj) : Al := ob0 (He.frG g (cStatics :: sysModules :: He.asD g 6))
def hk : PySem.W.Hook where
  α := Al
  obs := fun s => ob1 s.heap.get?
  val := fun _ => vl0
  says := fun _ h => ∃ K : PySem.W.Frag, K.In h ∧ ob0 K = vl0
  of := fun _ _ e => ⟨_, He.frG_in, e⟩
  keeps := fun _ _ _ ⟨K, hK, c⟩ k => ⟨K, PySem.W.Frag.In.keeps hK k, c⟩
def ob (s : PySem.W.SharedT) : Al := ob1 (HandSHeadRun.getT s)
theorem ob_eq (s : PySem.W.SharedT) : ob s = hk.obs s.abs := by
  have e : HandSHeadRun.getT s = s.abs.heap.get? := funext (HandSHeadRun.getT_eq s)
  show ob1 (HandSHeadRun.getT s) = ob1 s.abs.heap.get?
  rw [e]
def loose : List Str := ["_wall", "RoomError", "InvalidSizes", "InvalidLevel", "InvalidAddress", "is_integer", "size_problem", "check_sizes", "Sizes", "is_address", "check_range", "next_start", "lies_below", "region_start", "count_regions", "highest_level_at", "first_run", "maximal_runs", "_law_rng", "_law_draw", "_law_choice", "_law_sizes", "_law_listed", "_law_lies_in", "_law_far_right", "_law_low", "_law_right"]
theorem run (w : World) : HandSHeadRun.RunEq R (PySem.W.view R.prog [31]) hk ob 4000 loose w := by
  intro os
  kernel_rfl
section
variable {P : Program} {w : World} {K : PySem.W.Frag} {h : Heap} {mg : Str → Option Value} {base : Heap}
theorem tx (X : K.In h) (G : h.Ns mainGlobals mg) (c : He.SaysD fa fn K) (x : exB K = true) : Tx K mg := by
  obtain ⟨x1, x⟩ := He.ba x
  obtain ⟨x2, x⟩ := He.ba x
  obtain ⟨x3, x⟩ := He.ba x
  obtain ⟨x4, x⟩ := He.ba x
  obtain ⟨xp_top, x⟩ := He.ba x
  obtain ⟨xo_top, x⟩ := He.ba x
  have hsys : SysOk K := by
    unfold sysB at x4
    split at x4
    · rename_i o e
      exact ⟨o, e, of_decide_eq_true x4⟩
    · cases x4
  exact ⟨He.free_ok X G (c.fact 23 (f := .free "len") rfl),
    He.free_ok X G (c.fact 24 (f := .free "isinstance") rfl),
    He.free_ok X G (c.fact 25 (f := .free "int") rfl),
    He.free_ok X G (c.fact 26 (f := .free "bool") rfl),
    He.free_ok X G (c.fact 27 (f := .free "list") rfl),
    He.free_ok X G (c.fact 28 (f := .free "range") rfl),
    He.free_ok X G (c.fact 29 (f := .free "divmod") rfl),
    He.free_ok X G (c.fact 30 (f := .free "abs") rfl),
    He.free_ok X G (c.fact 31 (f := .free "max") rfl),
    He.free_ok X G (c.fact 32 (f := .free "min") rfl),
    He.free_ok X G (c.fact 33 (f := .free "enumerate") rfl),
    He.free_ok X G (c.fact 34 (f := .free "all") rfl),
    He.free_ok X G (c.fact 35 (f := .free "repr") rfl),
    He.glo_ok X G (c.fact 22 (f := .glo "Sizes") rfl),
    He.cls_ok (c.fact 36 (f := .cls "Sizes") rfl),
    He.noat_ok (c.fact 37 (f := .noat "Sizes" "size_list") rfl),
    rdB_ok x1,
    cvB_ok x2,
    cvB_ok x3,
    hsys⟩
theorem df {x : Str} {ps : List Str} {sp : Sp} {k : Nat} {st : Stmt} {fd : FuncData} (X : K.In h) (G : h.Ns mainGlobals mg) (g : (He.Fa.glo x).ok K = true) (F : FnP K x x st (He.ga K x) fd)
    (hb : ∀ (kV doc pm : Value) (an : Option Addr) (cdv ct : Value) (us : List Value), us.length = ps.length → bindArgs (PySem.W.fnOf x x (defArgs st) (defBody st) (defScope st) .none kV doc pm an cdv ct) ⟨us, []⟩ = pure (ps.zip us))
    (ok : FnOk P w K mg base CX0 k (He.ga K x) fd ps sp) : Df P w K mg base k x ps sp := ⟨⟨fd, ok, F.bindsN hb⟩, He.glo_ok X G g, F.kp⟩
theorem dfG {x : Str} {ps : List Str} {sp : Sp} {k : Nat} {st : Stmt} {fd : FuncData} (X : K.In h) (G : h.Ns mainGlobals mg) (g : (He.Fa.glo x).ok K = true) (F : FnP K x x st (He.ga K x) fd)
    (hb : ∀ (kV doc pm : Value) (an : Option Addr) (cdv ct : Value) (us : List Value), us.length = ps.length → bindArgs (PySem.W.fnOf x x (defArgs st) (defBody st) (defScope st) .none kV doc pm an cdv ct) ⟨us, []⟩ = pure (ps.zip us))
    (ok : FnG P w K mg base CX0 k (He.ga K x) fd ps sp) : DfG P w K mg base k x ps sp := ⟨⟨fd, ok, F.bindsN hb⟩, He.glo_ok X G g, F.kp⟩
theorem dfK {x : Str} {ps ks : List Str} {j : List Nat} {sp : Sp} {k : Nat} {st : Stmt} {fd : FuncData} (X : K.In h) (G : h.Ns mainGlobals mg) (g : (He.Fa.glo x).ok K = true) (F : FnP K x x st (He.ga K x) fd)
    (hb : ∀ (kV doc pm : Value) (an : Option Addr) (cdv ct : Value) (ws : List Value), ws.length = ks.length → bindArgs (PySem.W.fnOf x x (defArgs st) (defBody st) (defScope st) .none kV doc pm an cdv ct) ⟨[], ks.zip ws⟩ = pure (ps.zip (j.filterMap fun i => ws[i]?)))
    (ok : FnOk P w K mg base CX0 k (He.ga K x) fd ps sp) : DfK P w K mg base k x ps ks j sp := by
  refine ⟨⟨fd, ok, fun s ws hl => ?_⟩, He.glo_ok X G g, F.kp⟩
  obtain ⟨oc, od, dV, kV, doc, pm, an, cdv, ct, osl, rfl, lk, hcd, hD, hK⟩ := F.ex
  rcases hD with ⟨_, rfl⟩ | ⟨e, _⟩
  · exact .of_eq (hb kV doc pm an cdv ct ws hl)
  · exact absurd rfl e
theorem facts {f : Addr} (X : K.In h) (G : h.Ns mainGlobals mg) (hfa : mg ("law" : Str) = some (.ref f)) (c0 : ob0 K = vl0) :
    ∃ fd : FuncData, (∀ (s : Shared) (v : Value), BindsTo s fd ⟨[v], []⟩ [("_law_script", v)]) ∧ ∀ base : Heap, K.In base → base.Ns mainGlobals mg → FnG P w K mg base CX0 12 f fd ["_law_script"] (spLaw K) := by
  have c : He.SaysD fa fn K := congrArg (fun z : Al => z.1) c0
  have x : exB K = true := congrArg (fun z : Al => z.2.1) c0
  have vt_top : fnAt K (pgA K (He.ga K "Sizes") "top") = v_top := congrArg (fun z : Al => z.2.2) c0
  have T := tx X G c x
  obtain ⟨x1, x⟩ := He.ba x
  obtain ⟨x2, x⟩ := He.ba x
  obtain ⟨x3, x⟩ := He.ba x
  obtain ⟨x4, x⟩ := He.ba x
  obtain ⟨xp_top, x⟩ := He.ba x
  obtain ⟨xo_top, x⟩ := He.ba x
  obtain ⟨fdP_top, FP_top⟩ := fun_at vt_top xo_top
  obtain ⟨fd0, F0⟩ : ∃ fd, FnP K "is_integer" "is_integer" (top 7) (He.ga K "is_integer") fd := c.def_ 0 (d := dOf ("is_integer", none) "is_integer" "is_integer" (top 7)) rfl
  obtain ⟨fd1, F1⟩ : ∃ fd, FnP K "size_problem" "size_problem" (top 8) (He.ga K "size_problem") fd := c.def_ 1 (d := dOf ("size_problem", none) "size_problem" "size_problem" (top 8)) rfl
  obtain ⟨fd2, F2⟩ : ∃ fd, FnP K "check_sizes" "check_sizes" (top 9) (He.ga K "check_sizes") fd := c.def_ 2 (d := dOf ("check_sizes", none) "check_sizes" "check_sizes" (top 9)) rfl
  obtain ⟨fd3, F3⟩ : ∃ fd, FnP K "__init__" "Sizes.__init__" (inClass (top 10) 4) (He.ma K (He.ga K "Sizes") "__init__") fd := c.def_ 3 (d := dOf ("Sizes", some "__init__") "__init__" "Sizes.__init__" (inClass (top 10) 4)) rfl
  obtain ⟨fd4, F4⟩ : ∃ fd, FnP K "has_level" "Sizes.has_level" (inClass (top 10) 12) (He.ma K (He.ga K "Sizes") "has_level") fd := c.def_ 4 (d := dOf ("Sizes", some "has_level") "has_level" "Sizes.has_level" (inClass (top 10) 12)) rfl
  obtain ⟨fd5, F5⟩ : ∃ fd, FnP K "check_level" "Sizes.check_level" (inClass (top 10) 13) (He.ma K (He.ga K "Sizes") "check_level") fd := c.def_ 5 (d := dOf ("Sizes", some "check_level") "check_level" "Sizes.check_level" (inClass (top 10) 13)) rfl
  obtain ⟨fd6, F6⟩ : ∃ fd, FnP K "size" "Sizes.size" (inClass (top 10) 14) (He.ma K (He.ga K "Sizes") "size") fd := c.def_ 6 (d := dOf ("Sizes", some "size") "size" "Sizes.size" (inClass (top 10) 14)) rfl
  obtain ⟨fd7, F7⟩ : ∃ fd, FnP K "all_sizes" "Sizes.all_sizes" (inClass (top 10) 11) (He.ma K (He.ga K "Sizes") "all_sizes") fd := c.def_ 7 (d := dOf ("Sizes", some "all_sizes") "all_sizes" "Sizes.all_sizes" (inClass (top 10) 11)) rfl
  obtain ⟨fd8, F8⟩ : ∃ fd, FnP K "is_address" "is_address" (top 12) (He.ga K "is_address") fd := c.def_ 8 (d := dOf ("is_address", none) "is_address" "is_address" (top 12)) rfl
  obtain ⟨fd9, F9⟩ : ∃ fd, FnP K "check_range" "check_range" (top 13) (He.ga K "check_range") fd := c.def_ 9 (d := dOf ("check_range", none) "check_range" "check_range" (top 13)) rfl
  obtain ⟨fd10, F10⟩ : ∃ fd, FnP K "next_start" "next_start" (top 14) (He.ga K "next_start") fd := c.def_ 10 (d := dOf ("next_start", none) "next_start" "next_start" (top 14)) rfl
  obtain ⟨fd11, F11⟩ : ∃ fd, FnP K "lies_below" "lies_below" (top 15) (He.ga K "lies_below") fd := c.def_ 11 (d := dOf ("lies_below", none) "lies_below" "lies_below" (top 15)) rfl
  obtain ⟨fd12, F12⟩ : ∃ fd, FnP K "region_start" "region_start" (top 16) (He.ga K "region_start") fd := c.def_ 12 (d := dOf ("region_start", none) "region_start" "region_start" (top 16)) rfl
  obtain ⟨fd13, F13⟩ : ∃ fd, FnP K "count_regions" "count_regions" (top 17) (He.ga K "count_regions") fd := c.def_ 13 (d := dOf ("count_regions", none) "count_regions" "count_regions" (top 17)) rfl
  obtain ⟨fd14, F14⟩ : ∃ fd, FnP K "highest_level_at" "highest_level_at" (top 18) (He.ga K "highest_level_at") fd := c.def_ 14 (d := dOf ("highest_level_at", none) "highest_level_at" "highest_level_at" (top 18)) rfl
  obtain ⟨fd15, F15⟩ : ∃ fd, FnP K "first_run" "first_run" (top 19) (He.ga K "first_run") fd := c.def_ 15 (d := dOf ("first_run", none) "first_run" "first_run" (top 19)) rfl
  obtain ⟨fd16, F16⟩ : ∃ fd, FnP K "maximal_runs" "maximal_runs" (top 20) (He.ga K "maximal_runs") fd := c.def_ 16 (d := dOf ("maximal_runs", none) "maximal_runs" "maximal_runs" (top 20)) rfl
  obtain ⟨fd17, F17⟩ : ∃ fd, FnP K "_law_rng" "_law_rng" (top 22) (He.ga K "_law_rng") fd := c.def_ 17 (d := dOf ("_law_rng", none) "_law_rng" "_law_rng" (top 22)) rfl
  obtain ⟨fd18, F18⟩ : ∃ fd, FnP K "_law_draw" "_law_draw" (top 23) (He.ga K "_law_draw") fd := c.def_ 18 (d := dOf ("_law_draw", none) "_law_draw" "_law_draw" (top 23)) rfl
  obtain ⟨fd19, F19⟩ : ∃ fd, FnP K "_law_choice" "_law_choice" (top 24) (He.ga K "_law_choice") fd := c.def_ 19 (d := dOf ("_law_choice", none) "_law_choice" "_law_choice" (top 24)) rfl
  obtain ⟨fd20, F20⟩ : ∃ fd, FnP K "_law_sizes" "_law_sizes" (top 25) (He.ga K "_law_sizes") fd := c.def_ 20 (d := dOf ("_law_sizes", none) "_law_sizes" "_law_sizes" (top 25)) rfl
  obtain ⟨fd21, F21⟩ : ∃ fd, FnP K "_law_listed" "_law_listed" (top 26) (He.ga K "_law_listed") fd := c.def_ 21 (d := dOf ("_law_listed", none) "_law_listed" "_law_listed" (top 26)) rfl
  obtain ⟨fd22, F22⟩ : ∃ fd, FnP K "_law_lies_in" "_law_lies_in" (top 27) (He.ga K "_law_lies_in") fd := c.def_ 22 (d := dOf ("_law_lies_in", none) "_law_lies_in" "_law_lies_in" (top 27)) rfl
  obtain ⟨fd23, F23⟩ : ∃ fd, FnP K "_law_far_right" "_law_far_right" (top 28) (He.ga K "_law_far_right") fd := c.def_ 23 (d := dOf ("_law_far_right", none) "_law_far_right" "_law_far_right" (top 28)) rfl
  obtain ⟨fd24, F24⟩ : ∃ fd, FnP K "_law_low" "_law_low" (top 29) (He.ga K "_law_low") fd := c.def_ 24 (d := dOf ("_law_low", none) "_law_low" "_law_low" (top 29)) rfl
  obtain ⟨fd25, F25⟩ : ∃ fd, FnP K "_law_right" "_law_right" (top 30) (He.ga K "_law_right") fd := c.def_ 25 (d := dOf ("_law_right", none) "_law_right" "_law_right" (top 30)) rfl
  obtain ⟨fd26, F26⟩ : ∃ fd, FnP K "law" "law" (top 31) (He.ga K "law") fd := c.def_ 26 (d := dOf ("law", none) "law" "law" (top 31)) rfl
  have e := hfa.symm.trans (He.glo_ok X G (c.fact 21 (f := .glo "law") rfl))
  cases e
  have b := FunD.bindsA (ps := ["_law_script"]) F26 (fun _ _ _ _ _ _ us hl => match us, hl with | [_], _ => rfl)
  refine ⟨_, fun s v => b s [v] rfl, fun base _ _ => ?_⟩
  have D_is_integer := df (P := P) (w := w) (base := base) X G (c.fact 0 (f := .glo "is_integer") rfl) F0 (ps := ["value"]) (fun _ _ _ _ _ _ us hl => match us, hl with | [_], _ => rfl) (ok_is_integer T F0)
  have D_size_problem := df (P := P) (w := w) (base := base) X G (c.fact 1 (f := .glo "size_problem") rfl) F1 (ps := ["values", "position"]) (fun _ _ _ _ _ _ us hl => match us, hl with | [_, _], _ => rfl) (ok_size_problem T D_is_integer F1)
  have D_check_sizes := df (P := P) (w := w) (base := base) X G (c.fact 2 (f := .glo "check_sizes") rfl) F2 (ps := ["values"]) (fun _ _ _ _ _ _ us hl => match us, hl with | [_], _ => rfl) (ok_check_sizes T D_size_problem F2)
  have D_Sizes : Kf P w K mg base _ "Sizes" ["self", "values"] _ := ⟨⟨fd3, ok_init T D_check_sizes F3, F3.bindsN (fun _ _ _ _ _ _ us hl => match us, hl with | [_, _], _ => rfl)⟩, He.glo_ok X G (c.fact 22 (f := .glo "Sizes") rfl), He.mkr_ok (c.fact 38 (f := .mkr "Sizes") rfl)⟩
  have P_top : Pf P w K mg base 1 "Sizes" "top" (spTop K) := ⟨He.cls_ok (c.fact 36 (f := .cls "Sizes") rfl), _, _, fdP_top, prB_ok xp_top, ok_top T FP_top, FunD.bindsN FP_top (fun _ _ _ _ _ _ us hl => match us, hl with | [_], _ => rfl)⟩
  have M_has_level : Mf P w K mg base _ "Sizes" "has_level" ["self", "level"] _ := ⟨⟨fd4, ok_has T D_is_integer P_top F4, F4.bindsN (fun _ _ _ _ _ _ us hl => match us, hl with | [_, _], _ => rfl)⟩, He.cls_ok (c.fact 36 (f := .cls "Sizes") rfl), He.meth_ok (c.fact 39 (f := .meth "Sizes" "has_level") rfl)⟩
  have M_check_level : Mf P w K mg base _ "Sizes" "check_level" ["self", "level"] _ := ⟨⟨fd5, ok_check_level T M_has_level F5, F5.bindsN (fun _ _ _ _ _ _ us hl => match us, hl with | [_, _], _ => rfl)⟩, He.cls_ok (c.fact 36 (f := .cls "Sizes") rfl), He.meth_ok (c.fact 40 (f := .meth "Sizes" "check_level") rfl)⟩
  have M_size : Mf P w K mg base _ "Sizes" "size" ["self", "level"] _ := ⟨⟨fd6, ok_size T M_check_level F6, F6.bindsN (fun _ _ _ _ _ _ us hl => match us, hl with | [_, _], _ => rfl)⟩, He.cls_ok (c.fact 36 (f := .cls "Sizes") rfl), He.meth_ok (c.fact 41 (f := .meth "Sizes" "size") rfl)⟩
  have M_all_sizes : Mf P w K mg base _ "Sizes" "all_sizes" ["self"] _ := ⟨⟨fd7, ok_all T F7, F7.bindsN (fun _ _ _ _ _ _ us hl => match us, hl with | [_], _ => rfl)⟩, He.cls_ok (c.fact 36 (f := .cls "Sizes") rfl), He.meth_ok (c.fact 42 (f := .meth "Sizes" "all_sizes") rfl)⟩
  have D_is_address := df (P := P) (w := w) (base := base) X G (c.fact 3 (f := .glo "is_address") rfl) F8 (ps := ["value"]) (fun _ _ _ _ _ _ us hl => match us, hl with | [_], _ => rfl) (ok_is_address T D_is_integer F8)
  have D_check_range := df (P := P) (w := w) (base := base) X G (c.fact 4 (f := .glo "check_range") rfl) F9 (ps := ["low", "high"]) (fun _ _ _ _ _ _ us hl => match us, hl with | [_, _], _ => rfl) (ok_check_range T D_is_integer D_is_address F9)
  have D_next_start := df (P := P) (w := w) (base := base) X G (c.fact 5 (f := .glo "next_start") rfl) F10 (ps := ["size", "address"]) (fun _ _ _ _ _ _ us hl => match us, hl with | [_, _], _ => rfl) (ok_next_start T F10)
  have D_lies_below := df (P := P) (w := w) (base := base) X G (c.fact 6 (f := .glo "lies_below") rfl) F11 (ps := ["sizes", "level", "address", "end"]) (fun _ _ _ _ _ _ us hl => match us, hl with | [_, _, _, _], _ => rfl) (ok_below T M_size F11)
  have D_region_start := df (P := P) (w := w) (base := base) X G (c.fact 7 (f := .glo "region_start") rfl) F12 (ps := ["sizes", "level", "address"]) (fun _ _ _ _ _ _ us hl => match us, hl with | [_, _, _], _ => rfl) (ok_region_start T D_is_address M_size F12)
  have D_count_regions := df (P := P) (w := w) (base := base) X G (c.fact 8 (f := .glo "count_regions") rfl) F13 (ps := ["sizes", "level", "low", "high"]) (fun _ _ _ _ _ _ us hl => match us, hl with | [_, _, _, _], _ => rfl) (ok_count_regions T D_check_range D_region_start D_next_start M_size F13)
  have D_highest_level_at := df (P := P) (w := w) (base := base) X G (c.fact 9 (f := .glo "highest_level_at") rfl) F14 (ps := ["sizes", "low", "high"]) (fun _ _ _ _ _ _ us hl => match us, hl with | [_, _, _], _ => rfl) (ok_high T P_top D_lies_below F14)
  have D_first_run := df (P := P) (w := w) (base := base) X G (c.fact 10 (f := .glo "first_run") rfl) F15 (ps := ["sizes", "low", "high"]) (fun _ _ _ _ _ _ us hl => match us, hl with | [_, _, _], _ => rfl) (ok_first T P_top M_size D_highest_level_at D_count_regions D_next_start D_region_start F15)
  have D_maximal_runs := df (P := P) (w := w) (base := base) X G (c.fact 11 (f := .glo "maximal_runs") rfl) F16 (ps := ["sizes", "low", "high"]) (fun _ _ _ _ _ _ us hl => match us, hl with | [_, _, _], _ => rfl) (ok_max T D_check_range M_size D_first_run F16)
  have D__law_rng := df (P := P) (w := w) (base := base) X G (c.fact 12 (f := .glo "_law_rng") rfl) F17 (ps := ["_law_script", "_law_k"]) (fun _ _ _ _ _ _ us hl => match us, hl with | [_, _], _ => rfl) (ok_rng T F17)
  have D__law_draw := df (P := P) (w := w) (base := base) X G (c.fact 13 (f := .glo "_law_draw") rfl) F18 (ps := ["_law_rng_here", "_law_many"]) (fun _ _ _ _ _ _ us hl => match us, hl with | [_, _], _ => rfl) (ok_draw T F18)
  have D__law_choice := df (P := P) (w := w) (base := base) X G (c.fact 14 (f := .glo "_law_choice") rfl) F19 (ps := ["_law_rng_here", "_law_options"]) (fun _ _ _ _ _ _ us hl => match us, hl with | [_, _], _ => rfl) (ok_choice T D__law_draw F19)
  have D__law_sizes := df (P := P) (w := w) (base := base) X G (c.fact 15 (f := .glo "_law_sizes") rfl) F20 (ps := ["_law_rng_here", "_law_levels", "_law_greatest"]) (fun _ _ _ _ _ _ us hl => match us, hl with | [_, _, _], _ => rfl) (ok_sizes T D__law_draw F20)
  have D__law_listed := df (P := P) (w := w) (base := base) X G (c.fact 16 (f := .glo "_law_listed") rfl) F21 (ps := ["_law_sizes_here", "_law_low_here", "_law_high"]) (fun _ _ _ _ _ _ us hl => match us, hl with | [_, _, _], _ => rfl) (ok_listed T F21)
  have D__law_lies_in := df (P := P) (w := w) (base := base) X G (c.fact 17 (f := .glo "_law_lies_in") rfl) F22 (ps := ["_law_size", "_law_address", "_law_low_here", "_law_high"]) (fun _ _ _ _ _ _ us hl => match us, hl with | [_, _, _, _], _ => rfl) (ok_in T F22)
  have D__law_far_right := df (P := P) (w := w) (base := base) X G (c.fact 18 (f := .glo "_law_far_right") rfl) F23 (ps := ["_law_sizes_here", "_law_low_here", "_law_high", "_law_runs"]) (fun _ _ _ _ _ _ us hl => match us, hl with | [_, _, _, _], _ => rfl) (ok_far T D__law_lies_in F23)
  have D__law_low := df (P := P) (w := w) (base := base) X G (c.fact 19 (f := .glo "_law_low") rfl) F24 (ps := ["_law_rng_here", "_law_sizes_here"]) (fun _ _ _ _ _ _ us hl => match us, hl with | [_, _], _ => rfl) (ok_low T D__law_draw D__law_choice F24)
  have D__law_right := dfG (P := P) (w := w) (base := base) X G (c.fact 20 (f := .glo "_law_right") rfl) F25 (ps := ["_law_rng_here"]) (fun _ _ _ _ _ _ us hl => match us, hl with | [_], _ => rfl) (ok_right T D__law_sizes D_Sizes M_all_sizes D__law_draw D__law_low D_maximal_runs D__law_listed D__law_far_right F25)
  exact ok_law T D__law_rng D__law_right F26
end
end K16
open PySem PySem.W PySem.Calls PyProof.Rows
theorem PySem.Challenge.cw_exactroom_k16_whole_maximal_runs_holds : PySem.Challenge.rw_exactroom_k16_whole_maximal_runs.Holds := by
  w_on; o_law
  refine HandSHeadRun.head_any (r := OpenLaw.row PySem.Challenge.rw_exactroom_k16_whole_maximal_runs) (q := view (OpenLaw.row PySem.Challenge.rw_exactroom_k16_whole_maximal_runs).prog [31]) (H := K16.hk) (ob := K16.ob) (M := 4000)
    (loose := K16.loose) (d := HandSHeadRun.topDef (OpenLaw.row PySem.Challenge.rw_exactroom_k16_whole_maximal_runs).prog 31) (kwd := []) K16.ob_eq
    (by kernel_rfl) (fun s => by kernel_rfl) K16.run (by kernel_rfl) (by kernel_rfl) (by kernel_rfl) (by rfl) (by first | assumption | decide +kernel) (by decide +kernel) ⟨rfl, rfl, rfl, rfl, rfl, by decide +kernel⟩ ?hw ?hc
  case hw => w_witness2
  case hc =>
    refine Gu.walkG (l := PySem.Challenge.rw_exactroom_k16_whole_maximal_runs) (n := 63) (k := 12) (x := "_law_script") (CX := L2.CX0) rfl (by decide) (by kernel_rfl) ⟨⟨rfl, by decide, by decide⟩, rfl⟩ ?F (fun _ _ _ _ z => z)
    intro w mg fa h Y G hmg0
    obtain ⟨K, KX, c⟩ := Y
    have hmg : mg ("law" : PySem.Str) = some (.ref fa) := by
      have e : (HandSHeadRun.topDef (OpenLaw.row PySem.Challenge.rw_exactroom_k16_whole_maximal_runs).prog 31).name = ("law" : PySem.Str) := by kernel_rfl
      rw [← e]
      exact hmg0
    obtain ⟨fd, hb, hF⟩ := K16.facts (P := (PySem.Challenge.rw_exactroom_k16_whole_maximal_runs).prog) (w := w) KX G hmg c
    exact ⟨K, fd, K16.spLaw K, KX, hb, fun H a ns hl _ hS => ⟨a, ns, rfl, hS, hl, fun _ => rfl⟩, hF⟩

