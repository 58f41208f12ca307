import PyProof.Rows.All
import Wide.All
import OpenK.AllK
import Wide.FinOn
import PyProof.ReprRoads
import HandS.ForMost
import HandS.ForExc
import HandS.Property
import HandS.ClsMeth
import HandS.Defaults
import HandS.IsInst
import HandS.Wide
import HandS.WideBits
import HandS.Ends
import HandS.HeadEnd
import HandS.Head0
import HandS.Head1
import HandS.Head2
import HandS.HeadHook1
import HandS.HeadHook2
import HandS.Flow
import HandS.Style
import HandS.ExcInit
import HandS.ExcField
import HandS.ExcIs
import HandS.TryOnly
import HandS.Comp
import HandS.Dict
import KE.KStateDown
import Lean
import PySem.Challenge.RW_exactroom_k14_regions_judged
set_option Elab.async false
set_option linter.all false
set_option maxRecDepth 100000
set_option maxHeartbeats 4000000
/-! Own layer: defs that are called where no repr is under way (the guards are known to be none), so that repr of data can be walked. -/
namespace Gu
open PySem PySem.Spec PyProof.Rows L2
structure RoomG (k : Nat) (A : Around) : Prop where
  r : Room k A
  g : A.guards = some []
theorem RoomG.mono {j k : Nat} {A : Around} (x : RoomG k A) (h : j ≤ k) : RoomG j A := ⟨x.r.mono h, x.g⟩
theorem RoomG.down {k : Nat} {A : Around} (x : RoomG (k + 1) A) (env : Env) : RoomG k (A.deeper env) := ⟨x.r.deeper env, x.g⟩
structure FnG (P : Program) (w : World) (K : PySem.W.Frag) (mg : Str → Option Value) (base : Heap) (CX : CXT) (k : Nat) (f : Addr) (fd : FuncData) (ps : List Str) (sp : Sp) : Prop where
  len : ∀ vs H Q E, sp vs H Q E → vs.length = ps.length
  run : ∀ (A : Around) (outer : List Env) (s : Shared) (H : Hp) (args : Args) (us : List Value) (vs : List V) (Q : VK) (E : XK),
    RoomG k A → Env0 P w K mg base A outer s H → BindsTo s fd args (ps.zip us) → Vals vs us → sp vs H Q E →
    codeAny (model P w) A (.call (.ref f) args) (CR CX outer P w H s Q E) s
section
variable {P : Program} {w : World} {K : PySem.W.Frag} {mg : Str → Option Value} {base : Heap} {CX : CXT} {k : Nat} {f : Addr} {fd : FuncData} {ps : List Str} {sp : Sp}
theorem FnG.of (F : FnOk P w K mg base CX k f fd ps sp) : FnG P w K mg base CX k f fd ps sp :=
  ⟨F.len, fun A outer s H args us vs Q E hr => F.run A outer s H args us vs Q E hr.r⟩
/-- a def by its body -/
theorem okG {x qual : Str} {params : Arguments} {body : List Stmt} {scope : Scope} {dvs : List V} {kws : List (Str × V)} {N : List Str}
    (F : FunD K x qual params body scope dvs kws f fd) (S : FnScope N ps scope) (len : ∀ vs H Q E, sp vs H Q E → vs.length = ps.length)
    (hbody : ∀ (cdv : Value) (A : Around) (outer : List Env) (s : Shared) (H : Hp) (vs : List V) (Q : VK) (E : XK),
      RoomG k (A.deeper (envOfC qual scope s.heap.objs.size f cdv)) → sp vs H Q E →
      ∃ t, PSs (cxOf CX P w K mg base N qual scope f cdv A outer s H E) body t ∧ t { nx := fun _ H' => Q .non H', rt := Q } (start N vs) H) :
    FnG P w K mg base CX (k + 1) f fd ps sp := by
  obtain ⟨oc, od, dV, kV, doc, pm, an, cdv, ct, osl, rfl, lk, hcd, _, _⟩ := F.ex
  refine ⟨len, fun A outer s H args us vs Q E hr e0 hb rv hsp => ?_⟩
  have KX : K.In s.heap := e0.mod.kin.keeps fun b o e => (e0.bs b o e).1
  have hkinds : ∀ y ∈ ps.zip us, scope.names.lookup y.1 = some .local ∨
      (scope.names.lookup y.1 = some .cell ∧ ((cellsFrom (s.heap.objs.size + 1) scope.names []).lookup y.1).isSome = true) := by
    rintro ⟨n, v⟩ hy
    rcases S.par n (List.of_mem_zip hy).1 with q | q
    · exact .inl q
    · exact .inr ⟨q, PySem.W.cellsFrom_some _ _ _ (.inl q)⟩
  refine codeAny_call_function hr.r.depth (KX _ _ lk) rfl S.co S.gen rfl (PySem.W.codeRec_of KX hcd) (hb _ _ _ _ ?_)
  refine wpAny_newFunctionEnv_cells S.kind hkinds fun env he s1 x => ?_
  subst he
  refine ⟨(e0.mod.nolimit.keeps fun b o e => (e0.bs b o e).1).keeps x.toInCall.keep, codeAny_func ?_⟩
  obtain ⟨t, ht, hq⟩ := hbody cdv A outer s H vs Q E (hr.down _) hsp
  have I := inv_start (CX := CX) (E := E) (N := N) (qual := qual) (f := f) (cd := cdv) S hr.r.hd e0 (len _ _ _ _ hsp) rv x
  refine wpAny_mono (ht.run [] s1 (start N vs) H _ I hq) (fun fl s' hs => ?_) fun e s' hs => hs
  cases fl with
  | ret u =>
    obtain ⟨v, σ', H', J, rv', q⟩ := hs
    exact ⟨v, H', J.os, J.bare, J.base, J.hok, rv', q⟩
  | next =>
    obtain ⟨σ', H', J, q⟩ := hs
    exact ⟨V.non, H', J.os, J.bare, J.base, J.hok, rfl, q⟩
  | brk => exact hs.elim fun _ z => z.elim fun _ z => z.2.elim
  | cont => exact hs.elim fun _ z => z.elim fun _ z => z.2.elim
end
section
variable {X : Cx} {CX : CXT} {k : Nat} {f : Addr} {fd : FuncData} {ps : List Str} {sp : Sp} {dvs : List V} {ds : List Value} {E : XK} {x : Str} {p pos : Pos} {e : Expr} {es : List Expr} {t : TA}
theorem runG {pins : List (Addr × Obj)} {σ : L2.St} {H : Hp} {s : Shared} {Q : VK} {us : List Value} {vs : List V} (F : FnG X.prog X.w X.K X.mg X.base CX k f fd ps sp)
    (hr : RoomG k X.A) (hb : Binds X.K fd ps ds) (hd : Vals dvs ds) (hx : Passes CX X E) (I : Inv X pins σ H s) (r : Vals vs us) (h : sp (vs ++ dvs) H Q E) :
    wpAny (model X.prog X.w) X.A (call (.ref f) us) (EP X pins σ Q) X.xe s := by
  have r2 := r.append hd
  have hl : (us ++ ds).length = ps.length := r2.length.symm.trans (F.len _ _ _ _ h)
  refine wpAny_call (codeAny_mono (F.run X.A X.stack s H ⟨us, []⟩ _ _ Q E hr I.env0 (hb s us I.kIn hl) r2 h) fun r s' hq => ?_)
  match r, hq with
  | .error e, hq => exact hx pins σ H s e s' I hq
  | .ok (.ret u), hq => exact I.after hq
/-- f(e, ..) -/
theorem pe_callG (F : FnG X.prog X.w X.K X.mg X.base CX k f fd ps sp) (hr : RoomG k X.A) (hg : Gl X x) (hm : X.mg x = some (.ref f)) (hk : PySem.W.keepIn X.K (.ref f) = true)
    (hb : Binds X.K fd ps ds) (hd : Vals dvs ds) (hx : Passes CX X E) (ha : PA X (e :: es) t) (hdb : (x == ("__debug__" : Str)) = false := by decide)
    (he : starEach (e :: es) X.env = (false, eval e X.env) :: starEach es X.env := by rfl) (hpl : (backTo pos (starEach es X.env)).any (·.1) = false := by rfl) :
    PE X (.Call (.Name x p) (e :: es) [] pos) (tCall sp dvs E t) :=
  ⟨fun pins s σ H Q I h => wpAny_Call_Name_kw (ld_glob I hg hm (PySem.W.callWith_K (h₀ := X.base) I.ok.mod.kin hk
    (thn (ha.run pos pins s σ H _ I h) fun us s1 ⟨vs, H1, I1, r, q⟩ => ⟨I1.kIn, runG F hr hb hd hx I1 r q⟩) he hpl) hdb)⟩
/-- repr of a list or a tuple of data -/
def rReprD (K : PySem.W.Frag) : List V → Hp → VK → Prop := fun xs H Q => ∃ (a : Addr) (d : PyData), xs = [.ref a] ∧ Dp K H (.ref a) d ∧ d.showable = true ∧ d.hasDict = false ∧ d.depth ≤ 60 ∧ d.shown.length ≤ sizeLine ∧ Q (.str d.shown) H
theorem call_reprD (hr : RoomG k X.A) : CallR X (.builtin "repr") (rReprD X.K) := by
  intro pins s σ H xs us Q I r h
  obtain ⟨a, d, rfl, hd, hs, hn, hdep, hz, q⟩ := h
  obtain ⟨u, rfl, ru⟩ := vals1 r
  obtain rfl : u = Value.ref a := ru
  obtain ⟨as, rd⟩ := Dp.reads I d (.ref a) (.ref a) hd rfl
  have hu := hr.r.units
  exact repr_of_reads' rd hs (PyData.noDict_hsm hn) hr.g (by omega) (fun _ _ e => e) (fun h' u tk hk => ⟨.str d.shown, H, I.kept hk, ⟨u, rfl⟩, q⟩) hz
end
/-- the law's call, from its promise where no repr is under way -/
theorem law_go {P : Program} {w : World} {K : PySem.W.Frag} {mg mb : Str → Option Value} {CX : CXT} {k : Nat} {fa a : Addr} {fd : FuncData} {x : Str} {sp : Sp} {s₁ : Shared} {vs : List Value} {H : Hp}
    (KX : K.In s₁.heap) (hns : s₁.heap.Ns mainGlobals mg) (hb : s₁.heap.Ns builtinsNs mb) (hbb : ∀ x : Str, x ≠ "__name__" → mb x = bootBuiltins x) (hlim : s₁.heap.NoLimit) (hg : s₁.gens = #[])
    (ha : s₁.heap.get? a = some { cls := .type "list", data := .seq vs.toArray }) (hr : RoomG k callerA)
    (F : ∀ base : Heap, K.In base → base.Ns mainGlobals mg → FnG P w K mg base CX k fa fd [x] sp) (hbind : ∀ (s : Shared) (u : Value), BindsTo s fd ⟨[u], []⟩ [(x, u)])
    (hsp : sp [.ref a] H (fun v _ => v = .bl true) fun _ _ _ => False) (hCX : ∀ e s', CX [] H s₁ (fun _ _ _ => False) e s' → False)
    (hO : Only H) (hok : HOk P w H s₁.heap) (hA : ∀ b, H b ≠ none → b = a) (hK : H a ≠ none → K.lookup a = none) :
    codeAny (model P w) callerA (.call (.ref fa) ⟨[.ref a], []⟩) (fun r s' => r = .ok (.ret (.bool true)) ∧ OldK s₁.heap s'.heap ∧ s'.os = s₁.os ∧ AllBare s'.gens) s₁ := by
  have free : ∀ {b : Addr} {o : Obj}, s₁.heap.get? b = some o → (b = a → False) → (hidT s₁.heap H).get? b = some o := fun {b o} e n => hidT_get e (by
    cases q : H b with
    | none => rfl
    | some u => exact (n (hA b (by rw [q]; exact fun z => nomatch z))).elim)
  have nsK : ∀ {b : Addr} {m : Str → Option Value}, s₁.heap.Ns b m → (hidT s₁.heap H).Ns b m := fun {b m} ⟨o, es, ep, e, d, r⟩ => ⟨o, es, ep, free e (fun z => by
    rw [z, ha] at e
    have e' := Option.some.inj e
    rw [← e'] at d
    exact nomatch d), d, r⟩
  have hKb : K.In (hidT s₁.heap H) := fun b o e => hidT_get (KX b o e) (by
    cases q : H b with
    | none => rfl
    | some u =>
      have z : b = a := hA b (by rw [q]; exact fun z => nomatch z)
      rw [z] at e q
      rw [hK (by rw [q]; exact fun z => nomatch z)] at e
      exact nomatch e)
  obtain ⟨mc, l1, l2⟩ := hlim
  have e0 : Env0 P w K mg (hidT s₁.heap H) callerA [] s₁ H :=
    ⟨rfl, ⟨hKb, nsK hns, ⟨mb, nsK hb, hbb⟩, ⟨mc, nsK l1, l2⟩⟩, fun b o e => of_hidT e, Nat.le_of_eq (hidT_size _ _), trivial, fun b hb => absurd (show b ∈ ([] : List Addr) from hb) List.not_mem_nil, hok, .of_eq hg⟩
  refine codeAny_mono ((F _ hKb (nsK hns)).run callerA [] s₁ H ⟨[.ref a], []⟩ [.ref a] [.ref a] _ _ hr e0 (hbind s₁ (.ref a)) (.cons rfl .nil) hsp) fun r s' h => ?_
  match r, h with
  | .error e, h => exact (hCX e s' h).elim
  | .ok (.ret u), h =>
    obtain ⟨v, H', os, bare, un, hok', r', q⟩ := h
    obtain rfl : v = .bl true := q
    obtain rfl : u = Value.bool true := r'
    refine ⟨rfl, OldK.of_keep fun b o e => ?_, os, bare⟩
    cases q : H b with
    | none => exact un.keep b o e q (fun z => absurd (show b ∈ ([] : List Addr) from z) List.not_mem_nil) (fun z => absurd (show b ∈ ([] : List Addr) from z) List.not_mem_nil)
    | some u =>
      rcases hO b with z | ⟨ob, xs, z⟩
      · rw [q] at z
        exact nomatch z
      · obtain ⟨e1, _⟩ := hok b _ z
        obtain ⟨e2, _⟩ := hok' b _ (un.frzs b ob _ z)
        rw [e] at e1
        rw [Option.some.inj e1]
        exact e2
theorem law_callG {P : Program} {w : World} {K : PySem.W.Frag} {mg mb : Str → Option Value} {CX : CXT} {k : Nat} {fa a : Addr} {fd : FuncData} {x : Str} {sp : Sp} {s₁ : Shared} {vs : List Value} {ns : List Int}
    (KX : K.In s₁.heap) (hns : s₁.heap.Ns mainGlobals mg) (hb : s₁.heap.Ns builtinsNs mb) (hbb : ∀ x : Str, x ≠ "__name__" → mb x = bootBuiltins x) (hlim : s₁.heap.NoLimit) (hg : s₁.gens = #[])
    (ha : s₁.heap.get? a = some { cls := .type "list", data := .seq vs.toArray }) (hi : IntsAre vs ns) (hl : ns.length ≤ sizeLine) (hr : RoomG k callerA)
    (F : ∀ base : Heap, K.In base → base.Ns mainGlobals mg → FnG P w K mg base CX k fa fd [x] sp) (hbind : ∀ (s : Shared) (u : Value), BindsTo s fd ⟨[u], []⟩ [(x, u)])
    (hsp : ∀ H : Hp, Only H → SqL K H a (ns.map V.int) → sp [.ref a] H (fun v _ => v = .bl true) fun _ _ _ => False) (hCX : ∀ H e s', CX [] H s₁ (fun _ _ _ => False) e s' → False) :
    codeAny (model P w) callerA (.call (.ref fa) ⟨[.ref a], []⟩) (fun r s' => r = .ok (.ret (.bool true)) ∧ OldK s₁.heap s'.heap ∧ s'.os = s₁.os ∧ AllBare s'.gens) s₁ := by
  have rv := vals_ints hi
  have lenV := hi.length
  cases hk : K.lookup a with
  | some o =>
    have e := (KX a o hk).symm.trans ha
    obtain rfl := Option.some.inj e
    have hO : Only (fun _ => none) := fun _ => .inl rfl
    exact law_go (H := fun _ => none) KX hns hb hbb hlim hg ha hr F hbind
      (hsp _ hO (.inr ⟨_, vs.toArray, _, hk, rfl, rfl, rfl, by rw [List.size_toArray, lenV]; exact hl, by simpa using rv⟩)) (hCX _) hO
      (fun b u z => nomatch (show (none : Option HO) = some u from z)) (fun b z => (z rfl).elim) (fun z => (z rfl).elim)
  | none =>
    let H0 : Hp := fun b => if b = a then some (.frz { cls := .type "list", data := .seq vs.toArray } (.lst (ns.map V.int))) else none
    have at_ : H0 a = some (.frz { cls := .type "list", data := .seq vs.toArray } (.lst (ns.map V.int))) := if_pos rfl
    have off : ∀ b, b ≠ a → H0 b = none := fun b h => if_neg h
    have hO : Only H0 := fun b => by
      by_cases h : b = a
      · rw [h]
        exact .inr ⟨_, _, at_⟩
      · exact .inl (off b h)
    refine law_go (H := H0) KX hns hb hbb hlim hg ha hr F hbind (hsp _ hO (.inl (.inr ⟨_, at_⟩))) (hCX _) hO (fun b u z => ?_) (fun b z => ?_) (fun _ => hk)
    · by_cases h : b = a
      · rw [h, at_] at z
        obtain rfl := Option.some.inj z
        rw [h]
        exact ⟨ha, by rw [List.length_map]; exact hl, vs, _, rv, ha⟩
      · rw [off b h] at z
        exact nomatch z
    · by_cases h : b = a
      · exact h
      · exact (z (off b h)).elim
/-- the end of a law, over a head by facts -/
theorem walkG {l : PySem.W.OpenLaw} {n k : Nat} {q : Program} {loose : List Str} {XP : (Str → Option Value) → Heap → Prop} {YP : World → Heap → Prop} {d : DefRec} {CX : CXT} {x : Str}
    (hn : l.most = some n) (hn2 : n ≤ sizeLine) (hdf : d.params.defaults = []) (hr : RoomG k callerA)
    (F : ∀ (w : World) (mg : Str → Option Value) (fa : Addr) (h : Heap), YP w h → h.Ns mainGlobals mg → mg d.name = some (.ref fa) →
      ∃ (K : PySem.W.Frag) (fd : FuncData) (sp : Sp), K.In h ∧ (∀ (s : Shared) (u : Value), BindsTo s fd ⟨[u], []⟩ [(x, u)]) ∧
        (∀ (H : Hp) (a : Addr) (ns : List Int), ns.length ≤ n → Only H → SqL K H a (ns.map V.int) → sp [.ref a] H (fun v _ => v = .bl true) fun _ _ _ => False) ∧
        ∀ base : Heap, K.In base → base.Ns mainGlobals mg → FnG l.prog w K mg base CX k fa fd [x] sp)
    (hCX : ∀ (H : Hp) (s : Shared) (e : Value) (s' : Shared), CX [] H s (fun _ _ _ => False) e s' → False) :
    PySem.W.WalkO q loose XP YP l.row.toRowW d [] (fun f vs => PySem.call f vs) := by
  refine Att.attach_call hn hdf fun w s₀ s₁ mg mb fa o pm cd doc a vs ns G Y ho hd hcd hmg hobj hints hlen hg => ?_
  obtain ⟨K, fd, sp, KX, hb, hsp, hF⟩ := F w mg fa _ Y G.T.g hmg
  exact law_callG KX G.T.g G.T.b G.T.builtins G.T.nolimit hg hobj hints (Nat.le_trans hlen hn2) hr hF hb (fun H hO hS => hsp H a ns hlen hO hS) fun H e s' => hCX H s₁ e s'
end Gu

set_option Elab.async false
set_option linter.all false
set_option maxRecDepth 100000
set_option maxHeartbeats 4000000
/-! Own layer: defs, methods, makers and properties by their names. -/
namespace Ex
open PySem PySem.Spec PyProof.Rows L2 Gu
section
variable (P : Program) (w : World) (K : PySem.W.Frag) (mg : Str → Option Value) (base : Heap)
/-- the module's def x keeps sp -/
structure Df (k : Nat) (x : Str) (ps : List Str) (sp : Sp) : Prop where
  ex : ∃ fd, FnOk P w K mg base CX0 k (He.ga K x) fd ps sp ∧ Binds K fd ps []
  gl : mg x = some (.ref (He.ga K x))
  kp : PySem.W.keepIn K (.ref (He.ga K x)) = true
structure DfG (k : Nat) (x : Str) (ps : List Str) (sp : Sp) : Prop where
  ex : ∃ fd, FnG P w K mg base CX0 k (He.ga K x) fd ps sp ∧ Binds K fd ps []
  gl : mg x = some (.ref (He.ga K x))
  kp : PySem.W.keepIn K (.ref (He.ga K x)) = true
/-- .. called by keywords ks alone; j: the places of the parameters among the keywords -/
structure DfK (k : Nat) (x : Str) (ps ks : List Str) (j : List Nat) (sp : Sp) : Prop where
  ex : ∃ fd, FnOk P w K mg base CX0 k (He.ga K x) fd ps sp ∧ ∀ (s : Shared) (ws : List Value), ws.length = ks.length → BindsTo s fd ⟨[], ks.zip ws⟩ (ps.zip (j.filterMap fun i => ws[i]?))
  gl : mg x = some (.ref (He.ga K x))
  kp : PySem.W.keepIn K (.ref (He.ga K x)) = true
structure Mf (k : Nat) (c m : Str) (ps : List Str) (sp : Sp) : Prop where
  ex : ∃ fd, FnOk P w K mg base CX0 k (He.ma K (He.ga K c) m) fd ps sp ∧ Binds K fd ps []
  cl : Cls K (He.ga K c)
  me : Meth K (He.ga K c) m (He.ma K (He.ga K c) m)
structure Pf (k : Nat) (c m : Str) (sp : Sp) : Prop where
  cl : Cls K (He.ga K c)
  ex : ∃ (p g : Addr) (fd : FuncData), PropOf K (He.ga K c) m p g ∧ FnOk P w K mg base CX0 k g fd ["self"] sp ∧ Binds K fd ["self"] []
structure Kf (k : Nat) (c : Str) (ps : List Str) (sp : Sp) : Prop where
  ex : ∃ fd, FnOk P w K mg base CX0 k (He.ma K (He.ga K c) "__init__") fd ps sp ∧ Binds K fd ps []
  gl : mg c = some (.ref (He.ga K c))
  mkr : Mk K (He.ga K c) (He.ma K (He.ga K c) "__init__")
end
section
variable {X : Cx} {k j : Nat} {x c m : Str} {ps ks : List Str} {ji : List Nat} {sp : Sp} {p pos apos : Pos} {e o : Expr} {es : List Expr} {kws : List Keyword} {t tk : TA} {ta : TE}
theorem pcall (D : Df X.prog X.w X.K X.mg X.base k x ps sp) (hr : Room j X.A) (ha : PA X (e :: es) t) (hj : k ≤ j := by decide) (hg : Gl X x := by rfl) (hdb : (x == ("__debug__" : Str)) = false := by decide)
    (he : starEach (e :: es) X.env = (false, eval e X.env) :: starEach es X.env := by rfl) (hpl : (backTo pos (starEach es X.env)).any (·.1) = false := by rfl) :
    PE X (.Call (.Name x p) (e :: es) [] pos) (tCall sp [] E0 t) := by
  obtain ⟨fd, F, b⟩ := D.ex
  exact pe_call F (hr.mono hj) hg D.gl D.kp b .nil pass0 ha hdb he hpl
theorem pcallG (D : DfG X.prog X.w X.K X.mg X.base k x ps sp) (hr : RoomG j X.A) (ha : PA X (e :: es) t) (hj : k ≤ j := by decide) (hg : Gl X x := by rfl) (hdb : (x == ("__debug__" : Str)) = false := by decide)
    (he : starEach (e :: es) X.env = (false, eval e X.env) :: starEach es X.env := by rfl) (hpl : (backTo pos (starEach es X.env)).any (·.1) = false := by rfl) :
    PE X (.Call (.Name x p) (e :: es) [] pos) (tCall sp [] E0 t) := by
  obtain ⟨fd, F, b⟩ := D.ex
  exact pe_callG F (hr.mono hj) hg D.gl D.kp b .nil pass0 ha hdb he hpl
def tKw (sp : Sp) (n : Nat) (j : List Nat) (tk : TA) : TE := fun σ H Q => tk σ H fun zs H2 => zs.length = n ∧ sp (j.filterMap fun i => zs[i]?) H2 Q E0
theorem vals_pick {zs : List V} {ws : List Value} (r : Vals zs ws) : ∀ j : List Nat, Vals (j.filterMap fun i => zs[i]?) (j.filterMap fun i => ws[i]?)
  | [] => .nil
  | i :: j => by
    rw [List.filterMap_cons, List.filterMap_cons]
    cases e : zs[i]? with
    | none =>
      rw [r.none_of e]
      exact vals_pick r j
    | some z =>
      obtain ⟨u, hu, ru⟩ := r.get e
      rw [hu]
      exact .cons ru (vals_pick r j)
theorem pcallK (D : DfK X.prog X.w X.K X.mg X.base k x ps ks ji sp) (hr : Room j X.A) (hkw : PK X kws tk) (hj : k ≤ j := by decide) (hg : Gl X x := by rfl)
    (hall : (backToKw pos (keywordEach kws X.env)).all (·.1.isSome) = true := by rfl) (hks : (backToKw pos (keywordEach kws X.env)).filterMap (·.1) = ks := by rfl)
    (hdb : (x == ("__debug__" : Str)) = false := by decide)
    (hpl : ((backTo pos (starEach [] X.env)).any (·.1) || (backToKw pos (keywordEach kws X.env)).any (·.1.isNone)) = false := by rfl) :
    PE X (.Call (.Name x p) [] kws pos) (tKw sp ks.length ji tk) := by
  obtain ⟨fd, F, b⟩ := D.ex
  refine ⟨fun pins s σ H Q I h => wpAny_Call_Name_kw (ld_glob I hg D.gl ?_ hdb)⟩
  refine PySem.W.callWith_KW0 (h₀ := X.base) I.ok.mod.kin D.kp hall (thn (hkw.run pos pins s σ H _ I h) fun ws s2 ⟨zs, H2, I2, rz, l2, q2⟩ => ⟨I2.kIn, ?_⟩) hpl
  rw [hks]
  refine wpAny_call (codeAny_mono (F.run X.A X.stack s2 H2 ⟨[], ks.zip ws⟩ _ _ Q E0 (hr.mono hj) I2.env0 (b s2 ws (rz.length.symm.trans l2)) (vals_pick rz ji) q2) fun r s' hq => ?_)
  match r, hq with
  | .ok (.ret u), hq => exact I2.after hq
theorem pmeth {pl : Sem Bool} (D : Mf X.prog X.w X.K X.mg X.base k c m ps sp) (hr : Room j X.A) (he : PE X o ta) (ha : PA X (e :: es) t) (hj : k ≤ j := by decide)
    (hst : starEach (e :: es) X.env = (false, eval e X.env) :: starEach es X.env := by rfl) (hpl : (backTo pos (starEach es X.env)).any (·.1) = false := by rfl)
    (ht : eval (.Call (.Attribute o m apos) (e :: es) [] pos) X.env = (do
      let ov ← eval o X.env
      standAt apos.atName
      let (f, first) ← holding [ov] (getMethod ov m pl)
      callWith pos f first (backTo pos (starEach (e :: es) X.env)) (backToKw pos (keywordEach [] X.env))) := by rfl) :
    PE X (.Call (.Attribute o m apos) (e :: es) [] pos) (tMeth (He.ga X.K c) m sp [] E0 ta t) := by
  obtain ⟨fd, F, b⟩ := D.ex
  exact pe_meth he D.cl D.me F (hr.mono hj) b .nil pass0 ha hst hpl ht
theorem pmeth0 {pl : Sem Bool} (D : Mf X.prog X.w X.K X.mg X.base k c m ps sp) (hr : Room j X.A) (he : PE X o ta) (hj : k ≤ j := by decide)
    (ht : eval (.Call (.Attribute o m apos) [] [] pos) X.env = (do
      let ov ← eval o X.env
      standAt apos.atName
      let (f, first) ← holding [ov] (getMethod ov m pl)
      callWith pos f first (backTo pos (starEach [] X.env)) (backToKw pos (keywordEach [] X.env))) := by rfl) :
    PE X (.Call (.Attribute o m apos) [] [] pos) (tMeth (He.ga X.K c) m sp [] E0 ta tNil) := by
  obtain ⟨fd, F, b⟩ := D.ex
  exact pe_meth0 he D.cl D.me F (hr.mono hj) b .nil pass0 ht
theorem pprop (D : Pf X.prog X.w X.K X.mg X.base k c m sp) (hr : Room j X.A) (he : PE X o ta) (hj : k + 1 ≤ j := by decide) (hab : attributeBase o m X.env (eval o X.env) = eval o X.env := by rfl) :
    PE X (.Attribute o m pos) (tProp (He.ga X.K c) sp [] E0 ta) := by
  obtain ⟨p, g, fd, hp, F, b⟩ := D.ex
  exact pe_prop he D.cl hp F (hr.mono hj) b .nil pass0 hab
theorem pmake (D : Kf X.prog X.w X.K X.mg X.base k c ps sp) (hr : Room j X.A) (ha : PA X (e :: es) t) (hj : k + 1 ≤ j := by decide) (hg : Gl X c := by rfl) (hdb : (c == ("__debug__" : Str)) = false := by decide)
    (he : starEach (e :: es) X.env = (false, eval e X.env) :: starEach es X.env := by rfl) (hpl : (backTo pos (starEach es X.env)).any (·.1) = false := by rfl) :
    PE X (.Call (.Name c p) (e :: es) [] pos) (tMake (He.ga X.K c) sp [] E0 t) := by
  obtain ⟨fd, F, b⟩ := D.ex
  exact pe_make D.mkr F (hr.mono hj) hg D.gl b .nil pass0 ha hdb he hpl
end
end Ex

set_option Elab.async false
set_option linter.all false
set_option maxRecDepth 100000
set_option maxHeartbeats 4000000
/-! Own layer: data of any depth, dicts among it, as repr shows it. -/
namespace Ex
open PySem PySem.Spec PyProof.Rows L2 Gu
mutual
inductive Dq (K : PySem.W.Frag) (H : Hp) : V → PyData → Prop
  | non : Dq K H .non .none
  | bl (b : Bool) : Dq K H (.bl b) (.bool b)
  | int (i : Int) : Dq K H (.int i) (.int i)
  | str (x : Str) : Dq K H (.str x) (.str x)
  | lst {a : Addr} {xs : List V} {ds : List PyData} : SqL K H a xs → DqAll K H xs ds → Dq K H (.ref a) (.list ds)
  | tup {a : Addr} {xs : List V} {ds : List PyData} : SqT K H a xs → DqAll K H xs ds → Dq K H (.ref a) (.tuple ds)
  | dct {a : Addr} {kvs : List (Key × V)} {ds : List (PyData × PyData)} : H a = some (.dK kvs) → DqAll K H (kvs.map fun p => kV p.1) (ds.map (·.1)) → DqAll K H (kvs.map (·.2)) (ds.map (·.2)) → Dq K H (.ref a) (.dict ds)
inductive DqAll (K : PySem.W.Frag) (H : Hp) : List V → List PyData → Prop
  | nil : DqAll K H [] []
  | cons {v : V} {vs : List V} {d : PyData} {ds : List PyData} : Dq K H v d → DqAll K H vs ds → DqAll K H (v :: vs) (d :: ds)
end
/-- the table of modules stands in the written part: no list lies there -/
def SysOk (K : PySem.W.Frag) : Prop := ∃ o, K.lookup sysModules = some o ∧ o.cls ≠ .type "list"
section
variable {X : Cx} {pins : List (Addr × Obj)} {σ : L2.St} {H : Hp} {s : Shared}
theorem key_rel {k : Key} {v : Value} (h : keyIs k v = true) : RelV (kV k) v := by
  rcases keyIs_shape h with ⟨i, t, rfl, rfl⟩ | ⟨x, t, rfl, rfl⟩
  · exact ⟨t, rfl⟩
  · exact ⟨t, rfl⟩
theorem not_sys {a : Addr} {o : Obj} (hs : SysOk X.K) (I : Inv X pins σ H s) (ho : s.heap.get? a = some o) (hc : o.cls = .type "list") : a ≠ sysModules := fun z => by
  obtain ⟨u, e, n⟩ := hs
  have h2 := I.kIn _ _ e
  rw [z, h2] at ho
  rw [Option.some.inj ho] at n
  exact n hc
theorem pairs_rel {es : List DictEntry} {vs : List (Key × Value)} (h : Pairs (mixKind X.prog X.w) es vs) : ∀ {kvs : List (Key × V)}, KV kvs vs → Vals (kvs.map fun p => kV p.1) (es.map (·.key)) ∧ Vals (kvs.map (·.2)) (es.map (·.val)) := by
  induction h with
  | nil =>
    intro kvs r
    cases r
    exact ⟨.nil, .nil⟩
  | @cons e kv es vs h1 h2 h3 ih =>
    intro kvs r
    cases r with
    | @cons p _ l _ r1 r2 =>
      obtain ⟨i1, i2⟩ := ih r2
      have k1 : RelV (kV p.1) e.key := by
        rw [r1.1]
        exact key_rel h1
      have k2 : RelV p.2 e.val := by
        rw [h2]
        exact r1.2
      exact ⟨.cons k1 i1, .cons k2 i2⟩
mutual
theorem Dq.reads (hs : SysOk X.K) (I : Inv X pins σ H s) : ∀ {v : V} {d : PyData}, Dq X.K H v d → ∀ u, RelV v u → ∃ as, Reads s.heap u d as ∧ sysModules ∉ as
  | _, _, .non, u, r => by
    cases r
    exact ⟨_, Reads.none, List.not_mem_nil⟩
  | _, _, .bl b, u, r => by
    cases r
    exact ⟨_, Reads.bool b, List.not_mem_nil⟩
  | _, _, .int i, u, r => by
    obtain ⟨t, rfl⟩ := r
    exact ⟨_, Reads.int i t, List.not_mem_nil⟩
  | _, _, .str x, u, r => by
    obtain ⟨t, rfl⟩ := r
    exact ⟨_, Reads.str x t, List.not_mem_nil⟩
  | _, _, .lst (a := a) hq ha, u, r => by
    cases r
    obtain ⟨its, rv, ⟨o, n, ho, hc, _, hd⟩, _⟩ := I.list hq
    obtain ⟨as, hr, na⟩ := Dq.readsAll hs I ha its rv
    refine ⟨_, Reads.list ho hc hd hr, fun hm => ?_⟩
    rcases List.mem_cons.mp hm with z | z
    · exact not_sys hs I ho hc z.symm
    · exact na z
  | _, _, .tup (a := a) hq ha, u, r => by
    cases r
    obtain ⟨its, rv, ⟨o, ho, hc, n, hd⟩, _⟩ := I.tuple hq
    obtain ⟨as, hr, na⟩ := Dq.readsAll hs I ha its rv
    exact ⟨_, Reads.tuple ho hc hd hr, na⟩
  | _, _, .dct (a := a) (kvs := kvs) hq h1 h2, u, r => by
    cases r
    obtain ⟨_, ns, vs, rk, o, es, ep, ho, hx, hd, _, hp, _⟩ := (show ObjOk X.prog X.w H s.heap a (.dK kvs) from I.hok a _ hq)
    obtain ⟨r1, r2⟩ := pairs_rel hp rk
    obtain ⟨as, q1, n1⟩ := Dq.readsAll hs I h1 _ r1
    obtain ⟨bs, q2, n2⟩ := Dq.readsAll hs I h2 _ r2
    refine ⟨_, Reads.dict ho hx.1 hd q1 q2, fun hm => ?_⟩
    rcases List.mem_append.mp hm with z | z
    · rcases List.mem_cons.mp z with z | z
      · rw [← z, beq_self_eq_true] at ns
        cases ns
      · exact n1 z
    · exact n2 z
theorem Dq.readsAll (hs : SysOk X.K) (I : Inv X pins σ H s) : ∀ {vs : List V} {ds : List PyData}, DqAll X.K H vs ds → ∀ us : List Value, Vals vs us → ∃ as, ReadsAll s.heap us ds as ∧ sysModules ∉ as
  | _, _, .nil, us, r => by
    cases r
    exact ⟨_, ReadsAll.nil, List.not_mem_nil⟩
  | _, _, .cons h1 h2, us, r => by
    cases r with
    | cons r1 r2 =>
      obtain ⟨as, q1, n1⟩ := Dq.reads hs I h1 _ r1
      obtain ⟨bs, q2, n2⟩ := Dq.readsAll hs I h2 _ r2
      refine ⟨_, ReadsAll.cons q1 q2, fun hm => ?_⟩
      rcases List.mem_append.mp hm with z | z
      · exact n1 z
      · exact n2 z
end
end
section
variable {X : Cx} {k : Nat}
/-- repr of any data -/
def rReprQ (K : PySem.W.Frag) : List V → Hp → VK → Prop := fun xs H Q => ∃ (v : V) (d : PyData), xs = [v] ∧ Dq K H v d ∧ d.showable = true ∧ d.depth ≤ 60 ∧ d.shown.length ≤ sizeLine ∧ Q (.str d.shown) H
theorem call_reprQ (hr : RoomG k X.A) (hs : SysOk X.K) : CallR X (.builtin "repr") (rReprQ X.K) := by
  intro pins s σ H xs us Q I r h
  obtain ⟨v, d, rfl, hd, hsh, hdep, hz, q⟩ := h
  obtain ⟨u, rfl, ru⟩ := vals1 r
  obtain ⟨as, rd, na⟩ := Dq.reads hs I hd u ru
  have hu := hr.r.units
  cases hd with
  | non =>
    cases ru
    exact PySem.P.repr_of_none ⟨.str _, H, I.tok _, ⟨_, rfl⟩, by simpa only [PyData.shown] using q⟩
  | bl b =>
    cases ru
    exact PySem.P.repr_of_bool ⟨.str _, H, I.tok _, ⟨_, rfl⟩, by simpa only [PyData.shown] using q⟩
  | int i =>
    obtain ⟨t, rfl⟩ := ru
    exact PySem.P.repr_of_int (by simpa [PyData.showable] using hsh) ⟨.str _, H, I.tok _, ⟨_, rfl⟩, by simpa only [PyData.shown] using q⟩
  | str x =>
    obtain ⟨t, rfl⟩ := ru
    exact PySem.P.repr_of_str ⟨.str _, H, I.tok _, ⟨_, rfl⟩, by simpa only [PyData.shown] using q⟩ (by simpa only [PyData.shown] using hz)
  | @lst a xs ds hq ha =>
    obtain rfl : u = Value.ref a := ru
    exact repr_of_reads' rd hsh (fun _ => na) hr.g (by omega) (fun _ _ e => e) (fun h' u tk hk => ⟨.str _, H, I.kept hk, ⟨u, rfl⟩, q⟩) hz
  | @tup a xs ds hq ha =>
    obtain rfl : u = Value.ref a := ru
    exact repr_of_reads' rd hsh (fun _ => na) hr.g (by omega) (fun _ _ e => e) (fun h' u tk hk => ⟨.str _, H, I.kept hk, ⟨u, rfl⟩, q⟩) hz
  | @dct a kvs ds hq h1 h2 =>
    obtain rfl : u = Value.ref a := ru
    exact repr_of_reads' rd hsh (fun _ => na) hr.g (by omega) (fun _ _ e => e) (fun h' u tk hk => ⟨.str _, H, I.kept hk, ⟨u, rfl⟩, q⟩) hz
/-- x is not True, x is not False, of any scalar -/
def rNotBA : R2 := fun x y H Q => ∃ b : Bool, y = .bl b ∧ ((∃ a : Bool, x = .bl a ∧ Q (.bl (!decide (a = b))) H) ∨ (∃ i : Int, x = .int i ∧ Q (.bl true) H))
theorem op_notBA : OpR X (compareOp .IsNot) rNotBA := by
  intro pins s σ H x y v u Q I rx ry h
  obtain ⟨b, rfl, h⟩ := h
  rcases h with ⟨a, rfl, q⟩ | ⟨i, rfl, q⟩
  · exact op_notBl pins s σ H _ _ v u Q I rx ry ⟨a, b, rfl, rfl, q⟩
  · cases (show u = Value.bool b from ry)
    obtain ⟨t, rfl⟩ := (show ∃ t, v = Value.int i t from rx)
    exact wpAny_isNot_other rfl (fun z => nomatch z) ⟨.bl true, H, I, rfl, q⟩
end
end Ex

set_option Elab.async false
set_option linter.all false
set_option maxRecDepth 100000
set_option maxHeartbeats 4000000
/-! Own layer: isinstance of a caught error that has a dict of its own; errors with fields, raised. -/
namespace Ex
open PySem PySem.Spec PySem.Calls PyProof.Rows L2 Gu
section
variable {prog : Program} {w : World} {A : Around} {E : Value → Shared → Prop} {s : Shared} {K : PySem.W.Frag} {x D : Addr} {ox od : Obj}
theorem class_of_exc {Q : Option Value → Shared → Prop} (c : ExcC K D) (X : K.In s.heap) (I : PySem.W.InstAt s.heap x ox D (some od)) (h : Q (some (.ref D)) { s with toks := s.toks + 1 }) :
    wpAny (model prog w) A (getAttr? (.ref x) "__class__") Q E s := by
  have found : PySem.W.findObj K D (some od) "__class__" = some (.bind (.builtin "getset_descriptor.__get__") (.builtin "object.__class__")) :=
    PySem.W.findObj_data (by obtain ⟨cd, e, _⟩ := PySem.W.any_some c.hd; rw [e]; rfl) c.ha c.hn c.ht
  obtain ⟨hp, g, d, t, os⟩ := s
  have lt := I.type (M := model prog w)
  have lg := PySem.W.looks_findIn (M := model prog w) X c.hg
  have lk := PySem.W.looks_findIn (M := model prog w) X c.hk
  have lf := PySem.W.looks_find (M := model prog w) X I found
  have other : (onTheHeap (Value.ref D) && Value.builtin "BaseException.__getattribute__" == Value.builtin "object.__getattribute__") = false := by
    rw [show (Value.builtin "BaseException.__getattribute__" == Value.builtin "object.__getattribute__") = false by decide +kernel]
    rfl
  unfold getAttr? getAttrBy? getAttrBy
  refine wpAny_bind (wpAny_mkText (wpAny_bind (wpAny_attempt (wpAny_holding (wpAny_bind (lt.at (wpAny_bind (lg.at ?own))))))))
  case own =>
    show wpAny _ _ (if (onTheHeap (Value.ref D) && Value.builtin "BaseException.__getattribute__" == Value.builtin "object.__getattribute__") = true then _ else _) _ _ _
    rw [other, if_neg Bool.false_ne_true]
    unfold getAttrByItsOwn hookBefore
    refine wpAny_bind ?_
    rw [if_pos (show onTheHeap (Value.ref D) = true from rfl)]
    refine lk.at (wpAny_bind (wpAny_attempt (wpAny_holding ?_)))
    unfold callGetattribute
    rw [show (false && onTheHeap (Value.builtin "BaseException.__getattribute__")) = false from rfl, if_neg Bool.false_ne_true]
    unfold boundAndCalled
    rw [PySem.F.excAttr_ValueError.ga.bind (.ref x)]
    refine wpAny_bind (wpAny_pure ?_)
    show wpAny _ _ (call (.builtin "BaseException.__getattribute__") [.ref x, .str "__class__" t]) _ _ _
    refine wpAny_call (codeAny_call_builtin PySem.F.excAttr_ValueError.ga.plain PySem.F.entry_bexc_ga
      (@PySem.W.check_slot (model prog w) _ _ ⟨hp, g, d, t + 1, os⟩ "BaseException.__getattribute__" "BaseException" "__getattribute__" (.ref x) [.str "__class__" t] [] _
        (by decide +kernel) (by decide +kernel) (lt.andThen (PySem.W.looks_subIn X c.hs)) (PySem.F.args_bexc_ga (.ref x) (.str "__class__" t)) ?_))
    unfold Builtin.«object.__getattribute__»
    refine wpAny_bind (wpAny_of_eq (a := ((Value.ref x : Value), [Value.str "__class__" t])) (by first | rfl | (simp only [slotArgs]; rfl)) (wpAny_bind (wpAny_pure (wpAny_bind (lt.at (wpAny_bind (lf.at ?_)))))))
    show wpAny _ _ (holding [Value.builtin "object.__class__"] (call (.builtin "getset_descriptor.__get__") [.builtin "object.__class__", .ref x, .ref D]) >>= ret) _ _ _
    refine wpAny_bind (wpAny_holding (wpAny_call (PySem.W.class_get (s := ⟨hp, g, d, t + 1, os⟩) (ox := ox) (od := some od) X I c.hm (wpAny_pure ?_))))
    show wpAny _ _ (handedOut (.ref D)) _ _ _
    rw [PySem.W.handedOut_of (v := .ref D) rfl]
    first
      | exact wpAny_pure (wpAny_pure h)
      | exact wpAny_pure h
      | exact wpAny_pure (wpAny_bind (wpAny_pure (wpAny_pure h)))
theorem kitx_exc (c : ExcC K D) : PySem.W.KitX K (.ref x) (.ref D) (fun h => PySem.W.InstAt h x ox D (some od)) where
  ty := fun _ _ _ I => I.type
  it := fun _ _ X _ => by
    obtain ⟨cd, e, _⟩ := PySem.W.any_some c.hd
    unfold PySem.W.clsIn at e
    split at e
    · rename_i ho
      exact fun A' Q' E' s' k q => by
        unfold isType loadHead
        exact wpAny_bind (wpAny_loadPart (k _ _ (X _ _ ho)) (wpAny_pure q))
    · cases e
  ne := fun h tp dd its n sl X htp => by
    obtain ⟨cd, e, _⟩ := PySem.W.any_some c.hd
    cases q : (Value.ref D == Value.ref tp) with
    | false => rfl
    | true =>
      have z : D = tp := Value.ref.inj (beq_iff_eq.mp q)
      rw [← z] at htp
      unfold PySem.W.clsIn at e
      split at e
      · rename_i ho
        have y := (X _ _ ho).symm.trans htp
        cases y
      · cases e
  ca := fun X I k => class_of_exc c X I k
end
section
variable {X : Cx} {a D : Addr} {oe : Obj} {d : Addr} {pn : List (Addr × Obj)}
/-- the caught error as the machine sees it -/
theorem inst_exc {pins : List (Addr × Obj)} {σ : L2.St} {H : Hp} {s : Shared} {fs : List (Str × V)} (I : Inv (X.suite a ((a, oe) :: pn)) pins σ H s) (hz : Zc (.ref D) (some d) oe) (hf : ∃ vs, oe.data = .fields vs) (hd : H d = some (.xd fs)) :
    ∃ od, PySem.W.InstAt s.heap a oe D (some od) := by
  obtain ⟨hget, _⟩ := I.pin (a, oe) (List.mem_append_left _ List.mem_cons_self)
  obtain ⟨vs, hv⟩ := hf
  obtain ⟨mA, hns, _⟩ := (show ObjOk X.prog X.w H s.heap d (.xd fs) from I.hok d _ hd)
  obtain ⟨od, ho, _⟩ := lookIn_ns hns
  exact ⟨od, hget, hz.1, by unfold PySem.W.notCls; rw [hv] <;> rfl, by rw [hz.2]; exact ho⟩
/-- isinstance(e, c) -/
def rIsX (K : PySem.W.Frag) (D a : Addr) (cls : Value) (d : Option Addr) : List V → Hp → VK → Prop := fun xs H Q => ∃ (c : V) (u : Value) (b : Bool) (dd : Addr) (fs : List (Str × V)), xs = [.ref a, c] ∧ cls = .ref D ∧ d = some dd ∧ ClsV c u ∧ H dd = some (.xd fs) ∧ PySem.W.kitOne K (.ref D) u = some b ∧ Q (.bl b) H
theorem call_isX {cls : Value} {d : Option Addr} (c : ExcC X.K D) (hz : Zc cls d oe) (hf : ∃ vs, oe.data = .fields vs) : CallR (X.suite a ((a, oe) :: pn)) (.builtin "isinstance") (rIsX X.K D a cls d) := by
  intro pins s σ H xs us Q I r h
  obtain ⟨cv, u, b, dd, fs, rfl, rfl, rfl, k, hd, e, q⟩ := h
  obtain ⟨u1, u2, rfl, r1, r2⟩ := vals2 r
  obtain rfl : u1 = Value.ref a := r1
  have e2 := k.eq r2
  subst e2
  obtain ⟨od, J⟩ := inst_exc I hz hf hd
  exact PySem.W.kia_one (kitx_exc c) I.kIn J e (fun z => nomatch z) fun tk => ⟨.bl b, H, I.tok tk, rfl, q⟩
/-- isinstance(e, (c1, c2, ..)) -/
def rIsXT (K : PySem.W.Frag) (D a : Addr) (cls : Value) (d : Option Addr) : List V → Hp → VK → Prop := fun xs H Q => ∃ (tp : Addr) (cs : List V) (us : List Value) (b : Bool) (dd : Addr) (fs : List (Str × V)), xs = [.ref a, .ref tp] ∧ cls = .ref D ∧ d = some dd ∧
  H tp = some (.tup cs) ∧ Paired ClsV cs us ∧ H dd = some (.xd fs) ∧ PySem.W.kitAny K (.ref D) us = some b ∧ Q (.bl b) H
theorem call_isXT {cls : Value} {d : Option Addr} (c : ExcC X.K D) (hz : Zc cls d oe) (hf : ∃ vs, oe.data = .fields vs) : CallR (X.suite a ((a, oe) :: pn)) (.builtin "isinstance") (rIsXT X.K D a cls d) := by
  intro pins s σ H xs us Q I r h
  obtain ⟨tp, cs, ws, b, dd, fs, rfl, rfl, rfl, hT, k, hd, e, q⟩ := h
  obtain ⟨u1, u2, rfl, r1, r2⟩ := vals2 r
  obtain rfl : u1 = Value.ref a := r1
  obtain rfl : u2 = Value.ref tp := r2
  obtain ⟨od, J⟩ := inst_exc I hz hf hd
  obtain ⟨_, its, rv, o, h1, h2, n, h3⟩ := (show ObjOk X.prog X.w H s.heap tp (.tup cs) from I.hok tp _ hT)
  have e3 := ClsV.all k rv
  subst e3
  obtain ⟨oc, odd, dt, sl⟩ := o
  simp only at h2 h3
  subst h2 h3
  exact PySem.W.kia_tup (kitx_exc c) I.kIn J h1 e (fun z => nomatch z) fun tk => ⟨.bl b, H, I.tok tk, rfl, q⟩
end
section
variable {X : Cx}
/-- repr of any data, also while an error is handled -/
theorem call_reprH (hg : X.A.guards = some []) (hu : X.A.units + 64 < cLine) (hs : SysOk X.K) : CallR X (.builtin "repr") (rReprQ X.K) := by
  intro pins s σ H xs us Q I r h
  obtain ⟨v, d, rfl, hd, hsh, hdep, hz, q⟩ := h
  obtain ⟨u, rfl, ru⟩ := vals1 r
  obtain ⟨as, rd, na⟩ := Dq.reads hs I hd u ru
  have viaRef : ∀ {a : Addr}, u = Value.ref a → wpAny (model X.prog X.w) X.A (call (.builtin "repr") [u]) (EP X pins σ Q) X.xe s := fun {a} e => by
    subst e
    exact repr_of_reads' rd hsh (fun _ => na) hg (by omega) (fun _ _ e => e) (fun h' u tk hk => ⟨.str _, H, I.kept hk, ⟨u, rfl⟩, q⟩) hz
  cases hd with
  | non =>
    cases ru
    exact PySem.P.repr_of_none ⟨.str _, H, I.tok _, ⟨_, rfl⟩, by simpa only [PyData.shown] using q⟩
  | bl b =>
    cases ru
    exact PySem.P.repr_of_bool ⟨.str _, H, I.tok _, ⟨_, rfl⟩, by simpa only [PyData.shown] using q⟩
  | int i =>
    obtain ⟨t, rfl⟩ := ru
    exact PySem.P.repr_of_int (by simpa [PyData.showable] using hsh) ⟨.str _, H, I.tok _, ⟨_, rfl⟩, by simpa only [PyData.shown] using q⟩
  | str x =>
    obtain ⟨t, rfl⟩ := ru
    exact PySem.P.repr_of_str ⟨.str _, H, I.tok _, ⟨_, rfl⟩, by simpa only [PyData.shown] using q⟩ (by simpa only [PyData.shown] using hz)
  | lst hq ha => exact viaRef ru
  | tup hq ha => exact viaRef ru
  | dct hq h1 h2 => exact viaRef ru
end
end Ex

set_option Elab.async false
set_option linter.all false
set_option maxRecDepth 100000
set_option maxHeartbeats 4000000
namespace K14
open PySem PySem.Spec PyProof.Rows L2 Gu Ex
def top (i : Nat) : Stmt := PySem.Challenge.pw_exactroom_k14_regions_judged.main.body.getD i (.Pass ⟨0, 0, 0, 0⟩)
abbrev FnP (K : PySem.W.Frag) (x qual : Str) (st : Stmt) (f : Addr) (fd : FuncData) : Prop := FunD K x qual (defArgs st) (defBody st) (defScope st) [] [] f fd
abbrev cS (K : PySem.W.Frag) : Addr := He.ga K "Sizes"
abbrev cN (K : PySem.W.Frag) : Addr := He.ga K "InvalidNumber"
/-- what the top has left -/
structure Tx (K : PySem.W.Frag) (mg : Str → Option Value) : Prop where
  n_len : mg "len" = none
  n_isinstance : mg "isinstance" = none
  n_int : mg "int" = none
  n_bool : mg "bool" = none
  n_list : mg "list" = none
  n_range : mg "range" = none
  n_divmod : mg "divmod" = none
  n_abs : mg "abs" = none
  n_max : mg "max" = none
  n_min : mg "min" = none
  n_all : mg "all" = none
  n_repr : mg "repr" = none
  g_Sizes : mg "Sizes" = some (.ref (cS K))
  cl : Cls K (cS K)
  nSL : NoAttr K (cS K) "size_list"
  rd : ClX.CRead K (cS K) (.type "type")
  cS : ∃ u, ClX.CVal K (cS K) (.type "type") "MAX_SIZE" (.int 1000000000) u
  cN : ∃ u, ClX.CVal K (K14.cS K) (.type "type") "MAX_SIZES" (.int 8) u
  cC : ∃ u, ClX.CVal K (K14.cS K) (.type "type") "MAX_CELLS" (.int 1000000000000) u
  sys : SysOk K
  g_InvalidNumber : mg "InvalidNumber" = some (.ref (K14.cN K))
  g_RoomError : mg "RoomError" = some (.ref (He.ga K "RoomError"))
  g_InvalidAddress : mg "InvalidAddress" = some (.ref (He.ga K "InvalidAddress"))
  g_InvalidLevel : mg "InvalidLevel" = some (.ref (He.ga K "InvalidLevel"))
  g_InvalidNumbers : mg "InvalidNumbers" = some (.ref (He.ga K "InvalidNumbers"))
  ox : OexC K (K14.cN K)
  xf : XfC K (K14.cN K)
  ec : ExcC K (K14.cN K)
  noV : PySem.W.findIn K (.ref (K14.cN K)) "value" = some none
  iN : PySem.W.findIn K (.ref (K14.cN K)) "__init__" = some (some (.ref (He.ma K (K14.cN K) "__init__")))
  tI : PySem.W.typeIn K (.ref (He.ma K (K14.cN K) "__init__")) = some (.type "function")
  em : PySem.W.exmOne K (.ref (K14.cN K)) (.ref (K14.cN K)) = some true
  kR : PySem.W.kitOne K (.ref (K14.cN K)) (.ref (He.ga K "RoomError")) = some true
  kO : PySem.W.kitAny K (.ref (K14.cN K)) [.ref (He.ga K "InvalidAddress"), .ref (He.ga K "InvalidLevel"), .ref (He.ga K "InvalidNumbers")] = some false
theorem bT {c : Prop} [Decidable c] (h : c) : V.bl (decide c) = V.bl true := congrArg V.bl (decide_eq_true h)
theorem bF {c : Prop} [Decidable c] (h : ¬ c) : V.bl (decide c) = V.bl false := congrArg V.bl (decide_eq_false h)
theorem ifT {c : Bool} {A B : Prop} (h : c = true) (x : A) : if c = true then A else B := by rw [h]; exact iteT x
theorem ifF {c : Bool} {A B : Prop} (h : c = false) (x : B) : if c = true then A else B := by rw [h]; exact iteF x
theorem vT {a b : Int} (h : a = b) : decide (V.int a = V.int b) = true := decide_eq_true (by rw [h])
theorem vF {a b : Int} (h : a ≠ b) : decide (V.int a = V.int b) = false := decide_eq_false fun z => h (V.int.inj z)
theorem same_upd {H : Hp} {p : Addr} {o : HO} (h : H p = none) : Same H (upd H p o) := fun b x e => by
  rw [upd_ne (ne_of_none e h)]
  exact e
/-- values of any kind -/
inductive Any (H : Hp) : V → Prop
  | non : Any H .non
  | bl (b : Bool) : Any H (.bl b)
  | int (i : Int) : Any H (.int i)
  | str (x : Str) : (x.length ≤ 1000 ∧ ∀ c ∈ x.cps.toList, c < 1114112) → Any H (.str x)
  | lst {a : Addr} {xs : List V} : H a = some (.lst xs) → Any H (.ref a)
  | tup {a : Addr} {xs : List V} : H a = some (.tup xs) → Any H (.ref a)
  | dct {a : Addr} {kvs : List (Key × V)} : H a = some (.dK kvs) → Any H (.ref a)
def isI : V → Bool
  | .int _ => true
  | _ => false
def isB : V → Bool
  | .bl _ => true
  | _ => false
def isS : V → Bool
  | .str _ => true
  | _ => false
theorem Any.ty {K : PySem.W.Frag} {H : Hp} {v : V} (h : Any H v) : ∃ T, TyX K H v (.type T) ∧ kitB T "int" = some (isI v || isB v) ∧ kitB T "bool" = some (isB v) ∧ kitB T "str" = some (isS v) := by
  cases h with
  | non => exact ⟨"NoneType", .base .non, (show kitB "NoneType" "int" = some false by decide +kernel), (show kitB "NoneType" "bool" = some false by decide +kernel), (show kitB "NoneType" "str" = some false by decide +kernel)⟩
  | bl b => exact ⟨"bool", .base (.bl b), (show kitB "bool" "int" = some true by decide +kernel), (show kitB "bool" "bool" = some true by decide +kernel), (show kitB "bool" "str" = some false by decide +kernel)⟩
  | int i => exact ⟨"int", .base (.int i), (show kitB "int" "int" = some true by decide +kernel), (show kitB "int" "bool" = some false by decide +kernel), (show kitB "int" "str" = some false by decide +kernel)⟩
  | str x _ => exact ⟨"str", .base (.str x), (show kitB "str" "int" = some false by decide +kernel), (show kitB "str" "bool" = some false by decide +kernel), (show kitB "str" "str" = some true by decide +kernel)⟩
  | lst e => exact ⟨"list", .base (.lst e), (show kitB "list" "int" = some false by decide +kernel), (show kitB "list" "bool" = some false by decide +kernel), (show kitB "list" "str" = some false by decide +kernel)⟩
  | tup e => exact ⟨"tuple", .base (.tup e), (show kitB "tuple" "int" = some false by decide +kernel), (show kitB "tuple" "bool" = some false by decide +kernel), (show kitB "tuple" "str" = some false by decide +kernel)⟩
  | dct e => exact ⟨"dict", .base (.dK e), (show kitB "dict" "int" = some false by decide +kernel), (show kitB "dict" "bool" = some false by decide +kernel), (show kitB "dict" "str" = some false by decide +kernel)⟩
theorem Any.same {H H' : Hp} {v : V} (h : Any H v) (s : Same H H') : Any H' v := by
  cases h with
  | non => exact .non
  | bl b => exact .bl b
  | int i => exact .int i
  | str x l => exact .str x l
  | lst e => exact .lst (s _ _ e)
  | tup e => exact .tup (s _ _ e)
  | dct e => exact .dct (s _ _ e)
def cellsB : V → Bool
  | .int i => decide (1 ≤ i ∧ i ≤ 1000000000000)
  | _ => false
/-- a def that may raise -/
structure DfX (P : Program) (w : World) (K : PySem.W.Frag) (mg : Str → Option Value) (base : Heap) (k : Nat) (x : Str) (ps : List Str) (sp : Sp) : Prop where
  ex : ∃ fd, FnOk P w K mg base (L2.CX P w) k (He.ga K x) fd ps sp ∧ Binds K fd ps []
  gl : mg x = some (.ref (He.ga K x))
  kp : PySem.W.keepIn K (.ref (He.ga K x)) = true
section
variable {X : Cx} {k j : Nat} {x : Str} {ps : List Str} {sp : Sp} {p pos : Pos} {e : Expr} {es : List Expr} {t : TA} {E : XK} {W : WX}
/-- f(e, ..) in a def that lets its errors out -/
theorem pcallX (D : DfX X.prog X.w X.K X.mg X.base k x ps sp) (hr : Room j X.A) (tk : Takes X (fun cls d _ H => E cls d H)) (ha : PA X (e :: es) t) (hj : k ≤ j := by decide) (hg : Gl X x := by rfl) (hdb : (x == ("__debug__" : Str)) = false := by decide)
    (he : starEach (e :: es) X.env = (false, eval e X.env) :: starEach es X.env := by rfl) (hpl : (backTo pos (starEach es X.env)).any (·.1) = false := by rfl) :
    PE X (.Call (.Name x p) (e :: es) [] pos) (tCall sp [] E t) := by
  obtain ⟨fd, F, b⟩ := D.ex
  exact pe_call F (hr.mono hj) hg D.gl D.kp b .nil (passes_call tk fun _ _ _ _ h => h) ha hdb he hpl
/-- f(e, ..) in a try's body -/
theorem pcallT (D : DfX X.prog X.w X.K X.mg X.base k x ps sp) (hr : Room j X.A) (tk : Takes X W) (ha : PA X (e :: es) t) (hj : k ≤ j := by decide) (hg : Gl X x := by rfl) (hdb : (x == ("__debug__" : Str)) = false := by decide)
    (he : starEach (e :: es) X.env = (false, eval e X.env) :: starEach es X.env := by rfl) (hpl : (backTo pos (starEach es X.env)).any (·.1) = false := by rfl) :
    PE X (.Call (.Name x p) (e :: es) [] pos) (tCallS sp (WE W) t) := by
  obtain ⟨fd, F, b⟩ := D.ex
  exact pe_callS F (hr.mono hj) hg D.gl D.kp b (fun σ => passAt tk σ) ha hdb he hpl
end
section
variable {P : Program} {w : World} {K : PySem.W.Frag} {mg : Str → Option Value} {base : Heap} {f : Addr} {fd : FuncData}
def spInt : Sp := fun vs H Q _ => ∃ v : V, vs = [v] ∧ Any H v ∧ Q (.bl (isI v)) H
theorem sc_is_integer : FnScope ["value"] ["value"] (defScope (top 9)) := ⟨rfl, rfl, rfl, by decide +kernel, rfl, by decide +kernel, by decide +kernel⟩
theorem ok_is_integer (T : Tx K mg) (F : FnP K "is_integer" "is_integer" (top 9) f fd) : FnOk P w K mg base CX0 1 f fd ["value"] spInt := by
  refine F.ok sc_is_integer (fun vs H Q E h => ?_) (fun cdv A outer s H vs Q E hr h => ⟨_, PSs.nox (pss_one (ps_ret (pe_and (pe_callB call_isi (by rfl) T.n_isinstance (by decide +kernel) (pa_cons (pv 0) (pa_cons (pe_bltn (v := .ty "int") (by rfl) T.n_int (by decide +kernel) rfl) pa_nil))) (pe_one (pe_not (pe_callB call_isi (by rfl) T.n_isinstance (by decide +kernel) (pa_cons (pv 0) (pa_cons (pe_bltn (v := .ty "bool") (by rfl) T.n_bool (by decide +kernel) rfl) pa_nil)))))))), ?_⟩)
  · obtain ⟨v, rfl, _⟩ := h
    rfl
  · obtain ⟨v, rfl, hv, q⟩ := h
    obtain ⟨Ty, ty, k1, k2, _⟩ := hv.ty (K := K)
    refine ⟨_, rfl, _, _, _, _, _, rfl, .ty "int", ty, kit_ty k1, _, rfl, ?_⟩
    cases e : (isI v || isB v) with
    | true =>
      refine iteT ⟨_, rfl, _, _, _, _, _, rfl, .ty "bool", ty, kit_ty k2, _, rfl, ?_⟩
      have e2 : (!isB v) = isI v := by cases v <;> first | rfl | cases e
      rw [e2]
      exact q
    | false =>
      have e2 : isI v = false := by cases v <;> first | rfl | cases e
      rw [e2] at q
      exact iteF q
def spCells : Sp := fun vs H Q _ => ∃ v : V, vs = [v] ∧ Any H v ∧ Q (.bl (cellsB v)) H
theorem sc_is_cells : FnScope ["value"] ["value"] (defScope (top 10)) := ⟨rfl, rfl, rfl, by decide +kernel, rfl, by decide +kernel, by decide +kernel⟩
theorem ok_is_cells (T : Tx K mg) (D_is_integer : Df P w K mg base 1 "is_integer" ["value"] spInt) (F : FnP K "is_cells" "is_cells" (top 10) f fd) : FnOk P w K mg base CX0 2 f fd ["value"] spCells := by
  refine F.ok sc_is_cells (fun vs H Q E h => ?_) (fun cdv A outer s H vs Q E hr h => ⟨_, PSs.nox (pss_one (ps_ret (pe_and (pcall D_is_integer hr (pa_cons (pv 0) pa_nil)) (pe_one (pe_chain op_le op_le pe_int (pv 0) (ClX.pe_cval (pe_glob (v := .ref _) rfl T.g_Sizes rfl))))))), ?_⟩)
  · obtain ⟨v, rfl, _⟩ := h
    rfl
  · obtain ⟨v, rfl, hv, q⟩ := h
    obtain ⟨u, cC⟩ := T.cC
    refine ⟨_, rfl, v, rfl, hv, _, rfl, ?_⟩
    cases v with
    | int i =>
      refine iteT ⟨_, rfl, _, _, rfl, rfl, _, rfl, ?_⟩
      by_cases h1 : (1 : Int) ≤ i
      · refine ifT (decide_eq_true h1) ⟨_, _, _, _, rfl, T.rd, cC, _, _, rfl, rfl, ?_⟩
        have e : cellsB (.int i) = decide (i ≤ 1000000000000) := by
          show decide (1 ≤ i ∧ i ≤ 1000000000000) = _
          by_cases h2 : i ≤ 1000000000000
          · rw [decide_eq_true ⟨h1, h2⟩, decide_eq_true h2]
          · rw [decide_eq_false fun z => h2 z.2, decide_eq_false h2]
        rw [e] at q
        exact q
      · have e : cellsB (.int i) = false := decide_eq_false fun z => h1 z.1
        rw [e] at q
        exact ifF (decide_eq_false h1) q
    | _ => exact iteF q
/-- an error's __init__ with one field -/
def spErr (C : Addr) (n : Str) : Sp := fun vs H Q _ => ∃ (a : Addr) (v : V), vs = [.ref a, v] ∧ H a = some (exo a C none) ∧ ∀ dx, H dx = none → dx ≠ a → Q .non (upd (upd H dx (exd dx [(n, v)])) a (exo a C (some dx)))
theorem sc___init__ : FnScope ["self", "value"] ["self", "value"] (defScope (inClass (top 5) 0)) := ⟨rfl, rfl, rfl, by decide +kernel, rfl, by decide +kernel, by decide +kernel⟩
theorem ok_err (T : Tx K mg) (F : FnP K "__init__" "InvalidNumber.__init__" (inClass (top 5) 0) f fd) : FnOk P w K mg base CX0 1 f fd ["self", "value"] (spErr (cN K) "value") := by
  refine F.ok sc___init__ (fun vs H Q E h => ?_) (fun cdv A outer s H vs Q E hr h => ⟨_, PSs.nox (pss_one (ps_ost (pv 0) (pv 1))), ?_⟩)
  · obtain ⟨a, v, rfl, _⟩ := h
    rfl
  · obtain ⟨a, v, rfl, ha, q⟩ := h
    exact ⟨_, rfl, _, rfl, a, cN K, rfl, T.ox, T.noV, .inl ⟨ha, q⟩⟩
/-- the error's maker, for a raise -/
structure Ei (P : Program) (w : World) (K : PySem.W.Frag) (mg : Str → Option Value) (base : Heap) : Prop where
  ex : ∃ fd, FnOk P w K mg base CX0 1 (He.ma K (cN K) "__init__") fd ["self", "value"] (spErr (cN K) "value") ∧ Binds K fd ["self", "value"] []
theorem heap_err {H : Hp} {a dx : Addr} {C : Addr} {fs : List (Str × V)} {o1 o2 o3 : HO} (ha : H a = none) (hd : H dx = none) : Same H (upd (del (upd (upd (upd H a o1) dx o2) a o3) a) dx (.xd fs)) := fun b o e => by
  have nb : b ≠ a := ne_of_none e ha
  have nd : b ≠ dx := ne_of_none e hd
  rw [upd_ne nd, del_ne nb, upd_ne nb, upd_ne nd, upd_ne nb]
  exact e
def spCheckC (K : PySem.W.Frag) : Sp := fun vs H Q E => ∃ v : V, vs = [v] ∧ Any H v ∧ (cellsB v = true → Q .non H) ∧ (cellsB v = false → ∀ d H', H d = none → Same H H' → H' d = some (.xd [("value", v)]) → E (.ref (cN K)) (some d) H')
theorem sc_check_cells : FnScope ["value"] ["value"] (defScope (top 11)) := ⟨rfl, rfl, rfl, by decide +kernel, rfl, by decide +kernel, by decide +kernel⟩
theorem ok_check_cells (T : Tx K mg) (D_is_cells : Df P w K mg base 2 "is_cells" ["value"] spCells) (M : Ei P w K mg base) (F : FnP K "check_cells" "check_cells" (top 11) f fd) : FnOk P w K mg base (L2.CX P w) 4 f fd ["value"] (spCheckC K) := by
  obtain ⟨fdI, FI, bI⟩ := M.ex
  refine F.ok sc_check_cells (fun vs H Q E h => ?_) (fun cdv A outer s H vs Q E hr h => ⟨_, pss_one (ps_if (pt_not (pt_val (pcall D_is_cells hr (pa_cons (pv 0) pa_nil)))) (pss_one (ps_raise rfl (takes_of (E := E) rfl rfl rfl rfl) (pmk_oex T.ox T.iN T.tI FI (hr.mono (by decide)) bI .nil pass0 rfl T.g_InvalidNumber (pa_cons (pv 0) pa_nil)))) pss_nil), ?_⟩)
  · obtain ⟨v, rfl, _⟩ := h
    rfl
  · obtain ⟨v, rfl, hv, q1, q2⟩ := h
    refine ⟨_, rfl, v, rfl, hv, _, rfl, ?_⟩
    cases e : cellsB v with
    | true => exact iteF (q1 e)
    | false =>
      refine iteT ⟨_, rfl, (by show 1 ≤ 1000; decide), fun a ha => ⟨a, v, rfl, upd_same, fun dx hdx ne => ⟨rfl, dx, [("value", v)], upd_same, ?_, ?_, ?_⟩⟩⟩
      · rw [upd_ne ne, upd_same]
      · rw [upd_ne ne] at hdx
        exact hdx
      · rw [upd_ne ne] at hdx
        exact q2 e dx _ hdx (heap_err (C := cN K) ha hdx) upd_same
end
end K14

set_option Elab.async false
set_option linter.all false
set_option maxRecDepth 100000
set_option maxHeartbeats 4000000
namespace K14
open PySem PySem.Spec PyProof.Rows L2 Gu Ex
/-- a list of sizes -/
structure Good (ns : List Int) : Prop where
  len : 1 ≤ ns.length ∧ ns.length ≤ 8
  one : ns[0]? = some 1
  rng : ∀ (i : Nat) x, ns[i]? = some x → 1 ≤ x ∧ x ≤ 1000000000
  up : ∀ (i : Nat) x y, ns[i]? = some x → ns[i + 1]? = some y → x < y ∧ y % x = 0
def szF (l : Addr) : List (Str × V) := [("size_list", V.ref l)]
theorem szF_get (l : Addr) : (szF l).lookup ("size_list" : Str) = some (.ref l) := by simp [szF, List.lookup]
theorem szF_no (l : Addr) {m : Str} (h : (m == ("size_list" : Str)) = false) : (szF l).lookup m = none := by simp [szF, List.lookup, h]
/-- at p an object of Sizes with the list ns -/
def SzAt (C : Addr) (H : Hp) (p : Addr) (ns : List Int) : Prop := ∃ dx l, H p = some (.ins C dx (szF l)) ∧ H l = some (.lst (ns.map V.int))
theorem putF_new (l : Addr) : putF "size_list" (V.ref l) [] = szF l := rfl
section
variable {P : Program} {w : World} {K : PySem.W.Frag} {mg : Str → Option Value} {base : Heap} {f : Addr} {fd : FuncData}
/-- a good list at a, a place in it -/
def spProblem (K : PySem.W.Frag) : Sp := fun vs H Q _ => ∃ (a : Addr) (ns : List Int) (p : Nat), vs = [.ref a, .int p] ∧ SqL K H a (ns.map V.int) ∧ Good ns ∧ p < ns.length ∧ Q .non H
theorem at_map {ns : List Int} {p : Nat} {x : Int} (h : ns[p]? = some x) : atI (ns.map V.int) (p : Int) = some (.int x) := atI_nat (by rw [List.getElem?_map, h]; rfl)
theorem sc_size_problem : FnScope ["values", "position", "size", "before"] ["values", "position"] (defScope (top 12)) := ⟨rfl, rfl, rfl, by decide +kernel, rfl, by decide +kernel, by decide +kernel⟩
theorem ok_size_problem (T : Tx K mg) (D_is_integer : Df P w K mg base 1 "is_integer" ["value"] spInt) (F : FnP K "size_problem" "size_problem" (top 12) f fd) :
    FnOk P w K mg base CX0 2 f fd ["values", "position"] (spProblem K) := by
  refine F.ok sc_size_problem (fun vs H Q E h => ?_) (fun cdv A outer s H vs Q E hr h => ⟨_, PSs.nox (pss_cons (ps_set (i := 2) sc_size_problem.nd rfl (by first | exact Or.inl rfl | exact Or.inr rfl) (pe_ix ix_list (pv 0) (pv 1) (fun _ _ => rfl))) (pss_cons (ps_if (PW.pt (pw_or (pt_not (pt_val (pcall D_is_integer hr (pa_cons (pv 2) pa_nil)))) (pw_or1 (pt_not (pt_chain op_le op_le pe_int (pv 2) (ClX.pe_cval (pe_glob (v := .ref _) rfl T.g_Sizes rfl))))))) (pss_one (ps_ret pe_str)) pss_nil) (pss_cons (ps_if (pt_cmpR op_eq (pv 1) pe_int (nomark _)) (pss_one (ps_ret (pe_ifExp (pt_cmpR op_eq (pv 2) pe_int (nomark _)) pe_non pe_str))) pss_nil) (pss_cons (ps_set (i := 3) sc_size_problem.nd rfl (by first | exact Or.inl rfl | exact Or.inr rfl) (pe_ix ix_list (pv 0) (pe_op op_sub (pv 1) pe_int) (fun _ _ => rfl))) (pss_cons (ps_if (PW.pt (pw_or (pt_cmpR op_le (pv 2) (pv 3) (nomark _)) (pw_or1 (pt_cmpR op_ne (pe_op op_mod (pv 2) (pv 3)) pe_int (nomark _))))) (pss_one (ps_ret pe_str)) pss_nil) (pss_one (ps_ret pe_non))))))), ?_⟩)
  · obtain ⟨a, ns, p, rfl, _⟩ := h
    rfl
  · obtain ⟨a, ns, p, rfl, hS, g, hp, q⟩ := h
    have hx : ns[p]? = some ns[p] := List.getElem?_eq_getElem hp
    obtain ⟨b1, b2⟩ := g.rng p _ hx
    obtain ⟨u, cS⟩ := T.cS
    refine ⟨_, rfl, _, rfl, a, _, _, _, rfl, rfl, hS, at_map hx, ?_⟩
    refine ⟨_, rfl, _, rfl, .int _, true, rfl, iteF ?_⟩
    refine ⟨_, rfl, _, _, rfl, rfl, true, bT b1, iteT ?_⟩
    refine ⟨_, _, _, _, rfl, T.rd, cS, _, _, rfl, rfl, true, bT b2, iteF ?_⟩
    by_cases h0 : p = 0
    · subst h0
      have e1 : ns[0] = 1 := Option.some.inj (hx.symm.trans g.one)
      exact ⟨_, rfl, rfl, _, rfl, ifT (vT rfl) ⟨_, rfl, rfl, _, rfl, ifT (vT e1) q⟩⟩
    · refine ⟨_, rfl, rfl, _, rfl, ifF (vF (by omega)) ?_⟩
      have hp1 : p - 1 < ns.length := by omega
      have hy : ns[p - 1]? = some ns[p - 1] := List.getElem?_eq_getElem hp1
      have hx2 : ns[p - 1 + 1]? = some ns[p] := by rw [show p - 1 + 1 = p by omega]; exact hx
      obtain ⟨u1, u2⟩ := g.up (p - 1) _ _ hy hx2
      have u3 := (g.rng _ _ hy).1
      refine ⟨_, rfl, _, rfl, _, _, rfl, rfl, a, _, _, _, rfl, rfl, hS, (by rw [show ((p : Int) - 1) = ((p - 1 : Nat) : Int) by omega]; exact at_map hy), ?_⟩
      refine ⟨_, rfl, _, rfl, _, _, rfl, rfl, false, bF (by omega), iteF ?_⟩
      refine ⟨_, rfl, _, rfl, _, _, rfl, rfl, (by show (0 : Int) < _; omega), rfl, false, ?_, iteF q⟩
      exact congrArg V.bl (by rw [vT u2]; rfl)
/-- a good list -/
def spCheck (K : PySem.W.Frag) : Sp := fun vs H Q _ => ∃ (a : Addr) (ns : List Int), vs = [.ref a] ∧ SqL K H a (ns.map V.int) ∧ TyX K H (.ref a) (.type "list") ∧ Good ns ∧ Q .non H
theorem sc_check_sizes : FnScope ["values", "position", "problem"] ["values"] (defScope (top 13)) := ⟨rfl, rfl, rfl, by decide +kernel, rfl, by decide +kernel, by decide +kernel⟩
theorem ok_check_sizes (T : Tx K mg) (D_size_problem : Df P w K mg base 2 "size_problem" ["values", "position"] (spProblem K)) (F : FnP K "check_sizes" "check_sizes" (top 13) f fd) :
    FnOk P w K mg base CX0 3 f fd ["values"] (spCheck K) := by
  refine F.ok sc_check_sizes (fun vs H Q E h => ?_) (fun cdv A outer s H vs Q E hr h => ⟨_, PSs.nox (pss_cons (ps_if (pt_not (pt_val (pe_callB call_isi (by rfl) T.n_isinstance (by decide +kernel) (pa_cons (pv 0) (pa_cons (pe_bltn (v := .ty "list") (by rfl) T.n_list (by decide +kernel) rfl) pa_nil))))) (pss_one ps_never) pss_nil) (pss_cons (ps_for PassesOwn.never rfl (pi_range1 rfl T.n_range (pa_cons (pe_callB call_len_seq (by rfl) T.n_len (by decide +kernel) (pa_cons (pv 0) pa_nil)) pa_nil)) (pg_name (i := 1) sc_check_sizes.nd rfl (by first | exact Or.inl rfl | exact Or.inr rfl)) (pss_cons (ps_set (i := 2) sc_check_sizes.nd rfl (by first | exact Or.inl rfl | exact Or.inr rfl) (pcall D_size_problem hr (pa_cons (pv 0) (pa_cons (pv 1) pa_nil)))) (pss_one (ps_if (pt_cmpR op_notN (pv 2) pe_non (nomark _)) (pss_one ps_never) pss_nil)))) (pss_one (ps_if (pt_not (pt_chain op_le op_le pe_int (pe_callB call_len_seq (by rfl) T.n_len (by decide +kernel) (pa_cons (pv 0) pa_nil)) (ClX.pe_cval (pe_glob (v := .ref _) rfl T.g_Sizes rfl)))) (pss_one ps_never) pss_nil)))), ?_⟩)
  · obtain ⟨a, ns, rfl, _⟩ := h
    rfl
  · obtain ⟨a, ns, rfl, hS, ty, g, q⟩ := h
    obtain ⟨u, cN⟩ := T.cN
    obtain ⟨l1, l2⟩ := g.len
    refine ⟨_, rfl, _, _, _, _, true, rfl, .ty "list", ty, kit_ty (by decide +kernel), true, rfl, iteF ?_⟩
    refine ⟨_, rfl, a, _, rfl, .inl hS, _, rfl, (by simp only [List.length_map]; omega), (by simp only [List.length_map]; omega), ?_⟩
    refine for_range (fun i σ H' => H' = H ∧ ∃ x y, σ = [some (.ref a), x, y]) ⟨rfl, none, none, rfl⟩ ?_ ?_
    · rintro i σ H' hi ⟨rfl, x, y, rfl⟩
      have hi2 : i < ns.length := by simpa using hi
      refine ⟨_, rfl, _, rfl, a, ns, i, (by rw [Int.zero_add]; rfl), hS, g, hi2, ?_⟩
      exact ⟨_, rfl, rfl, false, rfl, iteF ⟨rfl, _, _, rfl⟩⟩
    · rintro σ H' ⟨rfl, x, y, rfl⟩
      refine ⟨_, rfl, a, _, rfl, .inl hS, _, _, rfl, rfl, true, bT (by simp only [List.length_map]; omega), iteT ?_⟩
      exact ⟨_, _, _, _, rfl, T.rd, cN, _, _, rfl, rfl, true, bT (by simp only [List.length_map]; omega), iteF q⟩
def spMade (K : PySem.W.Frag) : Sp := fun vs H Q _ => ∃ (x dx a : Addr) (ns : List Int), vs = [.ref x, .ref a] ∧ H x = some (.ins (He.ga K "Sizes") dx []) ∧ SqL K H a (ns.map V.int) ∧ TyX K H (.ref a) (.type "list") ∧ Good ns ∧
  ∀ l, H l = none → Q .non (upd (upd H l (.lst (ns.map V.int))) x (.ins (He.ga K "Sizes") dx (szF l)))
theorem sc_Sizes_init : FnScope ["self", "values"] ["self", "values"] (defScope (inClass (top 14) 4)) := ⟨rfl, rfl, rfl, by decide +kernel, rfl, by decide +kernel, by decide +kernel⟩
theorem ok_init (T : Tx K mg) (D_check_sizes : Df P w K mg base 3 "check_sizes" ["values"] (spCheck K)) (F : FnP K "__init__" "Sizes.__init__" (inClass (top 14) 4) f fd) :
    FnOk P w K mg base CX0 4 f fd ["self", "values"] (spMade K) := by
  refine F.ok sc_Sizes_init (fun vs H Q E h => ?_) (fun cdv A outer s H vs Q E hr h => ⟨_, PSs.nox (pss_cons (ps_expr (pcall D_check_sizes hr (pa_cons (pv 1) pa_nil))) (pss_one (ps_fld (pv 0) (pe_callTy call_list_of (by rfl) T.n_list (by decide +kernel) (pa_cons (pv 1) pa_nil)) rfl))), ?_⟩)
  · obtain ⟨x, dx, a, ns, rfl, _⟩ := h
    rfl
  · obtain ⟨x, dx, a, ns, rfl, hx, hS, ty, g, q⟩ := h
    refine ⟨_, rfl, a, ns, rfl, hS, ty, g, ?_⟩
    refine ⟨_, rfl, a, _, rfl, .inl hS, fun l hl => ?_⟩
    refine ⟨_, rfl, x, He.ga K "Sizes", dx, [], rfl, (by rw [upd_ne (ne_of_none hx hl)]; exact hx), T.cl, T.nSL, (by show 0 < 1000; decide), ?_⟩
    exact q l hl
def spTop (K : PySem.W.Frag) : Sp := fun vs H Q _ => ∃ (p : Addr) (ns : List Int), vs = [.ref p] ∧ SzAt (He.ga K "Sizes") H p ns ∧ Q (.int ((ns.length : Int) - 1)) H
theorem sc_top : FnScope ["self"] ["self"] (defScope (inClass (top 14) 10)) := ⟨rfl, rfl, rfl, by decide +kernel, rfl, by decide +kernel, by decide +kernel⟩
theorem ok_top (T : Tx K mg) (F : FnP K "top" "Sizes.top" (inClass (top 14) 10) f fd) : FnOk P w K mg base CX0 1 f fd ["self"] (spTop K) := by
  refine F.ok sc_top (fun vs H Q E h => ?_) (fun cdv A outer s H vs Q E hr h => ⟨_, PSs.nox (pss_one (ps_ret (pe_op op_sub (pe_callB call_len_seq (by rfl) T.n_len (by decide +kernel) (pa_cons (pe_fld (pv 0) rfl) pa_nil)) pe_int))), ?_⟩)
  · obtain ⟨p, ns, rfl, _⟩ := h
    rfl
  · obtain ⟨p, ns, rfl, ⟨dx, l, h1, h2⟩, q⟩ := h
    refine ⟨_, rfl, p, _, dx, _, _, rfl, h1, T.cl, T.nSL, szF_get l, l, _, rfl, .inl (SqL.of h2), _, _, rfl, rfl, ?_⟩
    rw [List.length_map]
    exact q
/-- is it a level? -/
def lvB (n : Nat) : V → Bool
  | .int i => decide (0 ≤ i ∧ i < n)
  | _ => false
def spHas (K : PySem.W.Frag) : Sp := fun vs H Q _ => ∃ (p : Addr) (ns : List Int) (v : V), vs = [.ref p, v] ∧ SzAt (He.ga K "Sizes") H p ns ∧ Any H v ∧ Q (.bl (lvB ns.length v)) H
theorem sc_has_level : FnScope ["self", "level"] ["self", "level"] (defScope (inClass (top 14) 12)) := ⟨rfl, rfl, rfl, by decide +kernel, rfl, by decide +kernel, by decide +kernel⟩
theorem ok_has (T : Tx K mg) (D_is_integer : Df P w K mg base 1 "is_integer" ["value"] spInt) (P_top : Pf P w K mg base 1 "Sizes" "top" (spTop K)) (F : FnP K "has_level" "Sizes.has_level" (inClass (top 14) 12) f fd) :
    FnOk P w K mg base CX0 3 f fd ["self", "level"] (spHas K) := by
  refine F.ok sc_has_level (fun vs H Q E h => ?_) (fun cdv A outer s H vs Q E hr h => ⟨_, PSs.nox (pss_one (ps_ret (pe_and (pcall D_is_integer hr (pa_cons (pv 1) pa_nil)) (pe_one (pe_chain op_le op_le pe_int (pv 1) (pprop P_top hr (pv 0))))))), ?_⟩)
  · obtain ⟨p, ns, v, rfl, _⟩ := h
    rfl
  · obtain ⟨p, ns, v, rfl, hz, hv, q⟩ := h
    obtain ⟨dx, l, h1, h2⟩ := id hz
    refine ⟨_, rfl, v, rfl, hv, _, rfl, ?_⟩
    cases v with
    | int i =>
      refine iteT ⟨_, rfl, _, _, rfl, rfl, _, rfl, ?_⟩
      by_cases h0 : (0 : Int) ≤ i
      · refine ifT (decide_eq_true h0) ⟨_, rfl, p, dx, _, rfl, h1, p, ns, rfl, hz, _, _, rfl, rfl, ?_⟩
        have e : lvB ns.length (.int i) = decide (i ≤ (ns.length : Int) - 1) := by
          show decide (0 ≤ i ∧ i < (ns.length : Int)) = _
          by_cases h2 : i ≤ (ns.length : Int) - 1
          · rw [decide_eq_true h2, decide_eq_true ⟨h0, by omega⟩]
          · rw [decide_eq_false h2, decide_eq_false fun z => h2 (by omega)]
        rw [e] at q
        exact q
      · have e : lvB ns.length (.int i) = false := decide_eq_false fun z => h0 z.1
        rw [e] at q
        exact ifF (decide_eq_false h0) q
    | _ => exact iteF q
def spCheckL (K : PySem.W.Frag) : Sp := fun vs H Q _ => ∃ (p : Addr) (ns : List Int) (i : Nat), vs = [.ref p, .int i] ∧ SzAt (He.ga K "Sizes") H p ns ∧ i < ns.length ∧ Q .non H
theorem sc_check_level : FnScope ["self", "level"] ["self", "level"] (defScope (inClass (top 14) 13)) := ⟨rfl, rfl, rfl, by decide +kernel, rfl, by decide +kernel, by decide +kernel⟩
theorem ok_check_level (T : Tx K mg) (M_has_level : Mf P w K mg base 3 "Sizes" "has_level" ["self", "level"] (spHas K)) (F : FnP K "check_level" "Sizes.check_level" (inClass (top 14) 13) f fd) :
    FnOk P w K mg base CX0 4 f fd ["self", "level"] (spCheckL K) := by
  refine F.ok sc_check_level (fun vs H Q E h => ?_) (fun cdv A outer s H vs Q E hr h => ⟨_, PSs.nox (pss_one (ps_if (pt_not (pt_val (pmeth M_has_level hr (pv 0) (pa_cons (pv 1) pa_nil)))) (pss_one ps_never) pss_nil)), ?_⟩)
  · obtain ⟨p, ns, i, rfl, _⟩ := h
    rfl
  · obtain ⟨p, ns, i, rfl, hz, hi, q⟩ := h
    obtain ⟨dx, l, h1, h2⟩ := id hz
    have e : lvB ns.length (.int (i : Int)) = true := decide_eq_true ⟨by omega, by omega⟩
    refine ⟨_, rfl, p, dx, _, rfl, h1, szF_no l (by decide +kernel), _, rfl, p, ns, _, rfl, hz, .int _, _, rfl, ?_⟩
    rw [e]
    exact iteF q
def spSize (K : PySem.W.Frag) : Sp := fun vs H Q _ => ∃ (p : Addr) (ns : List Int) (i : Nat) (x : Int), vs = [.ref p, .int i] ∧ SzAt (He.ga K "Sizes") H p ns ∧ ns[i]? = some x ∧ Q (.int x) H
theorem sc_size : FnScope ["self", "level"] ["self", "level"] (defScope (inClass (top 14) 14)) := ⟨rfl, rfl, rfl, by decide +kernel, rfl, by decide +kernel, by decide +kernel⟩
theorem ok_size (T : Tx K mg) (M_check_level : Mf P w K mg base 4 "Sizes" "check_level" ["self", "level"] (spCheckL K)) (F : FnP K "size" "Sizes.size" (inClass (top 14) 14) f fd) :
    FnOk P w K mg base CX0 5 f fd ["self", "level"] (spSize K) := by
  refine F.ok sc_size (fun vs H Q E h => ?_) (fun cdv A outer s H vs Q E hr h => ⟨_, PSs.nox (pss_cons (ps_expr (pmeth M_check_level hr (pv 0) (pa_cons (pv 1) pa_nil))) (pss_one (ps_ret (pe_ix ix_list (pe_fld (pv 0) rfl) (pv 1) (fun _ _ => rfl))))), ?_⟩)
  · obtain ⟨p, ns, i, x, rfl, _⟩ := h
    rfl
  · obtain ⟨p, ns, i, x, rfl, hz, hx, q⟩ := h
    obtain ⟨dx, l, h1, h2⟩ := id hz
    refine ⟨_, rfl, p, dx, _, rfl, h1, szF_no l (by decide +kernel), _, rfl, p, ns, i, rfl, hz, (List.getElem?_eq_some_iff.mp hx).1, ?_⟩
    exact ⟨_, rfl, p, _, dx, _, _, rfl, h1, T.cl, T.nSL, szF_get l, _, rfl, l, _, _, _, rfl, rfl, SqL.of h2, at_map hx, q⟩
def spAll (K : PySem.W.Frag) : Sp := fun vs H Q _ => ∃ (p : Addr) (ns : List Int), vs = [.ref p] ∧ SzAt (He.ga K "Sizes") H p ns ∧ ∀ l, H l = none → Q (.ref l) (upd H l (.lst (ns.map V.int)))
theorem sc_all_sizes : FnScope ["self"] ["self"] (defScope (inClass (top 14) 11)) := ⟨rfl, rfl, rfl, by decide +kernel, rfl, by decide +kernel, by decide +kernel⟩
theorem ok_all (T : Tx K mg) (F : FnP K "all_sizes" "Sizes.all_sizes" (inClass (top 14) 11) f fd) : FnOk P w K mg base CX0 1 f fd ["self"] (spAll K) := by
  refine F.ok sc_all_sizes (fun vs H Q E h => ?_) (fun cdv A outer s H vs Q E hr h => ⟨_, PSs.nox (pss_one (ps_ret (pe_callTy call_list_of (by rfl) T.n_list (by decide +kernel) (pa_cons (pe_fld (pv 0) rfl) pa_nil)))), ?_⟩)
  · obtain ⟨p, ns, rfl, _⟩ := h
    rfl
  · obtain ⟨p, ns, rfl, ⟨dx, l, h1, h2⟩, q⟩ := h
    exact ⟨_, rfl, p, _, dx, _, _, rfl, h1, T.cl, T.nSL, szF_get l, l, _, rfl, .inl (SqL.of h2), q⟩
def addrB : V → Bool
  | .int i => decide (0 ≤ i)
  | _ => false
def spAddr : Sp := fun vs H Q _ => ∃ v : V, vs = [v] ∧ Any H v ∧ Q (.bl (addrB v)) H
theorem sc_is_address : FnScope ["value"] ["value"] (defScope (top 16)) := ⟨rfl, rfl, rfl, by decide +kernel, rfl, by decide +kernel, by decide +kernel⟩
theorem ok_is_address (T : Tx K mg) (D_is_integer : Df P w K mg base 1 "is_integer" ["value"] spInt) (F : FnP K "is_address" "is_address" (top 16) f fd) : FnOk P w K mg base CX0 2 f fd ["value"] spAddr := by
  refine F.ok sc_is_address (fun vs H Q E h => ?_) (fun cdv A outer s H vs Q E hr h => ⟨_, PSs.nox (pss_one (ps_ret (pe_and (pcall D_is_integer hr (pa_cons (pv 0) pa_nil)) (pe_one (pe_cmpR op_ge (pv 0) pe_int (nomark _)))))), ?_⟩)
  · obtain ⟨v, rfl, _⟩ := h
    rfl
  · obtain ⟨v, rfl, hv, q⟩ := h
    refine ⟨_, rfl, v, rfl, hv, _, rfl, ?_⟩
    cases v with
    | int i => exact iteT ⟨_, rfl, _, _, rfl, rfl, q⟩
    | _ => exact iteF q
def spBelow (K : PySem.W.Frag) : Sp := fun vs H Q _ => ∃ (p : Addr) (ns : List Int) (i : Nat) (x a e : Int), vs = [.ref p, .int i, .int a, .int e] ∧ SzAt (He.ga K "Sizes") H p ns ∧ ns[i]? = some x ∧ 1 ≤ x ∧ Q (.bl (decide (a % x = 0 ∧ a + x ≤ e))) H
theorem sc_lies_below : FnScope ["sizes", "level", "address", "end", "size"] ["sizes", "level", "address", "end"] (defScope (top 17)) := ⟨rfl, rfl, rfl, by decide +kernel, rfl, by decide +kernel, by decide +kernel⟩
theorem ok_below (T : Tx K mg) (M_size : Mf P w K mg base 5 "Sizes" "size" ["self", "level"] (spSize K)) (F : FnP K "lies_below" "lies_below" (top 17) f fd) : FnOk P w K mg base CX0 6 f fd ["sizes", "level", "address", "end"] (spBelow K) := by
  refine F.ok sc_lies_below (fun vs H Q E h => ?_) (fun cdv A outer s H vs Q E hr h => ⟨_, PSs.nox (pss_cons (ps_set (i := 4) sc_lies_below.nd rfl (by first | exact Or.inl rfl | exact Or.inr rfl) (pmeth M_size hr (pv 0) (pa_cons (pv 1) pa_nil))) (pss_one (ps_ret (pe_and (pe_cmpR op_eq (pe_op op_mod (pv 2) (pv 4)) pe_int (nomark _)) (pe_one (pe_cmpR op_le (pe_op op_add (pv 2) (pv 4)) (pv 3) (nomark _))))))), ?_⟩)
  · obtain ⟨p, ns, i, x, a, e, rfl, _⟩ := h
    rfl
  · obtain ⟨p, ns, i, x, a, e, rfl, hz, hx, x1, q⟩ := h
    obtain ⟨dx, l, h1, h2⟩ := id hz
    refine ⟨_, rfl, p, dx, _, rfl, h1, szF_no l (by decide +kernel), _, rfl, p, ns, i, x, rfl, hz, hx, ?_⟩
    refine ⟨_, rfl, _, rfl, _, _, rfl, rfl, (by show (0 : Int) < x; omega), rfl, _, rfl, ?_⟩
    by_cases h0 : a % x = 0
    · refine ifT (vT h0) ⟨_, rfl, _, rfl, _, _, rfl, rfl, _, rfl, _, _, rfl, rfl, ?_⟩
      have z : decide (a % x = 0 ∧ a + x ≤ e) = decide (a + x ≤ e) := by
        by_cases h3 : a + x ≤ e
        · rw [decide_eq_true h3, decide_eq_true ⟨h0, h3⟩]
        · rw [decide_eq_false h3, decide_eq_false fun z => h3 z.2]
      rw [z] at q
      exact q
    · have z : decide (a % x = 0 ∧ a + x ≤ e) = false := decide_eq_false fun z => h0 z.1
      rw [z] at q
      exact ifF (vF h0) q
/-- is it a region? -/
def regB (ns : List Int) (L lv ad : V) : Bool := match L, lv, ad with
  | .int e, .int i, .int a => decide (0 ≤ i ∧ i < (ns.length : Int)) && (decide (0 ≤ a) && decide (a % (ns.getD i.toNat 0) = 0 ∧ a + ns.getD i.toNat 0 ≤ e))
  | _, _, _ => false
def spRegion (K : PySem.W.Frag) : Sp := fun vs H Q E => ∃ (p : Addr) (ns : List Int) (L lv ad : V), vs = [.ref p, L, lv, ad] ∧ SzAt (He.ga K "Sizes") H p ns ∧ Good ns ∧ Any H L ∧ Any H lv ∧ Any H ad ∧
  (cellsB L = true → Q (.bl (regB ns L lv ad)) H) ∧ (cellsB L = false → ∀ d H', H d = none → Same H H' → H' d = some (.xd [("value", L)]) → E (.ref (K14.cN K)) (some d) H')
theorem sc_is_region : FnScope ["sizes", "length", "level", "address"] ["sizes", "length", "level", "address"] (defScope (top 18)) := ⟨rfl, rfl, rfl, by decide +kernel, rfl, by decide +kernel, by decide +kernel⟩
theorem ok_is_region (T : Tx K mg) (D_check_cells : DfX P w K mg base 4 "check_cells" ["value"] (spCheckC K)) (M_has_level : Mf P w K mg base 3 "Sizes" "has_level" ["self", "level"] (spHas K)) (D_is_address : Df P w K mg base 2 "is_address" ["value"] spAddr)
    (D_lies_below : Df P w K mg base 6 "lies_below" ["sizes", "level", "address", "end"] (spBelow K)) (F : FnP K "is_region" "is_region" (top 18) f fd) : FnOk P w K mg base (L2.CX P w) 7 f fd ["sizes", "length", "level", "address"] (spRegion K) := by
  refine F.ok sc_is_region (fun vs H Q E h => ?_) (fun cdv A outer s H vs Q E hr h => ⟨_, (pss_cons (ps_expr (pcallX D_check_cells hr (takes_of (E := E) rfl rfl rfl rfl) (pa_cons (pv 1) pa_nil))) (pss_one (ps_ret (pe_and (pmeth M_has_level hr (pv 0) (pa_cons (pv 2) pa_nil)) (pe_and (pcall D_is_address hr (pa_cons (pv 3) pa_nil)) (pe_one (pcall D_lies_below hr (pa_cons (pv 0) (pa_cons (pv 2) (pa_cons (pv 3) (pa_cons (pv 1) pa_nil))))))))))), ?_⟩)
  · obtain ⟨p, ns, L, lv, ad, rfl, _⟩ := h
    rfl
  · obtain ⟨p, ns, L, lv, ad, rfl, hz, g, aL, al, aa, q1, q2⟩ := h
    obtain ⟨dx, l, h1, h2⟩ := id hz
    refine ⟨_, rfl, L, rfl, aL, fun hc => ?_, q2⟩
    have q := q1 hc
    refine ⟨_, rfl, p, dx, _, rfl, h1, szF_no l (by decide +kernel), _, rfl, p, ns, lv, rfl, hz, al, _, rfl, ?_⟩
    obtain ⟨e, rfl⟩ : ∃ e, L = .int e := by
      cases L with
      | int e => exact ⟨e, rfl⟩
      | _ => cases hc
    cases elv : lvB ns.length lv with
    | false =>
      have z : regB ns (.int e) lv ad = false := by
        cases lv with
        | int i =>
          cases ad with
          | int a =>
            show (decide (0 ≤ i ∧ i < (ns.length : Int)) && _) = false
            rw [show decide (0 ≤ i ∧ i < (ns.length : Int)) = false from elv, Bool.false_and]
          | _ => rfl
        | _ => rfl
      rw [z] at q
      exact iteF q
    | true =>
      obtain ⟨i, rfl⟩ : ∃ i, lv = .int i := by
        cases lv with
        | int i => exact ⟨i, rfl⟩
        | _ => cases elv
      have hi : 0 ≤ i ∧ i < (ns.length : Int) := of_decide_eq_true elv
      obtain ⟨n, rfl⟩ := Int.eq_ofNat_of_zero_le hi.1
      have hn : n < ns.length := by omega
      have hx : ns[n]? = some ns[n] := List.getElem?_eq_getElem hn
      refine iteT ⟨_, rfl, ad, rfl, aa, _, rfl, ?_⟩
      cases ead : addrB ad with
      | false =>
        have z : regB ns (.int e) (.int n) ad = false := by
          cases ad with
          | int a =>
            show (_ && (decide (0 ≤ a) && _)) = false
            rw [show decide (0 ≤ a) = false from ead, Bool.false_and, Bool.and_false]
          | _ => rfl
        rw [z] at q
        exact iteF q
      | true =>
        obtain ⟨a, rfl⟩ : ∃ a, ad = .int a := by
          cases ad with
          | int a => exact ⟨a, rfl⟩
          | _ => cases ead
        refine iteT ⟨_, rfl, _, rfl, _, rfl, _, rfl, p, ns, n, ns[n], a, e, rfl, hz, hx, (g.rng _ _ hx).1, ?_⟩
        have gd : ns.getD ((n : Nat) : Int).toNat 0 = ns[n] := by
          rw [Int.toNat_natCast, List.getD_eq_getElem?_getD, hx]
          rfl
        have z : regB ns (.int e) (.int n) (.int a) = decide (a % ns[n] = 0 ∧ a + ns[n] ≤ e) := by
          show (decide (0 ≤ (n : Int) ∧ (n : Int) < (ns.length : Int)) && (decide (0 ≤ a) && decide (a % (ns.getD ((n : Nat) : Int).toNat 0) = 0 ∧ a + ns.getD ((n : Nat) : Int).toNat 0 ≤ e))) = _
          rw [decide_eq_true hi, show decide (0 ≤ a) = true from ead, Bool.true_and, Bool.true_and, gd]
        rw [z] at q
        exact q
end
end K14

set_option Elab.async false
set_option linter.all false
set_option maxRecDepth 100000
set_option maxHeartbeats 4000000
namespace K14
open PySem PySem.Spec PyProof.Rows L2 Gu Ex
/-- the drawing list at r -/
def Rng (H : Hp) (r : Addr) : Prop := ∃ a b : Int, H r = some (.lst [.int a, .int b]) ∧ 0 ≤ a ∧ 0 ≤ b ∧ b < 2147483587
/-- only the drawing list at r may have changed -/
def Stp (r : Addr) (H H' : Hp) : Prop := Rng H' r ∧ ∀ b o, b ≠ r → H b = some o → H' b = some o
theorem Stp.trans {r : Addr} {H H1 H2 : Hp} (a : Stp r H H1) (b : Stp r H1 H2) : Stp r H H2 := ⟨b.1, fun c o n e => b.2 c o n (a.2 c o n e)⟩
theorem Stp.refl {r : Addr} {H : Hp} (h : Rng H r) : Stp r H H := ⟨h, fun _ _ _ e => e⟩
/-- the ways of a choice come together: what holds of every value -/
theorem join {α : Type} {G : Prop} (Pc : α → Prop) {R : α → Prop} (h1 : (∀ c, Pc c → R c) → G) (h2 : ∀ c, Pc c → R c) : G := h1 h2
theorem Rng.ne {H : Hp} {r p : Addr} (h : Rng H r) (hp : H p = none) : r ≠ p := fun z => by
  obtain ⟨_, _, e, _⟩ := h
  rw [z, hp] at e
  cases e
theorem Stp.new {r p : Addr} {H H1 : Hp} {o : HO} (a : Stp r H H1) (hp : H1 p = none) : Stp r H (upd H1 p o) := by
  obtain ⟨⟨x, y, e, z⟩, k⟩ := a
  refine ⟨⟨x, y, ?_, z⟩, fun b u n e2 => ?_⟩
  · rw [upd_ne (ne_of_none e hp)]
    exact e
  · rw [upd_ne (ne_of_none (k b u n e2) hp)]
    exact k b u n e2
theorem Stp.free {r p : Addr} {H H1 : Hp} (a : Stp r H H1) (h : H1 p = none) : H p = none := by
  cases e : H p with
  | none => rfl
  | some o =>
    have n : p ≠ r := fun z => (a.1.ne h) z.symm
    rw [a.2 p o n e] at h
    cases h
section
variable {P : Program} {w : World} {K : PySem.W.Frag} {mg : Str → Option Value} {base : Heap} {f : Addr} {fd : FuncData}
def spRng (K : PySem.W.Frag) : Sp := fun vs H Q _ => ∃ (a : Addr) (ns : List Int) (k : Nat), vs = [.ref a, .int k] ∧ SqL K H a (ns.map V.int) ∧ k ≤ 63 ∧ ∀ p H', H p = none → Same H H' → Rng H' p → Q (.ref p) H'
theorem sc__law_rng : FnScope ["_law_script", "_law_k", "_law_cell"] ["_law_script", "_law_k"] (defScope (top 20)) := ⟨rfl, rfl, rfl, by decide +kernel, rfl, by decide +kernel, by decide +kernel⟩
theorem ok_rng (T : Tx K mg) (F : FnP K "_law_rng" "_law_rng" (top 20) f fd) : FnOk P w K mg base CX0 1 f fd ["_law_script", "_law_k"] (spRng K) := by
  refine F.ok sc__law_rng (fun vs H Q E h => ?_) (fun cdv A outer s H vs Q E hr h => ⟨_, PSs.nox (pss_cons (ps_set (i := 2) sc__law_rng.nd rfl (by first | exact Or.inl rfl | exact Or.inr rfl) (pe_ifExp (pt_cmpR op_lt (pv 1) (pe_callB call_len_seq (by rfl) T.n_len (by decide +kernel) (pa_cons (pv 0) pa_nil)) (nomark _)) (pe_callB call_abs (by rfl) T.n_abs (by decide +kernel) (pa_cons (pe_ix ix_list (pv 0) (pv 1) (fun _ _ => rfl)) pa_nil)) pe_int)) (pss_one (ps_ret (pe_lst (pa_cons (pe_callB (call_max2 rfl) (by rfl) T.n_max (by decide +kernel) (pa_cons pe_int (pa_cons (pe_op op_sub (pv 2) (pe_op op_pow pe_int pe_int)) pa_nil))) (pa_cons (pe_op op_add (pe_op op_mod (pe_op op_pow (pe_op op_add (pe_op op_add (pe_op op_mod (pv 2) pe_int) (pe_op op_mul pe_int (pv 1))) pe_int) pe_int) pe_int) pe_int) pa_nil)))))), ?_⟩)
  · obtain ⟨a, ns, k, rfl, _⟩ := h
    rfl
  · obtain ⟨a, ns, k, rfl, hS, hk, q⟩ := h
    refine join (fun c : Int => 0 ≤ c) (R := ?R) (fun tail => ?main) ?tl
    case main =>
      refine ⟨_, rfl, _, rfl, a, _, rfl, .inl hS, _, _, rfl, rfl, _, rfl, ?_⟩
      by_cases hl : (k : Int) < (((ns.map V.int).length : Nat) : Int)
      · have hk2 : k < ns.length := by rw [List.length_map] at hl; omega
        refine ifT (decide_eq_true hl) ?_
        refine ⟨_, rfl, _, rfl, a, _, _, _, rfl, rfl, hS, at_map (List.getElem?_eq_getElem hk2), _, rfl, ?_⟩
        obtain ⟨c, hc, ec⟩ : ∃ c : Int, 0 ≤ c ∧ (if ns[k] < 0 then -ns[k] else ns[k]) = c := ⟨if ns[k] < 0 then -ns[k] else ns[k], by split <;> omega, rfl⟩
        rw [ec]
        exact tail c hc
      · refine ifF (decide_eq_false hl) ?_
        exact tail 0 (by decide)
    case tl =>
      intro c hc
      have c0 := Int.emod_nonneg c (show (2147483543 : Int) ≠ 0 by decide)
      have c1 := Int.emod_lt_of_pos c (show (0 : Int) < 2147483543 by decide)
      refine ⟨_, rfl, _, _, rfl, rfl, ⟨by decide, by decide, by decide⟩, _, _, rfl, rfl, _, _, rfl, ?_⟩
      refine ⟨_, rfl, _, _, rfl, rfl, (by show (0 : Int) < 2147483543; decide), _, rfl, _, _, rfl, rfl, .inl ⟨by decide, by decide⟩, _, _, rfl, rfl, _, _, rfl, rfl, _, _, rfl, rfl, ⟨by decide, by decide, by omega⟩, _, _, rfl, rfl, (by show (0 : Int) < 2147483497; decide), _, _, rfl, rfl, ?_⟩
      refine ⟨(by show 2 ≤ sizeLine; decide), fun p hp => q p _ hp (fun b o e => by rw [upd_ne (ne_of_none e hp)]; exact e) ⟨_, _, upd_same, ?_, ?_, ?_⟩⟩
      · split <;> omega
      · have := Int.emod_nonneg ((c % 2147483543 + 101 * (k : Int) + 7) ^ (2 : Int).toNat) (show (2147483497 : Int) ≠ 0 by decide)
        omega
      · have := Int.emod_lt_of_pos ((c % 2147483543 + 101 * (k : Int) + 7) ^ (2 : Int).toNat) (show (0 : Int) < 2147483497 by decide)
        omega
def spDraw : Sp := fun vs H Q _ => ∃ (r : Addr) (m : Int), vs = [.ref r, .int m] ∧ Rng H r ∧ 1 ≤ m ∧ m ≤ 10 ^ 40 ∧ ∀ d H', 0 ≤ d → d < m → Stp r H H' → Q (.int d) H'
theorem sc__law_draw : FnScope ["_law_rng_here", "_law_many", "_law_mixed", "_law_digit"] ["_law_rng_here", "_law_many"] (defScope (top 21)) := ⟨rfl, rfl, rfl, by decide +kernel, rfl, by decide +kernel, by decide +kernel⟩
theorem ok_draw (T : Tx K mg) (F : FnP K "_law_draw" "_law_draw" (top 21) f fd) : FnOk P w K mg base CX0 1 f fd ["_law_rng_here", "_law_many"] spDraw := by
  refine F.ok sc__law_draw (fun vs H Q E h => ?_) (fun cdv A outer s H vs Q E hr h => ⟨_, PSs.nox (pss_cons (ps_if (pt_cmpR op_gt (pe_ix ix_list (pv 0) pe_int (fun _ _ => rfl)) pe_int (nomark _)) (pss_cons (ps_asg (pe_callB call_divmodW (by rfl) T.n_divmod (by decide +kernel) (pa_cons (pe_ix ix_list (pv 0) pe_int (fun _ _ => rfl)) (pa_cons (pv 1) pa_nil))) (pg_tup (by rfl) (pgs_cons (pg_sub (pv 0) pe_int set_list) (pgs_cons (pg_name (i := 3) sc__law_draw.nd rfl (by first | exact Or.inl rfl | exact Or.inr rfl)) pgs_nil)))) (pss_one (ps_ret (pv 3)))) pss_nil) (pss_cons (ps_asg (pe_op op_mod (pe_op op_add (pe_op op_mul (pe_ix ix_list (pv 0) pe_int (fun _ _ => rfl)) pe_int) pe_int) pe_int) (pg_sub (pv 0) pe_int set_list)) (pss_cons (ps_set (i := 2) sc__law_draw.nd rfl (by first | exact Or.inl rfl | exact Or.inr rfl) (pe_op op_fdivW (pe_op op_mod (pe_op op_mul (pe_ix ix_list (pv 0) pe_int (fun _ _ => rfl)) (pe_ix ix_list (pv 0) pe_int (fun _ _ => rfl))) pe_int) pe_int)) (pss_one (ps_ret (pe_ifExp (pt_cmpR op_lt (pv 1) (pe_op op_pow pe_int pe_int) (nomark _)) (pe_op op_mod (pv 2) (pv 1)) (pe_op op_mod (pe_op op_mul (pe_op op_add (pe_op op_mul (pv 2) pe_int) (pe_ix ix_list (pv 0) pe_int (fun _ _ => rfl))) pe_int) (pv 1)))))))), ?_⟩)
  · obtain ⟨r, m, rfl, _⟩ := h
    rfl
  · obtain ⟨r, m, rfl, ⟨a, b, hR, ha, hb, hb2⟩, m1, m2, q⟩ := h
    have mb : m.natAbs < 2 ^ 200 := by
      have : (10 : Int) ^ 40 < 2 ^ 200 := by decide
      have e : ((2 : Nat) ^ 200 : Nat) = ((2 : Int) ^ 200).natAbs := by decide
      omega
    refine ⟨_, rfl, r, _, _, _, rfl, rfl, SqL.of hR, rfl, _, _, rfl, rfl, _, rfl, ?_⟩
    by_cases h0 : 0 < a
    · refine ifT (decide_eq_true h0) ?_
      refine ⟨_, rfl, r, _, _, _, rfl, rfl, SqL.of hR, rfl, _, rfl, _, _, rfl, ⟨by omega, PyProof.noPylong_of_log2 (Nat.lt_of_lt_of_le (PySem.Flt.log2_lt_of (by decide) mb) (by decide))⟩, fun p hp => ?_⟩
      have nrp : r ≠ p := ne_of_none hR hp
      have hR2 : (upd H p (.tup [.int (a / m), .int (a % m)])) r = some (.lst [.int a, .int b]) := by rw [upd_ne nrp]; exact hR
      refine ⟨p, _, rfl, .inl (.inl upd_same), rfl, _, _, rfl, _, rfl, r, _, _, 0, rfl, rfl, hR2, rfl, _, _, rfl, rfl, ?_⟩
      refine ⟨_, rfl, q _ _ (Int.emod_nonneg _ (by omega)) (Int.emod_lt_of_pos _ (by omega)) ⟨⟨a / m, b, upd_same, Int.ediv_nonneg (by omega) (by omega), hb, hb2⟩, fun c o n e => ?_⟩⟩
      rw [upd_ne n, upd_ne (ne_of_none e hp)]
      exact e
    · refine ifF (decide_eq_false h0) ?_
      have b0 := Int.emod_nonneg (b * 48271 + 10007) (show (2147483587 : Int) ≠ 0 by decide)
      have b1 := Int.emod_lt_of_pos (b * 48271 + 10007) (show (0 : Int) < 2147483587 by decide)
      refine ⟨_, rfl, r, _, _, _, rfl, rfl, SqL.of hR, rfl, _, _, rfl, rfl, .inr ⟨by decide, by decide⟩, _, _, rfl, rfl, _, _, rfl, rfl, (by show (0 : Int) < 2147483587; decide), _, rfl, r, _, _, 1, rfl, rfl, hR, rfl, ?_⟩
      dsimp only
      generalize hB : (b * 48271 + 10007) % 2147483587 = B at *
      have hR2 : (upd H r (.lst [.int a, .int B])) r = some (.lst [.int a, .int B]) := upd_same
      have st : Stp r H (upd H r (.lst [.int a, .int B])) := ⟨⟨a, B, upd_same, ha, b0, b1⟩, fun c o n e => by rw [upd_ne n]; exact e⟩
      refine ⟨_, rfl, r, _, _, _, rfl, rfl, SqL.of hR2, rfl, _, rfl, r, _, _, _, rfl, rfl, SqL.of hR2, rfl, _, _, rfl, rfl, .inl ⟨by omega, by omega⟩, _, _, rfl, rfl, (by show (0 : Int) < 2147483549; decide), _, _, rfl, rfl, wide_div (b := 64) (by decide) (by decide) (by decide) (by decide), ?_⟩
      refine ⟨_, rfl, _, _, rfl, rfl, ⟨by decide, by decide, by decide⟩, _, _, rfl, rfl, _, rfl, ite2 (fun _ => ?_) (fun _ => ?_)⟩
      · exact ⟨_, rfl, _, rfl, _, _, rfl, rfl, (by show (0 : Int) < m; omega), q _ _ (Int.emod_nonneg _ (by omega)) (Int.emod_lt_of_pos _ (by omega)) st⟩
      · refine ⟨_, rfl, _, _, rfl, rfl, .inr ⟨by decide, by decide⟩, _, rfl, r, _, _, _, rfl, rfl, SqL.of hR2, rfl, _, _, rfl, rfl, _, _, rfl, rfl, .inr ⟨by decide, by decide⟩, _, rfl, _, _, rfl, rfl, (by show (0 : Int) < m; omega), ?_⟩
        exact q _ _ (Int.emod_nonneg _ (by omega)) (Int.emod_lt_of_pos _ (by omega)) st
theorem at_of {α : Type} {xs : List α} {d : Int} (h0 : 0 ≤ d) (h1 : d < xs.length) : ∃ v, atI xs d = some v ∧ v ∈ xs := by
  obtain ⟨n, rfl⟩ := Int.eq_ofNat_of_zero_le h0
  have hn : n < xs.length := by omega
  exact ⟨xs[n], atI_nat (List.getElem?_eq_getElem hn), List.getElem_mem hn⟩
def spChoice : Sp := fun vs H Q _ => ∃ (r o : Addr) (xs : List V), vs = [.ref r, .ref o] ∧ Rng H r ∧ H o = some (.lst xs) ∧ o ≠ r ∧ 1 ≤ xs.length ∧ xs.length ≤ 1000 ∧ ∀ v H', v ∈ xs → Stp r H H' → Q v H'
theorem sc__law_choice : FnScope ["_law_rng_here", "_law_options"] ["_law_rng_here", "_law_options"] (defScope (top 22)) := ⟨rfl, rfl, rfl, by decide +kernel, rfl, by decide +kernel, by decide +kernel⟩
theorem ok_choice (T : Tx K mg) (D__law_draw : Df P w K mg base 1 "_law_draw" ["_law_rng_here", "_law_many"] spDraw) (F : FnP K "_law_choice" "_law_choice" (top 22) f fd) : FnOk P w K mg base CX0 2 f fd ["_law_rng_here", "_law_options"] spChoice := by
  refine F.ok sc__law_choice (fun vs H Q E h => ?_) (fun cdv A outer s H vs Q E hr h => ⟨_, PSs.nox (pss_one (ps_ret (pe_ix ix_list (pv 1) (pcall D__law_draw hr (pa_cons (pv 0) (pa_cons (pe_callB call_len_seq (by rfl) T.n_len (by decide +kernel) (pa_cons (pv 1) pa_nil)) pa_nil))) (fun _ _ => rfl)))), ?_⟩)
  · obtain ⟨r, o, xs, rfl, _⟩ := h
    rfl
  · obtain ⟨r, o, xs, rfl, hR, hO, ne, l1, l2, q⟩ := h
    refine ⟨_, rfl, _, rfl, _, rfl, o, _, rfl, .inl (SqL.of hO), r, _, rfl, hR, by omega, ?_, fun d H1 d0 d1 st => ?_⟩
    · have : (1000 : Int) ≤ 10 ^ 40 := by decide
      omega
    · obtain ⟨v, hv, hm⟩ := at_of d0 d1
      exact ⟨o, _, _, v, rfl, rfl, SqL.of (st.2 o _ ne hO), hv, q v H1 hm st⟩
theorem good_one : Good [1] := ⟨⟨by decide, by decide⟩, rfl, fun i x h => by
    cases i with
    | zero => cases h; decide
    | succ i => simp at h, fun i x y h1 h2 => by
    cases i with
    | zero => simp at h2
    | succ i => simp at h1⟩
theorem good_more {ns : List Int} {x k : Int} (g : Good ns) (hl : ns.length < 8) (hx : ns[ns.length - 1]? = some x) (hk : 2 ≤ k) (hm : x * k ≤ 1000000000) : Good (ns ++ [x * k]) := by
  have l := g.len
  have xr := g.rng _ _ hx
  have gt : x < x * k := by
    have := Int.mul_le_mul_of_nonneg_left hk (show (0 : Int) ≤ x by omega)
    omega
  refine ⟨⟨by rw [List.length_append, List.length_singleton]; omega, by rw [List.length_append, List.length_singleton]; omega⟩, ?_, fun i y h => ?_, fun i y z h1 h2 => ?_⟩
  · rw [List.getElem?_append_left (by omega)]
    exact g.one
  · by_cases hi : i < ns.length
    · rw [List.getElem?_append_left hi] at h
      exact g.rng i y h
    · rw [List.getElem?_append_right (by omega)] at h
      have hi2 : i - ns.length = 0 := by
        cases e : i - ns.length with
        | zero => rfl
        | succ n => rw [e] at h; simp at h
      rw [hi2] at h
      have e : x * k = y := Option.some.inj h
      omega
  · by_cases hi : i + 1 < ns.length
    · rw [List.getElem?_append_left hi] at h2
      rw [List.getElem?_append_left (by omega)] at h1
      exact g.up i y z h1 h2
    · by_cases hi2 : i + 1 = ns.length
      · rw [List.getElem?_append_left (by omega)] at h1
        rw [List.getElem?_append_right (by omega), hi2, Nat.sub_self] at h2
        have e : x * k = z := Option.some.inj h2
        rw [show i = ns.length - 1 by omega, hx] at h1
        have e2 : x = y := Option.some.inj h1
        rw [← e, ← e2]
        exact ⟨gt, Int.mul_emod_right x k⟩
      · rw [List.getElem?_append_right (by omega)] at h2
        cases e : i + 1 - ns.length with
        | zero => omega
        | succ n => rw [e] at h2; simp at h2
def spSizes : Sp := fun vs H Q _ => ∃ (r : Addr) (lv gr : Int), vs = [.ref r, .int lv, .int gr] ∧ Rng H r ∧ 1 ≤ lv ∧ lv ≤ 8 ∧ 2 ≤ gr ∧ gr ≤ 1000000 ∧
  ∀ l ns H', Good ns → H l = none → H' l = some (.lst (ns.map V.int)) → Stp r H H' → Q (.ref l) H'
theorem at_last (ys : List Int) (x : Int) : atI ((ys ++ [x]).map V.int) (-1) = some (.int x) := by
  rw [List.map_append]
  exact atI_last _ _
theorem last_of : ∀ {ns : List Int}, 1 ≤ ns.length → ∃ ys x, ns = ys ++ [x]
  | [], h => absurd h (by decide)
  | [x], _ => ⟨[], x, rfl⟩
  | a :: b :: r, _ => by
    obtain ⟨ys, x, e⟩ := last_of (ns := b :: r) (by simp)
    exact ⟨a :: ys, x, by rw [e]; rfl⟩
theorem last_get (ys : List Int) (x : Int) : (ys ++ [x])[(ys ++ [x]).length - 1]? = some x := by
  rw [List.length_append, List.length_singleton, Nat.add_sub_cancel, List.getElem?_append_right (Nat.le_refl _), Nat.sub_self]
  rfl
theorem sc__law_sizes : FnScope ["_law_rng_here", "_law_levels", "_law_greatest", "_law_result", "_law_k", "_law_factor"] ["_law_rng_here", "_law_levels", "_law_greatest"] (defScope (top 23)) := ⟨rfl, rfl, rfl, by decide +kernel, rfl, by decide +kernel, by decide +kernel⟩
theorem ok_sizes (T : Tx K mg) (D__law_draw : Df P w K mg base 1 "_law_draw" ["_law_rng_here", "_law_many"] spDraw) (F : FnP K "_law_sizes" "_law_sizes" (top 23) f fd) :
    FnOk P w K mg base CX0 2 f fd ["_law_rng_here", "_law_levels", "_law_greatest"] spSizes := by
  refine F.ok sc__law_sizes (fun vs H Q E h => ?_) (fun cdv A outer s H vs Q E hr h => ⟨_, PSs.nox (pss_cons (ps_set (i := 3) sc__law_sizes.nd rfl (by first | exact Or.inl rfl | exact Or.inr rfl) (pe_lst (pa_cons pe_int pa_nil))) (pss_cons (ps_for PassesOwn.never rfl (pi_range1 rfl T.n_range (pa_cons (pcall D__law_draw hr (pa_cons (pv 0) (pa_cons (pv 1) pa_nil))) pa_nil)) (pg_name (i := 4) sc__law_sizes.nd rfl (by first | exact Or.inl rfl | exact Or.inr rfl)) (pss_cons (ps_set (i := 5) sc__law_sizes.nd rfl (by first | exact Or.inl rfl | exact Or.inr rfl) (pe_ix ix_list (pe_lst (pa_cons pe_int (pa_cons pe_int (pa_cons pe_int (pa_cons pe_int (pa_cons (pe_op op_add pe_int (pcall D__law_draw hr (pa_cons (pv 0) (pa_cons (pe_op op_sub (pv 2) pe_int) pa_nil)))) pa_nil)))))) (pcall D__law_draw hr (pa_cons (pv 0) (pa_cons pe_int pa_nil))) (fun _ _ => rfl))) (pss_one (ps_if (PW.pt (pw_and (pt_cmpR op_le (pe_op op_mul (pe_ix ix_list (pv 3) (pe_un un_neg pe_int) (fun _ _ => rfl)) (pv 5)) (pe_op op_pow pe_int pe_int) (nomark _)) (pw_and1 (pt_cmpR op_le (pv 5) (pv 2) (nomark _))))) (pss_one (ps_expr (pe_bm PySem.F.plainAttrs_list PySem.F.slot_list_append PySem.F.type_list_append mt_append (pv 3) (pa_cons (pe_op op_mul (pe_ix ix_list (pv 3) (pe_un un_neg pe_int) (fun _ _ => rfl)) (pv 5)) pa_nil)))) pss_nil)))) (pss_one (ps_ret (pv 3))))), ?_⟩)
  · obtain ⟨r, lv, gr, rfl, _⟩ := h
    rfl
  · obtain ⟨r, lv, gr, rfl, hR, l1, l2, g1, g2, q⟩ := h
    have big : (10 : Int) ^ 40 = 10000000000000000000000000000000000000000 := by decide
    refine ⟨(by show 1 ≤ sizeLine; decide), fun l hl => ?_⟩
    have nrl : r ≠ l := hR.ne hl
    have s0 : Stp r H (upd H l (.lst [.int 1])) := (Stp.refl hR).new hl
    refine ⟨_, rfl, _, rfl, r, lv, rfl, s0.1, l1, by omega, fun d H1 d0 d1 s1 => ?_⟩
    refine ⟨d, rfl, by omega, by omega, ?_⟩
    have s01 := s0.trans s1
    refine for_range (fun i σ H' => ∃ ns x y, σ = [some (.ref r), some (.int lv), some (.int gr), some (.ref l), x, y] ∧ Good ns ∧ ns.length ≤ i + 1 ∧ H' l = some (.lst (ns.map V.int)) ∧ Stp r H H') ⟨[1], none, none, rfl, good_one, by simp, s1.2 l _ nrl.symm upd_same, s01⟩ ?_ ?_
    · rintro i σ H' hi ⟨ns, x, y, rfl, g, hlen, hL, st⟩
      have hi8 : i < 8 := by omega
      obtain ⟨ys, z, rfl⟩ := last_of g.len.1
      have zr := g.rng _ _ (last_get ys z)
      refine ⟨_, rfl, _, rfl, _, _, rfl, rfl, r, gr - 1, rfl, st.1, by omega, by omega, fun d1 H1 a0 a1 t1 => ?_⟩
      have st1 := st.trans t1
      have hL1 : H1 l = some (.lst ((ys ++ [z]).map V.int)) := t1.2 l _ nrl.symm hL
      refine ⟨_, _, rfl, rfl, (by show 5 ≤ sizeLine; decide), fun t ht => ?_⟩
      have st2 := st1.new (o := .lst [.int 2, .int 2, .int 3, .int 4, .int (2 + d1)]) ht
      have nrt : r ≠ t := st1.1.ne ht
      have hL2 : (upd H1 t (.lst [.int 2, .int 2, .int 3, .int 4, .int (2 + d1)])) l = some (.lst ((ys ++ [z]).map V.int)) := by rw [upd_ne (ne_of_none hL1 ht)]; exact hL1
      refine ⟨_, rfl, r, 5, rfl, st2.1, by decide, by omega, fun d2 H3 b0 b1 t3 => ?_⟩
      have st3 := st2.trans t3
      have hL3 : H3 l = some (.lst ((ys ++ [z]).map V.int)) := t3.2 l _ nrl.symm hL2
      obtain ⟨v, hv, hm⟩ := at_of (α := V) (xs := [.int 2, .int 2, .int 3, .int 4, .int (2 + d1)]) b0 b1
      obtain ⟨k, rfl, k2⟩ : ∃ k : Int, v = .int k ∧ 2 ≤ k := by
        simp only [List.mem_cons, List.not_mem_nil, or_false] at hm
        rcases hm with rfl | rfl | rfl | rfl | rfl
        · exact ⟨_, rfl, by omega⟩
        · exact ⟨_, rfl, by omega⟩
        · exact ⟨_, rfl, by omega⟩
        · exact ⟨_, rfl, by omega⟩
        · exact ⟨_, rfl, by omega⟩
      refine ⟨t, _, _, _, rfl, rfl, SqL.of (t3.2 t _ nrt.symm upd_same), hv, ?_⟩
      refine ⟨_, rfl, _, rfl, l, _, _, _, rfl, rfl, SqL.of hL3, at_last ys z, _, rfl, _, _, rfl, rfl, .inl ⟨by omega, by omega⟩, _, _, rfl, rfl, ⟨by decide, by decide, by decide⟩, _, _, rfl, rfl, _, rfl, ?_⟩
      by_cases hc : z * k ≤ 10 ^ (9 : Int).toNat
      · refine ifT (decide_eq_true hc) ?_
        refine ⟨_, rfl, _, rfl, _, _, rfl, rfl, _, rfl, ite2 (fun hk => ?_) (fun _ => ?_)⟩
        · refine ⟨_, rfl, .inl ⟨rfl, _, SqL.of hL3⟩, _, rfl, _, rfl, l, _, _, _, rfl, rfl, SqL.of hL3, at_last ys z, _, rfl, _, _, rfl, rfl, .inl ⟨by omega, by omega⟩, l, _, _, rfl, rfl, hL3, ?_, ?_⟩
          · exact small1000 (by rw [List.length_map]; omega)
          · have hc2 : z * k ≤ 1000000000 := hc
            refine ⟨(ys ++ [z]) ++ [z * k], _, _, rfl, good_more g (by omega) (last_get ys z) k2 hc2, by rw [List.length_append (bs := [z * k]), List.length_singleton]; omega, ?_, ?_⟩
            · rw [upd_same, List.map_append (l₂ := [z * k])]
              rfl
            · obtain ⟨⟨x1, x2, e1, e2⟩, kk⟩ := st3
              refine ⟨⟨x1, x2, by rw [upd_ne nrl]; exact e1, e2⟩, fun b o n e => ?_⟩
              rw [upd_ne (ne_of_none e hl)]
              exact kk b o n e
        · exact ⟨_, _, _, rfl, g, by omega, hL3, st3⟩
      · exact ifF (decide_eq_false hc) ⟨_, _, _, rfl, g, by omega, hL3, st3⟩
    · rintro σ H' ⟨ns, x, y, rfl, g, hlen, hL, st⟩
      exact ⟨_, rfl, q l ns H' g hl hL st⟩
theorem Stp.same {r : Addr} {H H' : Hp} (h : Rng H r) (s : Same H H') : Stp r H H' := by
  obtain ⟨a, b, e, z⟩ := h
  exact ⟨⟨a, b, s _ _ e, z⟩, fun c o _ e => s c o e⟩
theorem Stp.at {r D : Addr} {M H' : Hp} {o : HO} (s : Stp r M H') (hD : M D = none) (n : D ≠ r) : Stp r M (upd H' D o) := by
  obtain ⟨⟨a, b, e, z⟩, k⟩ := s
  refine ⟨⟨a, b, by rw [upd_ne n.symm]; exact e, z⟩, fun c u m h => ?_⟩
  rw [upd_ne (ne_of_none h hD)]
  exact k c u m h
def trues (i : Nat) : List V := (List.replicate i true).map V.bl
theorem trues_more (i : Nat) : trues i ++ [V.bl true] = trues (i + 1) := by
  unfold trues
  rw [List.replicate_succ', List.map_append]
  rfl
theorem trues_len (i : Nat) : (trues i).length = i := by
  unfold trues
  rw [List.length_map, List.length_replicate]
theorem all_trues (i : Nat) : (List.replicate i true).all id = true := by
  rw [List.all_replicate]
  split <;> rfl
end
end K14

set_option Elab.async false
set_option linter.all false
set_option maxRecDepth 100000
set_option maxHeartbeats 4000000
namespace K14
open PySem PySem.Spec PyProof.Rows L2 Gu Ex
/-- a value of any kind, and what repr shows of it -/
def Th (K : PySem.W.Frag) (H : Hp) (v : V) (d : PyData) : Prop := Any H v ∧ Dq K H v d ∧ d.showable = true ∧ d.depth ≤ 60 ∧ d.shown.length ≤ 500 ∧ PyData.strOk d.shown = true
theorem line_of {n : Nat} (h : n ≤ 1000) : n ≤ sizeLine := Nat.le_trans h (by decide)
/-- the text that is due -/
def dueS (ns : List Int) (L lv ad : V) (d : PyData) : Str := if cellsB L = true then (if regB ns L lv ad = true then "True" else "False") else "number " ++ d.shown
theorem due_num {ns : List Int} {L lv ad : V} {d : PyData} (h : cellsB L = false) : dueS ns L lv ad d = "number " ++ d.shown := by
  unfold dueS
  rw [h]
  rfl
theorem due_bool {ns : List Int} {L lv ad : V} {d : PyData} (h : cellsB L = true) : dueS ns L lv ad d = (PyData.bool (regB ns L lv ad)).shown := by
  unfold dueS
  rw [h, if_pos rfl]
  cases regB ns L lv ad <;> rfl
section
variable {P : Program} {w : World} {K : PySem.W.Frag} {mg : Str → Option Value} {base : Heap} {f : Addr} {fd : FuncData}
theorem sc__law_is_integer : FnScope ["_law_one"] ["_law_one"] (defScope (top 24)) := ⟨rfl, rfl, rfl, by decide +kernel, rfl, by decide +kernel, by decide +kernel⟩
theorem ok_law_int (T : Tx K mg) (F : FnP K "_law_is_integer" "_law_is_integer" (top 24) f fd) : FnOk P w K mg base CX0 1 f fd ["_law_one"] spInt := by
  refine F.ok sc__law_is_integer (fun vs H Q E h => ?_) (fun cdv A outer s H vs Q E hr h => ⟨_, PSs.nox (pss_one (ps_ret (pe_and (pe_callB call_isi (by rfl) T.n_isinstance (by decide +kernel) (pa_cons (pv 0) (pa_cons (pe_bltn (v := .ty "int") (by rfl) T.n_int (by decide +kernel) rfl) pa_nil))) (pe_one (pe_not (pe_callB call_isi (by rfl) T.n_isinstance (by decide +kernel) (pa_cons (pv 0) (pa_cons (pe_bltn (v := .ty "bool") (by rfl) T.n_bool (by decide +kernel) rfl) pa_nil)))))))), ?_⟩)
  · obtain ⟨v, rfl, _⟩ := h
    rfl
  · obtain ⟨v, rfl, hv, q⟩ := h
    obtain ⟨Ty, ty, k1, k2, _⟩ := hv.ty (K := K)
    refine ⟨_, rfl, _, _, _, _, _, rfl, .ty "int", ty, kit_ty k1, _, rfl, ?_⟩
    cases e : (isI v || isB v) with
    | true =>
      refine iteT ⟨_, rfl, _, _, _, _, _, rfl, .ty "bool", ty, kit_ty k2, _, rfl, ?_⟩
      have e2 : (!isB v) = isI v := by cases v <;> first | rfl | cases e
      rw [e2]
      exact q
    | false =>
      have e2 : isI v = false := by cases v <;> first | rfl | cases e
      rw [e2] at q
      exact iteF q
def spDue (K : PySem.W.Frag) : Sp := fun vs H Q _ => ∃ (l : Addr) (ns : List Int) (L lv ad : V) (d : PyData), vs = [.ref l, L, lv, ad] ∧ H l = some (.lst (ns.map V.int)) ∧ Good ns ∧ Th K H L d ∧ Any H lv ∧ Any H ad ∧ Q (.str (dueS ns L lv ad d)) H
theorem sc__law_due : FnScope ["_law_sizes_here", "_law_length_here", "_law_level", "_law_address_here"] ["_law_sizes_here", "_law_length_here", "_law_level", "_law_address_here"] (defScope (top 25)) := ⟨rfl, rfl, rfl, by decide +kernel, rfl, by decide +kernel, by decide +kernel⟩
theorem ok_due (T : Tx K mg) (D__law_is_integer : Df P w K mg base 1 "_law_is_integer" ["_law_one"] spInt) (F : FnP K "_law_due" "_law_due" (top 25) f fd) :
    FnG P w K mg base CX0 2 f fd ["_law_sizes_here", "_law_length_here", "_law_level", "_law_address_here"] (spDue K) := by
  refine okG F sc__law_due (fun vs H Q E h => ?_) (fun cdv A outer s H vs Q E hr h => ⟨_, PSs.nox (pss_cons (ps_if (PW.pt (pw_or (pt_not (pt_val (pcall D__law_is_integer hr.r (pa_cons (pv 1) pa_nil)))) (pw_or1 (pt_not (pt_chain op_le op_le pe_int (pv 1) (pe_op op_pow pe_int pe_int)))))) (pss_one (ps_ret (pe_op op_add_str pe_str (pe_callB (r := rReprQ K) (id := "repr") (call_reprQ hr T.sys) (by rfl) T.n_repr (by decide +kernel) (pa_cons (pv 1) pa_nil))))) pss_nil) (pss_cons (ps_if (PW.pt (pw_or (pt_not (pt_val (pcall D__law_is_integer hr.r (pa_cons (pv 2) pa_nil)))) (pw_or (pt_not (pt_val (pcall D__law_is_integer hr.r (pa_cons (pv 3) pa_nil)))) (pw_or1 (pt_not (pt_chain op_le op_lt pe_int (pv 2) (pe_callB call_len_seq (by rfl) T.n_len (by decide +kernel) (pa_cons (pv 0) pa_nil)))))))) (pss_one (ps_ret pe_str)) pss_nil) (pss_one (ps_ret (pe_callB (r := rReprQ K) (id := "repr") (call_reprQ hr T.sys) (by rfl) T.n_repr (by decide +kernel) (pa_cons (pe_and (pe_cmpR op_ge (pv 3) pe_int (nomark _)) (pe_and (pe_cmpR op_eq (pe_op op_mod (pv 3) (pe_ix ix_list (pv 0) (pv 2) (fun _ _ => rfl))) pe_int (nomark _)) (pe_one (pe_cmpR op_le (pe_op op_add (pv 3) (pe_ix ix_list (pv 0) (pv 2) (fun _ _ => rfl))) (pv 1) (nomark _))))) pa_nil)))))), ?_⟩)
  · obtain ⟨l, ns, L, lv, ad, d, rfl, _⟩ := h
    rfl
  · obtain ⟨l, ns, L, lv, ad, d, rfl, hl, g, ⟨aL, dq, sh, dp, ln, _⟩, al, aa, q⟩ := h
    have p12 : (10 : Int) ^ (12 : Int).toNat = 1000000000000 := by decide
    have pw : CPow 10 12 := ⟨by decide, by decide, by decide⟩
    have n7 : ("number " : Str).length + d.shown.length ≤ sizeLine := Nat.le_trans (Nat.add_le_add_left ln _) (by decide)
    have lz : d.shown.length ≤ sizeLine := line_of (by omega)
    refine ⟨_, rfl, L, rfl, aL, _, rfl, ?_⟩
    cases hc : cellsB L with
    | false =>
      rw [due_num hc] at q
      cases L with
      | int e =>
        refine iteF ⟨_, rfl, _, _, rfl, rfl, _, rfl, ?_⟩
        by_cases h1 : (1 : Int) ≤ e
        · have h2 : ¬ e ≤ 10 ^ (12 : Int).toNat := fun z => by
            have : decide (1 ≤ e ∧ e ≤ 1000000000000) = false := hc
            exact of_decide_eq_false this ⟨h1, by omega⟩
          exact ifT (decide_eq_true h1) ⟨_, _, rfl, rfl, pw, _, _, rfl, rfl, _, rfl, ifT (by rw [decide_eq_false h2]; rfl) ⟨_, rfl, _, d, rfl, dq, sh, dp, lz, _, _, rfl, rfl, n7, q⟩⟩
        · exact ifF (decide_eq_false h1) ⟨_, rfl, iteT ⟨_, rfl, _, d, rfl, dq, sh, dp, lz, _, _, rfl, rfl, n7, q⟩⟩
      | _ => exact iteT (iteT ⟨_, rfl, _, d, rfl, dq, sh, dp, lz, _, _, rfl, rfl, n7, q⟩)
    | true =>
      rw [due_bool hc] at q
      obtain ⟨e, rfl⟩ : ∃ e, L = .int e := by
        cases L with
        | int e => exact ⟨e, rfl⟩
        | _ => cases hc
      have he : 1 ≤ e ∧ e ≤ 1000000000000 := of_decide_eq_true hc
      refine iteF ⟨_, rfl, _, _, rfl, rfl, _, rfl, ifT (decide_eq_true he.1) ⟨_, _, rfl, rfl, pw, _, _, rfl, rfl, _, rfl, ifF (by rw [decide_eq_true (show e ≤ 10 ^ (12 : Int).toNat by omega)]; rfl) ?_⟩⟩
      have fF : regB ns (.int e) lv ad = false → Q (.str "False") H := fun z => by
        rw [z] at q
        exact q
      refine ⟨_, rfl, lv, rfl, al, _, rfl, ?_⟩
      cases lv with
      | int i =>
        refine iteF ⟨_, rfl, ad, rfl, aa, _, rfl, ?_⟩
        cases ad with
        | int a =>
          refine iteF ⟨_, rfl, _, _, rfl, rfl, _, rfl, ?_⟩
          by_cases h0 : (0 : Int) ≤ i
          · refine ifT (decide_eq_true h0) ⟨_, rfl, l, _, rfl, .inl (SqL.of hl), _, _, rfl, rfl, _, rfl, ?_⟩
            by_cases h1 : i < (((ns.map V.int).length : Nat) : Int)
            · refine ifF (by rw [decide_eq_true h1]; rfl) ?_
              have h1' : i < (ns.length : Int) := by rw [List.length_map] at h1; exact h1
              obtain ⟨n, rfl⟩ := Int.eq_ofNat_of_zero_le h0
              have hn : n < ns.length := by omega
              have hx : ns[n]? = some ns[n] := List.getElem?_eq_getElem hn
              have x1 := (g.rng _ _ hx).1
              have gd : ns.getD ((n : Nat) : Int).toNat 0 = ns[n] := by
                rw [Int.toNat_natCast, List.getD_eq_getElem?_getD, hx]
                rfl
              have rb : regB ns (.int e) (.int n) (.int a) = (decide (0 ≤ a) && decide (a % ns[n] = 0 ∧ a + ns[n] ≤ e)) := by
                show (decide (0 ≤ (n : Int) ∧ (n : Int) < (ns.length : Int)) && (decide (0 ≤ a) && decide (a % (ns.getD ((n : Nat) : Int).toNat 0) = 0 ∧ a + ns.getD ((n : Nat) : Int).toNat 0 ≤ e))) = _
                rw [decide_eq_true ⟨h0, h1'⟩, Bool.true_and, gd]
              rw [rb] at q
              have fin : ∀ b : Bool, b = (decide (0 ≤ a) && decide (a % ns[n] = 0 ∧ a + ns[n] ≤ e)) → rReprQ K [.bl b] H Q := fun b hb => by
                refine ⟨.bl b, .bool b, rfl, .bl b, rfl, Nat.zero_le _, line_of (by cases b <;> decide +kernel), ?_⟩
                rw [hb]
                exact q
              refine ⟨_, rfl, _, _, rfl, rfl, _, rfl, ?_⟩
              by_cases ha : (0 : Int) ≤ a
              · refine ifT (decide_eq_true ha) ⟨_, rfl, _, rfl, _, rfl, l, _, _, _, rfl, rfl, SqL.of hl, at_map hx, _, _, rfl, rfl, (by show (0 : Int) < ns[n]; omega), rfl, _, rfl, ?_⟩
                by_cases hm : a % ns[n] = 0
                · refine ifT (vT hm) ⟨_, rfl, _, rfl, _, rfl, l, _, _, _, rfl, rfl, SqL.of hl, at_map hx, _, _, rfl, rfl, _, rfl, _, _, rfl, rfl, ?_⟩
                  refine fin _ ?_
                  rw [decide_eq_true ha, Bool.true_and]
                  by_cases hb : a + ns[n] ≤ e
                  · exact (decide_eq_true hb).trans (decide_eq_true ⟨hm, hb⟩).symm
                  · exact (decide_eq_false hb).trans (decide_eq_false fun z => hb z.2).symm
                · refine ifF (vF hm) (fin false ?_)
                  rw [decide_eq_true ha, Bool.true_and]
                  exact (decide_eq_false fun z => hm z.1).symm
              · refine ifF (decide_eq_false ha) (fin false ?_)
                rw [decide_eq_false ha, Bool.false_and]
            · refine ifT (by rw [decide_eq_false h1]; rfl) (fF ?_)
              rw [List.length_map] at h1
              show (decide (0 ≤ i ∧ i < (ns.length : Int)) && _) = false
              rw [decide_eq_false fun z => h1 z.2, Bool.false_and]
          · refine ifF (decide_eq_false h0) ⟨_, rfl, iteT (fF ?_)⟩
            show (decide (0 ≤ i ∧ i < (ns.length : Int)) && _) = false
            rw [decide_eq_false fun z => h0 z.1, Bool.false_and]
        | _ => exact iteT (iteT (fF rfl))
      | _ => exact iteT (iteT (fF rfl))
end
end K14

set_option Elab.async false
set_option linter.all false
set_option maxRecDepth 100000
set_option maxHeartbeats 4000000
namespace K14
open PySem PySem.Spec PyProof.Rows L2 Gu Ex
theorem seqT {K : PySem.W.Frag} {H H' : Hp} {a : Addr} {xs : List V} (e : Same H H') (h : SqT K H a xs) : SqT K H' a xs := by
  rcases h with (h | ⟨o, h⟩) | h
  · exact .inl (.inl (e _ _ h))
  · exact .inl (.inr ⟨o, e _ _ h⟩)
  · exact .inr h
mutual
theorem dq_same {K : PySem.W.Frag} {H H' : Hp} (e : Same H H') : ∀ {v : V} {d : PyData}, Dq K H v d → Dq K H' v d
  | _, _, .non => .non
  | _, _, .bl b => .bl b
  | _, _, .int i => .int i
  | _, _, .str x => .str x
  | _, _, .lst hq ha => .lst (e.seq hq) (dqAll_same e ha)
  | _, _, .tup hq ha => .tup (seqT e hq) (dqAll_same e ha)
  | _, _, .dct hq h1 h2 => .dct (e _ _ hq) (dqAll_same e h1) (dqAll_same e h2)
theorem dqAll_same {K : PySem.W.Frag} {H H' : Hp} (e : Same H H') : ∀ {vs : List V} {ds : List PyData}, DqAll K H vs ds → DqAll K H' vs ds
  | _, _, .nil => .nil
  | _, _, .cons h1 h2 => .cons (dq_same e h1) (dqAll_same e h2)
end
theorem Th.same {K : PySem.W.Frag} {H H' : Hp} {v : V} {d : PyData} (t : Th K H v d) (e : Same H H') : Th K H' v d := ⟨t.1.same e, dq_same e t.2.1, t.2.2⟩
abbrev rAddS : R2 := fun x y H Q => ∃ i j, x = .str i ∧ y = .str j ∧ i.length + j.length ≤ sizeLine ∧ Q (.str (i ++ j)) H
def t_suite (K : PySem.W.Frag) (a : Addr) (cls : Value) (d : Option Addr) : TS :=
  tIfS (tAnd (tB (tCB (rIsX K (cN K) a cls d) (tCons (tVar 5) (tCons (tC (.ref (He.ga K "RoomError"))) tNil))))
      (tNot (tB (tCB (rIsXT K (cN K) a cls d) (tCons (tVar 5) (tCons (tTup (tCons (tC (.ref (He.ga K "InvalidAddress"))) (tCons (tC (.ref (He.ga K "InvalidLevel"))) (tCons (tC (.ref (He.ga K "InvalidNumbers"))) tNil)))) tNil))))))
    (tAsg (tOp rAddS (tC (.str "number ")) (tCB (rReprQ K) (tCons (tXf a cls d (cN K) "value" (tVar 5)) tNil))) (gName 4)) tNext
section
variable {P : Program} {w : World} {K : PySem.W.Frag} {mg : Str → Option Value} {base : Heap} {f : Addr} {fd : FuncData}
def spTold (K : PySem.W.Frag) : Sp := fun vs H Q _ => ∃ (p : Addr) (ns : List Int) (L lv ad : V) (d : PyData), vs = [.ref p, L, lv, ad] ∧ SzAt (He.ga K "Sizes") H p ns ∧ Good ns ∧ Th K H L d ∧ Any H lv ∧ Any H ad ∧ ∀ H', Same H H' → Q (.str (dueS ns L lv ad d)) H'
theorem sc_told : FnScope ["_law_made", "_law_length_here", "_law_level", "_law_address_here", "_law_told_here", "e"] ["_law_made", "_law_length_here", "_law_level", "_law_address_here"] (defScope (top 26)) := ⟨rfl, rfl, rfl, by decide +kernel, rfl, by decide +kernel, by decide +kernel⟩
theorem ok_told (T : Tx K mg) (D_is_region : DfX P w K mg base 7 "is_region" ["sizes", "length", "level", "address"] (spRegion K)) (F : FnP K "_law_told" "_law_told" (top 26) f fd) :
    FnG P w K mg base CX0 8 f fd ["_law_made", "_law_length_here", "_law_level", "_law_address_here"] (spTold K) := by
  refine okG F sc_told (fun vs H Q E h => ?_) (fun cdv A outer s H vs Q E hr h => ⟨_, PSs.nox (pss_cons (ps_set (i := 4) sc_told.nd rfl (Or.inl rfl) pe_str)
    (pss_cons (ps_try_as (i := 5) (tb := fun W => tAsg (tCB (rReprQ K) (tCons (tCallS (spRegion K) (WE W) (tCons (tVar 0) (tCons (tVar 1) (tCons (tVar 2) (tCons (tVar 3) tNil))))) tNil)) (gName 4)) (ts := t_suite K) (Wout := fun _ _ _ _ => False)
        rfl rfl sc_told.nd rfl rfl ⟨rfl, by decide, Or.inl T.g_InvalidNumber⟩ takes0
      (fun W pn xe tk _ => pss_one (ps_set (i := 4) sc_told.nd rfl (Or.inl rfl) (by exact (pe_callB (r := rReprQ K) (id := "repr") (call_reprH hr.g hr.r.units T.sys) (by rfl) T.n_repr (by decide +kernel)
        (by exact (pa_cons (by exact (pcallT D_is_region hr.r tk (by exact (pa_cons (pv 0) (pa_cons (pv 1) (pa_cons (pv 2) (pa_cons (pv 3) pa_nil))))))) pa_nil))))))
      (fun a oe cls d pn hz hf => pss_one (ps_if (PW.pt (pw_and (pt_val (by exact (pe_callB (r := rIsX K (cN K) a cls d) (id := "isinstance") (call_isX T.ec hz hf) (by rfl) T.n_isinstance (by decide +kernel) (by exact (pa_cons (pv 5) (pa_cons (pe_glob (v := .ref _) rfl T.g_RoomError rfl) pa_nil))))))
          (pw_and1 (pt_not (pt_val (by exact (pe_callB (r := rIsXT K (cN K) a cls d) (id := "isinstance") (call_isXT T.ec hz hf) (by rfl) T.n_isinstance (by decide +kernel) (by exact (pa_cons (pv 5) (pa_cons (pe_tup (pa_cons (pe_glob (v := .ref _) rfl T.g_InvalidAddress rfl) (pa_cons (pe_glob (v := .ref _) rfl T.g_InvalidLevel rfl) (pa_cons (pe_glob (v := .ref _) rfl T.g_InvalidNumbers rfl) pa_nil)))) pa_nil))))))))))
        (pss_one (ps_set (i := 4) sc_told.nd rfl (Or.inl rfl) (by exact (pe_op op_add_str pe_str (pe_callB (r := rReprQ K) (id := "repr") (call_reprH hr.g hr.r.units T.sys) (by rfl) T.n_repr (by decide +kernel) (pa_cons (pe_xf T.xf T.noV hz hf (pv 5)) pa_nil))))))
        pss_nil)))
    (pss_one (ps_ret (pv 4))))), ?_⟩)
  · obtain ⟨p, ns, L, lv, ad, d, rfl, _⟩ := h
    rfl
  · obtain ⟨p, ns, L, lv, ad, d, rfl, hz, g, ⟨aL, dq, sh, dp, ln, _⟩, al, aa, q⟩ := h
    have n7 : ("number " : Str).length + d.shown.length ≤ sizeLine := Nat.le_trans (Nat.add_le_add_left ln _) (by decide)
    have lz : d.shown.length ≤ sizeLine := line_of (by omega)
    refine ⟨_, rfl, _, rfl, _, rfl, _, rfl, p, ns, L, lv, ad, rfl, hz, g, aL, al, aa, fun hc => ?_, fun hc dd H1 hdd sm hx => ?_⟩
    · refine ⟨.bl (regB ns L lv ad), .bool (regB ns L lv ad), rfl, .bl _, rfl, Nat.zero_le _, line_of (by cases regB ns L lv ad <;> decide +kernel), ?_⟩
      refine ⟨_, rfl, ?_⟩
      have z := q H (Same.refl H)
      rw [due_bool hc] at z
      exact z
    · refine ⟨true, T.em, fun _ a0 ha0 => ?_, fun zz => Bool.noConfusion zz⟩
      refine ⟨_, rfl, _, _, _, dd, _, rfl, rfl, rfl, .own _, hx, T.kR, _, rfl, iteT ?_⟩
      refine ⟨_, rfl, (by show 3 ≤ sizeLine; decide), fun tp htp => ?_⟩
      have ndt : dd ≠ tp := ne_of_none hx htp
      have sm2 := same_upd (o := .tup [.ref (He.ga K "InvalidAddress"), .ref (He.ga K "InvalidLevel"), .ref (He.ga K "InvalidNumbers")]) htp
      refine ⟨tp, _, _, _, dd, _, rfl, rfl, rfl, upd_same, .cons (.own _) (.cons (.own _) (.cons (.own _) .nil)), sm2 _ _ hx, T.kO, _, rfl, iteT ?_⟩
      refine ⟨_, rfl, rfl, rfl, dd, _, L, rfl, sm2 _ _ hx, (by simp [List.lookup]), L, d, rfl, dq_same (sm.trans sm2) dq, sh, dp, lz, _, _, rfl, rfl, n7, ?_⟩
      refine ⟨_, rfl, ?_⟩
      have z := q _ (sm.trans sm2)
      rw [due_num hc] at z
      exact z
end
end K14

set_option Elab.async false
set_option linter.all false
set_option maxRecDepth 100000
set_option maxHeartbeats 4000000
namespace K14
open PySem PySem.Spec PyProof.Rows L2 Gu Ex
section
variable {P : Program} {w : World} {K : PySem.W.Frag} {mg : Str → Option Value} {base : Heap} {f : Addr} {fd : FuncData}
def spNear : Sp := fun vs H Q _ => ∃ (r : Addr) (x : Int), vs = [.ref r, .int x] ∧ Rng H r ∧ ∀ v H', x - 1 ≤ v → v ≤ x + 1 → Stp r H H' → Q (.int v) H'
theorem sc__law_near : FnScope ["_law_rng_here", "_law_one"] ["_law_rng_here", "_law_one"] (defScope (top 27)) := ⟨rfl, rfl, rfl, by decide +kernel, rfl, by decide +kernel, by decide +kernel⟩
theorem ok_near (T : Tx K mg) (D__law_draw : Df P w K mg base 1 "_law_draw" ["_law_rng_here", "_law_many"] spDraw) (F : FnP K "_law_near" "_law_near" (top 27) f fd) : FnOk P w K mg base CX0 2 f fd ["_law_rng_here", "_law_one"] spNear := by
  refine F.ok sc__law_near (fun vs H Q E h => ?_) (fun cdv A outer s H vs Q E hr h => ⟨_, PSs.nox (pss_one (ps_ret (pe_ix ix_list (pe_lst (pa_cons (pv 1) (pa_cons (pe_op op_add (pv 1) pe_int) (pa_cons (pe_op op_sub (pv 1) pe_int) (pa_cons (pe_op op_sub (pe_op op_add (pv 1) (pcall D__law_draw hr (pa_cons (pv 0) (pa_cons pe_int pa_nil)))) pe_int) pa_nil))))) (pcall D__law_draw hr (pa_cons (pv 0) (pa_cons pe_int pa_nil))) (fun _ _ => rfl)))), ?_⟩)
  · obtain ⟨r, x, rfl, _⟩ := h
    rfl
  · obtain ⟨r, x, rfl, hR, q⟩ := h
    have big : (10 : Int) ^ 40 = 10000000000000000000000000000000000000000 := by decide
    refine ⟨_, rfl, _, rfl, _, _, rfl, rfl, _, rfl, _, _, rfl, rfl, _, rfl, _, rfl, r, 3, rfl, hR, by decide, by omega, fun d H1 d0 d1 s1 => ?_⟩
    refine ⟨_, _, rfl, rfl, _, _, rfl, rfl, (by show 4 ≤ sizeLine; decide), fun p hp => ?_⟩
    have s2 := s1.new (o := .lst [.int x, .int (x + 1), .int (x - 1), .int (x + d - 1)]) hp
    have npr : p ≠ r := (s1.1.ne hp).symm
    refine ⟨_, rfl, r, 4, rfl, s2.1, by decide, by omega, fun e H2 e0 e1 s3 => ?_⟩
    obtain ⟨v, hv, hm⟩ := at_of (α := V) (xs := [.int x, .int (x + 1), .int (x - 1), .int (x + d - 1)]) e0 e1
    refine ⟨p, _, _, _, rfl, rfl, SqL.of (s3.2 p _ npr upd_same), hv, ?_⟩
    have s4 := s2.trans s3
    simp only [List.mem_cons, List.not_mem_nil, or_false] at hm
    rcases hm with rfl | rfl | rfl | rfl <;> exact q _ _ (by omega) (by omega) s4
def spLength : Sp := fun vs H Q _ => ∃ (r l : Addr) (ns : List Int), vs = [.ref r, .ref l] ∧ Rng H r ∧ H l = some (.lst (ns.map V.int)) ∧ l ≠ r ∧ Good ns ∧ ∀ v H', 1 ≤ v → v ≤ 1000000000000 → Stp r H H' → Q (.int v) H'
theorem mem_ints {ns : List Int} {v : V} (g : Good ns) (h : v ∈ ns.map V.int) : ∃ x, v = .int x ∧ 1 ≤ x ∧ x ≤ 1000000000 := by
  obtain ⟨x, hx, rfl⟩ := List.mem_map.mp h
  obtain ⟨i, hi⟩ := List.mem_iff_getElem?.mp hx
  exact ⟨x, rfl, g.rng i x hi⟩
theorem sc__law_length : FnScope ["_law_rng_here", "_law_sizes_here", "_law_size", "_law_some"] ["_law_rng_here", "_law_sizes_here"] (defScope (top 28)) := ⟨rfl, rfl, rfl, by decide +kernel, rfl, by decide +kernel, by decide +kernel⟩
theorem ok_length (T : Tx K mg) (D__law_draw : Df P w K mg base 1 "_law_draw" ["_law_rng_here", "_law_many"] spDraw) (D__law_choice : Df P w K mg base 2 "_law_choice" ["_law_rng_here", "_law_options"] spChoice) (D__law_near : Df P w K mg base 2 "_law_near" ["_law_rng_here", "_law_one"] spNear)
    (F : FnP K "_law_length" "_law_length" (top 28) f fd) : FnOk P w K mg base CX0 3 f fd ["_law_rng_here", "_law_sizes_here"] spLength := by
  refine F.ok sc__law_length (fun vs H Q E h => ?_) (fun cdv A outer s H vs Q E hr h => ⟨_, PSs.nox (pss_cons (ps_set (i := 2) sc__law_length.nd rfl (by first | exact Or.inl rfl | exact Or.inr rfl) (pcall D__law_choice hr (pa_cons (pv 0) (pa_cons (pv 1) pa_nil)))) (pss_cons (ps_set (i := 3) sc__law_length.nd rfl (by first | exact Or.inl rfl | exact Or.inr rfl) (pe_lst (pa_cons (pe_op op_add pe_int (pcall D__law_draw hr (pa_cons (pv 0) (pa_cons pe_int pa_nil)))) (pa_cons (pcall D__law_near hr (pa_cons (pv 0) (pa_cons (pe_op op_mul (pv 2) (pe_op op_add pe_int (pcall D__law_draw hr (pa_cons (pv 0) (pa_cons pe_int pa_nil))))) pa_nil))) (pa_cons (pe_op op_add pe_int (pcall D__law_draw hr (pa_cons (pv 0) (pa_cons (pe_op op_pow pe_int pe_int) pa_nil)))) pa_nil))))) (pss_one (ps_ret (pe_callB (call_max2 rfl) (by rfl) T.n_max (by decide +kernel) (pa_cons pe_int (pa_cons (pe_callB (call_min2 rfl) (by rfl) T.n_min (by decide +kernel) (pa_cons (pe_ix ix_list (pv 3) (pcall D__law_draw hr (pa_cons (pv 0) (pa_cons pe_int pa_nil))) (fun _ _ => rfl)) (pa_cons (pe_op op_pow pe_int pe_int) pa_nil))) pa_nil))))))), ?_⟩)
  · obtain ⟨r, l, ns, rfl, _⟩ := h
    rfl
  · obtain ⟨r, l, ns, rfl, hR, hl, nlr, g, q⟩ := h
    have big : (10 : Int) ^ 40 = 10000000000000000000000000000000000000000 := by decide
    have p12 : (10 : Int) ^ (12 : Int).toNat = 1000000000000 := by decide
    have pw : CPow 10 12 := ⟨by decide, by decide, by decide⟩
    have gl := g.len
    refine ⟨_, rfl, _, rfl, r, l, _, rfl, hR, hl, nlr, (by rw [List.length_map]; omega), (by rw [List.length_map]; omega), fun v H1 hv s1 => ?_⟩
    obtain ⟨x, rfl, x1, x2⟩ := mem_ints g hv
    refine ⟨_, rfl, r, 40, rfl, s1.1, by decide, by omega, fun d1 H2 a0 a1 s2 => ?_⟩
    refine ⟨_, _, rfl, rfl, _, rfl, _, rfl, _, rfl, r, 20, rfl, s2.1, by decide, by omega, fun d2 H3 b0 b1 s3 => ?_⟩
    refine ⟨_, _, rfl, rfl, _, _, rfl, rfl, .inl ⟨by omega, by omega⟩, r, _, rfl, s3.1, fun nr H4 n0 n1 s4 => ?_⟩
    refine ⟨_, rfl, _, _, rfl, rfl, pw, r, _, rfl, s4.1, by decide, by decide, fun d3 H5 c0 c1 s5 => ?_⟩
    have st := (((s1.trans s2).trans s3).trans s4).trans s5
    refine ⟨_, _, rfl, rfl, (by show 3 ≤ sizeLine; decide), fun p hp => ?_⟩
    have npr : p ≠ r := (st.1.ne hp).symm
    have st2 := st.new (o := .lst [.int (1 + d1), .int nr, .int (1 + d3)]) hp
    refine ⟨_, rfl, _, rfl, r, 3, rfl, st2.1, by decide, by omega, fun e H6 e0 e1 s6 => ?_⟩
    obtain ⟨y, hy, hm⟩ := at_of (α := V) (xs := [.int (1 + d1), .int nr, .int (1 + d3)]) e0 e1
    obtain ⟨z, rfl⟩ : ∃ z : Int, y = .int z := by
      simp only [List.mem_cons, List.not_mem_nil, or_false] at hm
      rcases hm with rfl | rfl | rfl <;> exact ⟨_, rfl⟩
    refine ⟨p, _, _, _, rfl, rfl, SqL.of (s6.2 p _ npr upd_same), hy, _, _, rfl, rfl, pw, _, _, rfl, _, _, rfl, ?_⟩
    refine q _ _ ?_ ?_ (st2.trans s6)
    · split <;> omega
    · split <;> split <;> omega
def spAddress : Sp := fun vs H Q _ => ∃ (r : Addr) (x e : Int), vs = [.ref r, .int x, .int e] ∧ Rng H r ∧ 1 ≤ x ∧ x ≤ 1000000000 ∧ 1 ≤ e ∧ e ≤ 1000000000000 ∧ ∀ v H', -(10 ^ 39) ≤ v → v ≤ 10 ^ 39 → Stp r H H' → Q (.int v) H'
theorem sc__law_address : FnScope ["_law_rng_here", "_law_size", "_law_length_here", "_law_some"] ["_law_rng_here", "_law_size", "_law_length_here"] (defScope (top 29)) := ⟨rfl, rfl, rfl, by decide +kernel, rfl, by decide +kernel, by decide +kernel⟩
theorem ok_address (T : Tx K mg) (D__law_draw : Df P w K mg base 1 "_law_draw" ["_law_rng_here", "_law_many"] spDraw) (D__law_near : Df P w K mg base 2 "_law_near" ["_law_rng_here", "_law_one"] spNear)
    (F : FnP K "_law_address" "_law_address" (top 29) f fd) : FnOk P w K mg base CX0 3 f fd ["_law_rng_here", "_law_size", "_law_length_here"] spAddress := by
  refine F.ok sc__law_address (fun vs H Q E h => ?_) (fun cdv A outer s H vs Q E hr h => ⟨_, PSs.nox (pss_cons (ps_set (i := 3) sc__law_address.nd rfl (by first | exact Or.inl rfl | exact Or.inr rfl) (pe_lst (pa_cons (pcall D__law_draw hr (pa_cons (pv 0) (pa_cons (pv 2) pa_nil))) (pa_cons (pe_op op_mul (pcall D__law_draw hr (pa_cons (pv 0) (pa_cons (pe_op op_add (pe_op op_fdivW (pv 2) (pv 1)) pe_int) pa_nil))) (pv 1)) (pa_cons (pe_op op_sub (pe_op op_mul (pe_op op_fdivW (pv 2) (pv 1)) (pv 1)) (pv 1)) (pa_cons (pv 2) pa_nil)))))) (pss_cons (ps_set (i := 3) sc__law_address.nd rfl (by first | exact Or.inl rfl | exact Or.inr rfl) (pe_op op_cat (pv 3) (pe_lst (pa_cons (pe_op op_mul (pe_op op_fdivW (pe_op op_pow pe_int pe_int) (pv 1)) (pv 1)) (pa_cons pe_int (pa_cons (pe_op op_sub (pv 2) (pv 1)) pa_nil)))))) (pss_one (ps_ret (pe_ifExp (pt_cmpR op_gt (pcall D__law_draw hr (pa_cons (pv 0) (pa_cons pe_int pa_nil))) pe_int (nomark _)) (pe_ix ix_list (pv 3) (pcall D__law_draw hr (pa_cons (pv 0) (pa_cons pe_int pa_nil))) (fun _ _ => rfl)) (pcall D__law_near hr (pa_cons (pv 0) (pa_cons (pe_ix ix_list (pv 3) (pcall D__law_draw hr (pa_cons (pv 0) (pa_cons pe_int pa_nil))) (fun _ _ => rfl)) pa_nil)))))))), ?_⟩)
  · obtain ⟨r, x, e, rfl, _⟩ := h
    rfl
  · obtain ⟨r, x, e, rfl, hR, x1, x2, e1, e2, q⟩ := h
    have big : (10 : Int) ^ 40 = 10000000000000000000000000000000000000000 := by decide
    have b39 : (10 : Int) ^ 39 = 1000000000000000000000000000000000000000 := by decide
    have p30 : (10 : Int) ^ (30 : Int).toNat = 1000000000000000000000000000000 := by decide
    have dv : ∀ {i : Int}, CDivW i x := wide_div (b := 64) (by omega) (by omega) (by decide) (by decide)
    have q0 : 0 ≤ e / x := Int.ediv_nonneg (by omega) (by omega)
    have q1 : e / x ≤ e := Int.ediv_le_self x (by omega)
    have q2 : e / x * x ≤ e := Int.ediv_mul_le e (by omega)
    have q3 : 0 ≤ e / x * x := Int.mul_nonneg q0 (by omega)
    have w0 : 0 ≤ (10 : Int) ^ (30 : Int).toNat / x * x := Int.mul_nonneg (Int.ediv_nonneg (by omega) (by omega)) (by omega)
    have w1 : (10 : Int) ^ (30 : Int).toNat / x * x ≤ 10 ^ (30 : Int).toNat := Int.ediv_mul_le _ (by omega)
    refine ⟨_, rfl, _, rfl, r, e, rfl, hR, e1, by omega, fun d1 H1 a0 a1 s1 => ?_⟩
    refine ⟨_, rfl, _, rfl, _, rfl, _, _, rfl, rfl, dv, _, _, rfl, rfl, r, _, rfl, s1.1, by omega, by omega, fun d2 H2 b0 b1 s2 => ?_⟩
    have m0 : 0 ≤ d2 * x := Int.mul_nonneg b0 (by omega)
    have m1 : d2 * x ≤ 2000000000000 * 1000000000 := Int.mul_le_mul (by omega) x2 (by omega) (by decide)
    refine ⟨_, rfl, _, _, rfl, rfl, .inr ⟨by omega, by omega⟩, _, rfl, _, rfl, _, _, rfl, rfl, dv, _, rfl, _, _, rfl, rfl, .inr ⟨by omega, by omega⟩, _, rfl, _, _, rfl, rfl, _, rfl, (by show 4 ≤ sizeLine; decide), fun p hp => ?_⟩
    have st := s1.trans s2
    have st1 := st.new (o := .lst [.int d1, .int (d2 * x), .int (e / x * x - x), .int e]) hp
    refine ⟨_, rfl, _, _, rfl, rfl, ⟨by decide, by decide, by decide⟩, _, rfl, _, _, rfl, rfl, dv, _, rfl, _, _, rfl, rfl, .inr ⟨by omega, by omega⟩, _, rfl, _, rfl, _, _, rfl, rfl, (by show 3 ≤ sizeLine; decide), fun p2 hp2 => ?_⟩
    have st2 := st1.new (o := .lst [.int (10 ^ (30 : Int).toNat / x * x), .int 0, .int (e - x)]) hp2
    refine ⟨p, p2, _, _, rfl, rfl, (by rw [upd_ne (ne_of_none upd_same hp2)]; exact upd_same), upd_same, (by show 7 ≤ sizeLine; decide), fun p3 hp3 => ?_⟩
    have st3 := st2.new (o := .lst ([.int d1, .int (d2 * x), .int (e / x * x - x), .int e] ++ [.int (10 ^ (30 : Int).toNat / x * x), .int 0, .int (e - x)])) hp3
    have n3 : p3 ≠ r := (st2.1.ne hp3).symm
    refine ⟨_, rfl, r, 3, rfl, st3.1, by decide, by omega, fun c H3 c0 c1 s3 => ?_⟩
    have h3 := s3.2 p3 _ n3 upd_same
    have pick : ∀ {k : Int}, 0 ≤ k → k < 7 → ∃ v : Int, atI ([V.int d1, .int (d2 * x), .int (e / x * x - x), .int e] ++ [.int (10 ^ (30 : Int).toNat / x * x), .int 0, .int (e - x)]) k = some (.int v) ∧ -(10 ^ 38) ≤ v ∧ v ≤ 10 ^ 38 := fun {k} k0 k1 => by
      have b38 : (10 : Int) ^ 38 = 100000000000000000000000000000000000000 := by decide
      obtain ⟨v, hv, hm⟩ := at_of (α := V) (xs := [V.int d1, .int (d2 * x), .int (e / x * x - x), .int e] ++ [.int (10 ^ (30 : Int).toNat / x * x), .int 0, .int (e - x)]) k0 (by show k < 7; exact k1)
      simp only [List.cons_append, List.nil_append, List.mem_cons, List.not_mem_nil, or_false] at hm
      rcases hm with rfl | rfl | rfl | rfl | rfl | rfl | rfl <;> exact ⟨_, hv, by omega, by omega⟩
    have b38 : (10 : Int) ^ 38 = 100000000000000000000000000000000000000 := by decide
    refine ⟨_, _, rfl, rfl, _, rfl, ite2 (fun _ => ?_) (fun _ => ?_)⟩
    · refine ⟨_, rfl, _, rfl, r, 7, rfl, s3.1, by decide, by omega, fun k H4 k0 k1 s4 => ?_⟩
      obtain ⟨v, hv, v0, v1⟩ := pick k0 k1
      exact ⟨p3, _, _, _, rfl, rfl, SqL.of (s4.2 p3 _ n3 h3), hv, q _ _ (by omega) (by omega) ((st3.trans s3).trans s4)⟩
    · refine ⟨_, rfl, _, rfl, _, rfl, r, 7, rfl, s3.1, by decide, by omega, fun k H4 k0 k1 s4 => ?_⟩
      obtain ⟨v, hv, v0, v1⟩ := pick k0 k1
      exact ⟨p3, _, _, _, rfl, rfl, SqL.of (s4.2 p3 _ n3 h3), hv, r, v, rfl, s4.1, fun y H5 y0 y1 s5 => q _ _ (by omega) (by omega) (((st3.trans s3).trans s4).trans s5)⟩
end
end K14

set_option Elab.async false
set_option linter.all false
set_option maxRecDepth 100000
set_option maxHeartbeats 4000000
namespace K14
open PySem PySem.Spec PyProof.Rows L2 Gu Ex
section
variable {P : Program} {w : World} {K : PySem.W.Frag} {mg : Str → Option Value} {base : Heap} {f : Addr} {fd : FuncData}
theorem code_lt {z : String} {c : Nat} (hc : c ∈ (Str.ofString z).cps.toList) : c < 1114112 := by
  have hc2 : c ∈ z.toList.map Char.toNat := by
    rw [← cpsOfBytes_string]
    simpa [Str.ofString] using hc
  obtain ⟨ch, _, rfl⟩ := List.mem_map.mp hc2
  have v : ch.val.toNat < 55296 ∨ (57343 < ch.val.toNat ∧ ch.val.toNat < 1114112) := ch.valid
  show ch.val.toNat < 1114112
  omega
theorem ok_of {x : Str} (h : ∀ c ∈ x.cps.toList, c < 1114112) : PyData.strOk x = true := by
  show x.cps.all (fun c => decide (c < 1114112)) = true
  rw [Array.all_eq_true']
  intro c hc
  exact decide_eq_true (h c (by simpa using hc))
theorem of_ok {x : Str} (h : PyData.strOk x = true) : ∀ c ∈ x.cps.toList, c < 1114112 := fun c hc => by
  have z : x.cps.all (fun c => decide (c < 1114112)) = true := h
  rw [Array.all_eq_true'] at z
  exact of_decide_eq_true (z c (by simpa using hc))
theorem ok_app {x y : Str} (h : PyData.strOk x = true) (k : PyData.strOk y = true) : PyData.strOk (x ++ y) = true := ok_of fun c hc => by
  have e : (x ++ y).cps = x.cps ++ y.cps := rfl
  rw [e, Array.toList_append] at hc
  rcases List.mem_append.mp hc with z | z
  · exact of_ok h c z
  · exact of_ok k c z
theorem due_ok {ns : List Int} {L lv ad : V} {d : PyData} (h : PyData.strOk d.shown = true) : PyData.strOk (dueS ns L lv ad d) = true := by
  unfold dueS
  split
  · split <;> decide +kernel
  · exact ok_app (by decide +kernel) h
section
variable {H : Hp}
theorem th_non : Th K H .non .none := ⟨.non, .non, rfl, Nat.zero_le _, by decide +kernel, by decide +kernel⟩
theorem th_bl (b : Bool) : Th K H (.bl b) (.bool b) := ⟨.bl b, .bl b, rfl, Nat.zero_le _, by cases b <;> decide +kernel, by cases b <;> decide +kernel⟩
theorem th_int {i : Int} (h1 : -(10 ^ 39) ≤ i) (h2 : i ≤ 10 ^ 39) : Th K H (.int i) (.int i) := by
  have b39 : (10 : Int) ^ 39 = 1000000000000000000000000000000000000000 := by decide
  have e : i.natAbs < 10 ^ 40 := by
    have z : (10 : Nat) ^ 40 = 10000000000000000000000000000000000000000 := by decide
    omega
  refine ⟨.int i, .int i, decide_eq_true (Nat.lt_of_lt_of_le (PySem.Flt.log2_lt_of (k := 200) (by decide) (Nat.lt_trans e (by decide))) (by decide)), Nat.zero_le _, ?_, ok_of fun c hc => code_lt hc⟩
  have z := int_text_length_le10 (k := 40) (by decide) e
  show (Str.ofString (toString i)).length ≤ 500
  rw [PySem.ofString_length]
  omega
theorem th_s0 : Th K H (.str "") (.str "") := ⟨.str _ ⟨by decide, fun c hc => code_lt hc⟩, .str _, rfl, Nat.zero_le _, by decide +kernel, by decide +kernel⟩
theorem th_s1 : Th K H (.str "0") (.str "0") := ⟨.str _ ⟨by decide, fun c hc => code_lt hc⟩, .str _, rfl, Nat.zero_le _, by decide +kernel, by decide +kernel⟩
theorem th_nil {a : Addr} (h : H a = some (.lst [])) : Th K H (.ref a) (.list []) := ⟨.lst h, .lst (SqL.of h) .nil, rfl, by decide, by decide +kernel, by decide +kernel⟩
theorem th_l0 {a : Addr} (h : H a = some (.lst [.int 0])) : Th K H (.ref a) (.list [.int 0]) := ⟨.lst h, .lst (SqL.of h) (.cons (.int 0) .nil), by decide +kernel, by decide, by decide +kernel, by decide +kernel⟩
theorem th_t0 {a : Addr} (h : H a = some (.tup [.int 0])) : Th K H (.ref a) (.tuple [.int 0]) := ⟨.tup h, .tup (SqT.of h) (.cons (.int 0) .nil), by decide +kernel, by decide, by decide +kernel, by decide +kernel⟩
theorem th_none {a : Addr} (h : H a = some (.dK [])) : Th K H (.ref a) (.dict []) := ⟨.dct h, .dct h .nil .nil, rfl, by decide, by decide +kernel, by decide +kernel⟩
end
/-- odd values: whatever is drawn or made since M, each has its kind and its text -/
def OddOk (K : PySem.W.Frag) (r : Addr) (M : Hp) (xs : List V) : Prop := ∀ H', Stp r M H' → ∀ v ∈ xs, ∃ d, Th K H' v d
end
end K14

set_option Elab.async false
set_option linter.all false
set_option maxRecDepth 100000
set_option maxHeartbeats 4000000
namespace K14
open PySem PySem.Spec PyProof.Rows L2 Gu Ex
theorem dp_ints {K : PySem.W.Frag} {H : Hp} : ∀ ns : List Int, DpAll K H (ns.map V.int) (ns.map PyData.int)
  | [] => .nil
  | n :: r => .cons (.int n) (dp_ints r)
theorem flat : ∀ ns : List Int, PyData.depthAll (ns.map PyData.int) = 0
  | [] => rfl
  | n :: r => by simp only [List.map_cons, PyData.depthAll, PyData.depth, flat r, Nat.max_self]
theorem can_lay : ∀ ns : List Int, PyData.canLayAll0 (ns.map PyData.int) = true
  | [] => rfl
  | n :: r => by simp only [List.map_cons, PyData.canLayAll0, PyData.canLay0, can_lay r, Bool.and_self]
theorem shaped_ints (ns : List Int) : SeqAt.shaped (.list (ns.map PyData.int)) = true := by
  have e : (PyData.list (ns.map PyData.int)).depth = 1 := by
    show PyData.depthAll (ns.map PyData.int) + 1 = 1
    rw [flat]
  have c : (PyData.list (ns.map PyData.int)).canLay0 = true := can_lay ns
  unfold SeqAt.shaped
  rw [c, e]
  rfl
/-- what a turn sees: the drawing list, the sizes' object, the own list -/
structure Ctx (C : Addr) (H : Hp) (r made own : Addr) (ns : List Int) : Prop where
  rng : Rng H r
  sz : ∃ dx l, l ≠ r ∧ H made = some (.ins C dx (szF l)) ∧ H l = some (.lst (ns.map V.int))
  own_ : H own = some (.lst (ns.map V.int))
  ne : own ≠ r
theorem Ctx.at {C : Addr} {H : Hp} {r made own : Addr} {ns : List Int} (c : Ctx C H r made own ns) : SzAt C H made ns := by
  obtain ⟨dx, l, _, h1, h2⟩ := c.sz
  exact ⟨dx, l, h1, h2⟩
theorem Ctx.step {C : Addr} {H H' : Hp} {r made own : Addr} {ns : List Int} (c : Ctx C H r made own ns) (s : Stp r H H') : Ctx C H' r made own ns := by
  obtain ⟨dx, l, h0, h1, h2⟩ := c.sz
  obtain ⟨_, _, hr, _⟩ := c.rng
  have nm : made ≠ r := ne_of h1 hr (by intro z; cases z)
  exact ⟨s.1, ⟨dx, l, h0, s.2 made _ nm h1, s.2 l _ h0 h2⟩, s.2 own _ c.ne c.own_, c.ne⟩
/-- the odd values, the four objects among them at p1 .. p4 -/
def oddL (p1 p2 p3 p4 : Addr) : List V := [.non, .bl true, .bl false, .str "", .str "0", .ref p1, .ref p2, .ref p3, .ref p4, .int (-1), .int (10 ^ (30 : Int).toNat)]
/-- what stands through all turns -/
structure Fx (K : PySem.W.Frag) (H0 : Hp) (r x l po : Addr) (ns : List Int) (od : List V) (H : Hp) : Prop where
  ctx : Ctx (He.ga K "Sizes") H r x l ns
  odd : H po = some (.lst od)
  ok : OddOk K r H od
  ne : po ≠ r
  st : Stp r H0 H
section
variable {K : PySem.W.Frag} {H0 H H' : Hp} {r x l po : Addr} {ns : List Int} {od : List V}
theorem Fx.step (a : Fx K H0 r x l po ns od H) (s : Stp r H H') : Fx K H0 r x l po ns od H' := ⟨a.ctx.step s, s.2 po _ a.ne a.odd, fun G t v hv => a.ok G (s.trans t) v hv, a.ne, a.st.trans s⟩
theorem Fx.new {p : Addr} {o : HO} (a : Fx K H0 r x l po ns od H) (hp : H p = none) : Fx K H0 r x l po ns od (upd H p o) := a.step ((Stp.refl a.ctx.rng).new hp)
theorem Fx.far {p : Addr} (a : Fx K H0 r x l po ns od H) (hp : H p = none) : p ≠ r := (a.ctx.rng.ne hp).symm
end
theorem mem_cut {xs : List V} {lo hi : Option Int} {v : V} (h : v ∈ cutV xs lo hi) : v ∈ xs := List.mem_of_mem_drop (List.mem_of_mem_take h)
/-- a row: its first part has a text, the others are of some kind -/
def RowOk (K : PySem.W.Frag) (H : Hp) (t : Addr) : Prop := ∃ (a b c : V) (d : PyData), H t = some (.tup [a, b, c]) ∧ Th K H a d ∧ Any H b ∧ Any H c
theorem rows_ok {K : PySem.W.Frag} {r : Addr} {G3 GZ : Hp} {od : List V} {e n ad m : Int} {v1 v2 v3 v4 v5 : V} {tA tB tC tD tE : Addr} (ok : OddOk K r G3 od) (all : Stp r G3 GZ) (he : 1 ≤ e ∧ e ≤ 1000000000000)
    (hv1 : v1 ∈ od ++ [.int m]) (hv2 : v2 ∈ od) (hv3 : v3 ∈ cutV od none (some (-1)) ++ [.int 0, .int (10 ^ (12 : Int).toNat + 1)]) (hv4 : v4 ∈ od) (hv5 : v5 ∈ od)
    (kA : GZ tA = some (.tup [.int e, .int n, .int ad])) (kB : GZ tB = some (.tup [.int e, v1, .int ad])) (kC : GZ tC = some (.tup [.int e, .int n, v2])) (kD : GZ tD = some (.tup [v3, .int n, .int ad])) (kE : GZ tE = some (.tup [v3, v4, v5])) :
    ∀ t ∈ [tA, tB, tC, tD, tE], RowOk K GZ t := by
  have b39 : (10 : Int) ^ 39 = 1000000000000000000000000000000000000000 := by decide
  have p12 : (10 : Int) ^ (12 : Int).toNat = 1000000000000 := by decide
  have the : Th K GZ (.int e) (.int e) := th_int (by omega) (by omega)
  have anyOd : ∀ {v : V}, v ∈ od → Any GZ v := fun {v} hv => (ok GZ all v hv).elim fun d z => z.1
  have th3 : ∃ d, Th K GZ v3 d := by
    rcases List.mem_append.mp hv3 with z | z
    · exact ok GZ all v3 (mem_cut z)
    · simp only [List.mem_cons, List.not_mem_nil, or_false] at z
      rcases z with rfl | rfl
      · exact ⟨_, th_int (by omega) (by omega)⟩
      · exact ⟨_, th_int (by omega) (by omega)⟩
  have any1 : Any GZ v1 := by
    rcases List.mem_append.mp hv1 with z | z
    · exact anyOd z
    · rw [List.mem_singleton.mp z]
      exact .int _
  obtain ⟨d3, th3⟩ := th3
  intro t ht
  simp only [List.mem_cons, List.not_mem_nil, or_false] at ht
  rcases ht with rfl | rfl | rfl | rfl | rfl
  · exact ⟨_, _, _, _, kA, the, .int _, .int _⟩
  · exact ⟨_, _, _, _, kB, the, any1, .int _⟩
  · exact ⟨_, _, _, _, kC, the, .int _, anyOd hv2⟩
  · exact ⟨_, _, _, _, kD, th3, .int _, .int _⟩
  · exact ⟨_, _, _, _, kE, th3, anyOd hv4, anyOd hv5⟩
section
variable {P : Program} {w : World} {K : PySem.W.Frag} {mg : Str → Option Value} {base : Heap} {f : Addr} {fd : FuncData}
def spRight : Sp := fun vs H Q _ => ∃ r : Addr, vs = [.ref r] ∧ Rng H r ∧ ∀ H', Stp r H H' → Q (.bl true) H'
theorem sc__law_right : FnScope ["_law_rng_here", "_law_sizes_here", "_law_made", "_law_odd", "_law_turn", "_law_address_here", "_law_rows", "_law_far", "_law_length_here", "_law_level", "_law_one", "_law_other", "_law_last", "_law_due_here", "_law_time"] ["_law_rng_here"] (defScope (top 30)) := ⟨rfl, rfl, rfl, by decide +kernel, rfl, by decide +kernel, by decide +kernel⟩
theorem ok_right (T : Tx K mg) (D__law_sizes : Df P w K mg base 2 "_law_sizes" ["_law_rng_here", "_law_levels", "_law_greatest"] spSizes) (D_Sizes : Kf P w K mg base 4 "Sizes" ["self", "values"] (spMade K))
    (M_all_sizes : Mf P w K mg base 1 "Sizes" "all_sizes" ["self"] (spAll K)) (D__law_draw : Df P w K mg base 1 "_law_draw" ["_law_rng_here", "_law_many"] spDraw) (D__law_choice : Df P w K mg base 2 "_law_choice" ["_law_rng_here", "_law_options"] spChoice)
    (D__law_length : Df P w K mg base 3 "_law_length" ["_law_rng_here", "_law_sizes_here"] spLength) (D__law_address : Df P w K mg base 3 "_law_address" ["_law_rng_here", "_law_size", "_law_length_here"] spAddress)
    (D__law_due : DfG P w K mg base 2 "_law_due" ["_law_sizes_here", "_law_length_here", "_law_level", "_law_address_here"] (spDue K)) (D__law_told : DfG P w K mg base 8 "_law_told" ["_law_made", "_law_length_here", "_law_level", "_law_address_here"] (spTold K))
    (F : FnP K "_law_right" "_law_right" (top 30) f fd) : FnG P w K mg base CX0 9 f fd ["_law_rng_here"] spRight := by
  refine okG F sc__law_right (fun vs H Q E h => ?_) (fun cdv A outer s H vs Q E hr h => ⟨_, PSs.nox (pss_cons (ps_set (i := 1) sc__law_right.nd rfl (by first | exact Or.inl rfl | exact Or.inr rfl) (pcall D__law_sizes hr.r (pa_cons (pv 0) (pa_cons pe_int (pa_cons pe_int pa_nil))))) (pss_cons (ps_set (i := 2) sc__law_right.nd rfl (by first | exact Or.inl rfl | exact Or.inr rfl) (pmake D_Sizes hr.r (pa_cons (pe_callTy call_list_of (by rfl) T.n_list (by decide +kernel) (pa_cons (pv 1) pa_nil)) pa_nil))) (pss_cons (ps_set (i := 3) sc__law_right.nd rfl (by first | exact Or.inl rfl | exact Or.inr rfl) (pe_lst (pa_cons pe_non (pa_cons pe_bl (pa_cons pe_bl (pa_cons pe_str (pa_cons pe_str (pa_cons (pe_lst pa_nil) (pa_cons (pe_lst (pa_cons pe_int pa_nil)) (pa_cons (pe_tup (pa_cons pe_int pa_nil)) (pa_cons pe_dnewK (pa_cons (pe_un un_neg pe_int) (pa_cons (pe_op op_pow pe_int pe_int) pa_nil))))))))))))) (pss_cons (ps_for PassesOwn.never rfl (pi_range1 rfl T.n_range (pa_cons pe_int pa_nil)) (pg_name (i := 4) sc__law_right.nd rfl (by first | exact Or.inl rfl | exact Or.inr rfl)) (pss_cons (ps_par (by rfl) sc__law_right.nd (i := 8) (j := 9) rfl rfl (by decide) rfl rfl (pa_cons (pcall D__law_length hr.r (pa_cons (pv 0) (pa_cons (pv 1) pa_nil))) (pa_cons (pcall D__law_draw hr.r (pa_cons (pv 0) (pa_cons (pe_callB call_len_seq (by rfl) T.n_len (by decide +kernel) (pa_cons (pv 1) pa_nil)) pa_nil))) pa_nil)) (by rfl)) (pss_cons (ps_set (i := 5) sc__law_right.nd rfl (by first | exact Or.inl rfl | exact Or.inr rfl) (pcall D__law_address hr.r (pa_cons (pv 0) (pa_cons (pe_ix ix_list (pv 1) (pv 9) (fun _ _ => rfl)) (pa_cons (pv 8) pa_nil))))) (pss_cons (ps_set (i := 6) sc__law_right.nd rfl (by first | exact Or.inl rfl | exact Or.inr rfl) (pe_lst (pa_cons (pe_tup (pa_cons (pv 8) (pa_cons (pv 9) (pa_cons (pv 5) pa_nil)))) (pa_cons (pe_tup (pa_cons (pv 8) (pa_cons (pcall D__law_choice hr.r (pa_cons (pv 0) (pa_cons (pe_op op_cat (pv 3) (pe_lst (pa_cons (pe_callB call_len_seq (by rfl) T.n_len (by decide +kernel) (pa_cons (pv 1) pa_nil)) pa_nil))) pa_nil))) (pa_cons (pv 5) pa_nil)))) pa_nil)))) (pss_cons (ps_set (i := 6) sc__law_right.nd rfl (by first | exact Or.inl rfl | exact Or.inr rfl) (pe_op op_cat (pv 6) (pe_lst (pa_cons (pe_tup (pa_cons (pv 8) (pa_cons (pv 9) (pa_cons (pcall D__law_choice hr.r (pa_cons (pv 0) (pa_cons (pv 3) pa_nil))) pa_nil)))) pa_nil)))) (pss_cons (ps_set (i := 7) sc__law_right.nd rfl (by first | exact Or.inl rfl | exact Or.inr rfl) (pcall D__law_choice hr.r (pa_cons (pv 0) (pa_cons (pe_op op_cat (pe_slice sl_list (pv 3) po_none (po_some (pe_un un_neg pe_int))) (pe_lst (pa_cons pe_int (pa_cons (pe_op op_add (pe_op op_pow pe_int pe_int) pe_int) pa_nil)))) pa_nil)))) (pss_cons (ps_set (i := 6) sc__law_right.nd rfl (by first | exact Or.inl rfl | exact Or.inr rfl) (pe_op op_cat (pv 6) (pe_lst (pa_cons (pe_tup (pa_cons (pv 7) (pa_cons (pv 9) (pa_cons (pv 5) pa_nil)))) (pa_cons (pe_tup (pa_cons (pv 7) (pa_cons (pcall D__law_choice hr.r (pa_cons (pv 0) (pa_cons (pv 3) pa_nil))) (pa_cons (pcall D__law_choice hr.r (pa_cons (pv 0) (pa_cons (pv 3) pa_nil))) pa_nil)))) pa_nil))))) (pss_one (ps_for PassesOwn.never rfl (pi_list (pv 6)) (pg_tup (by rfl) (pgs_cons (pg_name (i := 10) sc__law_right.nd rfl (by first | exact Or.inl rfl | exact Or.inr rfl)) (pgs_cons (pg_name (i := 11) sc__law_right.nd rfl (by first | exact Or.inl rfl | exact Or.inr rfl)) (pgs_cons (pg_name (i := 12) sc__law_right.nd rfl (by first | exact Or.inl rfl | exact Or.inr rfl)) pgs_nil)))) (pss_cons (ps_set (i := 13) sc__law_right.nd rfl (by first | exact Or.inl rfl | exact Or.inr rfl) (pcallG D__law_due hr (pa_cons (pv 1) (pa_cons (pv 10) (pa_cons (pv 11) (pa_cons (pv 12) pa_nil)))))) (pss_one (ps_if (pt_cmpR (op_neD hr.r.units) (pe_lc (own := [("_law_time", 14)]) (g := gName 14) rfl sc__law_right.nd (pi_range1 rfl T.n_range (pa_cons pe_int pa_nil)) (blkOk_by (own := [("_law_time", 14)]) (N := ["_law_rng_here", "_law_sizes_here", "_law_made", "_law_odd", "_law_turn", "_law_address_here", "_law_rows", "_law_far", "_law_length_here", "_law_level", "_law_one", "_law_other", "_law_last", "_law_due_here", "_law_time"]) (sc := defScope (top 30)) (by decide +kernel)) (fun _ _ _ _ _ => pg_name (i := 14) sc__law_right.nd rfl (Or.inl rfl)) (fun _ _ _ _ _ => pts_nil) (fun _ _ _ _ _ => (pcallG D__law_told hr (pa_cons (pv 2) (pa_cons (pv 10) (pa_cons (pv 11) (pa_cons (pv 12) pa_nil))))))) (pe_lst (pa_cons (pv 13) (pa_cons (pv 13) pa_nil))) (nomark _)) (pss_one (ps_ret pe_bl)) pss_nil)))))))))))) (pss_one (ps_ret (pe_cmpR (op_eqD hr.r.units) (pmeth0 M_all_sizes hr.r (pv 2)) (pv 1) (nomark _)))))))), ?_⟩)
  · obtain ⟨r, rfl, _⟩ := h
    rfl
  · obtain ⟨r, rfl, hR, q⟩ := h
    refine ⟨_, rfl, r, 8, 40, rfl, hR, by decide, by decide, by decide, by decide, fun l ns H1 g hl hL s1 => ?_⟩
    refine ⟨_, rfl, l, _, rfl, .inl (SqL.of hL), fun l2 hl2 => ?_⟩
    intro x dx hx hdx ndx
    have e1 : (upd (upd (upd H1 l2 (.lst (ns.map V.int))) dx (.own x)) x (.ins (He.ga K "Sizes") dx [])) l2 = some (.lst (ns.map V.int)) := by
      rw [upd_ne (ne_of_none upd_same hx), upd_ne (ne_of_none upd_same hdx), upd_same]
    refine ⟨x, dx, l2, ns, rfl, upd_same, SqL.of e1, .base (.lst e1), g, fun l3 hl3 => ⟨rfl, ?_⟩⟩
    have hl1 : H1 l = some (.lst (ns.map V.int)) := hL
    have x1 : H1 x = none := by
      cases e : H1 x with
      | none => rfl
      | some o => rw [upd_ne (ne_of_none e hl2), e] at hx; cases hx
    have nx3 : x ≠ l3 := ne_of_none upd_same hl3
    have sM : Stp r H1 (upd (upd (upd (upd (upd H1 l2 (HO.lst (ns.map V.int))) dx (HO.own x)) x (HO.ins (He.ga K "Sizes") dx [])) l3 (HO.lst (ns.map V.int))) x (HO.ins (He.ga K "Sizes") dx (szF l3))) := by
      have t1 : Stp r H1 (upd H1 l2 (HO.lst (ns.map V.int))) := (Stp.refl s1.1).new hl2
      have t2 := t1.new (o := HO.own x) hdx
      have t3 := t2.new (o := HO.ins (He.ga K "Sizes") dx []) (by rw [upd_ne ndx.symm]; exact hx)
      have t4 := t3.new (o := HO.lst (ns.map V.int)) hl3
      obtain ⟨⟨a, b, ea, z⟩, kk⟩ := t4
      have nrx : r ≠ x := s1.1.ne x1
      refine ⟨⟨a, b, by rw [upd_ne nrx]; exact ea, z⟩, fun c o n e => ?_⟩
      rw [upd_ne (ne_of_none e x1)]
      exact kk c o n e
    have hM3 : (upd (upd (upd (upd (upd H1 l2 (HO.lst (ns.map V.int))) dx (HO.own x)) x (HO.ins (He.ga K "Sizes") dx [])) l3 (HO.lst (ns.map V.int))) x (HO.ins (He.ga K "Sizes") dx (szF l3))) l3 = some (.lst (ns.map V.int)) := by
      rw [upd_ne nx3.symm, upd_same]
    have hMx : (upd (upd (upd (upd (upd H1 l2 (HO.lst (ns.map V.int))) dx (HO.own x)) x (HO.ins (He.ga K "Sizes") dx [])) l3 (HO.lst (ns.map V.int))) x (HO.ins (He.ga K "Sizes") dx (szF l3))) x = some (.ins (He.ga K "Sizes") dx (szF l3)) := upd_same
    have n3r : l3 ≠ r := by
      have t1 : Stp r H1 (upd H1 l2 (HO.lst (ns.map V.int))) := (Stp.refl s1.1).new hl2
      have t2 := t1.new (o := HO.own x) hdx
      have t3 := t2.new (o := HO.ins (He.ga K "Sizes") dx []) (by rw [upd_ne ndx.symm]; exact hx)
      exact (t3.1.ne hl3).symm
    have nlr : l ≠ r := fun zz => (hR.ne hl) zz.symm
    have ctx : Ctx (He.ga K "Sizes") (upd (upd (upd (upd (upd H1 l2 (HO.lst (ns.map V.int))) dx (HO.own x)) x (HO.ins (He.ga K "Sizes") dx [])) l3 (HO.lst (ns.map V.int))) x (HO.ins (He.ga K "Sizes") dx (szF l3))) r x l ns := ⟨sM.1, ⟨dx, l3, n3r, hMx, hM3⟩, sM.2 l _ nlr hl1, nlr⟩
    have s2 := s1.trans sM
    -- odd
    refine ⟨Nat.zero_le _, fun p1 h1 => ?_⟩
    have m1 := same_upd (o := .lst []) h1
    refine ⟨(by show 1 ≤ sizeLine; decide), fun p2 h2 => ?_⟩
    have m2 := same_upd (o := .lst [.int 0]) h2
    refine ⟨(by show 1 ≤ sizeLine; decide), fun p3 h3 => ?_⟩
    have m3 := same_upd (o := .tup [.int 0]) h3
    intro p4 h4
    have m4 := same_upd (o := .dK []) h4
    refine ⟨_, rfl, _, _, rfl, rfl, ⟨by decide, by decide, by decide⟩, (by show 11 ≤ sizeLine; decide), fun po ho => ?_⟩
    have m5 := same_upd (o := .lst (oddL p1 p2 p3 p4)) ho
    have mm := (((m1.trans m2).trans m3).trans m4).trans m5
    have s3 := Stp.same sM.1 mm
    have cM := ctx.step s3
    have sHM := s2.trans s3
    obtain ⟨ra, rb, hr2, _⟩ := sM.1
    have npo : po ≠ r := (Rng.ne (Stp.same sM.1 (((m1.trans m2).trans m3).trans m4)).1 ho).symm
    have n1 : p1 ≠ r := (Rng.ne sM.1 h1).symm
    have n2 : p2 ≠ r := (Rng.ne (Stp.same sM.1 m1).1 h2).symm
    have n3 : p3 ≠ r := (Rng.ne (Stp.same sM.1 (m1.trans m2)).1 h3).symm
    have n4 : p4 ≠ r := (Rng.ne (Stp.same sM.1 ((m1.trans m2).trans m3)).1 h4).symm
    have k1 := (((m2.trans m3).trans m4).trans m5) p1 _ upd_same
    have k2 := ((m3.trans m4).trans m5) p2 _ upd_same
    have k3 := (m4.trans m5) p3 _ upd_same
    have k4 := m5 p4 _ upd_same
    have b39 : (10 : Int) ^ 39 = 1000000000000000000000000000000000000000 := by decide
    have p30 : (10 : Int) ^ (30 : Int).toNat = 1000000000000000000000000000000 := by decide
    have big : (10 : Int) ^ 40 = 10000000000000000000000000000000000000000 := by decide
    have p12 : (10 : Int) ^ (12 : Int).toNat = 1000000000000 := by decide
    have fx0 : Fx K H r x l po ns (oddL p1 p2 p3 p4) _ := ⟨cM, upd_same, fun G t v hv => by
      unfold oddL at hv
      simp only [List.mem_cons, List.not_mem_nil, or_false] at hv
      rcases hv with rfl | rfl | rfl | rfl | rfl | rfl | rfl | rfl | rfl | rfl | rfl
      · exact ⟨_, th_non⟩
      · exact ⟨_, th_bl _⟩
      · exact ⟨_, th_bl _⟩
      · exact ⟨_, th_s0⟩
      · exact ⟨_, th_s1⟩
      · exact ⟨_, th_nil (t.2 p1 _ n1 k1)⟩
      · exact ⟨_, th_l0 (t.2 p2 _ n2 k2)⟩
      · exact ⟨_, th_t0 (t.2 p3 _ n3 k3)⟩
      · exact ⟨_, th_none (t.2 p4 _ n4 k4)⟩
      · exact ⟨_, th_int (by omega) (by omega)⟩
      · exact ⟨_, th_int (by omega) (by omega)⟩, npo, sHM⟩
    obtain ⟨od, odl, fx0⟩ : ∃ od : List V, od.length = 11 ∧ Fx K H r x l po ns od _ := ⟨_, rfl, fx0⟩
    have gl := g.len
    refine ⟨12, rfl, by decide, by decide, ?_⟩
    refine for_range (fun k σ G => ∃ y4 y5 y6 y7 y8 y9 y10 y11 y12 y13 y14, σ = [some (.ref r), some (.ref l), some (.ref x), some (.ref po), y4, y5, y6, y7, y8, y9, y10, y11, y12, y13, y14] ∧ Fx K H r x l po ns od G) ⟨_, _, _, _, _, _, _, _, _, _, _, rfl, fx0⟩ ?_ ?_
    · rintro k σ G hk ⟨y4, y5, y6, y7, y8, y9, y10, y11, y12, y13, y14, rfl, fx⟩
      -- length, level
      refine ⟨_, rfl, _, rfl, r, l, ns, rfl, fx.ctx.rng, fx.ctx.own_, fx.ctx.ne, g, fun e G1 e1 e2 t1 => ?_⟩
      have fx1 := fx.step t1
      refine ⟨_, rfl, _, rfl, l, _, rfl, .inl (SqL.of fx1.ctx.own_), r, _, rfl, fx1.ctx.rng, (by rw [List.length_map]; omega), (by rw [List.length_map]; omega), fun dv G2 d0 d1 t2 => ?_⟩
      rw [List.length_map] at d1
      obtain ⟨n, rfl⟩ := Int.eq_ofNat_of_zero_le d0
      have hn : n < ns.length := by omega
      have hx' : ns[n]? = some ns[n] := List.getElem?_eq_getElem hn
      obtain ⟨z1, z2⟩ := g.rng n _ hx'
      have fx2 := fx1.step t2
      refine ⟨_, _, rfl, ?_⟩
      -- address
      refine ⟨_, rfl, _, rfl, _, rfl, l, _, _, _, rfl, rfl, SqL.of fx2.ctx.own_, at_map hx', _, rfl, r, ns[n], e, rfl, fx2.ctx.rng, z1, z2, e1, e2, fun ad G3 a0 a1 t3 => ?_⟩
      have fx3 := fx2.step t3
      have th : ∀ {G' : Hp} {v : V}, Stp r G3 G' → v ∈ od → ∃ d, Th K G' v d := fun s hv => fx3.ok _ s _ hv
      have od11 : ∀ {ys : List V}, ys.length ≤ 10 → od.length + ys.length ≤ sizeLine := fun h => Nat.le_trans (Nat.add_le_add (Nat.le_of_eq odl) h) (by decide)
      -- rows
      refine ⟨_, rfl, _, rfl, _, rfl, (by show 3 ≤ sizeLine; decide), fun tA hA => ?_⟩
      have u1 : Stp r G3 _ := (Stp.refl fx3.ctx.rng).new (o := .tup [.int e, .int n, .int ad]) hA
      have fa1 := fx3.step u1
      refine ⟨_, rfl, _, rfl, _, rfl, _, rfl, l, _, rfl, .inl (SqL.of fa1.ctx.own_), (by show 1 ≤ sizeLine; decide), fun q1 hq1 => ?_⟩
      have u2 := (Stp.refl fa1.ctx.rng).new (o := .lst [.int ((ns.map V.int).length : Int)]) hq1
      have fa2 := fa1.step u2
      refine ⟨po, q1, _, _, rfl, rfl, fa2.odd, upd_same, od11 (by show 1 ≤ 10; decide), fun q2 hq2 => ?_⟩
      have u3 := (Stp.refl fa2.ctx.rng).new (o := .lst (od ++ [.int ((ns.map V.int).length : Int)])) hq2
      have fa3 := fa2.step u3
      refine ⟨r, q2, _, rfl, fa3.ctx.rng, upd_same, fa2.far hq2, (by rw [List.length_append, odl]; show 1 ≤ 11 + 1; decide), (by rw [List.length_append, odl]; show 11 + 1 ≤ 1000; decide), fun v1 G4 hv1 u4 => ?_⟩
      have fa4 := fa3.step u4
      refine ⟨_, rfl, (by show 3 ≤ sizeLine; decide), fun tB hB => ?_⟩
      have u5 := (Stp.refl fa4.ctx.rng).new (o := .tup [.int e, v1, .int ad]) hB
      have fa5 := fa4.step u5
      refine ⟨(by show 2 ≤ sizeLine; decide), fun R1 hR1 => ?_⟩
      have u6 := (Stp.refl fa5.ctx.rng).new (o := .lst [.ref tA, .ref tB]) hR1
      have fa6 := fa5.step u6
      refine ⟨_, rfl, _, rfl, _, rfl, _, rfl, _, rfl, r, po, _, rfl, fa6.ctx.rng, fa6.odd, fa6.ne, (by rw [odl]; decide), (by rw [odl]; decide), fun v2 G5 hv2 u7 => ?_⟩
      have fa7 := fa6.step u7
      refine ⟨(by show 3 ≤ sizeLine; decide), fun tC hC => ?_⟩
      have u8 := (Stp.refl fa7.ctx.rng).new (o := .tup [.int e, .int n, v2]) hC
      have fa8 := fa7.step u8
      refine ⟨(by show 1 ≤ sizeLine; decide), fun R2 hR2 => ?_⟩
      have u9 := (Stp.refl fa8.ctx.rng).new (o := .lst [.ref tC]) hR2
      have fa9 := fa8.step u9
      have nR1 : R1 ≠ r := fa5.far hR1
      refine ⟨R1, R2, _, _, rfl, rfl, ((u7.trans u8).trans u9).2 R1 _ nR1 upd_same, upd_same, (by show 3 ≤ sizeLine; decide), fun R3 hR3 => ?_⟩
      have u10 := (Stp.refl fa9.ctx.rng).new (o := .lst ([.ref tA, .ref tB] ++ [.ref tC])) hR3
      have fa10 := fa9.step u10
      -- far
      refine ⟨_, rfl, _, rfl, _, rfl, _, rfl, po, _, rfl, SqL.of fa10.odd, fun q3 hq3 => ?_⟩
      have u11 := (Stp.refl fa10.ctx.rng).new (o := .lst (cutV od none (some (-1)))) hq3
      have fa11 := fa10.step u11
      have cl : (cutV od none (some (-1))).length ≤ 11 := by
        have z := cutV_length od none (some (-1))
        omega
      refine ⟨_, _, rfl, rfl, ⟨by decide, by decide, by decide⟩, _, _, rfl, rfl, (by show 2 ≤ sizeLine; decide), fun q4 hq4 => ?_⟩
      have u12 := (Stp.refl fa11.ctx.rng).new (o := .lst [.int 0, .int (10 ^ (12 : Int).toNat + 1)]) hq4
      have fa12 := fa11.step u12
      refine ⟨q3, q4, _, _, rfl, rfl, (by rw [upd_ne (ne_of_none upd_same hq4)]; exact upd_same), upd_same, Nat.le_trans (Nat.add_le_add_right cl 2) (by decide), fun q5 hq5 => ?_⟩
      have u13 := (Stp.refl fa12.ctx.rng).new (o := .lst (cutV od none (some (-1)) ++ [.int 0, .int (10 ^ (12 : Int).toNat + 1)])) hq5
      have fa13 := fa12.step u13
      refine ⟨r, q5, _, rfl, fa13.ctx.rng, upd_same, fa12.far hq5, (by rw [List.length_append]; show 1 ≤ _ + 2; omega), (by rw [List.length_append]; exact Nat.le_trans (Nat.add_le_add_right cl 2) (by decide)), fun v3 G6 hv3 u14 => ?_⟩
      have fa14 := fa13.step u14
      -- the last rows
      refine ⟨_, rfl, _, rfl, _, rfl, _, rfl, (by show 3 ≤ sizeLine; decide), fun tD hD => ?_⟩
      have u15 := (Stp.refl fa14.ctx.rng).new (o := .tup [v3, .int n, .int ad]) hD
      have fa15 := fa14.step u15
      refine ⟨_, rfl, _, rfl, _, rfl, r, po, _, rfl, fa15.ctx.rng, fa15.odd, fa15.ne, (by rw [odl]; decide), (by rw [odl]; decide), fun v4 G7 hv4 u16 => ?_⟩
      have fa16 := fa15.step u16
      refine ⟨_, rfl, _, rfl, r, po, _, rfl, fa16.ctx.rng, fa16.odd, fa16.ne, (by rw [odl]; decide), (by rw [odl]; decide), fun v5 G8 hv5 u17 => ?_⟩
      have fa17 := fa16.step u17
      refine ⟨(by show 3 ≤ sizeLine; decide), fun tE hE => ?_⟩
      have u18 := (Stp.refl fa17.ctx.rng).new (o := .tup [v3, v4, v5]) hE
      have fa18 := fa17.step u18
      refine ⟨(by show 2 ≤ sizeLine; decide), fun R4 hR4 => ?_⟩
      have u19 := (Stp.refl fa18.ctx.rng).new (o := .lst [.ref tD, .ref tE]) hR4
      have fa19 := fa18.step u19
      have nR3 : R3 ≠ r := fa9.far hR3
      refine ⟨R3, R4, _, _, rfl, rfl, (((((((((u11.trans u12).trans u13).trans u14).trans u15).trans u16).trans u17).trans u18).trans u19)).2 R3 _ nR3 upd_same, upd_same, (by show 5 ≤ sizeLine; decide), fun R5 hR5 => ?_⟩
      have u20 := (Stp.refl fa19.ctx.rng).new (o := .lst ([.ref tA, .ref tB] ++ [.ref tC] ++ [.ref tD, .ref tE])) hR5
      have fa20 := fa19.step u20
      have kA := (((((((((((((((((((u2.trans u3).trans u4).trans u5).trans u6).trans u7).trans u8).trans u9).trans u10).trans u11).trans u12).trans u13).trans u14).trans u15).trans u16).trans u17).trans u18).trans u19).trans u20)).2 tA _ (fx3.far hA) upd_same
      have kB := (((((((((((((((u6.trans u7).trans u8).trans u9).trans u10).trans u11).trans u12).trans u13).trans u14).trans u15).trans u16).trans u17).trans u18).trans u19).trans u20)).2 tB _ (fa4.far hB) upd_same
      have kC := ((((((((((((u9.trans u10).trans u11).trans u12).trans u13).trans u14).trans u15).trans u16).trans u17).trans u18).trans u19).trans u20)).2 tC _ (fa7.far hC) upd_same
      have kD := (((((u16.trans u17).trans u18).trans u19).trans u20)).2 tD _ (fa14.far hD) upd_same
      have kE := ((u19.trans u20)).2 tE _ (fa17.far hE) upd_same
      have all := (((((((((((((((((((u1.trans u2).trans u3).trans u4).trans u5).trans u6).trans u7).trans u8).trans u9).trans u10).trans u11).trans u12).trans u13).trans u14).trans u15).trans u16).trans u17).trans u18).trans u19).trans u20)
      have rows := rows_ok fx3.ok all ⟨e1, e2⟩ hv1 hv2 hv3 hv4 hv5 kA kB kC kD kE
      refine ⟨_, rfl, R5, rfl, ⟨_, SqL.of upd_same⟩, ?_⟩
      refine for_list (K := K) (a := R5) (xs := [.ref tA, .ref tB, .ref tC, .ref tD, .ref tE]) (fun i σ G => ∃ y4 y5 y6 y7 y8 y9 y10 y11 y12 y13 y14, σ = [some (.ref r), some (.ref l), some (.ref x), some (.ref po), y4, y5, y6, y7, y8, y9, y10, y11, y12, y13, y14] ∧ Fx K H r x l po ns od G ∧ G R5 = some (.lst [.ref tA, .ref tB, .ref tC, .ref tD, .ref tE]) ∧ ∀ t ∈ [tA, tB, tC, tD, tE], RowOk K G t)
        ⟨_, _, _, _, _, _, _, _, _, _, _, rfl, fa20, upd_same, rows⟩ (fun i σ G _ zz => by obtain ⟨_, _, _, _, _, _, _, _, _, _, _, _, _, hh, _⟩ := zz; exact SqL.of hh) ?_ ?_
      · rintro i v σ G hv ⟨y4, y5, y6, y7, y8, y9, y10, y11, y12, y13, y14, rfl, fG, hG, rG⟩
        obtain ⟨t, ht, rfl⟩ : ∃ t, t ∈ [tA, tB, tC, tD, tE] ∧ v = .ref t := by
          have hm := List.mem_of_getElem? hv
          simp only [List.mem_cons, List.not_mem_nil, or_false] at hm
          rcases hm with rfl | rfl | rfl | rfl | rfl
          · exact ⟨tA, by simp, rfl⟩
          · exact ⟨tB, by simp, rfl⟩
          · exact ⟨tC, by simp, rfl⟩
          · exact ⟨tD, by simp, rfl⟩
          · exact ⟨tE, by simp, rfl⟩
        obtain ⟨a, b, c, d, htup, tha, anb, anc⟩ := rG t ht
        refine ⟨t, [a, b, c], rfl, .inl (.inl htup), rfl, a, [b, c], rfl, b, [c], rfl, c, [], rfl, rfl, ?_⟩
        refine ⟨_, rfl, _, rfl, _, rfl, _, rfl, l, ns, a, b, c, d, rfl, fG.ctx.own_, g, tha, anb, anc, ?_⟩
        refine ⟨2, rfl, by decide, by decide, fun D hD => ?_⟩
        generalize hS : dueS ns a b c d = S
        have okS : PyData.strOk S = true := by
          rw [← hS]
          exact due_ok tha.2.2.2.2.2
        refine lc_range (fun i G' => G' D = some (.lst ((List.replicate i S).map V.str)) ∧ Same G G') ⟨upd_same, same_upd hD⟩ ?_ ?_
        · rintro i G' hi ⟨e1, e2⟩
          have hi2 : i < 2 := hi
          obtain ⟨dx', l', _, g1, g2⟩ := fG.ctx.sz
          refine ⟨rfl, _, rfl, _, rfl, _, rfl, _, rfl, x, ns, a, b, c, d, rfl, ⟨dx', l', e2 _ _ g1, e2 _ _ g2⟩, g, tha.same e2, anb.same e2, anc.same e2, fun G2 sm2 => ?_⟩
          rw [hS]
          refine ⟨_, sm2 _ _ e1, small1000 (by rw [List.length_map, List.length_replicate]; omega), ?_, fun b' o' e' => ?_⟩
          · rw [upd_same, List.replicate_succ', List.map_append]
            rfl
          · rw [upd_ne (ne_of_none e' hD)]
            exact sm2 _ _ (e2 b' o' e')
        · rintro G' ⟨e1, e2⟩
          refine ⟨_, rfl, _, rfl, (by show 2 ≤ sizeLine; decide), fun pl hpl => ?_⟩
          have cl : PyData.canLay0 (.list [.str S, .str S]) = true := by
            simp only [PyData.canLay0, PyData.canLayAll0, okS, Bool.and_self]
          have shp : SeqAt.shaped (.list [.str S, .str S]) = true := by
            unfold SeqAt.shaped
            rw [cl]
            rfl
          have ev := SeqAt.eqv_refl _ cl
          have dps : ∀ {Z : Hp}, DpAll K Z [.str S, .str S] [.str S, .str S] := .cons (.str _) (.cons (.str _) .nil)
          have sm3 := same_upd (o := .lst [.str S, .str S]) hpl
          have tot := e2.trans sm3
          refine ⟨_, _, .lst (SqL.of (sm3 _ _ e1)) dps, .lst (SqL.of upd_same) dps, shp, shp, _, rfl, ifF (by rw [ev]; rfl) ?_⟩
          refine ⟨_, _, _, _, _, _, _, _, _, _, _, rfl, fG.step (Stp.same fG.ctx.rng tot), tot _ _ hG, fun t' ht' => ?_⟩
          obtain ⟨a', b', c', d', k1', k2', k3', k4'⟩ := rG t' ht'
          exact ⟨a', b', c', d', tot _ _ k1', k2'.same tot, k3'.same tot, k4'.same tot⟩
      · rintro σ G ⟨y4, y5, y6, y7, y8, y9, y10, y11, y12, y13, y14, rfl, fG, _, _⟩
        exact ⟨_, _, _, _, _, _, _, _, _, _, _, rfl, fG⟩
    · rintro σ G ⟨y4, y5, y6, y7, y8, y9, y10, y11, y12, y13, y14, rfl, fx⟩
      obtain ⟨dx', l', h0, g1, g2⟩ := fx.ctx.sz
      refine ⟨_, rfl, x, dx', _, rfl, g1, szF_no l' (by decide +kernel), x, ns, rfl, fx.ctx.at, fun l4 hl4 => ?_⟩
      have hown : (upd G l4 (.lst (ns.map V.int))) l = some (.lst (ns.map V.int)) := by rw [upd_ne (ne_of_none fx.ctx.own_ hl4)]; exact fx.ctx.own_
      have ev := SeqAt.eqv_refl (.list (ns.map PyData.int)) (can_lay _)
      refine ⟨_, rfl, _, _, .lst (SqL.of upd_same) (dp_ints ns), .lst (SqL.of hown) (dp_ints ns), shaped_ints _, shaped_ints _, ?_⟩
      rw [ev]
      exact q _ (fx.st.trans ((Stp.refl fx.ctx.rng).new hl4))
end
end K14

set_option Elab.async false
set_option linter.all false
set_option maxRecDepth 100000
set_option maxHeartbeats 4000000
namespace K14
open PySem PySem.Spec PyProof.Rows L2 Gu Ex
section
variable {P : Program} {w : World} {K : PySem.W.Frag} {mg : Str → Option Value} {base : Heap} {f : Addr} {fd : FuncData}
def spLaw (K : PySem.W.Frag) : Sp := fun vs H Q _ => ∃ (a : Addr) (ns : List Int), vs = [.ref a] ∧ SqL K H a (ns.map V.int) ∧ ns.length ≤ 63 ∧ ∀ H', Q (.bl true) H'
theorem sc_law : FnScope ["_law_script", "_law_k"] ["_law_script"] (defScope (top 31)) := ⟨rfl, rfl, rfl, by decide +kernel, rfl, by decide +kernel, by decide +kernel⟩
theorem ok_law (T : Tx K mg) (D__law_rng : Df P w K mg base 1 "_law_rng" ["_law_script", "_law_k"] (spRng K)) (D__law_right : DfG P w K mg base 9 "_law_right" ["_law_rng_here"] spRight)
    (F : FnP K "law" "law" (top 31) f fd) : FnG P w K mg base CX0 10 f fd ["_law_script"] (spLaw K) := by
  refine okG F sc_law (fun vs H Q E h => ?_) (fun cdv A outer s H vs Q E hr h => ⟨_, PSs.nox (pss_one (ps_ret (pe_callB (cr_all rfl) (by rfl) T.n_all (by decide +kernel) (pa_cons (pe_lc (own := [("_law_k", 1)]) (g := gName 1) rfl sc_law.nd (pi_range1 rfl T.n_range (pa_cons (pe_callB (call_max2 rfl) (by rfl) T.n_max (by decide +kernel) (pa_cons pe_int (pa_cons (pe_callB (call_min2 rfl) (by rfl) T.n_min (by decide +kernel) (pa_cons (pe_callB call_len_seq (by rfl) T.n_len (by decide +kernel) (pa_cons (pv 0) pa_nil)) (pa_cons pe_int pa_nil))) pa_nil))) pa_nil)) (blkOk_by (own := [("_law_k", 1)]) (N := ["_law_script", "_law_k"]) (sc := defScope (top 31)) (by decide +kernel)) (fun _ _ _ _ _ => pg_name (i := 1) sc_law.nd rfl (Or.inl rfl)) (fun _ _ _ _ _ => pts_nil) (fun _ _ _ _ _ => (pcallG D__law_right hr (pa_cons (pcall D__law_rng hr.r (pa_cons (pv 0) (pa_cons (pv 1) pa_nil))) pa_nil)))) pa_nil)))), ?_⟩)
  · obtain ⟨a, ns, rfl, _⟩ := h
    rfl
  · obtain ⟨a, ns, rfl, hS, hlen, q⟩ := h
    refine ⟨_, rfl, a, _, rfl, .inl hS, _, _, rfl, _, _, rfl, ?_⟩
    obtain ⟨j, ej, j1, j2⟩ : ∃ j : Int, (if (if (6 : Int) < ((ns.map V.int).length : Int) then 6 else ((ns.map V.int).length : Int)) > 1 then (if (6 : Int) < ((ns.map V.int).length : Int) then 6 else ((ns.map V.int).length : Int)) else 1) = j ∧ 1 ≤ j ∧ j ≤ 6 := by
      refine ⟨_, rfl, ?_, ?_⟩
      · split <;> omega
      · split <;> split <;> omega
    refine ⟨j, (by rw [ej]), by omega, by omega, fun D hD => ?_⟩
    refine lc_range (fun i H' => H' D = some (.lst (trues i)) ∧ Same H H') ⟨upd_same, same_upd hD⟩ ?_ ?_
    · rintro i H' hi ⟨hD', sm⟩
      have hi2 : i < 6 := by omega
      refine ⟨rfl, _, rfl, _, rfl, a, ns, i, (by rw [Int.zero_add]; rfl), sm.seq hS, by omega, fun p H1 hp sm1 rg => ?_⟩
      refine ⟨p, rfl, rg, fun H2 st => ?_⟩
      have hD1 : H1 D = some (.lst (trues i)) := sm1 _ _ hD'
      have nDp : D ≠ p := ne_of_none hD' hp
      refine ⟨_, st.2 D _ nDp hD1, small1000 (by rw [trues_len]; omega), by rw [upd_same, trues_more], fun b o e => ?_⟩
      have e' := sm b o e
      rw [upd_ne (ne_of_none e hD)]
      exact st.2 b o (ne_of_none e' hp) (sm1 b o e')
    · rintro H' ⟨hD', sm⟩
      refine ⟨D, List.replicate j.toNat true, rfl, SqL.of hD', ?_⟩
      rw [all_trues]
      exact q _
end
end K14

set_option Elab.async false
set_option linter.all false
set_option maxRecDepth 100000
set_option maxHeartbeats 0
namespace Ex
open PySem PySem.Spec PyProof.Rows L2 Gu
/-! ### facts of a class beyond those by names: constants, a property -/
def cvB (K : PySem.W.Frag) (C : Addr) (f : Str) (i : Int) : Bool := match PySem.W.findCls K (.ref C) (.type "type") f with
  | some (.val (.int j _)) => decide (j = i)
  | _ => false
theorem cvB_ok {K : PySem.W.Frag} {C : Addr} {f : Str} {i : Int} (h : cvB K C f i = true) : ∃ u, ClX.CVal K C (.type "type") f (.int i) u := by
  unfold cvB at h
  split at h
  · rename_i j t e
    have ej : j = i := of_decide_eq_true h
    exact ⟨_, e, t, by rw [ej]⟩
  · cases h
def rdB (K : PySem.W.Frag) (C : Addr) : Bool := PySem.W.readsIn K C (.type "type") && He.eqO (PySem.W.specialIn K (.ref C) "__getattribute__") (some (some (.builtin "type.__getattribute__")))
theorem rdB_ok {K : PySem.W.Frag} {C : Addr} (h : rdB K C = true) : ClX.CRead K C (.type "type") := by
  obtain ⟨h1, h2⟩ := He.ba h
  exact ⟨h1, He.eqO_ok h2⟩
def prA (K : PySem.W.Frag) (C : Addr) (f : Str) : Addr := match PySem.W.findIn K (.ref C) f with
  | some (some (.ref p)) => p
  | _ => 0
def pgA (K : PySem.W.Frag) (C : Addr) (f : Str) : Addr := match PySem.W.recIn K (prA K C f) "property" with
  | some (.ref g :: _) => g
  | _ => 0
def prB (K : PySem.W.Frag) (C : Addr) (f : Str) : Bool := He.eqO (PySem.W.findIn K (.ref C) f) (some (some (.ref (prA K C f)))) &&
  (He.eqO (PySem.W.specialIn K (.ref (prA K C f)) "__get__") (some (some (.builtin "property.__get__"))) && (decide (PySem.W.takesIn K (.ref (prA K C f)) = some true) &&
    (match PySem.W.recIn K (prA K C f) "property" with
    | some (.ref _ :: _) => true
    | _ => false)))
theorem prB_ok {K : PySem.W.Frag} {C : Addr} {f : Str} (h : prB K C f = true) : PropOf K C f (prA K C f) (pgA K C f) := by
  obtain ⟨h1, h⟩ := He.ba h
  obtain ⟨h2, h⟩ := He.ba h
  obtain ⟨h3, h4⟩ := He.ba h
  refine ⟨He.eqO_ok h1, He.eqO_ok h2, of_decide_eq_true h3, ?_⟩
  unfold pgA
  split at h4
  · rename_i g r e
    rw [e]
    exact ⟨r, rfl⟩
  · cases h4
/-- the def at an address -/
def fnAt (K : PySem.W.Frag) (a : Addr) : He.FnW := match K.lookup a with
  | some ⟨_, _, .func fd, _⟩ => some (fd.name, fd.qualname, fd.params, fd.body, fd.scope, fd.globals, fd.closure, fd.builtins)
  | _ => none
def okAt (K : PySem.W.Frag) (a : Addr) (qual : Str) : Bool := PySem.W.keepIn K (.ref a) && (match K.lookup a with
  | some ⟨_, _, .func fd, _⟩ => PySem.W.codeIn K fd.code qual && (He.dflB K fd.defaults [] && He.kwdB K fd.kwdefaults [])
  | _ => false)
theorem fun_at {K : PySem.W.Frag} {a : Addr} {name qual : Str} {params : Arguments} {body : List Stmt} {scope : Scope} (e : fnAt K a = some (name, qual, params, .stmts body, scope, mainGlobals, [], builtinsNs)) (c : okAt K a qual = true) :
    ∃ fd, FunD K name qual params body scope [] [] a fd := by
  obtain ⟨kp, c2⟩ := He.ba c
  unfold fnAt at e
  split at e
  · rename_i oc od fd sl q
    rw [q] at c2
    obtain ⟨k1, k2⟩ := He.ba c2
    obtain ⟨k3, k4⟩ := He.ba k2
    obtain ⟨n1, n2, n3, n4, n5, n6, n7, n8, n9, n10, n11, n12, n13, n14, n15⟩ := fd
    simp only [Option.some.injEq, Prod.mk.injEq] at e
    obtain ⟨rfl, rfl, rfl, rfl, rfl, rfl, rfl, rfl⟩ := e
    exact ⟨_, ⟨oc, od, n8, n9, n10, n11, n12, n13, n14, sl, rfl, q, k1, He.dflB_ok k3, He.kwdB_ok k4⟩, kp⟩
  · cases e
def sysB (K : PySem.W.Frag) : Bool := match K.lookup sysModules with
  | some o => decide (o.cls ≠ .type "list")
  | none => false
end Ex

set_option Elab.async false
set_option linter.all false
set_option maxRecDepth 100000
set_option maxHeartbeats 4000000
namespace Ex
open PySem PySem.Spec PyProof.Rows L2 Gu
/-! ### facts of an error's class -/
def oexB (K : PySem.W.Frag) (C : Addr) : Bool := match K.lookup C with
  | some ⟨.type "type", _, .cls cd, sl⟩ => (match cd.mro, sl.toList with
    | .ref c :: bm, [_, _, _, _, some (.builtin n), _] => (c == C && n == "ValueError.__new__") && ((!cd.hasDel && cd.hasDict) && PySem.HandSPX.refsVE bm)
    | _, _ => false)
  | _ => false
theorem oexB_ok {K : PySem.W.Frag} {C : Addr} (h : oexB K C = true) :
    ∃ nm q N bs bm sn sub ab col dd k0 k1 k2 k3 k5, K.lookup C = some (excClassObj nm q C N bs bm true sn sub ab col dd k0 k1 k2 k3 k5 "ValueError.__new__") ∧ PySem.HandSPX.refsVE bm = true := by
  unfold oexB at h
  split at h
  · rename_i dd cd sl ho
    split at h
    · rename_i c bm k0 k1 k2 k3 n k5 hm hs
      obtain ⟨⟨h1, h2⟩, h3⟩ := (He.ba h).imp_left He.ba
      obtain ⟨h4, h5⟩ := He.ba h3
      obtain ⟨h6, h7⟩ := He.ba h4
      have e1 : c = C := beq_iff_eq.mp h1
      have e2 : n = "ValueError.__new__" := beq_iff_eq.mp h2
      have e3 : cd.hasDel = false := by simpa using h6
      subst e1 e2
      obtain ⟨nm, bs, mro, ns, qn, hd, sn, sub, ab, col, del⟩ := cd
      dsimp only at hm e3 h7
      subst hm e3 h7
      have e4 : sl = #[k0, k1, k2, k3, some (.builtin "ValueError.__new__"), k5] := by
        obtain ⟨l⟩ := sl
        simp only at hs
        rw [hs]
      subst e4
      exact ⟨nm, qn, ns, bs, bm, sn, sub, ab, col, dd, k0, k1, k2, k3, k5, ho, h5⟩
    · cases h
  · cases h
def bOf (a : Option Bool) (b : Bool) : Bool := decide (a = some b)
/-- what the rules ask of an error's class at C with the one field f -/
def errB (K : PySem.W.Frag) (C : Addr) (n : Str) : Bool := oexB K C && (He.eqO (PySem.W.findIn K (.ref C) "__setattr__") (some (some (.builtin "object.__setattr__"))) && (bOf (PySem.W.subIn K (.ref C) (.type "BaseException")) true &&
  (decide (PySem.W.typeIn K (.ref C) = some (.type "type")) && (PySem.W.keepIn K (.ref C) && (xfB K C && (He.eqO (PySem.W.findIn K (.ref C) "__class__") (some (some (.builtin "object.__class__"))) &&
  (He.eqO (PySem.W.specialIn K (.builtin "object.__class__") "__get__") (some (some (.builtin "getset_descriptor.__get__"))) && (bOf (PySem.W.takesIn K (.builtin "object.__class__")) true && (bOf (PySem.W.mroIn K C (.type "object")) true &&
  (He.eqO (PySem.W.findIn K (.ref C) n) (some none) && (He.eqO (PySem.W.findIn K (.ref C) "__init__") (some (some (.ref (He.ma K C "__init__")))) && (decide (PySem.W.typeIn K (.ref (He.ma K C "__init__")) = some (.type "function")) && bOf (PySem.W.exmOne K (.ref C) (.ref C)) true))))))))))))
structure ErrOk (K : PySem.W.Frag) (C : Addr) (n : Str) : Prop where
  ox : OexC K C
  xf : XfC K C
  ec : ExcC K C
  no : PySem.W.findIn K (.ref C) n = some none
  ii : PySem.W.findIn K (.ref C) "__init__" = some (some (.ref (He.ma K C "__init__")))
  ti : PySem.W.typeIn K (.ref (He.ma K C "__init__")) = some (.type "function")
  em : PySem.W.exmOne K (.ref C) (.ref C) = some true
theorem bOf_ok {a : Option Bool} {b : Bool} (h : bOf a b = true) : a = some b := of_decide_eq_true h
theorem errB_ok {K : PySem.W.Frag} {C : Addr} {n : Str} (h : errB K C n = true) : ErrOk K C n := by
  obtain ⟨a1, h⟩ := He.ba h
  obtain ⟨a2, h⟩ := He.ba h
  obtain ⟨a3, h⟩ := He.ba h
  obtain ⟨a4, h⟩ := He.ba h
  obtain ⟨a5, h⟩ := He.ba h
  obtain ⟨a6, h⟩ := He.ba h
  obtain ⟨a7, h⟩ := He.ba h
  obtain ⟨a8, h⟩ := He.ba h
  obtain ⟨a9, h⟩ := He.ba h
  obtain ⟨a10, h⟩ := He.ba h
  obtain ⟨a11, h⟩ := He.ba h
  obtain ⟨a12, h⟩ := He.ba h
  obtain ⟨a13, a14⟩ := He.ba h
  have x := xfB_ok a6
  exact ⟨⟨oexB_ok a1, He.eqO_ok a2, bOf_ok a3, of_decide_eq_true a4, a5⟩, x, ⟨x.ga, x.gg, x.exC, x.hdC, He.eqO_ok a7, He.eqO_ok a8, bOf_ok a9, bOf_ok a10⟩, He.eqO_ok a11, He.eqO_ok a12, of_decide_eq_true a13, bOf_ok a14⟩
end Ex

set_option Elab.async false
set_option linter.all false
set_option maxRecDepth 100000
set_option maxHeartbeats 0
namespace K14
open PySem PySem.Spec PyProof.Rows L2 Gu Ex
abbrev R : PySem.W.OpenRow := PySem.W.OpenLaw.row PySem.Challenge.rw_exactroom_k14_regions_judged
def dOf (a : Str × Option Str) (x q : Str) (st : Stmt) : He.DefD := ⟨a, x, q, defArgs st, defBody st, defScope st, [], []⟩
def fn : List He.DefD := [dOf ("is_integer", none) "is_integer" "is_integer" (top 9),
  dOf ("is_cells", none) "is_cells" "is_cells" (top 10),
  dOf ("check_cells", none) "check_cells" "check_cells" (top 11),
  dOf ("size_problem", none) "size_problem" "size_problem" (top 12),
  dOf ("check_sizes", none) "check_sizes" "check_sizes" (top 13),
  dOf ("Sizes", some "__init__") "__init__" "Sizes.__init__" (inClass (top 14) 4),
  dOf ("Sizes", some "has_level") "has_level" "Sizes.has_level" (inClass (top 14) 12),
  dOf ("Sizes", some "check_level") "check_level" "Sizes.check_level" (inClass (top 14) 13),
  dOf ("Sizes", some "size") "size" "Sizes.size" (inClass (top 14) 14),
  dOf ("Sizes", some "all_sizes") "all_sizes" "Sizes.all_sizes" (inClass (top 14) 11),
  dOf ("is_address", none) "is_address" "is_address" (top 16),
  dOf ("lies_below", none) "lies_below" "lies_below" (top 17),
  dOf ("is_region", none) "is_region" "is_region" (top 18),
  dOf ("InvalidNumber", some "__init__") "__init__" "InvalidNumber.__init__" (inClass (top 5) 0),
  dOf ("_law_rng", none) "_law_rng" "_law_rng" (top 20),
  dOf ("_law_draw", none) "_law_draw" "_law_draw" (top 21),
  dOf ("_law_choice", none) "_law_choice" "_law_choice" (top 22),
  dOf ("_law_sizes", none) "_law_sizes" "_law_sizes" (top 23),
  dOf ("_law_is_integer", none) "_law_is_integer" "_law_is_integer" (top 24),
  dOf ("_law_due", none) "_law_due" "_law_due" (top 25),
  dOf ("_law_told", none) "_law_told" "_law_told" (top 26),
  dOf ("_law_near", none) "_law_near" "_law_near" (top 27),
  dOf ("_law_length", none) "_law_length" "_law_length" (top 28),
  dOf ("_law_address", none) "_law_address" "_law_address" (top 29),
  dOf ("_law_right", none) "_law_right" "_law_right" (top 30),
  dOf ("law", none) "law" "law" (top 31)]
def fa : List He.Fa := [.glo "is_integer", .glo "is_cells", .glo "check_cells", .glo "size_problem", .glo "check_sizes", .glo "is_address", .glo "lies_below", .glo "is_region", .glo "_law_rng", .glo "_law_draw", .glo "_law_choice", .glo "_law_sizes", .glo "_law_is_integer", .glo "_law_due", .glo "_law_told", .glo "_law_near", .glo "_law_length", .glo "_law_address", .glo "_law_right", .glo "law", .glo "Sizes", .glo "InvalidNumber", .glo "RoomError", .glo "InvalidAddress", .glo "InvalidLevel", .glo "InvalidNumbers", .free "len", .free "isinstance", .free "int", .free "bool", .free "list", .free "range", .free "divmod", .free "abs", .free "max", .free "min", .free "all", .free "repr", .cls "Sizes", .noat "Sizes" "size_list", .mkr "Sizes", .meth "Sizes" "has_level", .meth "Sizes" "check_level", .meth "Sizes" "size", .meth "Sizes" "all_sizes"]
def exB (K : PySem.W.Frag) : Bool := rdB K (He.ga K "Sizes") && (cvB K (He.ga K "Sizes") "MAX_SIZE" 1000000000 && (cvB K (He.ga K "Sizes") "MAX_SIZES" 8 && (prB K (He.ga K "Sizes") "top" && (okAt K (pgA K (He.ga K "Sizes") "top") "Sizes.top" && (cvB K (He.ga K "Sizes") "MAX_CELLS" 1000000000000 &&
  (sysB K && (errB K (cN K) "value" && (bOf (PySem.W.kitOne K (.ref (cN K)) (.ref (He.ga K "RoomError"))) true && bOf (PySem.W.kitAny K (.ref (cN K)) [.ref (He.ga K "InvalidAddress"), .ref (He.ga K "InvalidLevel"), .ref (He.ga K "InvalidNumbers")]) false))))))))
def vTop : He.FnW := some ("top", "Sizes.top", defArgs (inClass (top 14) 10), .stmts (defBody (inClass (top 14) 10)), defScope (inClass (top 14) 10), mainGlobals, [], builtinsNs)
abbrev Al : Type := He.AlD × Bool × He.FnW
def ob0 (K : PySem.W.Frag) : Al := (He.obsD fa fn K, exB K, fnAt K (pgA K (He.ga K "Sizes") "top"))
def vl0 : Al := (He.valD fn, true, vTop)
def ob1 (g : Addr → Option Obj) : Al := ob0 (He.frG g (cStatics :: sysModules :: He.asD g 6))
def hk : PySem.W.Hook where
  α := Al
  obs := fun s => ob1 s.heap.get?
  val := fun _ => vl0
  says := fun _ h => ∃ K : PySem.W.Frag, K.In h ∧ ob0 K = vl0
  of := fun _ _ e => ⟨_, He.frG_in, e⟩
  keeps := fun _ _ _ ⟨K, hK, c⟩ k => ⟨K, PySem.W.Frag.In.keeps hK k, c⟩
def ob (s : PySem.W.SharedT) : Al := ob1 (HandSHeadRun.getT s)
theorem ob_eq (s : PySem.W.SharedT) : ob s = hk.obs s.abs := by
  have e : HandSHeadRun.getT s = s.abs.heap.get? := funext (HandSHeadRun.getT_eq s)
  show ob1 (HandSHeadRun.getT s) = ob1 s.abs.heap.get?
  rw [e]
def loose : List Str := ["_wall", "RoomError", "InvalidSizes", "InvalidLevel", "InvalidNumber", "InvalidNumbers", "InvalidAddress", "is_integer", "is_cells", "check_cells", "size_problem", "check_sizes", "Sizes", "is_address", "lies_below", "is_region", "_law_rng", "_law_draw", "_law_choice", "_law_sizes", "_law_is_integer", "_law_due", "_law_told", "_law_near", "_law_length", "_law_address", "_law_right"]
theorem run (w : World) : HandSHeadRun.RunEq R (PySem.W.view R.prog [31]) hk ob 4000 loose w := by
  intro os
  kernel_rfl

section
variable {P : Program} {w : World} {K : PySem.W.Frag} {h : Heap} {mg : Str → Option Value} {base : Heap}
theorem tx (X : K.In h) (G : h.Ns mainGlobals mg) (c : He.SaysD fa fn K) (x : exB K = true) : Tx K mg := by
  obtain ⟨x1, x⟩ := He.ba x
  obtain ⟨x2, x⟩ := He.ba x
  obtain ⟨x3, x⟩ := He.ba x
  obtain ⟨_, x⟩ := He.ba x
  obtain ⟨_, x⟩ := He.ba x
  obtain ⟨x6, x⟩ := He.ba x
  obtain ⟨x7, x⟩ := He.ba x
  obtain ⟨x8, x⟩ := He.ba x
  obtain ⟨x9, x10⟩ := He.ba x
  have hsys : SysOk K := by
    unfold sysB at x7
    split at x7
    · rename_i o e
      exact ⟨o, e, of_decide_eq_true x7⟩
    · cases x7
  have eo := errB_ok x8
  exact ⟨He.free_ok X G (c.fact 26 (f := .free "len") rfl), He.free_ok X G (c.fact 27 (f := .free "isinstance") rfl), He.free_ok X G (c.fact 28 (f := .free "int") rfl), He.free_ok X G (c.fact 29 (f := .free "bool") rfl), He.free_ok X G (c.fact 30 (f := .free "list") rfl), He.free_ok X G (c.fact 31 (f := .free "range") rfl), He.free_ok X G (c.fact 32 (f := .free "divmod") rfl), He.free_ok X G (c.fact 33 (f := .free "abs") rfl), He.free_ok X G (c.fact 34 (f := .free "max") rfl), He.free_ok X G (c.fact 35 (f := .free "min") rfl), He.free_ok X G (c.fact 36 (f := .free "all") rfl), He.free_ok X G (c.fact 37 (f := .free "repr") rfl),
    He.glo_ok X G (c.fact 20 (f := .glo "Sizes") rfl), He.cls_ok (c.fact 38 (f := .cls "Sizes") rfl), He.noat_ok (c.fact 39 (f := .noat "Sizes" "size_list") rfl), rdB_ok x1, cvB_ok x2, cvB_ok x3, cvB_ok x6, hsys,
    He.glo_ok X G (c.fact 21 (f := .glo "InvalidNumber") rfl), He.glo_ok X G (c.fact 22 (f := .glo "RoomError") rfl), He.glo_ok X G (c.fact 23 (f := .glo "InvalidAddress") rfl), He.glo_ok X G (c.fact 24 (f := .glo "InvalidLevel") rfl), He.glo_ok X G (c.fact 25 (f := .glo "InvalidNumbers") rfl),
    eo.ox, eo.xf, eo.ec, eo.no, eo.ii, eo.ti, eo.em, bOf_ok x9, bOf_ok x10⟩
theorem df {x : Str} {ps : List Str} {sp : Sp} {k : Nat} {st : Stmt} {fd : FuncData} (X : K.In h) (G : h.Ns mainGlobals mg) (g : (He.Fa.glo x).ok K = true) (F : FnP K x x st (He.ga K x) fd)
    (hb : ∀ (kV doc pm : Value) (an : Option Addr) (cdv ct : Value) (us : List Value), us.length = ps.length → bindArgs (PySem.W.fnOf x x (defArgs st) (defBody st) (defScope st) .none kV doc pm an cdv ct) ⟨us, []⟩ = pure (ps.zip us))
    (ok : FnOk P w K mg base CX0 k (He.ga K x) fd ps sp) : Df P w K mg base k x ps sp := ⟨⟨fd, ok, F.bindsN hb⟩, He.glo_ok X G g, F.kp⟩
theorem dfG {x : Str} {ps : List Str} {sp : Sp} {k : Nat} {st : Stmt} {fd : FuncData} (X : K.In h) (G : h.Ns mainGlobals mg) (g : (He.Fa.glo x).ok K = true) (F : FnP K x x st (He.ga K x) fd)
    (hb : ∀ (kV doc pm : Value) (an : Option Addr) (cdv ct : Value) (us : List Value), us.length = ps.length → bindArgs (PySem.W.fnOf x x (defArgs st) (defBody st) (defScope st) .none kV doc pm an cdv ct) ⟨us, []⟩ = pure (ps.zip us))
    (ok : FnG P w K mg base CX0 k (He.ga K x) fd ps sp) : DfG P w K mg base k x ps sp := ⟨⟨fd, ok, F.bindsN hb⟩, He.glo_ok X G g, F.kp⟩
theorem dfX {x : Str} {ps : List Str} {sp : Sp} {k : Nat} {st : Stmt} {fd : FuncData} (X : K.In h) (G : h.Ns mainGlobals mg) (g : (He.Fa.glo x).ok K = true) (F : FnP K x x st (He.ga K x) fd)
    (hb : ∀ (kV doc pm : Value) (an : Option Addr) (cdv ct : Value) (us : List Value), us.length = ps.length → bindArgs (PySem.W.fnOf x x (defArgs st) (defBody st) (defScope st) .none kV doc pm an cdv ct) ⟨us, []⟩ = pure (ps.zip us))
    (ok : FnOk P w K mg base (L2.CX P w) k (He.ga K x) fd ps sp) : DfX P w K mg base k x ps sp := ⟨⟨fd, ok, F.bindsN hb⟩, He.glo_ok X G g, F.kp⟩
theorem dfK {x : Str} {ps ks : List Str} {j : List Nat} {sp : Sp} {k : Nat} {st : Stmt} {fd : FuncData} (X : K.In h) (G : h.Ns mainGlobals mg) (g : (He.Fa.glo x).ok K = true) (F : FnP K x x st (He.ga K x) fd)
    (hb : ∀ (kV doc pm : Value) (an : Option Addr) (cdv ct : Value) (ws : List Value), ws.length = ks.length → bindArgs (PySem.W.fnOf x x (defArgs st) (defBody st) (defScope st) .none kV doc pm an cdv ct) ⟨[], ks.zip ws⟩ = pure (ps.zip (j.filterMap fun i => ws[i]?)))
    (ok : FnOk P w K mg base CX0 k (He.ga K x) fd ps sp) : DfK P w K mg base k x ps ks j sp := by
  refine ⟨⟨fd, ok, fun s ws hl => ?_⟩, He.glo_ok X G g, F.kp⟩
  obtain ⟨oc, od, dV, kV, doc, pm, an, cdv, ct, osl, rfl, lk, hcd, hD, hK⟩ := F.ex
  rcases hD with ⟨_, rfl⟩ | ⟨e, _⟩
  · exact .of_eq (hb kV doc pm an cdv ct ws hl)
  · exact absurd rfl e
theorem facts {f : Addr} (X : K.In h) (G : h.Ns mainGlobals mg) (hfa : mg ("law" : Str) = some (.ref f)) (c0 : ob0 K = vl0) :
    ∃ fd : FuncData, (∀ (s : Shared) (v : Value), BindsTo s fd ⟨[v], []⟩ [("_law_script", v)]) ∧ ∀ base : Heap, K.In base → base.Ns mainGlobals mg → FnG P w K mg base CX0 10 f fd ["_law_script"] (spLaw K) := by
  have c : He.SaysD fa fn K := congrArg (fun z : Al => z.1) c0
  have x : exB K = true := congrArg (fun z : Al => z.2.1) c0
  have vt : fnAt K (pgA K (He.ga K "Sizes") "top") = vTop := congrArg (fun z : Al => z.2.2) c0
  have T := tx X G c x
  obtain ⟨_, x⟩ := He.ba x
  obtain ⟨_, x⟩ := He.ba x
  obtain ⟨_, x⟩ := He.ba x
  obtain ⟨xp, x⟩ := He.ba x
  obtain ⟨xo, _⟩ := He.ba x
  obtain ⟨fdT, FT⟩ := fun_at vt xo
  obtain ⟨fd0, F0⟩ : ∃ fd, FnP K "is_integer" "is_integer" (top 9) (He.ga K "is_integer") fd := c.def_ 0 (d := dOf ("is_integer", none) "is_integer" "is_integer" (top 9)) rfl
  obtain ⟨fd1, F1⟩ : ∃ fd, FnP K "is_cells" "is_cells" (top 10) (He.ga K "is_cells") fd := c.def_ 1 (d := dOf ("is_cells", none) "is_cells" "is_cells" (top 10)) rfl
  obtain ⟨fd2, F2⟩ : ∃ fd, FnP K "check_cells" "check_cells" (top 11) (He.ga K "check_cells") fd := c.def_ 2 (d := dOf ("check_cells", none) "check_cells" "check_cells" (top 11)) rfl
  obtain ⟨fd3, F3⟩ : ∃ fd, FnP K "size_problem" "size_problem" (top 12) (He.ga K "size_problem") fd := c.def_ 3 (d := dOf ("size_problem", none) "size_problem" "size_problem" (top 12)) rfl
  obtain ⟨fd4, F4⟩ : ∃ fd, FnP K "check_sizes" "check_sizes" (top 13) (He.ga K "check_sizes") fd := c.def_ 4 (d := dOf ("check_sizes", none) "check_sizes" "check_sizes" (top 13)) rfl
  obtain ⟨fd5, F5⟩ : ∃ fd, FnP K "__init__" "Sizes.__init__" (inClass (top 14) 4) (He.ma K (He.ga K "Sizes") "__init__") fd := c.def_ 5 (d := dOf ("Sizes", some "__init__") "__init__" "Sizes.__init__" (inClass (top 14) 4)) rfl
  obtain ⟨fd6, F6⟩ : ∃ fd, FnP K "has_level" "Sizes.has_level" (inClass (top 14) 12) (He.ma K (He.ga K "Sizes") "has_level") fd := c.def_ 6 (d := dOf ("Sizes", some "has_level") "has_level" "Sizes.has_level" (inClass (top 14) 12)) rfl
  obtain ⟨fd7, F7⟩ : ∃ fd, FnP K "check_level" "Sizes.check_level" (inClass (top 14) 13) (He.ma K (He.ga K "Sizes") "check_level") fd := c.def_ 7 (d := dOf ("Sizes", some "check_level") "check_level" "Sizes.check_level" (inClass (top 14) 13)) rfl
  obtain ⟨fd8, F8⟩ : ∃ fd, FnP K "size" "Sizes.size" (inClass (top 14) 14) (He.ma K (He.ga K "Sizes") "size") fd := c.def_ 8 (d := dOf ("Sizes", some "size") "size" "Sizes.size" (inClass (top 14) 14)) rfl
  obtain ⟨fd9, F9⟩ : ∃ fd, FnP K "all_sizes" "Sizes.all_sizes" (inClass (top 14) 11) (He.ma K (He.ga K "Sizes") "all_sizes") fd := c.def_ 9 (d := dOf ("Sizes", some "all_sizes") "all_sizes" "Sizes.all_sizes" (inClass (top 14) 11)) rfl
  obtain ⟨fd10, F10⟩ : ∃ fd, FnP K "is_address" "is_address" (top 16) (He.ga K "is_address") fd := c.def_ 10 (d := dOf ("is_address", none) "is_address" "is_address" (top 16)) rfl
  obtain ⟨fd11, F11⟩ : ∃ fd, FnP K "lies_below" "lies_below" (top 17) (He.ga K "lies_below") fd := c.def_ 11 (d := dOf ("lies_below", none) "lies_below" "lies_below" (top 17)) rfl
  obtain ⟨fd12, F12⟩ : ∃ fd, FnP K "is_region" "is_region" (top 18) (He.ga K "is_region") fd := c.def_ 12 (d := dOf ("is_region", none) "is_region" "is_region" (top 18)) rfl
  obtain ⟨fd13, F13⟩ : ∃ fd, FnP K "__init__" "InvalidNumber.__init__" (inClass (top 5) 0) (He.ma K (He.ga K "InvalidNumber") "__init__") fd := c.def_ 13 (d := dOf ("InvalidNumber", some "__init__") "__init__" "InvalidNumber.__init__" (inClass (top 5) 0)) rfl
  obtain ⟨fd14, F14⟩ : ∃ fd, FnP K "_law_rng" "_law_rng" (top 20) (He.ga K "_law_rng") fd := c.def_ 14 (d := dOf ("_law_rng", none) "_law_rng" "_law_rng" (top 20)) rfl
  obtain ⟨fd15, F15⟩ : ∃ fd, FnP K "_law_draw" "_law_draw" (top 21) (He.ga K "_law_draw") fd := c.def_ 15 (d := dOf ("_law_draw", none) "_law_draw" "_law_draw" (top 21)) rfl
  obtain ⟨fd16, F16⟩ : ∃ fd, FnP K "_law_choice" "_law_choice" (top 22) (He.ga K "_law_choice") fd := c.def_ 16 (d := dOf ("_law_choice", none) "_law_choice" "_law_choice" (top 22)) rfl
  obtain ⟨fd17, F17⟩ : ∃ fd, FnP K "_law_sizes" "_law_sizes" (top 23) (He.ga K "_law_sizes") fd := c.def_ 17 (d := dOf ("_law_sizes", none) "_law_sizes" "_law_sizes" (top 23)) rfl
  obtain ⟨fd18, F18⟩ : ∃ fd, FnP K "_law_is_integer" "_law_is_integer" (top 24) (He.ga K "_law_is_integer") fd := c.def_ 18 (d := dOf ("_law_is_integer", none) "_law_is_integer" "_law_is_integer" (top 24)) rfl
  obtain ⟨fd19, F19⟩ : ∃ fd, FnP K "_law_due" "_law_due" (top 25) (He.ga K "_law_due") fd := c.def_ 19 (d := dOf ("_law_due", none) "_law_due" "_law_due" (top 25)) rfl
  obtain ⟨fd20, F20⟩ : ∃ fd, FnP K "_law_told" "_law_told" (top 26) (He.ga K "_law_told") fd := c.def_ 20 (d := dOf ("_law_told", none) "_law_told" "_law_told" (top 26)) rfl
  obtain ⟨fd21, F21⟩ : ∃ fd, FnP K "_law_near" "_law_near" (top 27) (He.ga K "_law_near") fd := c.def_ 21 (d := dOf ("_law_near", none) "_law_near" "_law_near" (top 27)) rfl
  obtain ⟨fd22, F22⟩ : ∃ fd, FnP K "_law_length" "_law_length" (top 28) (He.ga K "_law_length") fd := c.def_ 22 (d := dOf ("_law_length", none) "_law_length" "_law_length" (top 28)) rfl
  obtain ⟨fd23, F23⟩ : ∃ fd, FnP K "_law_address" "_law_address" (top 29) (He.ga K "_law_address") fd := c.def_ 23 (d := dOf ("_law_address", none) "_law_address" "_law_address" (top 29)) rfl
  obtain ⟨fd24, F24⟩ : ∃ fd, FnP K "_law_right" "_law_right" (top 30) (He.ga K "_law_right") fd := c.def_ 24 (d := dOf ("_law_right", none) "_law_right" "_law_right" (top 30)) rfl
  obtain ⟨fd25, F25⟩ : ∃ fd, FnP K "law" "law" (top 31) (He.ga K "law") fd := c.def_ 25 (d := dOf ("law", none) "law" "law" (top 31)) rfl
  have e := hfa.symm.trans (He.glo_ok X G (c.fact 19 (f := .glo "law") rfl))
  cases e
  have b := FunD.bindsA (ps := ["_law_script"]) F25 (fun _ _ _ _ _ _ us hl => match us, hl with | [_], _ => rfl)
  refine ⟨_, fun s v => b s [v] rfl, fun base _ _ => ?_⟩
  have D_is_integer := df (P := P) (w := w) (base := base) X G (c.fact 0 (f := .glo "is_integer") rfl) F0 (ps := ["value"]) (fun _ _ _ _ _ _ us hl => match us, hl with | [_], _ => rfl) (ok_is_integer T F0)
  have D_is_cells := df (P := P) (w := w) (base := base) X G (c.fact 1 (f := .glo "is_cells") rfl) F1 (ps := ["value"]) (fun _ _ _ _ _ _ us hl => match us, hl with | [_], _ => rfl) (ok_is_cells T D_is_integer F1)
  have Mi : Ei P w K mg base := ⟨⟨fd13, ok_err T F13, F13.bindsN (fun _ _ _ _ _ _ us hl => match us, hl with | [_, _], _ => rfl)⟩⟩
  have D_check_cells := dfX (P := P) (w := w) (base := base) X G (c.fact 2 (f := .glo "check_cells") rfl) F2 (ps := ["value"]) (fun _ _ _ _ _ _ us hl => match us, hl with | [_], _ => rfl) (ok_check_cells T D_is_cells Mi F2)
  have D_size_problem := df (P := P) (w := w) (base := base) X G (c.fact 3 (f := .glo "size_problem") rfl) F3 (ps := ["values", "position"]) (fun _ _ _ _ _ _ us hl => match us, hl with | [_, _], _ => rfl) (ok_size_problem T D_is_integer F3)
  have D_check_sizes := df (P := P) (w := w) (base := base) X G (c.fact 4 (f := .glo "check_sizes") rfl) F4 (ps := ["values"]) (fun _ _ _ _ _ _ us hl => match us, hl with | [_], _ => rfl) (ok_check_sizes T D_size_problem F4)
  have D_Sizes : Kf P w K mg base 4 "Sizes" ["self", "values"] (spMade K) := ⟨⟨fd5, ok_init T D_check_sizes F5, F5.bindsN (fun _ _ _ _ _ _ us hl => match us, hl with | [_, _], _ => rfl)⟩, He.glo_ok X G (c.fact 20 (f := .glo "Sizes") rfl), He.mkr_ok (c.fact 40 (f := .mkr "Sizes") rfl)⟩
  have P_top : Pf P w K mg base 1 "Sizes" "top" (spTop K) := ⟨(He.cls_ok (c.fact 38 (f := .cls "Sizes") rfl)), _, _, fdT, prB_ok xp, ok_top T FT, FunD.bindsN FT (fun _ _ _ _ _ _ us hl => match us, hl with | [_], _ => rfl)⟩
  have M_has_level : Mf P w K mg base _ "Sizes" "has_level" ["self", "level"] _ := ⟨⟨fd6, ok_has T D_is_integer P_top F6, F6.bindsN (fun _ _ _ _ _ _ us hl => match us, hl with | [_, _], _ => rfl)⟩, (He.cls_ok (c.fact 38 (f := .cls "Sizes") rfl)), He.meth_ok (c.fact 41 (f := .meth "Sizes" "has_level") rfl)⟩
  have M_check_level : Mf P w K mg base _ "Sizes" "check_level" ["self", "level"] _ := ⟨⟨fd7, ok_check_level T M_has_level F7, F7.bindsN (fun _ _ _ _ _ _ us hl => match us, hl with | [_, _], _ => rfl)⟩, (He.cls_ok (c.fact 38 (f := .cls "Sizes") rfl)), He.meth_ok (c.fact 42 (f := .meth "Sizes" "check_level") rfl)⟩
  have M_size : Mf P w K mg base _ "Sizes" "size" ["self", "level"] _ := ⟨⟨fd8, ok_size T M_check_level F8, F8.bindsN (fun _ _ _ _ _ _ us hl => match us, hl with | [_, _], _ => rfl)⟩, (He.cls_ok (c.fact 38 (f := .cls "Sizes") rfl)), He.meth_ok (c.fact 43 (f := .meth "Sizes" "size") rfl)⟩
  have M_all_sizes : Mf P w K mg base _ "Sizes" "all_sizes" ["self"] _ := ⟨⟨fd9, ok_all T F9, F9.bindsN (fun _ _ _ _ _ _ us hl => match us, hl with | [_], _ => rfl)⟩, (He.cls_ok (c.fact 38 (f := .cls "Sizes") rfl)), He.meth_ok (c.fact 44 (f := .meth "Sizes" "all_sizes") rfl)⟩
  have D_is_address := df (P := P) (w := w) (base := base) X G (c.fact 5 (f := .glo "is_address") rfl) F10 (ps := ["value"]) (fun _ _ _ _ _ _ us hl => match us, hl with | [_], _ => rfl) (ok_is_address T D_is_integer F10)
  have D_lies_below := df (P := P) (w := w) (base := base) X G (c.fact 6 (f := .glo "lies_below") rfl) F11 (ps := ["sizes", "level", "address", "end"]) (fun _ _ _ _ _ _ us hl => match us, hl with | [_, _, _, _], _ => rfl) (ok_below T M_size F11)
  have D_is_region := dfX (P := P) (w := w) (base := base) X G (c.fact 7 (f := .glo "is_region") rfl) F12 (ps := ["sizes", "length", "level", "address"]) (fun _ _ _ _ _ _ us hl => match us, hl with | [_, _, _, _], _ => rfl) (ok_is_region T D_check_cells M_has_level D_is_address D_lies_below F12)
  have D__law_rng := df (P := P) (w := w) (base := base) X G (c.fact 8 (f := .glo "_law_rng") rfl) F14 (ps := ["_law_script", "_law_k"]) (fun _ _ _ _ _ _ us hl => match us, hl with | [_, _], _ => rfl) (ok_rng T F14)
  have D__law_draw := df (P := P) (w := w) (base := base) X G (c.fact 9 (f := .glo "_law_draw") rfl) F15 (ps := ["_law_rng_here", "_law_many"]) (fun _ _ _ _ _ _ us hl => match us, hl with | [_, _], _ => rfl) (ok_draw T F15)
  have D__law_choice := df (P := P) (w := w) (base := base) X G (c.fact 10 (f := .glo "_law_choice") rfl) F16 (ps := ["_law_rng_here", "_law_options"]) (fun _ _ _ _ _ _ us hl => match us, hl with | [_, _], _ => rfl) (ok_choice T D__law_draw F16)
  have D__law_sizes := df (P := P) (w := w) (base := base) X G (c.fact 11 (f := .glo "_law_sizes") rfl) F17 (ps := ["_law_rng_here", "_law_levels", "_law_greatest"]) (fun _ _ _ _ _ _ us hl => match us, hl with | [_, _, _], _ => rfl) (ok_sizes T D__law_draw F17)
  have D__law_is_integer := df (P := P) (w := w) (base := base) X G (c.fact 12 (f := .glo "_law_is_integer") rfl) F18 (ps := ["_law_one"]) (fun _ _ _ _ _ _ us hl => match us, hl with | [_], _ => rfl) (ok_law_int T F18)
  have D__law_due := dfG (P := P) (w := w) (base := base) X G (c.fact 13 (f := .glo "_law_due") rfl) F19 (ps := ["_law_sizes_here", "_law_length_here", "_law_level", "_law_address_here"]) (fun _ _ _ _ _ _ us hl => match us, hl with | [_, _, _, _], _ => rfl) (ok_due T D__law_is_integer F19)
  have D__law_told := dfG (P := P) (w := w) (base := base) X G (c.fact 14 (f := .glo "_law_told") rfl) F20 (ps := ["_law_made", "_law_length_here", "_law_level", "_law_address_here"]) (fun _ _ _ _ _ _ us hl => match us, hl with | [_, _, _, _], _ => rfl) (ok_told T D_is_region F20)
  have D__law_near := df (P := P) (w := w) (base := base) X G (c.fact 15 (f := .glo "_law_near") rfl) F21 (ps := ["_law_rng_here", "_law_one"]) (fun _ _ _ _ _ _ us hl => match us, hl with | [_, _], _ => rfl) (ok_near T D__law_draw F21)
  have D__law_length := df (P := P) (w := w) (base := base) X G (c.fact 16 (f := .glo "_law_length") rfl) F22 (ps := ["_law_rng_here", "_law_sizes_here"]) (fun _ _ _ _ _ _ us hl => match us, hl with | [_, _], _ => rfl) (ok_length T D__law_draw D__law_choice D__law_near F22)
  have D__law_address := df (P := P) (w := w) (base := base) X G (c.fact 17 (f := .glo "_law_address") rfl) F23 (ps := ["_law_rng_here", "_law_size", "_law_length_here"]) (fun _ _ _ _ _ _ us hl => match us, hl with | [_, _, _], _ => rfl) (ok_address T D__law_draw D__law_near F23)
  have D__law_right := dfG (P := P) (w := w) (base := base) X G (c.fact 18 (f := .glo "_law_right") rfl) F24 (ps := ["_law_rng_here"]) (fun _ _ _ _ _ _ us hl => match us, hl with | [_], _ => rfl) (ok_right T D__law_sizes D_Sizes M_all_sizes D__law_draw D__law_choice D__law_length D__law_address D__law_due D__law_told F24)
  exact ok_law T D__law_rng D__law_right F25
end
end K14
open PySem PySem.W PySem.Calls PyProof.Rows
theorem PySem.Challenge.cw_exactroom_k14_regions_judged_holds : PySem.Challenge.rw_exactroom_k14_regions_judged.Holds := by
  w_on; o_law
  refine HandSHeadRun.head_any (r := OpenLaw.row PySem.Challenge.rw_exactroom_k14_regions_judged) (q := view (OpenLaw.row PySem.Challenge.rw_exactroom_k14_regions_judged).prog [31]) (H := K14.hk) (ob := K14.ob) (M := 4000)
    (loose := K14.loose) (d := HandSHeadRun.topDef (OpenLaw.row PySem.Challenge.rw_exactroom_k14_regions_judged).prog 31) (kwd := []) K14.ob_eq
    (by kernel_rfl) (fun s => by kernel_rfl) K14.run (by kernel_rfl) (by kernel_rfl) (by kernel_rfl) (by rfl) (by first | assumption | decide +kernel) (by decide +kernel) ⟨rfl, rfl, rfl, rfl, rfl, by decide +kernel⟩ ?hw ?hc
  case hw => w_witness2
  case hc =>
    refine Gu.walkG (l := PySem.Challenge.rw_exactroom_k14_regions_judged) (n := 63) (k := 10) (x := "_law_script") (CX := L2.CX0) rfl (by decide) (by kernel_rfl) ⟨⟨rfl, by decide, by decide⟩, rfl⟩ ?F (fun _ _ _ _ z => z)
    intro w mg fa h Y G hmg0
    obtain ⟨K, KX, c⟩ := Y
    have hmg : mg ("law" : PySem.Str) = some (.ref fa) := by
      have e : (HandSHeadRun.topDef (OpenLaw.row PySem.Challenge.rw_exactroom_k14_regions_judged).prog 31).name = ("law" : PySem.Str) := by kernel_rfl
      rw [← e]
      exact hmg0
    obtain ⟨fd, hb, hF⟩ := K14.facts (P := (PySem.Challenge.rw_exactroom_k14_regions_judged).prog) (w := w) KX G hmg c
    exact ⟨K, fd, K14.spLaw K, KX, hb, fun H a ns hl _ hS => ⟨a, ns, rfl, hS, hl, fun _ => rfl⟩, hF⟩

