import PyProof.Rows.All
import Wide.All
import OpenK.AllK
import Wide.FinOn
import PyProof.ReprRoads
import HandS.ForMost
import HandS.ForExc
import HandS.Property
import HandS.ClsMeth
import HandS.Defaults
import HandS.IsInst
import HandS.Wide
import HandS.WideBits
import HandS.Ends
import HandS.HeadEnd
import HandS.Head0
import HandS.Head1
import HandS.Head2
import HandS.HeadHook1
import HandS.HeadHook2
import HandS.Flow
import HandS.Style
import HandS.ExcInit
import HandS.ExcField
import HandS.ExcIs
import HandS.TryOnly
import HandS.OwnEq
import HandS.Comp
import HandS.Dict
import HandS.Walk
import HandS.CallRecv
import KE.KStateDown
import Lean
import PySem.Challenge.RW_exactroom_k12_first_invalid_size
set_option Elab.async false
set_option linter.all false
set_option maxRecDepth 100000
set_option maxHeartbeats 4000000
/-! Own layer: defs that are called where no repr is under way (the guards are known to be none), so that repr of data can be walked. -/
namespace Gu
open PySem PySem.Spec PyProof.Rows L2
structure RoomG (k : Nat) (A : Around) : Prop where
  r : Room k A
  g : A.guards = some []
theorem RoomG.mono {j k : Nat} {A : Around} (x : RoomG k A) (h : j ≤ k) : RoomG j A := ⟨x.r.mono h, x.g⟩
theorem RoomG.down {k : Nat} {A : Around} (x : RoomG (k + 1) A) (env : Env) : RoomG k (A.deeper env) := ⟨x.r.deeper env, x.g⟩
structure FnG (P : Program) (w : World) (K : PySem.W.Frag) (mg : Str → Option Value) (base : Heap) (CX : CXT) (k : Nat) (f : Addr) (fd : FuncData) (ps : List Str) (sp : Sp) : Prop where
  len : ∀ vs H Q E, sp vs H Q E → vs.length = ps.length
  run : ∀ (A : Around) (outer : List Env) (s : Shared) (H : Hp) (args : Args) (us : List Value) (vs : List V) (Q : VK) (E : XK),
    RoomG k A → Env0 P w K mg base A outer s H → BindsTo s fd args (ps.zip us) → Vals vs us → sp vs H Q E →
    codeAny (model P w) A (.call (.ref f) args) (CR CX outer P w H s Q E) s
section
variable {P : Program} {w : World} {K : PySem.W.Frag} {mg : Str → Option Value} {base : Heap} {CX : CXT} {k : Nat} {f : Addr} {fd : FuncData} {ps : List Str} {sp : Sp}
theorem FnG.of (F : FnOk P w K mg base CX k f fd ps sp) : FnG P w K mg base CX k f fd ps sp :=
  ⟨F.len, fun A outer s H args us vs Q E hr => F.run A outer s H args us vs Q E hr.r⟩
/-- a def by its body -/
theorem okG {x qual : Str} {params : Arguments} {body : List Stmt} {scope : Scope} {dvs : List V} {kws : List (Str × V)} {N : List Str}
    (F : FunD K x qual params body scope dvs kws f fd) (S : FnScope N ps scope) (len : ∀ vs H Q E, sp vs H Q E → vs.length = ps.length)
    (hbody : ∀ (cdv : Value) (A : Around) (outer : List Env) (s : Shared) (H : Hp) (vs : List V) (Q : VK) (E : XK),
      RoomG k (A.deeper (envOfC qual scope s.heap.objs.size f cdv)) → sp vs H Q E →
      ∃ t, PSs (cxOf CX P w K mg base N qual scope f cdv A outer s H E) body t ∧ t { nx := fun _ H' => Q .non H', rt := Q } (start N vs) H) :
    FnG P w K mg base CX (k + 1) f fd ps sp := by
  obtain ⟨oc, od, dV, kV, doc, pm, an, cdv, ct, osl, rfl, lk, hcd, _, _⟩ := F.ex
  refine ⟨len, fun A outer s H args us vs Q E hr e0 hb rv hsp => ?_⟩
  have KX : K.In s.heap := e0.mod.kin.keeps fun b o e => (e0.bs b o e).1
  have hkinds : ∀ y ∈ ps.zip us, scope.names.lookup y.1 = some .local ∨
      (scope.names.lookup y.1 = some .cell ∧ ((cellsFrom (s.heap.objs.size + 1) scope.names []).lookup y.1).isSome = true) := by
    rintro ⟨n, v⟩ hy
    rcases S.par n (List.of_mem_zip hy).1 with q | q
    · exact .inl q
    · exact .inr ⟨q, PySem.W.cellsFrom_some _ _ _ (.inl q)⟩
  refine codeAny_call_function hr.r.depth (KX _ _ lk) rfl S.co S.gen rfl (PySem.W.codeRec_of KX hcd) (hb _ _ _ _ ?_)
  refine wpAny_newFunctionEnv_cells S.kind hkinds fun env he s1 x => ?_
  subst he
  refine ⟨(e0.mod.nolimit.keeps fun b o e => (e0.bs b o e).1).keeps x.toInCall.keep, codeAny_func ?_⟩
  obtain ⟨t, ht, hq⟩ := hbody cdv A outer s H vs Q E (hr.down _) hsp
  have I := inv_start (CX := CX) (E := E) (N := N) (qual := qual) (f := f) (cd := cdv) S hr.r.hd e0 (len _ _ _ _ hsp) rv x
  refine wpAny_mono (ht.run [] s1 (start N vs) H _ I hq) (fun fl s' hs => ?_) fun e s' hs => hs
  cases fl with
  | ret u =>
    obtain ⟨v, σ', H', J, rv', q⟩ := hs
    exact ⟨v, H', J.os, J.bare, J.base, J.hok, rv', q⟩
  | next =>
    obtain ⟨σ', H', J, q⟩ := hs
    exact ⟨V.non, H', J.os, J.bare, J.base, J.hok, rfl, q⟩
  | brk => exact hs.elim fun _ z => z.elim fun _ z => z.2.elim
  | cont => exact hs.elim fun _ z => z.elim fun _ z => z.2.elim
end
section
variable {X : Cx} {CX : CXT} {k : Nat} {f : Addr} {fd : FuncData} {ps : List Str} {sp : Sp} {dvs : List V} {ds : List Value} {E : XK} {x : Str} {p pos : Pos} {e : Expr} {es : List Expr} {t : TA}
theorem runG {pins : List (Addr × Obj)} {σ : L2.St} {H : Hp} {s : Shared} {Q : VK} {us : List Value} {vs : List V} (F : FnG X.prog X.w X.K X.mg X.base CX k f fd ps sp)
    (hr : RoomG k X.A) (hb : Binds X.K fd ps ds) (hd : Vals dvs ds) (hx : Passes CX X E) (I : Inv X pins σ H s) (r : Vals vs us) (h : sp (vs ++ dvs) H Q E) :
    wpAny (model X.prog X.w) X.A (call (.ref f) us) (EP X pins σ Q) X.xe s := by
  have r2 := r.append hd
  have hl : (us ++ ds).length = ps.length := r2.length.symm.trans (F.len _ _ _ _ h)
  refine wpAny_call (codeAny_mono (F.run X.A X.stack s H ⟨us, []⟩ _ _ Q E hr I.env0 (hb s us I.kIn hl) r2 h) fun r s' hq => ?_)
  match r, hq with
  | .error e, hq => exact hx pins σ H s e s' I hq
  | .ok (.ret u), hq => exact I.after hq
/-- f(e, ..) -/
theorem pe_callG (F : FnG X.prog X.w X.K X.mg X.base CX k f fd ps sp) (hr : RoomG k X.A) (hg : Gl X x) (hm : X.mg x = some (.ref f)) (hk : PySem.W.keepIn X.K (.ref f) = true)
    (hb : Binds X.K fd ps ds) (hd : Vals dvs ds) (hx : Passes CX X E) (ha : PA X (e :: es) t) (hdb : (x == ("__debug__" : Str)) = false := by decide)
    (he : starEach (e :: es) X.env = (false, eval e X.env) :: starEach es X.env := by rfl) (hpl : (backTo pos (starEach es X.env)).any (·.1) = false := by rfl) :
    PE X (.Call (.Name x p) (e :: es) [] pos) (tCall sp dvs E t) :=
  ⟨fun pins s σ H Q I h => wpAny_Call_Name_kw (ld_glob I hg hm (PySem.W.callWith_K (h₀ := X.base) I.ok.mod.kin hk
    (thn (ha.run pos pins s σ H _ I h) fun us s1 ⟨vs, H1, I1, r, q⟩ => ⟨I1.kIn, runG F hr hb hd hx I1 r q⟩) he hpl) hdb)⟩
/-- repr of a list or a tuple of data -/
def rReprD (K : PySem.W.Frag) : List V → Hp → VK → Prop := fun xs H Q => ∃ (a : Addr) (d : PyData), xs = [.ref a] ∧ Dp K H (.ref a) d ∧ d.showable = true ∧ d.hasDict = false ∧ d.depth ≤ 60 ∧ d.shown.length ≤ sizeLine ∧ Q (.str d.shown) H
theorem call_reprD (hr : RoomG k X.A) : CallR X (.builtin "repr") (rReprD X.K) := by
  intro pins s σ H xs us Q I r h
  obtain ⟨a, d, rfl, hd, hs, hn, hdep, hz, q⟩ := h
  obtain ⟨u, rfl, ru⟩ := vals1 r
  obtain rfl : u = Value.ref a := ru
  obtain ⟨as, rd⟩ := Dp.reads I d (.ref a) (.ref a) hd rfl
  have hu := hr.r.units
  exact repr_of_reads' rd hs (PyData.noDict_hsm hn) hr.g (by omega) (fun _ _ e => e) (fun h' u tk hk => ⟨.str d.shown, H, I.kept hk, ⟨u, rfl⟩, q⟩) hz
end
/-- the law's call, from its promise where no repr is under way -/
theorem law_go {P : Program} {w : World} {K : PySem.W.Frag} {mg mb : Str → Option Value} {CX : CXT} {k : Nat} {fa a : Addr} {fd : FuncData} {x : Str} {sp : Sp} {s₁ : Shared} {vs : List Value} {H : Hp}
    (KX : K.In s₁.heap) (hns : s₁.heap.Ns mainGlobals mg) (hb : s₁.heap.Ns builtinsNs mb) (hbb : ∀ x : Str, x ≠ "__name__" → mb x = bootBuiltins x) (hlim : s₁.heap.NoLimit) (hg : s₁.gens = #[])
    (ha : s₁.heap.get? a = some { cls := .type "list", data := .seq vs.toArray }) (hr : RoomG k callerA)
    (F : ∀ base : Heap, K.In base → base.Ns mainGlobals mg → FnG P w K mg base CX k fa fd [x] sp) (hbind : ∀ (s : Shared) (u : Value), BindsTo s fd ⟨[u], []⟩ [(x, u)])
    (hsp : sp [.ref a] H (fun v _ => v = .bl true) fun _ _ _ => False) (hCX : ∀ e s', CX [] H s₁ (fun _ _ _ => False) e s' → False)
    (hO : Only H) (hok : HOk P w H s₁.heap) (hA : ∀ b, H b ≠ none → b = a) (hK : H a ≠ none → K.lookup a = none) :
    codeAny (model P w) callerA (.call (.ref fa) ⟨[.ref a], []⟩) (fun r s' => r = .ok (.ret (.bool true)) ∧ OldK s₁.heap s'.heap ∧ s'.os = s₁.os ∧ AllBare s'.gens) s₁ := by
  have free : ∀ {b : Addr} {o : Obj}, s₁.heap.get? b = some o → (b = a → False) → (hidT s₁.heap H).get? b = some o := fun {b o} e n => hidT_get e (by
    cases q : H b with
    | none => rfl
    | some u => exact (n (hA b (by rw [q]; exact fun z => nomatch z))).elim)
  have nsK : ∀ {b : Addr} {m : Str → Option Value}, s₁.heap.Ns b m → (hidT s₁.heap H).Ns b m := fun {b m} ⟨o, es, ep, e, d, r⟩ => ⟨o, es, ep, free e (fun z => by
    rw [z, ha] at e
    have e' := Option.some.inj e
    rw [← e'] at d
    exact nomatch d), d, r⟩
  have hKb : K.In (hidT s₁.heap H) := fun b o e => hidT_get (KX b o e) (by
    cases q : H b with
    | none => rfl
    | some u =>
      have z : b = a := hA b (by rw [q]; exact fun z => nomatch z)
      rw [z] at e q
      rw [hK (by rw [q]; exact fun z => nomatch z)] at e
      exact nomatch e)
  obtain ⟨mc, l1, l2⟩ := hlim
  have e0 : Env0 P w K mg (hidT s₁.heap H) callerA [] s₁ H :=
    ⟨rfl, ⟨hKb, nsK hns, ⟨mb, nsK hb, hbb⟩, ⟨mc, nsK l1, l2⟩⟩, fun b o e => of_hidT e, Nat.le_of_eq (hidT_size _ _), trivial, fun b hb => absurd (show b ∈ ([] : List Addr) from hb) List.not_mem_nil, hok, .of_eq hg⟩
  refine codeAny_mono ((F _ hKb (nsK hns)).run callerA [] s₁ H ⟨[.ref a], []⟩ [.ref a] [.ref a] _ _ hr e0 (hbind s₁ (.ref a)) (.cons rfl .nil) hsp) fun r s' h => ?_
  match r, h with
  | .error e, h => exact (hCX e s' h).elim
  | .ok (.ret u), h =>
    obtain ⟨v, H', os, bare, un, hok', r', q⟩ := h
    obtain rfl : v = .bl true := q
    obtain rfl : u = Value.bool true := r'
    refine ⟨rfl, OldK.of_keep fun b o e => ?_, os, bare⟩
    cases q : H b with
    | none => exact un.keep b o e q (fun z => absurd (show b ∈ ([] : List Addr) from z) List.not_mem_nil) (fun z => absurd (show b ∈ ([] : List Addr) from z) List.not_mem_nil)
    | some u =>
      rcases hO b with z | ⟨ob, xs, z⟩
      · rw [q] at z
        exact nomatch z
      · obtain ⟨e1, _⟩ := hok b _ z
        obtain ⟨e2, _⟩ := hok' b _ (un.frzs b ob _ z)
        rw [e] at e1
        rw [Option.some.inj e1]
        exact e2
theorem law_callG {P : Program} {w : World} {K : PySem.W.Frag} {mg mb : Str → Option Value} {CX : CXT} {k : Nat} {fa a : Addr} {fd : FuncData} {x : Str} {sp : Sp} {s₁ : Shared} {vs : List Value} {ns : List Int}
    (KX : K.In s₁.heap) (hns : s₁.heap.Ns mainGlobals mg) (hb : s₁.heap.Ns builtinsNs mb) (hbb : ∀ x : Str, x ≠ "__name__" → mb x = bootBuiltins x) (hlim : s₁.heap.NoLimit) (hg : s₁.gens = #[])
    (ha : s₁.heap.get? a = some { cls := .type "list", data := .seq vs.toArray }) (hi : IntsAre vs ns) (hl : ns.length ≤ sizeLine) (hr : RoomG k callerA)
    (F : ∀ base : Heap, K.In base → base.Ns mainGlobals mg → FnG P w K mg base CX k fa fd [x] sp) (hbind : ∀ (s : Shared) (u : Value), BindsTo s fd ⟨[u], []⟩ [(x, u)])
    (hsp : ∀ H : Hp, Only H → SqL K H a (ns.map V.int) → sp [.ref a] H (fun v _ => v = .bl true) fun _ _ _ => False) (hCX : ∀ H e s', CX [] H s₁ (fun _ _ _ => False) e s' → False) :
    codeAny (model P w) callerA (.call (.ref fa) ⟨[.ref a], []⟩) (fun r s' => r = .ok (.ret (.bool true)) ∧ OldK s₁.heap s'.heap ∧ s'.os = s₁.os ∧ AllBare s'.gens) s₁ := by
  have rv := vals_ints hi
  have lenV := hi.length
  cases hk : K.lookup a with
  | some o =>
    have e := (KX a o hk).symm.trans ha
    obtain rfl := Option.some.inj e
    have hO : Only (fun _ => none) := fun _ => .inl rfl
    exact law_go (H := fun _ => none) KX hns hb hbb hlim hg ha hr F hbind
      (hsp _ hO (.inr ⟨_, vs.toArray, _, hk, rfl, rfl, rfl, by rw [List.size_toArray, lenV]; exact hl, by simpa using rv⟩)) (hCX _) hO
      (fun b u z => nomatch (show (none : Option HO) = some u from z)) (fun b z => (z rfl).elim) (fun z => (z rfl).elim)
  | none =>
    let H0 : Hp := fun b => if b = a then some (.frz { cls := .type "list", data := .seq vs.toArray } (.lst (ns.map V.int))) else none
    have at_ : H0 a = some (.frz { cls := .type "list", data := .seq vs.toArray } (.lst (ns.map V.int))) := if_pos rfl
    have off : ∀ b, b ≠ a → H0 b = none := fun b h => if_neg h
    have hO : Only H0 := fun b => by
      by_cases h : b = a
      · rw [h]
        exact .inr ⟨_, _, at_⟩
      · exact .inl (off b h)
    refine law_go (H := H0) KX hns hb hbb hlim hg ha hr F hbind (hsp _ hO (.inl (.inr ⟨_, at_⟩))) (hCX _) hO (fun b u z => ?_) (fun b z => ?_) (fun _ => hk)
    · by_cases h : b = a
      · rw [h, at_] at z
        obtain rfl := Option.some.inj z
        rw [h]
        exact ⟨ha, by rw [List.length_map]; exact hl, vs, _, rv, ha⟩
      · rw [off b h] at z
        exact nomatch z
    · by_cases h : b = a
      · exact h
      · exact (z (off b h)).elim
/-- the end of a law, over a head by facts -/
theorem walkG {l : PySem.W.OpenLaw} {n k : Nat} {q : Program} {loose : List Str} {XP : (Str → Option Value) → Heap → Prop} {YP : World → Heap → Prop} {d : DefRec} {CX : CXT} {x : Str}
    (hn : l.most = some n) (hn2 : n ≤ sizeLine) (hdf : d.params.defaults = []) (hr : RoomG k callerA)
    (F : ∀ (w : World) (mg : Str → Option Value) (fa : Addr) (h : Heap), YP w h → h.Ns mainGlobals mg → mg d.name = some (.ref fa) →
      ∃ (K : PySem.W.Frag) (fd : FuncData) (sp : Sp), K.In h ∧ (∀ (s : Shared) (u : Value), BindsTo s fd ⟨[u], []⟩ [(x, u)]) ∧
        (∀ (H : Hp) (a : Addr) (ns : List Int), ns.length ≤ n → Only H → SqL K H a (ns.map V.int) → sp [.ref a] H (fun v _ => v = .bl true) fun _ _ _ => False) ∧
        ∀ base : Heap, K.In base → base.Ns mainGlobals mg → FnG l.prog w K mg base CX k fa fd [x] sp)
    (hCX : ∀ (H : Hp) (s : Shared) (e : Value) (s' : Shared), CX [] H s (fun _ _ _ => False) e s' → False) :
    PySem.W.WalkO q loose XP YP l.row.toRowW d [] (fun f vs => PySem.call f vs) := by
  refine Att.attach_call hn hdf fun w s₀ s₁ mg mb fa o pm cd doc a vs ns G Y ho hd hcd hmg hobj hints hlen hg => ?_
  obtain ⟨K, fd, sp, KX, hb, hsp, hF⟩ := F w mg fa _ Y G.T.g hmg
  exact law_callG KX G.T.g G.T.b G.T.builtins G.T.nolimit hg hobj hints (Nat.le_trans hlen hn2) hr hF hb (fun H hO hS => hsp H a ns hlen hO hS) fun H e s' => hCX H s₁ e s'
end Gu

set_option Elab.async false
set_option linter.all false
set_option maxRecDepth 100000
set_option maxHeartbeats 4000000
/-! Own layer: defs, methods, makers and properties by their names. -/
namespace Ex
open PySem PySem.Spec PyProof.Rows L2 Gu
section
variable (P : Program) (w : World) (K : PySem.W.Frag) (mg : Str → Option Value) (base : Heap)
/-- the module's def x keeps sp -/
structure Df (k : Nat) (x : Str) (ps : List Str) (sp : Sp) : Prop where
  ex : ∃ fd, FnOk P w K mg base CX0 k (He.ga K x) fd ps sp ∧ Binds K fd ps []
  gl : mg x = some (.ref (He.ga K x))
  kp : PySem.W.keepIn K (.ref (He.ga K x)) = true
structure DfG (k : Nat) (x : Str) (ps : List Str) (sp : Sp) : Prop where
  ex : ∃ fd, FnG P w K mg base CX0 k (He.ga K x) fd ps sp ∧ Binds K fd ps []
  gl : mg x = some (.ref (He.ga K x))
  kp : PySem.W.keepIn K (.ref (He.ga K x)) = true
/-- .. called by keywords ks alone; j: the places of the parameters among the keywords -/
structure DfK (k : Nat) (x : Str) (ps ks : List Str) (j : List Nat) (sp : Sp) : Prop where
  ex : ∃ fd, FnOk P w K mg base CX0 k (He.ga K x) fd ps sp ∧ ∀ (s : Shared) (ws : List Value), ws.length = ks.length → BindsTo s fd ⟨[], ks.zip ws⟩ (ps.zip (j.filterMap fun i => ws[i]?))
  gl : mg x = some (.ref (He.ga K x))
  kp : PySem.W.keepIn K (.ref (He.ga K x)) = true
structure Mf (k : Nat) (c m : Str) (ps : List Str) (sp : Sp) : Prop where
  ex : ∃ fd, FnOk P w K mg base CX0 k (He.ma K (He.ga K c) m) fd ps sp ∧ Binds K fd ps []
  cl : Cls K (He.ga K c)
  me : Meth K (He.ga K c) m (He.ma K (He.ga K c) m)
structure Pf (k : Nat) (c m : Str) (sp : Sp) : Prop where
  cl : Cls K (He.ga K c)
  ex : ∃ (p g : Addr) (fd : FuncData), PropOf K (He.ga K c) m p g ∧ FnOk P w K mg base CX0 k g fd ["self"] sp ∧ Binds K fd ["self"] []
structure Kf (k : Nat) (c : Str) (ps : List Str) (sp : Sp) : Prop where
  ex : ∃ fd, FnOk P w K mg base CX0 k (He.ma K (He.ga K c) "__init__") fd ps sp ∧ Binds K fd ps []
  gl : mg c = some (.ref (He.ga K c))
  mkr : Mk K (He.ga K c) (He.ma K (He.ga K c) "__init__")
end
section
variable {X : Cx} {k j : Nat} {x c m : Str} {ps ks : List Str} {ji : List Nat} {sp : Sp} {p pos apos : Pos} {e o : Expr} {es : List Expr} {kws : List Keyword} {t tk : TA} {ta : TE}
theorem pcall (D : Df X.prog X.w X.K X.mg X.base k x ps sp) (hr : Room j X.A) (ha : PA X (e :: es) t) (hj : k ≤ j := by decide) (hg : Gl X x := by rfl) (hdb : (x == ("__debug__" : Str)) = false := by decide)
    (he : starEach (e :: es) X.env = (false, eval e X.env) :: starEach es X.env := by rfl) (hpl : (backTo pos (starEach es X.env)).any (·.1) = false := by rfl) :
    PE X (.Call (.Name x p) (e :: es) [] pos) (tCall sp [] E0 t) := by
  obtain ⟨fd, F, b⟩ := D.ex
  exact pe_call F (hr.mono hj) hg D.gl D.kp b .nil pass0 ha hdb he hpl
theorem pcallG (D : DfG X.prog X.w X.K X.mg X.base k x ps sp) (hr : RoomG j X.A) (ha : PA X (e :: es) t) (hj : k ≤ j := by decide) (hg : Gl X x := by rfl) (hdb : (x == ("__debug__" : Str)) = false := by decide)
    (he : starEach (e :: es) X.env = (false, eval e X.env) :: starEach es X.env := by rfl) (hpl : (backTo pos (starEach es X.env)).any (·.1) = false := by rfl) :
    PE X (.Call (.Name x p) (e :: es) [] pos) (tCall sp [] E0 t) := by
  obtain ⟨fd, F, b⟩ := D.ex
  exact pe_callG F (hr.mono hj) hg D.gl D.kp b .nil pass0 ha hdb he hpl
def tKw (sp : Sp) (n : Nat) (j : List Nat) (tk : TA) : TE := fun σ H Q => tk σ H fun zs H2 => zs.length = n ∧ sp (j.filterMap fun i => zs[i]?) H2 Q E0
theorem vals_pick {zs : List V} {ws : List Value} (r : Vals zs ws) : ∀ j : List Nat, Vals (j.filterMap fun i => zs[i]?) (j.filterMap fun i => ws[i]?)
  | [] => .nil
  | i :: j => by
    rw [List.filterMap_cons, List.filterMap_cons]
    cases e : zs[i]? with
    | none =>
      rw [r.none_of e]
      exact vals_pick r j
    | some z =>
      obtain ⟨u, hu, ru⟩ := r.get e
      rw [hu]
      exact .cons ru (vals_pick r j)
theorem pcallK (D : DfK X.prog X.w X.K X.mg X.base k x ps ks ji sp) (hr : Room j X.A) (hkw : PK X kws tk) (hj : k ≤ j := by decide) (hg : Gl X x := by rfl)
    (hall : (backToKw pos (keywordEach kws X.env)).all (·.1.isSome) = true := by rfl) (hks : (backToKw pos (keywordEach kws X.env)).filterMap (·.1) = ks := by rfl)
    (hdb : (x == ("__debug__" : Str)) = false := by decide)
    (hpl : ((backTo pos (starEach [] X.env)).any (·.1) || (backToKw pos (keywordEach kws X.env)).any (·.1.isNone)) = false := by rfl) :
    PE X (.Call (.Name x p) [] kws pos) (tKw sp ks.length ji tk) := by
  obtain ⟨fd, F, b⟩ := D.ex
  refine ⟨fun pins s σ H Q I h => wpAny_Call_Name_kw (ld_glob I hg D.gl ?_ hdb)⟩
  refine PySem.W.callWith_KW0 (h₀ := X.base) I.ok.mod.kin D.kp hall (thn (hkw.run pos pins s σ H _ I h) fun ws s2 ⟨zs, H2, I2, rz, l2, q2⟩ => ⟨I2.kIn, ?_⟩) hpl
  rw [hks]
  refine wpAny_call (codeAny_mono (F.run X.A X.stack s2 H2 ⟨[], ks.zip ws⟩ _ _ Q E0 (hr.mono hj) I2.env0 (b s2 ws (rz.length.symm.trans l2)) (vals_pick rz ji) q2) fun r s' hq => ?_)
  match r, hq with
  | .ok (.ret u), hq => exact I2.after hq
theorem pmeth {pl : Sem Bool} (D : Mf X.prog X.w X.K X.mg X.base k c m ps sp) (hr : Room j X.A) (he : PE X o ta) (ha : PA X (e :: es) t) (hj : k ≤ j := by decide)
    (hst : starEach (e :: es) X.env = (false, eval e X.env) :: starEach es X.env := by rfl) (hpl : (backTo pos (starEach es X.env)).any (·.1) = false := by rfl)
    (ht : eval (.Call (.Attribute o m apos) (e :: es) [] pos) X.env = (do
      let ov ← eval o X.env
      standAt apos.atName
      let (f, first) ← holding [ov] (getMethod ov m pl)
      callWith pos f first (backTo pos (starEach (e :: es) X.env)) (backToKw pos (keywordEach [] X.env))) := by rfl) :
    PE X (.Call (.Attribute o m apos) (e :: es) [] pos) (tMeth (He.ga X.K c) m sp [] E0 ta t) := by
  obtain ⟨fd, F, b⟩ := D.ex
  exact pe_meth he D.cl D.me F (hr.mono hj) b .nil pass0 ha hst hpl ht
theorem pmeth0 {pl : Sem Bool} (D : Mf X.prog X.w X.K X.mg X.base k c m ps sp) (hr : Room j X.A) (he : PE X o ta) (hj : k ≤ j := by decide)
    (ht : eval (.Call (.Attribute o m apos) [] [] pos) X.env = (do
      let ov ← eval o X.env
      standAt apos.atName
      let (f, first) ← holding [ov] (getMethod ov m pl)
      callWith pos f first (backTo pos (starEach [] X.env)) (backToKw pos (keywordEach [] X.env))) := by rfl) :
    PE X (.Call (.Attribute o m apos) [] [] pos) (tMeth (He.ga X.K c) m sp [] E0 ta tNil) := by
  obtain ⟨fd, F, b⟩ := D.ex
  exact pe_meth0 he D.cl D.me F (hr.mono hj) b .nil pass0 ht
theorem pprop (D : Pf X.prog X.w X.K X.mg X.base k c m sp) (hr : Room j X.A) (he : PE X o ta) (hj : k + 1 ≤ j := by decide) (hab : attributeBase o m X.env (eval o X.env) = eval o X.env := by rfl) :
    PE X (.Attribute o m pos) (tProp (He.ga X.K c) sp [] E0 ta) := by
  obtain ⟨p, g, fd, hp, F, b⟩ := D.ex
  exact pe_prop he D.cl hp F (hr.mono hj) b .nil pass0 hab
theorem pmake (D : Kf X.prog X.w X.K X.mg X.base k c ps sp) (hr : Room j X.A) (ha : PA X (e :: es) t) (hj : k + 1 ≤ j := by decide) (hg : Gl X c := by rfl) (hdb : (c == ("__debug__" : Str)) = false := by decide)
    (he : starEach (e :: es) X.env = (false, eval e X.env) :: starEach es X.env := by rfl) (hpl : (backTo pos (starEach es X.env)).any (·.1) = false := by rfl) :
    PE X (.Call (.Name c p) (e :: es) [] pos) (tMake (He.ga X.K c) sp [] E0 t) := by
  obtain ⟨fd, F, b⟩ := D.ex
  exact pe_make D.mkr F (hr.mono hj) hg D.gl b .nil pass0 ha hdb he hpl
end
end Ex

set_option Elab.async false
set_option linter.all false
set_option maxRecDepth 100000
set_option maxHeartbeats 4000000
/-! Own layer: data of any depth, dicts among it, as repr shows it. -/
namespace Ex
open PySem PySem.Spec PyProof.Rows L2 Gu
mutual
inductive Dq (K : PySem.W.Frag) (H : Hp) : V → PyData → Prop
  | non : Dq K H .non .none
  | bl (b : Bool) : Dq K H (.bl b) (.bool b)
  | int (i : Int) : Dq K H (.int i) (.int i)
  | str (x : Str) : Dq K H (.str x) (.str x)
  | lst {a : Addr} {xs : List V} {ds : List PyData} : SqL K H a xs → DqAll K H xs ds → Dq K H (.ref a) (.list ds)
  | tup {a : Addr} {xs : List V} {ds : List PyData} : SqT K H a xs → DqAll K H xs ds → Dq K H (.ref a) (.tuple ds)
  | dct {a : Addr} {kvs : List (Key × V)} {ds : List (PyData × PyData)} : H a = some (.dK kvs) → DqAll K H (kvs.map fun p => kV p.1) (ds.map (·.1)) → DqAll K H (kvs.map (·.2)) (ds.map (·.2)) → Dq K H (.ref a) (.dict ds)
inductive DqAll (K : PySem.W.Frag) (H : Hp) : List V → List PyData → Prop
  | nil : DqAll K H [] []
  | cons {v : V} {vs : List V} {d : PyData} {ds : List PyData} : Dq K H v d → DqAll K H vs ds → DqAll K H (v :: vs) (d :: ds)
end
/-- the table of modules stands in the written part: no list lies there -/
def SysOk (K : PySem.W.Frag) : Prop := ∃ o, K.lookup sysModules = some o ∧ o.cls ≠ .type "list"
section
variable {X : Cx} {pins : List (Addr × Obj)} {σ : L2.St} {H : Hp} {s : Shared}
theorem key_rel {k : Key} {v : Value} (h : keyIs k v = true) : RelV (kV k) v := by
  rcases keyIs_shape h with ⟨i, t, rfl, rfl⟩ | ⟨x, t, rfl, rfl⟩
  · exact ⟨t, rfl⟩
  · exact ⟨t, rfl⟩
theorem not_sys {a : Addr} {o : Obj} (hs : SysOk X.K) (I : Inv X pins σ H s) (ho : s.heap.get? a = some o) (hc : o.cls = .type "list") : a ≠ sysModules := fun z => by
  obtain ⟨u, e, n⟩ := hs
  have h2 := I.kIn _ _ e
  rw [z, h2] at ho
  rw [Option.some.inj ho] at n
  exact n hc
theorem pairs_rel {es : List DictEntry} {vs : List (Key × Value)} (h : Pairs (mixKind X.prog X.w) es vs) : ∀ {kvs : List (Key × V)}, KV kvs vs → Vals (kvs.map fun p => kV p.1) (es.map (·.key)) ∧ Vals (kvs.map (·.2)) (es.map (·.val)) := by
  induction h with
  | nil =>
    intro kvs r
    cases r
    exact ⟨.nil, .nil⟩
  | @cons e kv es vs h1 h2 h3 ih =>
    intro kvs r
    cases r with
    | @cons p _ l _ r1 r2 =>
      obtain ⟨i1, i2⟩ := ih r2
      have k1 : RelV (kV p.1) e.key := by
        rw [r1.1]
        exact key_rel h1
      have k2 : RelV p.2 e.val := by
        rw [h2]
        exact r1.2
      exact ⟨.cons k1 i1, .cons k2 i2⟩
mutual
theorem Dq.reads (hs : SysOk X.K) (I : Inv X pins σ H s) : ∀ {v : V} {d : PyData}, Dq X.K H v d → ∀ u, RelV v u → ∃ as, Reads s.heap u d as ∧ sysModules ∉ as
  | _, _, .non, u, r => by
    cases r
    exact ⟨_, Reads.none, List.not_mem_nil⟩
  | _, _, .bl b, u, r => by
    cases r
    exact ⟨_, Reads.bool b, List.not_mem_nil⟩
  | _, _, .int i, u, r => by
    obtain ⟨t, rfl⟩ := r
    exact ⟨_, Reads.int i t, List.not_mem_nil⟩
  | _, _, .str x, u, r => by
    obtain ⟨t, rfl⟩ := r
    exact ⟨_, Reads.str x t, List.not_mem_nil⟩
  | _, _, .lst (a := a) hq ha, u, r => by
    cases r
    obtain ⟨its, rv, ⟨o, n, ho, hc, _, hd⟩, _⟩ := I.list hq
    obtain ⟨as, hr, na⟩ := Dq.readsAll hs I ha its rv
    refine ⟨_, Reads.list ho hc hd hr, fun hm => ?_⟩
    rcases List.mem_cons.mp hm with z | z
    · exact not_sys hs I ho hc z.symm
    · exact na z
  | _, _, .tup (a := a) hq ha, u, r => by
    cases r
    obtain ⟨its, rv, ⟨o, ho, hc, n, hd⟩, _⟩ := I.tuple hq
    obtain ⟨as, hr, na⟩ := Dq.readsAll hs I ha its rv
    exact ⟨_, Reads.tuple ho hc hd hr, na⟩
  | _, _, .dct (a := a) (kvs := kvs) hq h1 h2, u, r => by
    cases r
    obtain ⟨_, ns, vs, rk, o, es, ep, ho, hx, hd, _, hp, _⟩ := (show ObjOk X.prog X.w H s.heap a (.dK kvs) from I.hok a _ hq)
    obtain ⟨r1, r2⟩ := pairs_rel hp rk
    obtain ⟨as, q1, n1⟩ := Dq.readsAll hs I h1 _ r1
    obtain ⟨bs, q2, n2⟩ := Dq.readsAll hs I h2 _ r2
    refine ⟨_, Reads.dict ho hx.1 hd q1 q2, fun hm => ?_⟩
    rcases List.mem_append.mp hm with z | z
    · rcases List.mem_cons.mp z with z | z
      · rw [← z, beq_self_eq_true] at ns
        cases ns
      · exact n1 z
    · exact n2 z
theorem Dq.readsAll (hs : SysOk X.K) (I : Inv X pins σ H s) : ∀ {vs : List V} {ds : List PyData}, DqAll X.K H vs ds → ∀ us : List Value, Vals vs us → ∃ as, ReadsAll s.heap us ds as ∧ sysModules ∉ as
  | _, _, .nil, us, r => by
    cases r
    exact ⟨_, ReadsAll.nil, List.not_mem_nil⟩
  | _, _, .cons h1 h2, us, r => by
    cases r with
    | cons r1 r2 =>
      obtain ⟨as, q1, n1⟩ := Dq.reads hs I h1 _ r1
      obtain ⟨bs, q2, n2⟩ := Dq.readsAll hs I h2 _ r2
      refine ⟨_, ReadsAll.cons q1 q2, fun hm => ?_⟩
      rcases List.mem_append.mp hm with z | z
      · exact n1 z
      · exact n2 z
end
end
section
variable {X : Cx} {k : Nat}
/-- repr of any data -/
def rReprQ (K : PySem.W.Frag) : List V → Hp → VK → Prop := fun xs H Q => ∃ (v : V) (d : PyData), xs = [v] ∧ Dq K H v d ∧ d.showable = true ∧ d.depth ≤ 60 ∧ d.shown.length ≤ sizeLine ∧ Q (.str d.shown) H
theorem call_reprQ (hr : RoomG k X.A) (hs : SysOk X.K) : CallR X (.builtin "repr") (rReprQ X.K) := by
  intro pins s σ H xs us Q I r h
  obtain ⟨v, d, rfl, hd, hsh, hdep, hz, q⟩ := h
  obtain ⟨u, rfl, ru⟩ := vals1 r
  obtain ⟨as, rd, na⟩ := Dq.reads hs I hd u ru
  have hu := hr.r.units
  cases hd with
  | non =>
    cases ru
    exact PySem.P.repr_of_none ⟨.str _, H, I.tok _, ⟨_, rfl⟩, by simpa only [PyData.shown] using q⟩
  | bl b =>
    cases ru
    exact PySem.P.repr_of_bool ⟨.str _, H, I.tok _, ⟨_, rfl⟩, by simpa only [PyData.shown] using q⟩
  | int i =>
    obtain ⟨t, rfl⟩ := ru
    exact PySem.P.repr_of_int (by simpa [PyData.showable] using hsh) ⟨.str _, H, I.tok _, ⟨_, rfl⟩, by simpa only [PyData.shown] using q⟩
  | str x =>
    obtain ⟨t, rfl⟩ := ru
    exact PySem.P.repr_of_str ⟨.str _, H, I.tok _, ⟨_, rfl⟩, by simpa only [PyData.shown] using q⟩ (by simpa only [PyData.shown] using hz)
  | @lst a xs ds hq ha =>
    obtain rfl : u = Value.ref a := ru
    exact repr_of_reads' rd hsh (fun _ => na) hr.g (by omega) (fun _ _ e => e) (fun h' u tk hk => ⟨.str _, H, I.kept hk, ⟨u, rfl⟩, q⟩) hz
  | @tup a xs ds hq ha =>
    obtain rfl : u = Value.ref a := ru
    exact repr_of_reads' rd hsh (fun _ => na) hr.g (by omega) (fun _ _ e => e) (fun h' u tk hk => ⟨.str _, H, I.kept hk, ⟨u, rfl⟩, q⟩) hz
  | @dct a kvs ds hq h1 h2 =>
    obtain rfl : u = Value.ref a := ru
    exact repr_of_reads' rd hsh (fun _ => na) hr.g (by omega) (fun _ _ e => e) (fun h' u tk hk => ⟨.str _, H, I.kept hk, ⟨u, rfl⟩, q⟩) hz
/-- x is not True, x is not False, of any scalar -/
def rNotBA : R2 := fun x y H Q => ∃ b : Bool, y = .bl b ∧ ((∃ a : Bool, x = .bl a ∧ Q (.bl (!decide (a = b))) H) ∨ (∃ i : Int, x = .int i ∧ Q (.bl true) H))
theorem op_notBA : OpR X (compareOp .IsNot) rNotBA := by
  intro pins s σ H x y v u Q I rx ry h
  obtain ⟨b, rfl, h⟩ := h
  rcases h with ⟨a, rfl, q⟩ | ⟨i, rfl, q⟩
  · exact op_notBl pins s σ H _ _ v u Q I rx ry ⟨a, b, rfl, rfl, q⟩
  · cases (show u = Value.bool b from ry)
    obtain ⟨t, rfl⟩ := (show ∃ t, v = Value.int i t from rx)
    exact wpAny_isNot_other rfl (fun z => nomatch z) ⟨.bl true, H, I, rfl, q⟩
end
end Ex

set_option Elab.async false
set_option linter.all false
set_option maxRecDepth 100000
set_option maxHeartbeats 4000000
/-! Own layer: isinstance of a caught error that has a dict of its own; errors with fields, raised. -/
namespace Ex
open PySem PySem.Spec PySem.Calls PyProof.Rows L2 Gu
section
variable {prog : Program} {w : World} {A : Around} {E : Value → Shared → Prop} {s : Shared} {K : PySem.W.Frag} {x D : Addr} {ox od : Obj}
theorem class_of_exc {Q : Option Value → Shared → Prop} (c : ExcC K D) (X : K.In s.heap) (I : PySem.W.InstAt s.heap x ox D (some od)) (h : Q (some (.ref D)) { s with toks := s.toks + 1 }) :
    wpAny (model prog w) A (getAttr? (.ref x) "__class__") Q E s := by
  have found : PySem.W.findObj K D (some od) "__class__" = some (.bind (.builtin "getset_descriptor.__get__") (.builtin "object.__class__")) :=
    PySem.W.findObj_data (by obtain ⟨cd, e, _⟩ := PySem.W.any_some c.hd; rw [e]; rfl) c.ha c.hn c.ht
  obtain ⟨hp, g, d, t, os⟩ := s
  have lt := I.type (M := model prog w)
  have lg := PySem.W.looks_findIn (M := model prog w) X c.hg
  have lk := PySem.W.looks_findIn (M := model prog w) X c.hk
  have lf := PySem.W.looks_find (M := model prog w) X I found
  have other : (onTheHeap (Value.ref D) && Value.builtin "BaseException.__getattribute__" == Value.builtin "object.__getattribute__") = false := by
    rw [show (Value.builtin "BaseException.__getattribute__" == Value.builtin "object.__getattribute__") = false by decide +kernel]
    rfl
  unfold getAttr? getAttrBy? getAttrBy
  refine wpAny_bind (wpAny_mkText (wpAny_bind (wpAny_attempt (wpAny_holding (wpAny_bind (lt.at (wpAny_bind (lg.at ?own))))))))
  case own =>
    show wpAny _ _ (if (onTheHeap (Value.ref D) && Value.builtin "BaseException.__getattribute__" == Value.builtin "object.__getattribute__") = true then _ else _) _ _ _
    rw [other, if_neg Bool.false_ne_true]
    unfold getAttrByItsOwn hookBefore
    refine wpAny_bind ?_
    rw [if_pos (show onTheHeap (Value.ref D) = true from rfl)]
    refine lk.at (wpAny_bind (wpAny_attempt (wpAny_holding ?_)))
    unfold callGetattribute
    rw [show (false && onTheHeap (Value.builtin "BaseException.__getattribute__")) = false from rfl, if_neg Bool.false_ne_true]
    unfold boundAndCalled
    rw [PySem.F.excAttr_ValueError.ga.bind (.ref x)]
    refine wpAny_bind (wpAny_pure ?_)
    show wpAny _ _ (call (.builtin "BaseException.__getattribute__") [.ref x, .str "__class__" t]) _ _ _
    refine wpAny_call (codeAny_call_builtin PySem.F.excAttr_ValueError.ga.plain PySem.F.entry_bexc_ga
      (@PySem.W.check_slot (model prog w) _ _ ⟨hp, g, d, t + 1, os⟩ "BaseException.__getattribute__" "BaseException" "__getattribute__" (.ref x) [.str "__class__" t] [] _
        (by decide +kernel) (by decide +kernel) (lt.andThen (PySem.W.looks_subIn X c.hs)) (PySem.F.args_bexc_ga (.ref x) (.str "__class__" t)) ?_))
    unfold Builtin.«object.__getattribute__»
    refine wpAny_bind (wpAny_of_eq (a := ((Value.ref x : Value), [Value.str "__class__" t])) (by first | rfl | (simp only [slotArgs]; rfl)) (wpAny_bind (wpAny_pure (wpAny_bind (lt.at (wpAny_bind (lf.at ?_)))))))
    show wpAny _ _ (holding [Value.builtin "object.__class__"] (call (.builtin "getset_descriptor.__get__") [.builtin "object.__class__", .ref x, .ref D]) >>= ret) _ _ _
    refine wpAny_bind (wpAny_holding (wpAny_call (PySem.W.class_get (s := ⟨hp, g, d, t + 1, os⟩) (ox := ox) (od := some od) X I c.hm (wpAny_pure ?_))))
    show wpAny _ _ (handedOut (.ref D)) _ _ _
    rw [PySem.W.handedOut_of (v := .ref D) rfl]
    first
      | exact wpAny_pure (wpAny_pure h)
      | exact wpAny_pure h
      | exact wpAny_pure (wpAny_bind (wpAny_pure (wpAny_pure h)))
theorem kitx_exc (c : ExcC K D) : PySem.W.KitX K (.ref x) (.ref D) (fun h => PySem.W.InstAt h x ox D (some od)) where
  ty := fun _ _ _ I => I.type
  it := fun _ _ X _ => by
    obtain ⟨cd, e, _⟩ := PySem.W.any_some c.hd
    unfold PySem.W.clsIn at e
    split at e
    · rename_i ho
      exact fun A' Q' E' s' k q => by
        unfold isType loadHead
        exact wpAny_bind (wpAny_loadPart (k _ _ (X _ _ ho)) (wpAny_pure q))
    · cases e
  ne := fun h tp dd its n sl X htp => by
    obtain ⟨cd, e, _⟩ := PySem.W.any_some c.hd
    cases q : (Value.ref D == Value.ref tp) with
    | false => rfl
    | true =>
      have z : D = tp := Value.ref.inj (beq_iff_eq.mp q)
      rw [← z] at htp
      unfold PySem.W.clsIn at e
      split at e
      · rename_i ho
        have y := (X _ _ ho).symm.trans htp
        cases y
      · cases e
  ca := fun X I k => class_of_exc c X I k
end
section
variable {X : Cx} {a D : Addr} {oe : Obj} {d : Addr} {pn : List (Addr × Obj)}
/-- the caught error as the machine sees it -/
theorem inst_exc {pins : List (Addr × Obj)} {σ : L2.St} {H : Hp} {s : Shared} {fs : List (Str × V)} (I : Inv (X.suite a ((a, oe) :: pn)) pins σ H s) (hz : Zc (.ref D) (some d) oe) (hf : ∃ vs, oe.data = .fields vs) (hd : H d = some (.xd fs)) :
    ∃ od, PySem.W.InstAt s.heap a oe D (some od) := by
  obtain ⟨hget, _⟩ := I.pin (a, oe) (List.mem_append_left _ List.mem_cons_self)
  obtain ⟨vs, hv⟩ := hf
  obtain ⟨mA, hns, _⟩ := (show ObjOk X.prog X.w H s.heap d (.xd fs) from I.hok d _ hd)
  obtain ⟨od, ho, _⟩ := lookIn_ns hns
  exact ⟨od, hget, hz.1, by unfold PySem.W.notCls; rw [hv] <;> rfl, by rw [hz.2]; exact ho⟩
/-- isinstance(e, c) -/
def rIsX (K : PySem.W.Frag) (D a : Addr) (cls : Value) (d : Option Addr) : List V → Hp → VK → Prop := fun xs H Q => ∃ (c : V) (u : Value) (b : Bool) (dd : Addr) (fs : List (Str × V)), xs = [.ref a, c] ∧ cls = .ref D ∧ d = some dd ∧ ClsV c u ∧ H dd = some (.xd fs) ∧ PySem.W.kitOne K (.ref D) u = some b ∧ Q (.bl b) H
theorem call_isX {cls : Value} {d : Option Addr} (c : ExcC X.K D) (hz : Zc cls d oe) (hf : ∃ vs, oe.data = .fields vs) : CallR (X.suite a ((a, oe) :: pn)) (.builtin "isinstance") (rIsX X.K D a cls d) := by
  intro pins s σ H xs us Q I r h
  obtain ⟨cv, u, b, dd, fs, rfl, rfl, rfl, k, hd, e, q⟩ := h
  obtain ⟨u1, u2, rfl, r1, r2⟩ := vals2 r
  obtain rfl : u1 = Value.ref a := r1
  have e2 := k.eq r2
  subst e2
  obtain ⟨od, J⟩ := inst_exc I hz hf hd
  exact PySem.W.kia_one (kitx_exc c) I.kIn J e (fun z => nomatch z) fun tk => ⟨.bl b, H, I.tok tk, rfl, q⟩
/-- isinstance(e, (c1, c2, ..)) -/
def rIsXT (K : PySem.W.Frag) (D a : Addr) (cls : Value) (d : Option Addr) : List V → Hp → VK → Prop := fun xs H Q => ∃ (tp : Addr) (cs : List V) (us : List Value) (b : Bool) (dd : Addr) (fs : List (Str × V)), xs = [.ref a, .ref tp] ∧ cls = .ref D ∧ d = some dd ∧
  H tp = some (.tup cs) ∧ Paired ClsV cs us ∧ H dd = some (.xd fs) ∧ PySem.W.kitAny K (.ref D) us = some b ∧ Q (.bl b) H
theorem call_isXT {cls : Value} {d : Option Addr} (c : ExcC X.K D) (hz : Zc cls d oe) (hf : ∃ vs, oe.data = .fields vs) : CallR (X.suite a ((a, oe) :: pn)) (.builtin "isinstance") (rIsXT X.K D a cls d) := by
  intro pins s σ H xs us Q I r h
  obtain ⟨tp, cs, ws, b, dd, fs, rfl, rfl, rfl, hT, k, hd, e, q⟩ := h
  obtain ⟨u1, u2, rfl, r1, r2⟩ := vals2 r
  obtain rfl : u1 = Value.ref a := r1
  obtain rfl : u2 = Value.ref tp := r2
  obtain ⟨od, J⟩ := inst_exc I hz hf hd
  obtain ⟨_, its, rv, o, h1, h2, n, h3⟩ := (show ObjOk X.prog X.w H s.heap tp (.tup cs) from I.hok tp _ hT)
  have e3 := ClsV.all k rv
  subst e3
  obtain ⟨oc, odd, dt, sl⟩ := o
  simp only at h2 h3
  subst h2 h3
  exact PySem.W.kia_tup (kitx_exc c) I.kIn J h1 e (fun z => nomatch z) fun tk => ⟨.bl b, H, I.tok tk, rfl, q⟩
end
section
variable {X : Cx}
/-- repr of any data, also while an error is handled -/
theorem call_reprH (hg : X.A.guards = some []) (hu : X.A.units + 64 < cLine) (hs : SysOk X.K) : CallR X (.builtin "repr") (rReprQ X.K) := by
  intro pins s σ H xs us Q I r h
  obtain ⟨v, d, rfl, hd, hsh, hdep, hz, q⟩ := h
  obtain ⟨u, rfl, ru⟩ := vals1 r
  obtain ⟨as, rd, na⟩ := Dq.reads hs I hd u ru
  have viaRef : ∀ {a : Addr}, u = Value.ref a → wpAny (model X.prog X.w) X.A (call (.builtin "repr") [u]) (EP X pins σ Q) X.xe s := fun {a} e => by
    subst e
    exact repr_of_reads' rd hsh (fun _ => na) hg (by omega) (fun _ _ e => e) (fun h' u tk hk => ⟨.str _, H, I.kept hk, ⟨u, rfl⟩, q⟩) hz
  cases hd with
  | non =>
    cases ru
    exact PySem.P.repr_of_none ⟨.str _, H, I.tok _, ⟨_, rfl⟩, by simpa only [PyData.shown] using q⟩
  | bl b =>
    cases ru
    exact PySem.P.repr_of_bool ⟨.str _, H, I.tok _, ⟨_, rfl⟩, by simpa only [PyData.shown] using q⟩
  | int i =>
    obtain ⟨t, rfl⟩ := ru
    exact PySem.P.repr_of_int (by simpa [PyData.showable] using hsh) ⟨.str _, H, I.tok _, ⟨_, rfl⟩, by simpa only [PyData.shown] using q⟩
  | str x =>
    obtain ⟨t, rfl⟩ := ru
    exact PySem.P.repr_of_str ⟨.str _, H, I.tok _, ⟨_, rfl⟩, by simpa only [PyData.shown] using q⟩ (by simpa only [PyData.shown] using hz)
  | lst hq ha => exact viaRef ru
  | tup hq ha => exact viaRef ru
  | dct hq h1 h2 => exact viaRef ru
end
end Ex

set_option Elab.async false
set_option linter.all false
set_option maxRecDepth 100000
set_option maxHeartbeats 4000000
/-! Own layer: len(o) by an own __len__; what repr shows, within bounds; both law-free. -/
namespace Ex
open PySem PySem.Spec PySem.Calls PyProof.Rows L2 Gu
section
variable {X : Cx} {k j : Nat} {c : Str} {ps : List Str} {sp : Sp}
/-- len(o) by the class's own __len__ -/
def rLenO (C : Addr) (sp : Sp) : List V → Hp → VK → Prop := fun xs H Q => ∃ (a dx : Addr) (fs : List (Str × V)), xs = [.ref a] ∧ H a = some (.ins C dx fs) ∧ sp [.ref a] H (fun v H' => ∃ n : Nat, v = .int n ∧ n ≤ sizeLine ∧ Q (.int n) H') E0
theorem call_lenO (D : Mf X.prog X.w X.K X.mg X.base k c "__len__" ps sp) (hr : Room j X.A) (hj : k + 1 ≤ j := by decide) : CallR X (.builtin "len") (rLenO (He.ga X.K c) sp) := by
  intro pins s σ H xs us Q I r h
  obtain ⟨a, dx, fs, rfl, ha, hq⟩ := h
  obtain ⟨u, rfl, ru⟩ := vals1 r
  obtain rfl : u = Value.ref a := ru
  obtain ⟨fd, F, b⟩ := D.ex
  obtain ⟨mA, J, _⟩ := ins_get I.hok ha
  obtain ⟨od, J, _⟩ := J.look
  have rm : Room k X.A.in1 := (hr.mono hj).in1
  refine Calls.call_function_entry kind_len plain_len entry_len (args_len1 _) ?_
  unfold Builtin.«len»
  refine wpAny_bind (m := oneArg "len" _) (wpAny_pure ?_)
  refine wpAny_bind (m := callSpecial? (.ref a) (Str.ofString "__len__")) (PySem.W.special_fn (name := Str.ofString "__len__") (args := []) I.kIn J D.me.at_ (beq_iff_eq.mp D.me.fn) ?_)
  have e0 : Env0 X.prog X.w X.K X.mg X.base X.A.in1 X.stack s H := by
    have e := I.env0
    exact ⟨e.frames, e.mod, e.bs, e.bsz, e.funs, e.frf, e.hok, e.bare⟩
  have hl := F.len _ _ _ _ hq
  refine wpAny_call (codeAny_mono (F.run X.A.in1 X.stack s H ⟨[.ref a], []⟩ [.ref a] [.ref a] _ E0 rm e0 (by
    have := b s [.ref a] I.kIn (by simpa using hl)
    simpa using this) (.cons rfl .nil) hq) fun r s' hq' => ?_)
  match r, hq' with
  | .ok (.ret u), hq' =>
    obtain ⟨v, H', I', rv, n, rfl, hn, q⟩ := I.after hq'
    obtain ⟨t, rfl⟩ := rv
    have hs : sizeLine = 16777216 := sizeLine_eq
    refine wpAny_bind (wpAny_holding (wpAny_pure ?_))
    refine wpAny_bind (wpAny_letGo ?_)
    show wpAny _ _ (if ((n : Nat) : Int) < 0 then _ else _) _ _ _
    rw [if_neg (by omega)]
    show wpAny _ _ (if ((n : Nat) : Int) ≥ 2 ^ 63 then _ else _) _ _ _
    rw [if_neg (by omega)]
    exact wpAny_bind (wpAny_mkInt (wpAny_pure ⟨_, rfl, ⟨.int n, H', I'.tok _, ⟨_, rfl⟩, q⟩⟩))
end
theorem seqT {K : PySem.W.Frag} {H H' : Hp} {a : Addr} {xs : List V} (e : Same H H') (h : SqT K H a xs) : SqT K H' a xs := by
  rcases h with (h | ⟨o, h⟩) | h
  · exact .inl (.inl (e _ _ h))
  · exact .inl (.inr ⟨o, e _ _ h⟩)
  · exact .inr h
mutual
theorem dq_same {K : PySem.W.Frag} {H H' : Hp} (e : Same H H') : ∀ {v : V} {d : PyData}, Dq K H v d → Dq K H' v d
  | _, _, .non => .non
  | _, _, .bl b => .bl b
  | _, _, .int i => .int i
  | _, _, .str x => .str x
  | _, _, .lst hq ha => .lst (e.seq hq) (dqAll_same e ha)
  | _, _, .tup hq ha => .tup (seqT e hq) (dqAll_same e ha)
  | _, _, .dct hq h1 h2 => .dct (e _ _ hq) (dqAll_same e h1) (dqAll_same e h2)
theorem dqAll_same {K : PySem.W.Frag} {H H' : Hp} (e : Same H H') : ∀ {vs : List V} {ds : List PyData}, DqAll K H vs ds → DqAll K H' vs ds
  | _, _, .nil => .nil
  | _, _, .cons h1 h2 => .cons (dq_same e h1) (dqAll_same e h2)
end
/-- a value as repr shows it: nested at most n deep, at most m signs -/
structure Tq (K : PySem.W.Frag) (H : Hp) (v : V) (d : PyData) (n m : Nat) : Prop where
  dq : Dq K H v d
  sh : d.showable = true
  dp : d.depth ≤ n
  ln : d.shown.length ≤ m
structure TqAll (K : PySem.W.Frag) (H : Hp) (xs : List V) (ds : List PyData) (n m : Nat) : Prop where
  dq : DqAll K H xs ds
  sh : PyData.showableAll ds = true
  dp : PyData.depthAll ds ≤ n
  ln : ((PyData.shownAll ds).map (·.length)).sum + 2 * (PyData.shownAll ds).length ≤ xs.length * (m + 2)
section
variable {K : PySem.W.Frag} {H H' : Hp} {n m : Nat}
theorem Tq.same {v : V} {d : PyData} (t : Tq K H v d n m) (e : Same H H') : Tq K H' v d n m := ⟨dq_same e t.dq, t.sh, t.dp, t.ln⟩
theorem Tq.mono {v : V} {d : PyData} {n' m' : Nat} (t : Tq K H v d n m) (h1 : n ≤ n') (h2 : m ≤ m') : Tq K H v d n' m' := ⟨t.dq, t.sh, Nat.le_trans t.dp h1, Nat.le_trans t.ln h2⟩
theorem TqAll.same {xs : List V} {ds : List PyData} (t : TqAll K H xs ds n m) (e : Same H H') : TqAll K H' xs ds n m := ⟨dqAll_same e t.dq, t.sh, t.dp, t.ln⟩
theorem tq_all : ∀ {xs : List V}, (∀ v ∈ xs, ∃ d, Tq K H v d n m) → ∃ ds, TqAll K H xs ds n m
  | [], _ => ⟨[], .nil, rfl, Nat.zero_le _, Nat.zero_le _⟩
  | v :: xs, h => by
    obtain ⟨d, t⟩ := h v List.mem_cons_self
    obtain ⟨ds, a, b, c, e⟩ := tq_all (xs := xs) fun u hu => h u (List.mem_cons_of_mem _ hu)
    refine ⟨d :: ds, .cons t.dq a, ?_, ?_, ?_⟩
    · show (d.showable && PyData.showableAll ds) = true
      rw [t.sh, b]
      rfl
    · show max d.depth (PyData.depthAll ds) ≤ n
      have := t.dp
      omega
    · show (d.shown.length + ((PyData.shownAll ds).map (·.length)).sum) + 2 * ((PyData.shownAll ds).length + 1) ≤ (xs.length + 1) * (m + 2)
      have := t.ln
      rw [Nat.add_mul, Nat.one_mul]
      omega
theorem TqAll.lst {a : Addr} {xs : List V} {ds : List PyData} (t : TqAll K H xs ds n m) (h : H a = some (.lst xs)) : Tq K H (.ref a) (.list ds) (n + 1) (xs.length * (m + 2) + 3) := by
  refine ⟨.lst (SqL.of h) t.dq, t.sh, ?_, ?_⟩
  · show PyData.depthAll ds + 1 ≤ n + 1
    have := t.dp
    omega
  · have e := listText_len_le (PyData.shownAll ds)
    show (listText (PyData.shownAll ds)).length ≤ _
    have := t.ln
    omega
theorem TqAll.tup {a : Addr} {xs : List V} {ds : List PyData} (t : TqAll K H xs ds n m) (h : H a = some (.tup xs)) : Tq K H (.ref a) (.tuple ds) (n + 1) (xs.length * (m + 2) + 3) := by
  refine ⟨.tup (SqT.of h) t.dq, t.sh, ?_, ?_⟩
  · show PyData.depthAll ds + 1 ≤ n + 1
    have := t.dp
    omega
  · have e := tupleText_len_le (PyData.shownAll ds)
    show (tupleText (PyData.shownAll ds)).length ≤ _
    have := t.ln
    omega
theorem tq_non : Tq K H .non .none 0 41 := ⟨.non, rfl, Nat.le_refl _, by decide +kernel⟩
theorem tq_bl (b : Bool) : Tq K H (.bl b) (.bool b) 0 41 := ⟨.bl b, rfl, Nat.le_refl _, by cases b <;> decide +kernel⟩
theorem tq_int {i : Int} (h1 : -(10 ^ 39) ≤ i) (h2 : i ≤ 10 ^ 39) : Tq K H (.int i) (.int i) 0 41 := by
  have b39 : (10 : Int) ^ 39 = 1000000000000000000000000000000000000000 := by decide
  have e : i.natAbs < 10 ^ 40 := by
    have z : (10 : Nat) ^ 40 = 10000000000000000000000000000000000000000 := by decide
    omega
  have a : i.natAbs.log2 < 1920 := Nat.lt_of_lt_of_le (PySem.Flt.log2_lt_of (k := 200) (by decide) (Nat.lt_trans e (by decide))) (by decide)
  refine ⟨.int i, decide_eq_true a, Nat.le_refl _, ?_⟩
  have z := int_text_length_le10 (k := 40) (by decide) e
  show (Str.ofString (toString i)).length ≤ 41
  rw [PySem.ofString_length]
  exact z
theorem tq_text (z : String) (h : (reprText (Str.ofString z)).length ≤ 41) : Tq K H (.str (Str.ofString z)) (.str (Str.ofString z)) 0 41 := ⟨.str _, rfl, Nat.le_refl _, h⟩
theorem tq_dct {a : Addr} (h : H a = some (.dK [])) : Tq K H (.ref a) (.dict []) 1 41 := ⟨.dct h .nil .nil, rfl, by decide, by decide +kernel⟩
end
theorem code_lt {z : String} {c : Nat} (hc : c ∈ (Str.ofString z).cps.toList) : c < 1114112 := by
  have hc2 : c ∈ z.toList.map Char.toNat := by
    rw [← cpsOfBytes_string]
    simpa [Str.ofString] using hc
  obtain ⟨ch, _, rfl⟩ := List.mem_map.mp hc2
  have v : ch.val.toNat < 55296 ∨ (57343 < ch.val.toNat ∧ ch.val.toNat < 1114112) := ch.valid
  show ch.val.toNat < 1114112
  omega
/-- repr of such a value -/
theorem repr_tq {K : PySem.W.Frag} {H : Hp} {v : V} {d : PyData} {n m : Nat} {Q : VK} (t : Tq K H v d n m) (q : Q (.str d.shown) H) (hn : n ≤ 60 := by decide) (hm : m ≤ sizeLine := by decide) : rReprQ K [v] H Q :=
  ⟨v, d, rfl, t.dq, t.sh, Nat.le_trans t.dp hn, Nat.le_trans t.ln hm, q⟩
end Ex

set_option Elab.async false
set_option linter.all false
set_option maxRecDepth 100000
set_option maxHeartbeats 4000000
namespace K12
open PySem PySem.Spec PyProof.Rows L2 Gu Ex
def top (i : Nat) : Stmt := PySem.Challenge.pw_exactroom_k12_first_invalid_size.main.body.getD i (.Pass ⟨0, 0, 0, 0⟩)
abbrev FnP (K : PySem.W.Frag) (x qual : Str) (st : Stmt) (f : Addr) (fd : FuncData) : Prop := FunD K x qual (defArgs st) (defBody st) (defScope st) [] [] f fd
abbrev cS (K : PySem.W.Frag) : Addr := He.ga K "Sizes"
abbrev cE (K : PySem.W.Frag) : Addr := He.ga K "InvalidSizes"
/-- what the top has left -/
structure Tx (K : PySem.W.Frag) (mg : Str → Option Value) : Prop where
  n_len : mg "len" = none
  n_isinstance : mg "isinstance" = none
  n_int : mg "int" = none
  n_bool : mg "bool" = none
  n_list : mg "list" = none
  n_tuple : mg "tuple" = none
  n_range : mg "range" = none
  n_divmod : mg "divmod" = none
  n_abs : mg "abs" = none
  n_max : mg "max" = none
  n_min : mg "min" = none
  n_all : mg "all" = none
  n_repr : mg "repr" = none
  n_enumerate : mg "enumerate" = none
  g_Sizes : mg "Sizes" = some (.ref (cS K))
  cl : Cls K (cS K)
  nSL : NoAttr K (cS K) "size_list"
  rd : ClX.CRead K (cS K) (.type "type")
  cS : ∃ u, ClX.CVal K (cS K) (.type "type") "MAX_SIZE" (.int 1000000000) u
  cN : ∃ u, ClX.CVal K (K12.cS K) (.type "type") "MAX_SIZES" (.int 8) u
  sys : SysOk K
  g_InvalidSizes : mg "InvalidSizes" = some (.ref (cE K))
  ox : OexC K (cE K)
  xf : XfC K (cE K)
  ec : ExcC K (cE K)
  noP : PySem.W.findIn K (.ref (cE K)) "problem" = some none
  noQ : PySem.W.findIn K (.ref (cE K)) "position" = some none
  iN : PySem.W.findIn K (.ref (cE K)) "__init__" = some (some (.ref (He.ma K (cE K) "__init__")))
  tI : PySem.W.typeIn K (.ref (He.ma K (cE K) "__init__")) = some (.type "function")
  em : PySem.W.exmOne K (.ref (cE K)) (.ref (cE K)) = some true
  g_RoomError : mg "RoomError" = some (.ref (He.ga K "RoomError"))
  g_InvalidCount : mg "InvalidCount" = some (.ref (He.ga K "InvalidCount"))
  g_InvalidLevel : mg "InvalidLevel" = some (.ref (He.ga K "InvalidLevel"))
  g_InvalidNumber : mg "InvalidNumber" = some (.ref (He.ga K "InvalidNumber"))
  g_InvalidNumbers : mg "InvalidNumbers" = some (.ref (He.ga K "InvalidNumbers"))
  kR : PySem.W.kitOne K (.ref (cE K)) (.ref (He.ga K "RoomError")) = some true
  kO : PySem.W.kitAny K (.ref (cE K)) [.ref (He.ga K "InvalidCount"), .ref (He.ga K "InvalidLevel"), .ref (He.ga K "InvalidNumber"), .ref (He.ga K "InvalidNumbers")] = some false
theorem bT {c : Prop} [Decidable c] (h : c) : V.bl (decide c) = V.bl true := congrArg V.bl (decide_eq_true h)
theorem bF {c : Prop} [Decidable c] (h : ¬ c) : V.bl (decide c) = V.bl false := congrArg V.bl (decide_eq_false h)
theorem ifT {c : Bool} {A B : Prop} (h : c = true) (x : A) : if c = true then A else B := by rw [h]; exact iteT x
theorem ifF {c : Bool} {A B : Prop} (h : c = false) (x : B) : if c = true then A else B := by rw [h]; exact iteF x
theorem vT {a b : Int} (h : a = b) : decide (V.int a = V.int b) = true := decide_eq_true (by rw [h])
theorem vF {a b : Int} (h : a ≠ b) : decide (V.int a = V.int b) = false := decide_eq_false fun z => h (V.int.inj z)
theorem same_upd {H : Hp} {p : Addr} {o : HO} (h : H p = none) : Same H (upd H p o) := fun b x e => by
  rw [upd_ne (ne_of_none e h)]
  exact e
/-- values of any kind -/
inductive Any (H : Hp) : V → Prop
  | non : Any H .non
  | bl (b : Bool) : Any H (.bl b)
  | int (i : Int) : Any H (.int i)
  | str (x : Str) : (x.length ≤ 1000 ∧ ∀ c ∈ x.cps.toList, c < 1114112) → Any H (.str x)
  | lst {a : Addr} {xs : List V} : H a = some (.lst xs) → Any H (.ref a)
  | tup {a : Addr} {xs : List V} : H a = some (.tup xs) → Any H (.ref a)
  | dct {a : Addr} {kvs : List (Key × V)} : H a = some (.dK kvs) → Any H (.ref a)
def isI : V → Bool
  | .int _ => true
  | _ => false
def isB : V → Bool
  | .bl _ => true
  | _ => false
def isS : V → Bool
  | .str _ => true
  | _ => false
theorem Any.ty {K : PySem.W.Frag} {H : Hp} {v : V} (h : Any H v) : ∃ T, TyX K H v (.type T) ∧ kitB T "int" = some (isI v || isB v) ∧ kitB T "bool" = some (isB v) ∧ kitB T "str" = some (isS v) := by
  cases h with
  | non => exact ⟨"NoneType", .base .non, (show kitB "NoneType" "int" = some false by decide +kernel), (show kitB "NoneType" "bool" = some false by decide +kernel), (show kitB "NoneType" "str" = some false by decide +kernel)⟩
  | bl b => exact ⟨"bool", .base (.bl b), (show kitB "bool" "int" = some true by decide +kernel), (show kitB "bool" "bool" = some true by decide +kernel), (show kitB "bool" "str" = some false by decide +kernel)⟩
  | int i => exact ⟨"int", .base (.int i), (show kitB "int" "int" = some true by decide +kernel), (show kitB "int" "bool" = some false by decide +kernel), (show kitB "int" "str" = some false by decide +kernel)⟩
  | str x _ => exact ⟨"str", .base (.str x), (show kitB "str" "int" = some false by decide +kernel), (show kitB "str" "bool" = some false by decide +kernel), (show kitB "str" "str" = some true by decide +kernel)⟩
  | lst e => exact ⟨"list", .base (.lst e), (show kitB "list" "int" = some false by decide +kernel), (show kitB "list" "bool" = some false by decide +kernel), (show kitB "list" "str" = some false by decide +kernel)⟩
  | tup e => exact ⟨"tuple", .base (.tup e), (show kitB "tuple" "int" = some false by decide +kernel), (show kitB "tuple" "bool" = some false by decide +kernel), (show kitB "tuple" "str" = some false by decide +kernel)⟩
  | dct e => exact ⟨"dict", .base (.dK e), (show kitB "dict" "int" = some false by decide +kernel), (show kitB "dict" "bool" = some false by decide +kernel), (show kitB "dict" "str" = some false by decide +kernel)⟩
theorem Any.same {H H' : Hp} {v : V} (h : Any H v) (s : Same H H') : Any H' v := by
  cases h with
  | non => exact .non
  | bl b => exact .bl b
  | int i => exact .int i
  | str x l => exact .str x l
  | lst e => exact .lst (s _ _ e)
  | tup e => exact .tup (s _ _ e)
  | dct e => exact .dct (s _ _ e)
/-- a def that may raise -/
structure DfX (P : Program) (w : World) (K : PySem.W.Frag) (mg : Str → Option Value) (base : Heap) (k : Nat) (x : Str) (ps : List Str) (sp : Sp) : Prop where
  ex : ∃ fd, FnOk P w K mg base (L2.CX P w) k (He.ga K x) fd ps sp ∧ Binds K fd ps []
  gl : mg x = some (.ref (He.ga K x))
  kp : PySem.W.keepIn K (.ref (He.ga K x)) = true
section
variable {X : Cx} {k j : Nat} {x : Str} {ps : List Str} {sp : Sp} {p pos : Pos} {e : Expr} {es : List Expr} {t : TA} {E : XK} {W : WX}
/-- f(e, ..) in a def that lets its errors out -/
theorem pcallX (D : DfX X.prog X.w X.K X.mg X.base k x ps sp) (hr : Room j X.A) (tk : Takes X (fun cls d _ H => E cls d H)) (ha : PA X (e :: es) t) (hj : k ≤ j := by decide) (hg : Gl X x := by rfl) (hdb : (x == ("__debug__" : Str)) = false := by decide)
    (he : starEach (e :: es) X.env = (false, eval e X.env) :: starEach es X.env := by rfl) (hpl : (backTo pos (starEach es X.env)).any (·.1) = false := by rfl) :
    PE X (.Call (.Name x p) (e :: es) [] pos) (tCall sp [] E t) := by
  obtain ⟨fd, F, b⟩ := D.ex
  exact pe_call F (hr.mono hj) hg D.gl D.kp b .nil (passes_call tk fun _ _ _ _ h => h) ha hdb he hpl
/-- f(e, ..) in a try's body -/
theorem pcallT (D : DfX X.prog X.w X.K X.mg X.base k x ps sp) (hr : Room j X.A) (tk : Takes X W) (ha : PA X (e :: es) t) (hj : k ≤ j := by decide) (hg : Gl X x := by rfl) (hdb : (x == ("__debug__" : Str)) = false := by decide)
    (he : starEach (e :: es) X.env = (false, eval e X.env) :: starEach es X.env := by rfl) (hpl : (backTo pos (starEach es X.env)).any (·.1) = false := by rfl) :
    PE X (.Call (.Name x p) (e :: es) [] pos) (tCallS sp (WE W) t) := by
  obtain ⟨fd, F, b⟩ := D.ex
  exact pe_callS F (hr.mono hj) hg D.gl D.kp b (fun σ => passAt tk σ) ha hdb he hpl
end
section
variable {P : Program} {w : World} {K : PySem.W.Frag} {mg : Str → Option Value} {base : Heap} {f : Addr} {fd : FuncData}
def spInt : Sp := fun vs H Q _ => ∃ v : V, vs = [v] ∧ Any H v ∧ Q (.bl (isI v)) H
theorem sc_is_integer : FnScope ["value"] ["value"] (defScope (top 9)) := ⟨rfl, rfl, rfl, by decide +kernel, rfl, by decide +kernel, by decide +kernel⟩
theorem ok_is_integer (T : Tx K mg) (F : FnP K "is_integer" "is_integer" (top 9) f fd) : FnOk P w K mg base CX0 1 f fd ["value"] spInt := by
  refine F.ok sc_is_integer (fun vs H Q E h => ?_) (fun cdv A outer s H vs Q E hr h => ⟨_, PSs.nox (pss_one (ps_ret (pe_and (pe_callB call_isi (by rfl) T.n_isinstance (by decide +kernel) (pa_cons (pv 0) (pa_cons (pe_bltn (v := .ty "int") (by rfl) T.n_int (by decide +kernel) rfl) pa_nil))) (pe_one (pe_not (pe_callB call_isi (by rfl) T.n_isinstance (by decide +kernel) (pa_cons (pv 0) (pa_cons (pe_bltn (v := .ty "bool") (by rfl) T.n_bool (by decide +kernel) rfl) pa_nil)))))))), ?_⟩)
  · obtain ⟨v, rfl, _⟩ := h
    rfl
  · obtain ⟨v, rfl, hv, q⟩ := h
    obtain ⟨Ty, ty, k1, k2, _⟩ := hv.ty (K := K)
    refine ⟨_, rfl, _, _, _, _, _, rfl, .ty "int", ty, kit_ty k1, _, rfl, ?_⟩
    cases e : (isI v || isB v) with
    | true =>
      refine iteT ⟨_, rfl, _, _, _, _, _, rfl, .ty "bool", ty, kit_ty k2, _, rfl, ?_⟩
      have e2 : (!isB v) = isI v := by cases v <;> first | rfl | cases e
      rw [e2]
      exact q
    | false =>
      have e2 : isI v = false := by cases v <;> first | rfl | cases e
      rw [e2] at q
      exact iteF q
/-- the error's __init__, with its two fields -/
def spErr (C : Addr) : Sp := fun vs H Q _ => ∃ (a : Addr) (u v : V), vs = [.ref a, u, v] ∧ H a = some (exo a C none) ∧
  ∀ dx, H dx = none → dx ≠ a → Q .non (upd (upd (upd H dx (exd dx [("problem", u)])) a (exo a C (some dx))) dx (exd dx [("position", v), ("problem", u)]))
theorem sc___init__ : FnScope ["self", "problem", "position"] ["self", "problem", "position"] (defScope (inClass (top 3) 0)) := ⟨rfl, rfl, rfl, by decide +kernel, rfl, by decide +kernel, by decide +kernel⟩
theorem ok_err (T : Tx K mg) (F : FnP K "__init__" "InvalidSizes.__init__" (inClass (top 3) 0) f fd) : FnOk P w K mg base CX0 1 f fd ["self", "problem", "position"] (spErr (cE K)) := by
  refine F.ok sc___init__ (fun vs H Q E h => ?_) (fun cdv A outer s H vs Q E hr h => ⟨_, PSs.nox (pss_cons (ps_ost (pv 0) (pv 1)) (pss_one (ps_ost (pv 0) (pv 2)))), ?_⟩)
  · obtain ⟨a, u, v, rfl, _⟩ := h
    rfl
  · obtain ⟨a, u, v, rfl, ha, q⟩ := h
    refine ⟨_, rfl, _, rfl, a, cE K, rfl, T.ox, T.noP, .inl ⟨ha, fun dx hdx ne => ?_⟩⟩
    exact ⟨_, rfl, _, rfl, a, cE K, rfl, T.ox, T.noQ, .inr ⟨dx, _, upd_same, (by rw [upd_ne ne, upd_same]), (by show 1 ≤ 900; decide), q dx hdx ne⟩⟩
structure Ei (P : Program) (w : World) (K : PySem.W.Frag) (mg : Str → Option Value) (base : Heap) : Prop where
  ex : ∃ fd, FnOk P w K mg base CX0 1 (He.ma K (cE K) "__init__") fd ["self", "problem", "position"] (spErr (cE K)) ∧ Binds K fd ["self", "problem", "position"] []
/-- what is wrong with the size at a place, if those ahead of it are right -/
def probB (z : Int) : Option V → Option Str
  | some (.int b) => if z ≤ b ∨ z % b ≠ 0 then some ("multiple" : Str) else none
  | _ => none
def probV (p : Nat) (prev : Option V) : V → Option Str
  | .int z => if 1 ≤ z ∧ z ≤ 1000000000 then (if p = 0 then (if z = 1 then none else some ("first" : Str)) else probB z prev) else some ("number" : Str)
  | _ => some ("number" : Str)
def prob (xs : List V) (p : Nat) : Option Str := match xs[p]? with
  | some v => probV p xs[p - 1]? v
  | none => none
def ofO : Option Str → V
  | none => .non
  | some x => .str x
def spProblem (K : PySem.W.Frag) : Sp := fun vs H Q _ => ∃ (a : Addr) (xs : List V) (p : Nat), vs = [.ref a, .int p] ∧ SqL K H a xs ∧ p < xs.length ∧ (∀ v ∈ xs, Any H v) ∧ (0 < p → ∃ b : Int, xs[p - 1]? = some (.int b) ∧ 1 ≤ b) ∧ Q (ofO (prob xs p)) H
theorem sc_size_problem : FnScope ["values", "position", "size", "before"] ["values", "position"] (defScope (top 10)) := ⟨rfl, rfl, rfl, by decide +kernel, rfl, by decide +kernel, by decide +kernel⟩
theorem ok_size_problem (T : Tx K mg) (D_is_integer : Df P w K mg base 1 "is_integer" ["value"] spInt) (F : FnP K "size_problem" "size_problem" (top 10) f fd) :
    FnOk P w K mg base CX0 2 f fd ["values", "position"] (spProblem K) := by
  refine F.ok sc_size_problem (fun vs H Q E h => ?_) (fun cdv A outer s H vs Q E hr h => ⟨_, PSs.nox (pss_cons (ps_set (i := 2) sc_size_problem.nd rfl (by first | exact Or.inl rfl | exact Or.inr rfl) (pe_ix ix_list (pv 0) (pv 1) (fun _ _ => rfl))) (pss_cons (ps_if (PW.pt (pw_or (pt_not (pt_val (pcall D_is_integer hr (pa_cons (pv 2) pa_nil)))) (pw_or1 (pt_not (pt_chain op_le op_le pe_int (pv 2) (ClX.pe_cval (pe_glob (v := .ref _) rfl T.g_Sizes rfl))))))) (pss_one (ps_ret pe_str)) pss_nil) (pss_cons (ps_if (pt_cmpR op_eq (pv 1) pe_int (nomark _)) (pss_one (ps_ret (pe_ifExp (pt_cmpR op_eq (pv 2) pe_int (nomark _)) pe_non pe_str))) pss_nil) (pss_cons (ps_set (i := 3) sc_size_problem.nd rfl (by first | exact Or.inl rfl | exact Or.inr rfl) (pe_ix ix_list (pv 0) (pe_op op_sub (pv 1) pe_int) (fun _ _ => rfl))) (pss_cons (ps_if (PW.pt (pw_or (pt_cmpR op_le (pv 2) (pv 3) (nomark _)) (pw_or1 (pt_cmpR op_ne (pe_op op_mod (pv 2) (pv 3)) pe_int (nomark _))))) (pss_one (ps_ret pe_str)) pss_nil) (pss_one (ps_ret pe_non))))))), ?_⟩)
  · obtain ⟨a, xs, p, rfl, _⟩ := h
    rfl
  · obtain ⟨a, xs, p, rfl, hS, hp, ha, hb, q⟩ := h
    have hx : xs[p]? = some xs[p] := List.getElem?_eq_getElem hp
    have hy := ha _ (List.getElem_mem hp)
    obtain ⟨u, cS⟩ := T.cS
    refine ⟨_, rfl, _, rfl, a, _, _, _, rfl, rfl, hS, atI_nat hx, ?_⟩
    refine ⟨_, rfl, _, rfl, hy, _, rfl, ?_⟩
    have pr : prob xs p = probV p xs[p - 1]? xs[p] := by
      unfold prob
      rw [hx]
    rw [pr] at q
    generalize xs[p] = v at hx hy q
    cases v with
    | int z =>
      refine iteF ⟨_, rfl, _, _, rfl, rfl, _, rfl, ?_⟩
      by_cases h1 : (1 : Int) ≤ z
      · refine ifT (decide_eq_true h1) ⟨_, _, _, _, rfl, T.rd, cS, _, _, rfl, rfl, _, rfl, ?_⟩
        by_cases h2 : z ≤ 1000000000
        · refine ifF (by rw [decide_eq_true h2]; rfl) ?_
          have q1 : Q (ofO (if p = 0 then (if z = 1 then none else some ("first" : Str)) else probB z xs[p - 1]?)) H := by
            have e : probV p xs[p - 1]? (.int z) = (if p = 0 then (if z = 1 then none else some ("first" : Str)) else probB z xs[p - 1]?) := if_pos ⟨h1, h2⟩
            rw [e] at q
            exact q
          by_cases h0 : p = 0
          · subst h0
            rw [if_pos rfl] at q1
            refine ⟨_, rfl, rfl, _, rfl, ifT (vT rfl) ⟨_, rfl, rfl, _, rfl, ?_⟩⟩
            by_cases hz : z = 1
            · rw [if_pos hz] at q1
              exact ifT (vT hz) q1
            · rw [if_neg hz] at q1
              exact ifF (vF hz) q1
          · rw [if_neg h0] at q1
            obtain ⟨b, hb1, hb2⟩ := hb (by omega)
            rw [hb1] at q1
            have q2 : Q (ofO (if z ≤ b ∨ z % b ≠ 0 then some ("multiple" : Str) else none)) H := q1
            refine ⟨_, rfl, rfl, _, rfl, ifF (vF (by omega)) ?_⟩
            refine ⟨_, rfl, _, rfl, _, _, rfl, rfl, a, _, _, _, rfl, rfl, hS, (by rw [show ((p : Int) - 1) = ((p - 1 : Nat) : Int) by omega]; exact atI_nat hb1), ?_⟩
            refine ⟨_, rfl, _, rfl, _, _, rfl, rfl, _, rfl, ?_⟩
            by_cases h3 : z ≤ b
            · rw [if_pos (Or.inl h3)] at q2
              exact ifT (decide_eq_true h3) (iteT q2)
            · refine ifF (decide_eq_false h3) ⟨_, rfl, _, rfl, _, _, rfl, rfl, (by show (0 : Int) < b; omega), rfl, _, rfl, ?_⟩
              by_cases h4 : z % b = 0
              · rw [if_neg fun zz => zz.elim h3 fun y => y h4] at q2
                exact ifF (by rw [vT h4]; rfl) q2
              · rw [if_pos (Or.inr h4)] at q2
                exact ifT (by rw [vF h4]; rfl) q2
        · have q1 : Q (.str "number") H := by
            have e : probV p xs[p - 1]? (.int z) = some ("number" : Str) := if_neg fun zz => h2 zz.2
            rw [e] at q
            exact q
          exact ifT (by rw [decide_eq_false h2]; rfl) q1
      · have q1 : Q (.str "number") H := by
          have e : probV p xs[p - 1]? (.int z) = some ("number" : Str) := if_neg fun zz => h1 zz.1
          rw [e] at q
          exact q
        exact ifF (decide_eq_false h1) ⟨_, rfl, iteT q1⟩
    | _ => exact iteT (iteT q)
end
end K12

set_option Elab.async false
set_option linter.all false
set_option maxRecDepth 100000
set_option maxHeartbeats 4000000
namespace K12
open PySem PySem.Spec PyProof.Rows L2 Gu Ex
/-- the first problem of a list of sizes from the place p on, n places left -/
def firstFrom (xs : List V) (p : Nat) : Nat → Option (Str × Nat)
  | 0 => none
  | n + 1 => match prob xs p with
    | some s => some (s, p)
    | none => firstFrom xs (p + 1) n
/-- what is wrong with a list that shall be one of sizes -/
def wrong (xs : List V) : Option (Str × Nat) := match firstFrom xs 0 xs.length with
  | some e => some e
  | none => if 1 ≤ xs.length ∧ xs.length ≤ 8 then none else some ("count", 0)
theorem first_skip {xs : List V} {p n : Nat} (h : prob xs p = none) : firstFrom xs p (n + 1) = firstFrom xs (p + 1) n := by
  show (match prob xs p with | some s => some (s, p) | none => firstFrom xs (p + 1) n) = _
  rw [h]
theorem first_hit {xs : List V} {p n : Nat} {s : Str} (h : prob xs p = some s) : firstFrom xs p (n + 1) = some (s, p) := by
  show (match prob xs p with | some s => some (s, p) | none => firstFrom xs (p + 1) n) = _
  rw [h]
/-- a right place holds a whole number of at least 1 -/
theorem prob_int {xs : List V} {p : Nat} (hp : p < xs.length) (h : prob xs p = none) : ∃ z : Int, xs[p]? = some (.int z) ∧ 1 ≤ z ∧ z ≤ 1000000000 := by
  unfold prob at h
  rw [List.getElem?_eq_getElem hp] at h
  have h2 : probV p xs[p - 1]? xs[p] = none := h
  rw [List.getElem?_eq_getElem hp]
  generalize xs[p] = v at h2
  cases v with
  | int z =>
    by_cases hz : 1 ≤ z ∧ z ≤ 1000000000
    · exact ⟨z, rfl, hz⟩
    · have e : probV p xs[p - 1]? (.int z) = some ("number" : Str) := if_neg hz
      rw [e] at h2
      cases h2
  | _ => cases h2
section
variable {P : Program} {w : World} {K : PySem.W.Frag} {mg : Str → Option Value} {base : Heap} {f : Addr} {fd : FuncData}
/-- an error with these two fields -/
def ErrAt (K : PySem.W.Frag) (H : Hp) (E : XK) (s : Str) (p : Nat) : Prop := ∀ d H', H d = none → Same H H' → H' d = some (.xd [("position", .int p), ("problem", .str s)]) → E (.ref (cE K)) (some d) H'
/-- a value that shall be a list of sizes: no list, or a list with these items -/
inductive Cand (K : PySem.W.Frag) (H : Hp) : V → Option (List V) → Prop
  | other {v : V} : Any H v → (∀ a xs, v = .ref a → H a ≠ some (.lst xs)) → Cand K H v none
  | list {a : Addr} {xs : List V} : H a = some (.lst xs) → xs.length ≤ 1000 → (∀ v ∈ xs, Any H v) → Cand K H (.ref a) (some xs)
def judge : Option (List V) → Option (Str × Nat)
  | none => some ("list", 0)
  | some xs => wrong xs
def spCheck (K : PySem.W.Frag) : Sp := fun vs H Q E => ∃ (v : V) (o : Option (List V)), vs = [v] ∧ Cand K H v o ∧ (judge o = none → Q .non H) ∧ (∀ s p, judge o = some (s, p) → ErrAt K H E s p)
theorem heap_err {H : Hp} {a dx : Addr} {fs : List (Str × V)} {o1 o2 o3 o4 : HO} (ha : H a = none) (hd : H dx = none) : Same H (upd (del (upd (upd (upd (upd H a o1) dx o2) a o3) dx o4) a) dx (.xd fs)) := fun b o e => by
  have nb : b ≠ a := ne_of_none e ha
  have nd : b ≠ dx := ne_of_none e hd
  rw [upd_ne nd, del_ne nb, upd_ne nd, upd_ne nb, upd_ne nd, upd_ne nb]
  exact e
theorem sc_check_sizes : FnScope ["values", "position", "problem"] ["values"] (defScope (top 11)) := ⟨rfl, rfl, rfl, by decide +kernel, rfl, by decide +kernel, by decide +kernel⟩
theorem ok_check_sizes (T : Tx K mg) (D_size_problem : Df P w K mg base 2 "size_problem" ["values", "position"] (spProblem K)) (M : Ei P w K mg base) (F : FnP K "check_sizes" "check_sizes" (top 11) f fd) : FnOk P w K mg base (L2.CX P w) 4 f fd ["values"] (spCheck K) := by
  obtain ⟨fdI, FI, bI⟩ := M.ex
  refine F.ok sc_check_sizes (fun vs H Q E h => ?_) (fun cdv A outer s H vs Q E hr h => ⟨_, (pss_cons (ps_if (pt_not (pt_val (pe_callB call_isi (by rfl) T.n_isinstance (by decide +kernel) (pa_cons (pv 0) (pa_cons (pe_bltn (v := .ty "list") (by rfl) T.n_list (by decide +kernel) rfl) pa_nil))))) (pss_one (ps_raise rfl (takes_of (E := E) rfl rfl rfl rfl) (pmk_oex T.ox T.iN T.tI FI (hr.mono (by decide)) bI .nil pass0 rfl T.g_InvalidSizes (pa_cons pe_str (pa_cons pe_int pa_nil))))) pss_nil) (pss_cons (ps_for (passes_of rfl) rfl (pi_range1 rfl T.n_range (pa_cons (pe_callB call_len_seq (by rfl) T.n_len (by decide +kernel) (pa_cons (pv 0) pa_nil)) pa_nil)) (pg_name (i := 1) sc_check_sizes.nd rfl (by first | exact Or.inl rfl | exact Or.inr rfl)) (pss_cons (ps_set (i := 2) sc_check_sizes.nd rfl (by first | exact Or.inl rfl | exact Or.inr rfl) (pcall D_size_problem hr (pa_cons (pv 0) (pa_cons (pv 1) pa_nil)))) (pss_one (ps_if (pt_cmpR op_notN (pv 2) pe_non (nomark _)) (pss_one (ps_raise rfl (takes_of (E := E) rfl rfl rfl rfl) (pmk_oex T.ox T.iN T.tI FI (hr.mono (by decide)) bI .nil pass0 rfl T.g_InvalidSizes (pa_cons (pv 2) (pa_cons (pv 1) pa_nil))))) pss_nil)))) (pss_one (ps_if (pt_not (pt_chain op_le op_le pe_int (pe_callB call_len_seq (by rfl) T.n_len (by decide +kernel) (pa_cons (pv 0) pa_nil)) (ClX.pe_cval (pe_glob (v := .ref _) rfl T.g_Sizes rfl)))) (pss_one (ps_raise rfl (takes_of (E := E) rfl rfl rfl rfl) (pmk_oex T.ox T.iN T.tI FI (hr.mono (by decide)) bI .nil pass0 rfl T.g_InvalidSizes (pa_cons pe_str (pa_cons pe_int pa_nil))))) pss_nil)))), ?_⟩)
  · obtain ⟨v, o, rfl, _⟩ := h
    rfl
  · obtain ⟨v, o, rfl, hc, q1, q2⟩ := h
    obtain ⟨u, cN⟩ := T.cN
    -- the error with the fields s, p, at any heap that holds what stood before
    have bad : ∀ {G : Hp} {x y : V} {z : Str} {p : Nat}, Same H G → judge o = some (z, p) → x = .str z → y = .int p → ∀ a, G a = none → ∀ dx, (upd G a (exo a (cE K) none)) dx = none → dx ≠ a →
        E (.ref (cE K)) (some dx) (upd (del (upd (upd (upd (upd G a (exo a (cE K) none)) dx (exd dx [("problem", x)])) a (exo a (cE K) (some dx))) dx (exd dx [("position", y), ("problem", x)])) a) dx (.xd [("position", y), ("problem", x)])) := by
      rintro G x y z p sm e rfl rfl a ha dx hdx ne
      rw [upd_ne ne] at hdx
      exact q2 z p e dx _ (sm.free hdx) (sm.trans (heap_err ha hdx)) upd_same
    cases hc with
    | other an nl =>
      obtain ⟨Ty, ty, k⟩ : ∃ Ty, TyX K H v (.type Ty) ∧ kitB Ty "list" = some false := by
        cases an with
        | non => exact ⟨"NoneType", .base .non, by decide +kernel⟩
        | bl b => exact ⟨"bool", .base (.bl b), by decide +kernel⟩
        | int i => exact ⟨"int", .base (.int i), by decide +kernel⟩
        | str x _ => exact ⟨"str", .base (.str x), by decide +kernel⟩
        | lst e => exact absurd e (nl _ _ rfl)
        | tup e => exact ⟨"tuple", .base (.tup e), by decide +kernel⟩
        | dct e => exact ⟨"dict", .base (.dK e), by decide +kernel⟩
      refine ⟨_, rfl, _, _, _, _, _, rfl, .ty "list", ty, kit_ty k, _, rfl, iteT ?_⟩
      refine ⟨(by show 2 ≤ 1000; decide), fun a ha => ⟨a, _, _, rfl, upd_same, fun dx hdx ne => ⟨rfl, dx, _, (by rw [upd_ne ne.symm, upd_same]), upd_same, ?_, bad (Same.refl H) rfl rfl rfl a ha dx hdx ne⟩⟩⟩
      rw [upd_ne ne] at hdx
      exact hdx
    | @list a xs hl hlen ha =>
      refine ⟨_, rfl, _, _, _, _, _, rfl, .ty "list", .base (.lst hl), kit_ty (show kitB "list" "list" = some true by decide +kernel), _, rfl, iteF ?_⟩
      refine ⟨_, rfl, a, _, rfl, .inl (SqL.of hl), _, rfl, by omega, by omega, ?_⟩
      refine for_range (fun i σ H' => H' = H ∧ (∃ x y, σ = [some (.ref a), x, y]) ∧ firstFrom xs 0 xs.length = firstFrom xs i (xs.length - i) ∧ (0 < i → prob xs (i - 1) = none)) ⟨rfl, ⟨none, none, rfl⟩, rfl, fun z => absurd z (by decide)⟩ ?_ ?_
      · rintro i σ H' hi ⟨rfl, ⟨x, y, rfl⟩, hf, hp⟩
        have hi2 : i < xs.length := by simpa using hi
        refine ⟨_, rfl, _, rfl, a, xs, i, (by rw [Int.zero_add]; rfl), SqL.of hl, hi2, ha, fun i0 => ?_, ?_⟩
        · obtain ⟨z, e1, e2, _⟩ := prob_int (xs := xs) (p := i - 1) (by omega) (hp i0)
          exact ⟨z, e1, e2⟩
        · have ex : xs.length - i = (xs.length - (i + 1)) + 1 := by omega
          cases e : prob xs i with
          | none =>
            refine ⟨_, rfl, rfl, _, rfl, iteF ⟨rfl, ⟨_, _, rfl⟩, ?_, fun _ => by rw [Nat.add_sub_cancel]; exact e⟩⟩
            rw [hf, ex, first_skip e]
          | some z =>
            have jd : judge (some xs) = some (z, i) := by
              show wrong xs = _
              unfold wrong
              rw [hf, ex, first_hit e]
            refine ⟨_, rfl, rfl, _, rfl, iteT ⟨_, rfl, _, rfl, (by show 2 ≤ 1000; decide), fun a' ha' => ⟨a', _, _, rfl, upd_same, fun dx hdx ne => ⟨rfl, dx, _, (by rw [upd_ne ne.symm, upd_same]), upd_same, ?_, bad (Same.refl _) jd rfl (by rw [Int.zero_add]) a' ha' dx hdx ne⟩⟩⟩⟩
            rw [upd_ne ne] at hdx
            exact hdx
      · rintro σ H' ⟨rfl, ⟨x, y, rfl⟩, hf, hp⟩
        have hn : ((xs.length : Int)).toNat = xs.length := by simp
        rw [hn, Nat.sub_self] at hf
        have hw : wrong xs = if 1 ≤ xs.length ∧ xs.length ≤ 8 then none else some (("count" : Str), 0) := by
          unfold wrong
          rw [hf]
          rfl
        refine ⟨_, rfl, a, _, rfl, .inl (SqL.of hl), _, _, rfl, rfl, _, rfl, ?_⟩
        have cnt : ¬ (1 ≤ xs.length ∧ xs.length ≤ 8) → judge (some xs) = some (("count" : Str), 0) := fun n => by
          show wrong xs = _
          rw [hw, if_neg n]
        by_cases h1 : (1 : Int) ≤ (xs.length : Int)
        · refine ifT (decide_eq_true h1) ⟨_, _, _, _, rfl, T.rd, cN, _, _, rfl, rfl, _, rfl, ?_⟩
          by_cases h2 : (xs.length : Int) ≤ 8
          · refine ifF (by rw [decide_eq_true h2]; rfl) (q1 ?_)
            show wrong xs = none
            rw [hw, if_pos ⟨by omega, by omega⟩]
          · refine ifT (by rw [decide_eq_false h2]; rfl) ⟨(by show 2 ≤ 1000; decide), fun a' ha' => ⟨a', _, _, rfl, upd_same, fun dx hdx ne => ⟨rfl, dx, _, (by rw [upd_ne ne.symm, upd_same]), upd_same, ?_, bad (Same.refl _) (cnt (by omega)) rfl rfl a' ha' dx hdx ne⟩⟩⟩
            rw [upd_ne ne] at hdx
            exact hdx
        · refine ifF (decide_eq_false h1) ⟨_, rfl, iteT ⟨(by show 2 ≤ 1000; decide), fun a' ha' => ⟨a', _, _, rfl, upd_same, fun dx hdx ne => ⟨rfl, dx, _, (by rw [upd_ne ne.symm, upd_same]), upd_same, ?_, bad (Same.refl _) (cnt (by omega)) rfl rfl a' ha' dx hdx ne⟩⟩⟩⟩
          rw [upd_ne ne] at hdx
          exact hdx
end
end K12

set_option Elab.async false
set_option linter.all false
set_option maxRecDepth 100000
set_option maxHeartbeats 4000000
namespace K12
open PySem PySem.Spec PyProof.Rows L2 Gu Ex
def szF (l : Addr) : List (Str × V) := [("size_list", V.ref l)]
theorem szF_get (l : Addr) : (szF l).lookup ("size_list" : Str) = some (.ref l) := by simp [szF, List.lookup]
theorem szF_no (l : Addr) {m : Str} (h : (m == ("size_list" : Str)) = false) : (szF l).lookup m = none := by simp [szF, List.lookup, h]
/-- at p an object of Sizes with the list xs -/
def SzAt (C : Addr) (H : Hp) (p : Addr) (xs : List V) : Prop := ∃ dx l, H p = some (.ins C dx (szF l)) ∧ H l = some (.lst xs)
section
variable {X : Cx} {k j : Nat} {c : Str} {ps : List Str} {sp : Sp} {p pos : Pos} {e : Expr} {es : List Expr} {t : TA} {W : WX}
/-- C(e, ..) in a try's body, its __init__ may raise -/
def tMakeT (C : Addr) (sp : Sp) (E : L2.St → XK) (t : TA) : TE := fun σ H Q => t σ H fun vs H1 => ∀ x dx, H1 x = none → H1 dx = none → dx ≠ x →
  sp (.ref x :: vs) (upd (upd H1 dx (.own x)) x (.ins C dx [])) (fun v H2 => v = .non ∧ Q (.ref x) H2) (E σ)
structure KfX (P : Program) (w : World) (K : PySem.W.Frag) (mg : Str → Option Value) (base : Heap) (k : Nat) (c : Str) (ps : List Str) (sp : Sp) : Prop where
  ex : ∃ fd, FnOk P w K mg base (L2.CX P w) k (He.ma K (He.ga K c) "__init__") fd ps sp ∧ Binds K fd ps []
  gl : mg c = some (.ref (He.ga K c))
  mkr : Mk K (He.ga K c) (He.ma K (He.ga K c) "__init__")
theorem pmakeT (D : KfX X.prog X.w X.K X.mg X.base k c ps sp) (hr : Room j X.A) (tk : Takes X W) (ha : PA X (e :: es) t) (hj : k + 1 ≤ j := by decide) (hg : Gl X c := by rfl) (hdb : (c == ("__debug__" : Str)) = false := by decide)
    (he : starEach (e :: es) X.env = (false, eval e X.env) :: starEach es X.env := by rfl) (hpl : (backTo pos (starEach es X.env)).any (·.1) = false := by rfl) :
    PE X (.Call (.Name c p) (e :: es) [] pos) (tMakeT (He.ga X.K c) sp (WE W) t) := by
  obtain ⟨fd, F, hb⟩ := D.ex
  refine ⟨fun pins s σ H Q I h => wpAny_Call_Name_kw (ld_glob I hg D.gl (PySem.W.callWith_K (h₀ := X.base) I.ok.mod.kin D.mkr.kp
    (thn (ha.run pos pins s σ H _ I h) fun us s1 ⟨vs, H1, I1, r, q⟩ => ⟨I1.kIn, ?_⟩) he hpl) hdb)⟩
  have hq := q (s1.heap.objs.size + 1) s1.heap.objs.size (I1.hok.fresh (Nat.le_succ _)) (I1.hok.fresh (Nat.le_refl _)) (Nat.ne_of_lt (Nat.lt_succ_self _))
  have J := Inv.made (C := He.ga X.K c) I1
  have r2 : Vals (V.ref (s1.heap.objs.size + 1) :: vs) (Value.ref (s1.heap.objs.size + 1) :: us) := .cons rfl r
  have hl : ((Value.ref (s1.heap.objs.size + 1) :: us) ++ []).length = ps.length := by
    rw [List.append_nil, ← r2.length]
    exact F.len _ _ _ _ hq
  have hb2 := hb _ (Value.ref (s1.heap.objs.size + 1) :: us) J.kIn hl
  rw [List.append_nil] at hb2
  refine wpAny_call (make_map (f := He.ma X.K (He.ga X.K c) "__init__") I1.kIn D.mkr.makes D.mkr.init (beq_iff_eq.mp D.mkr.fn)
    (codeAny_mono (F.run _ X.stack _ _ ⟨Value.ref (s1.heap.objs.size + 1) :: us, []⟩ _ _ _ _ ((hr.mono hj).make (He.ga X.K c) us []) (J.env0.make (He.ga X.K c) us []) hb2 r2 hq) fun o s' z => ?_))
  match o, z with
  | .error er, z => exact passAt tk σ pins _ _ er s' J z
  | .ok (.ret u), z =>
    obtain ⟨v, H', I3, rv, ev, q3⟩ := J.after z
    subst ev
    exact ⟨rv, ⟨V.ref (s1.heap.objs.size + 1), H', I3, rfl, q3⟩⟩
end
section
variable {P : Program} {w : World} {K : PySem.W.Frag} {mg : Str → Option Value} {base : Heap} {f : Addr} {fd : FuncData}
def spMade (K : PySem.W.Frag) : Sp := fun vs H Q E => ∃ (x dx : Addr) (v : V) (o : Option (List V)), vs = [.ref x, v] ∧ H x = some (.ins (He.ga K "Sizes") dx []) ∧ Cand K H v o ∧
  (∀ xs, o = some xs → wrong xs = none → ∀ l, H l = none → Q .non (upd (upd H l (.lst xs)) x (.ins (He.ga K "Sizes") dx (szF l)))) ∧ (∀ s p, judge o = some (s, p) → ErrAt K H E s p)
theorem sc_Sizes_init : FnScope ["self", "values"] ["self", "values"] (defScope (inClass (top 12) 4)) := ⟨rfl, rfl, rfl, by decide +kernel, rfl, by decide +kernel, by decide +kernel⟩
theorem ok_init (T : Tx K mg) (D_check_sizes : DfX P w K mg base 4 "check_sizes" ["values"] (spCheck K)) (F : FnP K "__init__" "Sizes.__init__" (inClass (top 12) 4) f fd) :
    FnOk P w K mg base (L2.CX P w) 5 f fd ["self", "values"] (spMade K) := by
  refine F.ok sc_Sizes_init (fun vs H Q E h => ?_) (fun cdv A outer s H vs Q E hr h => ⟨_, (pss_cons (ps_expr (pcallX D_check_sizes hr (takes_of (E := E) rfl rfl rfl rfl) (pa_cons (pv 1) pa_nil))) (pss_one (ps_fld (pv 0) (pe_callTy call_list_of (by rfl) T.n_list (by decide +kernel) (pa_cons (pv 1) pa_nil)) rfl))), ?_⟩)
  · obtain ⟨x, dx, v, o, rfl, _⟩ := h
    rfl
  · obtain ⟨x, dx, v, o, rfl, hx, hc, q1, q2⟩ := h
    refine ⟨_, rfl, v, o, rfl, hc, fun hj => ?_, q2⟩
    cases hc with
    | other _ _ => cases hj
    | @list a xs hl hlen ha =>
      refine ⟨_, rfl, a, _, rfl, .inl (SqL.of hl), fun l hn => ?_⟩
      refine ⟨_, rfl, x, He.ga K "Sizes", dx, [], rfl, (by rw [upd_ne (ne_of_none hx hn)]; exact hx), T.cl, T.nSL, (by show 0 < 1000; decide), ?_⟩
      exact q1 xs rfl hj l hn
def spAll (K : PySem.W.Frag) : Sp := fun vs H Q _ => ∃ (p : Addr) (xs : List V), vs = [.ref p] ∧ SzAt (He.ga K "Sizes") H p xs ∧ ∀ l, H l = none → Q (.ref l) (upd H l (.lst xs))
theorem sc_all_sizes : FnScope ["self"] ["self"] (defScope (inClass (top 12) 11)) := ⟨rfl, rfl, rfl, by decide +kernel, rfl, by decide +kernel, by decide +kernel⟩
theorem ok_all (T : Tx K mg) (F : FnP K "all_sizes" "Sizes.all_sizes" (inClass (top 12) 11) f fd) : FnOk P w K mg base CX0 1 f fd ["self"] (spAll K) := by
  refine F.ok sc_all_sizes (fun vs H Q E h => ?_) (fun cdv A outer s H vs Q E hr h => ⟨_, PSs.nox (pss_one (ps_ret (pe_callTy call_list_of (by rfl) T.n_list (by decide +kernel) (pa_cons (pe_fld (pv 0) rfl) pa_nil)))), ?_⟩)
  · obtain ⟨p, xs, rfl, _⟩ := h
    rfl
  · obtain ⟨p, xs, rfl, ⟨dx, l, h1, h2⟩, q⟩ := h
    exact ⟨_, rfl, p, _, dx, _, _, rfl, h1, T.cl, T.nSL, szF_get l, l, _, rfl, .inl (SqL.of h2), q⟩
end
end K12

set_option Elab.async false
set_option linter.all false
set_option maxRecDepth 100000
set_option maxHeartbeats 4000000
namespace K12
open PySem PySem.Spec PyProof.Rows L2 Gu Ex
structure Good (ns : List Int) : Prop where
  len : 1 ≤ ns.length ∧ ns.length ≤ 8
  one : ns[0]? = some 1
  rng : ∀ (i : Nat) x, ns[i]? = some x → 1 ≤ x ∧ x ≤ 1000000000
  up : ∀ (i : Nat) x y, ns[i]? = some x → ns[i + 1]? = some y → x < y ∧ y % x = 0
theorem at_map {ns : List Int} {p : Nat} {x : Int} (h : ns[p]? = some x) : atI (ns.map V.int) (p : Int) = some (.int x) := atI_nat (by rw [List.getElem?_map, h]; rfl)
/-- the drawing list at r -/
def Rng (H : Hp) (r : Addr) : Prop := ∃ a b : Int, H r = some (.lst [.int a, .int b]) ∧ 0 ≤ a ∧ 0 ≤ b ∧ b < 2147483587
/-- only the drawing list at r may have changed -/
def Stp (r : Addr) (H H' : Hp) : Prop := Rng H' r ∧ ∀ b o, b ≠ r → H b = some o → H' b = some o
theorem Stp.trans {r : Addr} {H H1 H2 : Hp} (a : Stp r H H1) (b : Stp r H1 H2) : Stp r H H2 := ⟨b.1, fun c o n e => b.2 c o n (a.2 c o n e)⟩
theorem Stp.refl {r : Addr} {H : Hp} (h : Rng H r) : Stp r H H := ⟨h, fun _ _ _ e => e⟩
/-- the ways of a choice come together: what holds of every value -/
theorem join {α : Type} {G : Prop} (Pc : α → Prop) {R : α → Prop} (h1 : (∀ c, Pc c → R c) → G) (h2 : ∀ c, Pc c → R c) : G := h1 h2
theorem Rng.ne {H : Hp} {r p : Addr} (h : Rng H r) (hp : H p = none) : r ≠ p := fun z => by
  obtain ⟨_, _, e, _⟩ := h
  rw [z, hp] at e
  cases e
theorem Stp.new {r p : Addr} {H H1 : Hp} {o : HO} (a : Stp r H H1) (hp : H1 p = none) : Stp r H (upd H1 p o) := by
  obtain ⟨⟨x, y, e, z⟩, k⟩ := a
  refine ⟨⟨x, y, ?_, z⟩, fun b u n e2 => ?_⟩
  · rw [upd_ne (ne_of_none e hp)]
    exact e
  · rw [upd_ne (ne_of_none (k b u n e2) hp)]
    exact k b u n e2
theorem Stp.free {r p : Addr} {H H1 : Hp} (a : Stp r H H1) (h : H1 p = none) : H p = none := by
  cases e : H p with
  | none => rfl
  | some o =>
    have n : p ≠ r := fun z => (a.1.ne h) z.symm
    rw [a.2 p o n e] at h
    cases h
section
variable {P : Program} {w : World} {K : PySem.W.Frag} {mg : Str → Option Value} {base : Heap} {f : Addr} {fd : FuncData}
def spRng (K : PySem.W.Frag) : Sp := fun vs H Q _ => ∃ (a : Addr) (ns : List Int) (k : Nat), vs = [.ref a, .int k] ∧ SqL K H a (ns.map V.int) ∧ k ≤ 63 ∧ ∀ p H', H p = none → Same H H' → Rng H' p → Q (.ref p) H'
theorem sc__law_rng : FnScope ["_law_script", "_law_k", "_law_cell"] ["_law_script", "_law_k"] (defScope (top 14)) := ⟨rfl, rfl, rfl, by decide +kernel, rfl, by decide +kernel, by decide +kernel⟩
theorem ok_rng (T : Tx K mg) (F : FnP K "_law_rng" "_law_rng" (top 14) f fd) : FnOk P w K mg base CX0 1 f fd ["_law_script", "_law_k"] (spRng K) := by
  refine F.ok sc__law_rng (fun vs H Q E h => ?_) (fun cdv A outer s H vs Q E hr h => ⟨_, PSs.nox (pss_cons (ps_set (i := 2) sc__law_rng.nd rfl (by first | exact Or.inl rfl | exact Or.inr rfl) (pe_ifExp (pt_cmpR op_lt (pv 1) (pe_callB call_len_seq (by rfl) T.n_len (by decide +kernel) (pa_cons (pv 0) pa_nil)) (nomark _)) (pe_callB call_abs (by rfl) T.n_abs (by decide +kernel) (pa_cons (pe_ix ix_list (pv 0) (pv 1) (fun _ _ => rfl)) pa_nil)) pe_int)) (pss_one (ps_ret (pe_lst (pa_cons (pe_callB (call_max2 rfl) (by rfl) T.n_max (by decide +kernel) (pa_cons pe_int (pa_cons (pe_op op_sub (pv 2) (pe_op op_pow pe_int pe_int)) pa_nil))) (pa_cons (pe_op op_add (pe_op op_mod (pe_op op_pow (pe_op op_add (pe_op op_add (pe_op op_mod (pv 2) pe_int) (pe_op op_mul pe_int (pv 1))) pe_int) pe_int) pe_int) pe_int) pa_nil)))))), ?_⟩)
  · obtain ⟨a, ns, k, rfl, _⟩ := h
    rfl
  · obtain ⟨a, ns, k, rfl, hS, hk, q⟩ := h
    refine join (fun c : Int => 0 ≤ c) (R := ?R) (fun tail => ?main) ?tl
    case main =>
      refine ⟨_, rfl, _, rfl, a, _, rfl, .inl hS, _, _, rfl, rfl, _, rfl, ?_⟩
      by_cases hl : (k : Int) < (((ns.map V.int).length : Nat) : Int)
      · have hk2 : k < ns.length := by rw [List.length_map] at hl; omega
        refine ifT (decide_eq_true hl) ?_
        refine ⟨_, rfl, _, rfl, a, _, _, _, rfl, rfl, hS, at_map (List.getElem?_eq_getElem hk2), _, rfl, ?_⟩
        obtain ⟨c, hc, ec⟩ : ∃ c : Int, 0 ≤ c ∧ (if ns[k] < 0 then -ns[k] else ns[k]) = c := ⟨if ns[k] < 0 then -ns[k] else ns[k], by split <;> omega, rfl⟩
        rw [ec]
        exact tail c hc
      · refine ifF (decide_eq_false hl) ?_
        exact tail 0 (by decide)
    case tl =>
      intro c hc
      have c0 := Int.emod_nonneg c (show (2147483543 : Int) ≠ 0 by decide)
      have c1 := Int.emod_lt_of_pos c (show (0 : Int) < 2147483543 by decide)
      refine ⟨_, rfl, _, _, rfl, rfl, ⟨by decide, by decide, by decide⟩, _, _, rfl, rfl, _, _, rfl, ?_⟩
      refine ⟨_, rfl, _, _, rfl, rfl, (by show (0 : Int) < 2147483543; decide), _, rfl, _, _, rfl, rfl, .inl ⟨by decide, by decide⟩, _, _, rfl, rfl, _, _, rfl, rfl, _, _, rfl, rfl, ⟨by decide, by decide, by omega⟩, _, _, rfl, rfl, (by show (0 : Int) < 2147483497; decide), _, _, rfl, rfl, ?_⟩
      refine ⟨(by show 2 ≤ sizeLine; decide), fun p hp => q p _ hp (fun b o e => by rw [upd_ne (ne_of_none e hp)]; exact e) ⟨_, _, upd_same, ?_, ?_, ?_⟩⟩
      · split <;> omega
      · have := Int.emod_nonneg ((c % 2147483543 + 101 * (k : Int) + 7) ^ (2 : Int).toNat) (show (2147483497 : Int) ≠ 0 by decide)
        omega
      · have := Int.emod_lt_of_pos ((c % 2147483543 + 101 * (k : Int) + 7) ^ (2 : Int).toNat) (show (0 : Int) < 2147483497 by decide)
        omega
def spDraw : Sp := fun vs H Q _ => ∃ (r : Addr) (m : Int), vs = [.ref r, .int m] ∧ Rng H r ∧ 1 ≤ m ∧ m ≤ 10 ^ 40 ∧ ∀ d H', 0 ≤ d → d < m → Stp r H H' → Q (.int d) H'
theorem sc__law_draw : FnScope ["_law_rng_here", "_law_many", "_law_mixed", "_law_digit"] ["_law_rng_here", "_law_many"] (defScope (top 15)) := ⟨rfl, rfl, rfl, by decide +kernel, rfl, by decide +kernel, by decide +kernel⟩
theorem ok_draw (T : Tx K mg) (F : FnP K "_law_draw" "_law_draw" (top 15) f fd) : FnOk P w K mg base CX0 1 f fd ["_law_rng_here", "_law_many"] spDraw := by
  refine F.ok sc__law_draw (fun vs H Q E h => ?_) (fun cdv A outer s H vs Q E hr h => ⟨_, PSs.nox (pss_cons (ps_if (pt_cmpR op_gt (pe_ix ix_list (pv 0) pe_int (fun _ _ => rfl)) pe_int (nomark _)) (pss_cons (ps_asg (pe_callB call_divmodW (by rfl) T.n_divmod (by decide +kernel) (pa_cons (pe_ix ix_list (pv 0) pe_int (fun _ _ => rfl)) (pa_cons (pv 1) pa_nil))) (pg_tup (by rfl) (pgs_cons (pg_sub (pv 0) pe_int set_list) (pgs_cons (pg_name (i := 3) sc__law_draw.nd rfl (by first | exact Or.inl rfl | exact Or.inr rfl)) pgs_nil)))) (pss_one (ps_ret (pv 3)))) pss_nil) (pss_cons (ps_asg (pe_op op_mod (pe_op op_add (pe_op op_mul (pe_ix ix_list (pv 0) pe_int (fun _ _ => rfl)) pe_int) pe_int) pe_int) (pg_sub (pv 0) pe_int set_list)) (pss_cons (ps_set (i := 2) sc__law_draw.nd rfl (by first | exact Or.inl rfl | exact Or.inr rfl) (pe_op op_fdivW (pe_op op_mod (pe_op op_mul (pe_ix ix_list (pv 0) pe_int (fun _ _ => rfl)) (pe_ix ix_list (pv 0) pe_int (fun _ _ => rfl))) pe_int) pe_int)) (pss_one (ps_ret (pe_ifExp (pt_cmpR op_lt (pv 1) (pe_op op_pow pe_int pe_int) (nomark _)) (pe_op op_mod (pv 2) (pv 1)) (pe_op op_mod (pe_op op_mul (pe_op op_add (pe_op op_mul (pv 2) pe_int) (pe_ix ix_list (pv 0) pe_int (fun _ _ => rfl))) pe_int) (pv 1)))))))), ?_⟩)
  · obtain ⟨r, m, rfl, _⟩ := h
    rfl
  · obtain ⟨r, m, rfl, ⟨a, b, hR, ha, hb, hb2⟩, m1, m2, q⟩ := h
    have mb : m.natAbs < 2 ^ 200 := by
      have : (10 : Int) ^ 40 < 2 ^ 200 := by decide
      have e : ((2 : Nat) ^ 200 : Nat) = ((2 : Int) ^ 200).natAbs := by decide
      omega
    refine ⟨_, rfl, r, _, _, _, rfl, rfl, SqL.of hR, rfl, _, _, rfl, rfl, _, rfl, ?_⟩
    by_cases h0 : 0 < a
    · refine ifT (decide_eq_true h0) ?_
      refine ⟨_, rfl, r, _, _, _, rfl, rfl, SqL.of hR, rfl, _, rfl, _, _, rfl, ⟨by omega, PyProof.noPylong_of_log2 (Nat.lt_of_lt_of_le (PySem.Flt.log2_lt_of (by decide) mb) (by decide))⟩, fun p hp => ?_⟩
      have nrp : r ≠ p := ne_of_none hR hp
      have hR2 : (upd H p (.tup [.int (a / m), .int (a % m)])) r = some (.lst [.int a, .int b]) := by rw [upd_ne nrp]; exact hR
      refine ⟨p, _, rfl, .inl (.inl upd_same), rfl, _, _, rfl, _, rfl, r, _, _, 0, rfl, rfl, hR2, rfl, _, _, rfl, rfl, ?_⟩
      refine ⟨_, rfl, q _ _ (Int.emod_nonneg _ (by omega)) (Int.emod_lt_of_pos _ (by omega)) ⟨⟨a / m, b, upd_same, Int.ediv_nonneg (by omega) (by omega), hb, hb2⟩, fun c o n e => ?_⟩⟩
      rw [upd_ne n, upd_ne (ne_of_none e hp)]
      exact e
    · refine ifF (decide_eq_false h0) ?_
      have b0 := Int.emod_nonneg (b * 48271 + 10007) (show (2147483587 : Int) ≠ 0 by decide)
      have b1 := Int.emod_lt_of_pos (b * 48271 + 10007) (show (0 : Int) < 2147483587 by decide)
      refine ⟨_, rfl, r, _, _, _, rfl, rfl, SqL.of hR, rfl, _, _, rfl, rfl, .inr ⟨by decide, by decide⟩, _, _, rfl, rfl, _, _, rfl, rfl, (by show (0 : Int) < 2147483587; decide), _, rfl, r, _, _, 1, rfl, rfl, hR, rfl, ?_⟩
      dsimp only
      generalize hB : (b * 48271 + 10007) % 2147483587 = B at *
      have hR2 : (upd H r (.lst [.int a, .int B])) r = some (.lst [.int a, .int B]) := upd_same
      have st : Stp r H (upd H r (.lst [.int a, .int B])) := ⟨⟨a, B, upd_same, ha, b0, b1⟩, fun c o n e => by rw [upd_ne n]; exact e⟩
      refine ⟨_, rfl, r, _, _, _, rfl, rfl, SqL.of hR2, rfl, _, rfl, r, _, _, _, rfl, rfl, SqL.of hR2, rfl, _, _, rfl, rfl, .inl ⟨by omega, by omega⟩, _, _, rfl, rfl, (by show (0 : Int) < 2147483549; decide), _, _, rfl, rfl, wide_div (b := 64) (by decide) (by decide) (by decide) (by decide), ?_⟩
      refine ⟨_, rfl, _, _, rfl, rfl, ⟨by decide, by decide, by decide⟩, _, _, rfl, rfl, _, rfl, ite2 (fun _ => ?_) (fun _ => ?_)⟩
      · exact ⟨_, rfl, _, rfl, _, _, rfl, rfl, (by show (0 : Int) < m; omega), q _ _ (Int.emod_nonneg _ (by omega)) (Int.emod_lt_of_pos _ (by omega)) st⟩
      · refine ⟨_, rfl, _, _, rfl, rfl, .inr ⟨by decide, by decide⟩, _, rfl, r, _, _, _, rfl, rfl, SqL.of hR2, rfl, _, _, rfl, rfl, _, _, rfl, rfl, .inr ⟨by decide, by decide⟩, _, rfl, _, _, rfl, rfl, (by show (0 : Int) < m; omega), ?_⟩
        exact q _ _ (Int.emod_nonneg _ (by omega)) (Int.emod_lt_of_pos _ (by omega)) st
theorem at_of {xs : List V} {d : Int} (h0 : 0 ≤ d) (h1 : d < xs.length) : ∃ v, atI xs d = some v ∧ v ∈ xs := by
  obtain ⟨n, rfl⟩ := Int.eq_ofNat_of_zero_le h0
  have hn : n < xs.length := by omega
  exact ⟨xs[n], atI_nat (List.getElem?_eq_getElem hn), List.getElem_mem hn⟩
def spChoice : Sp := fun vs H Q _ => ∃ (r o : Addr) (xs : List V), vs = [.ref r, .ref o] ∧ Rng H r ∧ H o = some (.lst xs) ∧ o ≠ r ∧ 1 ≤ xs.length ∧ xs.length ≤ 1000 ∧ ∀ v H', v ∈ xs → Stp r H H' → Q v H'
theorem sc__law_choice : FnScope ["_law_rng_here", "_law_options"] ["_law_rng_here", "_law_options"] (defScope (top 16)) := ⟨rfl, rfl, rfl, by decide +kernel, rfl, by decide +kernel, by decide +kernel⟩
theorem ok_choice (T : Tx K mg) (D__law_draw : Df P w K mg base 1 "_law_draw" ["_law_rng_here", "_law_many"] spDraw) (F : FnP K "_law_choice" "_law_choice" (top 16) f fd) : FnOk P w K mg base CX0 2 f fd ["_law_rng_here", "_law_options"] spChoice := by
  refine F.ok sc__law_choice (fun vs H Q E h => ?_) (fun cdv A outer s H vs Q E hr h => ⟨_, PSs.nox (pss_one (ps_ret (pe_ix ix_list (pv 1) (pcall D__law_draw hr (pa_cons (pv 0) (pa_cons (pe_callB call_len_seq (by rfl) T.n_len (by decide +kernel) (pa_cons (pv 1) pa_nil)) pa_nil))) (fun _ _ => rfl)))), ?_⟩)
  · obtain ⟨r, o, xs, rfl, _⟩ := h
    rfl
  · obtain ⟨r, o, xs, rfl, hR, hO, ne, l1, l2, q⟩ := h
    refine ⟨_, rfl, _, rfl, _, rfl, o, _, rfl, .inl (SqL.of hO), r, _, rfl, hR, by omega, ?_, fun d H1 d0 d1 st => ?_⟩
    · have : (1000 : Int) ≤ 10 ^ 40 := by decide
      omega
    · obtain ⟨v, hv, hm⟩ := at_of d0 d1
      exact ⟨o, _, _, v, rfl, rfl, SqL.of (st.2 o _ ne hO), hv, q v H1 hm st⟩
theorem good_one : Good [1] := ⟨⟨by decide, by decide⟩, rfl, fun i x h => by
    cases i with
    | zero => cases h; decide
    | succ i => simp at h, fun i x y h1 h2 => by
    cases i with
    | zero => simp at h2
    | succ i => simp at h1⟩
theorem good_more {ns : List Int} {x k : Int} (g : Good ns) (hl : ns.length < 8) (hx : ns[ns.length - 1]? = some x) (hk : 2 ≤ k) (hm : x * k ≤ 1000000000) : Good (ns ++ [x * k]) := by
  have l := g.len
  have xr := g.rng _ _ hx
  have gt : x < x * k := by
    have := Int.mul_le_mul_of_nonneg_left hk (show (0 : Int) ≤ x by omega)
    omega
  refine ⟨⟨by rw [List.length_append, List.length_singleton]; omega, by rw [List.length_append, List.length_singleton]; omega⟩, ?_, fun i y h => ?_, fun i y z h1 h2 => ?_⟩
  · rw [List.getElem?_append_left (by omega)]
    exact g.one
  · by_cases hi : i < ns.length
    · rw [List.getElem?_append_left hi] at h
      exact g.rng i y h
    · rw [List.getElem?_append_right (by omega)] at h
      have hi2 : i - ns.length = 0 := by
        cases e : i - ns.length with
        | zero => rfl
        | succ n => rw [e] at h; simp at h
      rw [hi2] at h
      have e : x * k = y := Option.some.inj h
      omega
  · by_cases hi : i + 1 < ns.length
    · rw [List.getElem?_append_left hi] at h2
      rw [List.getElem?_append_left (by omega)] at h1
      exact g.up i y z h1 h2
    · by_cases hi2 : i + 1 = ns.length
      · rw [List.getElem?_append_left (by omega)] at h1
        rw [List.getElem?_append_right (by omega), hi2, Nat.sub_self] at h2
        have e : x * k = z := Option.some.inj h2
        rw [show i = ns.length - 1 by omega, hx] at h1
        have e2 : x = y := Option.some.inj h1
        rw [← e, ← e2]
        exact ⟨gt, Int.mul_emod_right x k⟩
      · rw [List.getElem?_append_right (by omega)] at h2
        cases e : i + 1 - ns.length with
        | zero => omega
        | succ n => rw [e] at h2; simp at h2
def spSizes : Sp := fun vs H Q _ => ∃ (r : Addr) (lv gr : Int), vs = [.ref r, .int lv, .int gr] ∧ Rng H r ∧ 1 ≤ lv ∧ lv ≤ 8 ∧ 2 ≤ gr ∧ gr ≤ 1000000 ∧
  ∀ l ns H', Good ns → H l = none → H' l = some (.lst (ns.map V.int)) → Stp r H H' → Q (.ref l) H'
theorem at_last (ys : List Int) (x : Int) : atI ((ys ++ [x]).map V.int) (-1) = some (.int x) := by
  rw [List.map_append]
  exact atI_last _ _
theorem last_of : ∀ {ns : List Int}, 1 ≤ ns.length → ∃ ys x, ns = ys ++ [x]
  | [], h => absurd h (by decide)
  | [x], _ => ⟨[], x, rfl⟩
  | a :: b :: r, _ => by
    obtain ⟨ys, x, e⟩ := last_of (ns := b :: r) (by simp)
    exact ⟨a :: ys, x, by rw [e]; rfl⟩
theorem last_get (ys : List Int) (x : Int) : (ys ++ [x])[(ys ++ [x]).length - 1]? = some x := by
  rw [List.length_append, List.length_singleton, Nat.add_sub_cancel, List.getElem?_append_right (Nat.le_refl _), Nat.sub_self]
  rfl
theorem sc__law_sizes : FnScope ["_law_rng_here", "_law_levels", "_law_greatest", "_law_result", "_law_k", "_law_factor"] ["_law_rng_here", "_law_levels", "_law_greatest"] (defScope (top 17)) := ⟨rfl, rfl, rfl, by decide +kernel, rfl, by decide +kernel, by decide +kernel⟩
theorem ok_sizes (T : Tx K mg) (D__law_draw : Df P w K mg base 1 "_law_draw" ["_law_rng_here", "_law_many"] spDraw) (F : FnP K "_law_sizes" "_law_sizes" (top 17) f fd) :
    FnOk P w K mg base CX0 2 f fd ["_law_rng_here", "_law_levels", "_law_greatest"] spSizes := by
  refine F.ok sc__law_sizes (fun vs H Q E h => ?_) (fun cdv A outer s H vs Q E hr h => ⟨_, PSs.nox (pss_cons (ps_set (i := 3) sc__law_sizes.nd rfl (by first | exact Or.inl rfl | exact Or.inr rfl) (pe_lst (pa_cons pe_int pa_nil))) (pss_cons (ps_for PassesOwn.never rfl (pi_range1 rfl T.n_range (pa_cons (pcall D__law_draw hr (pa_cons (pv 0) (pa_cons (pv 1) pa_nil))) pa_nil)) (pg_name (i := 4) sc__law_sizes.nd rfl (by first | exact Or.inl rfl | exact Or.inr rfl)) (pss_cons (ps_set (i := 5) sc__law_sizes.nd rfl (by first | exact Or.inl rfl | exact Or.inr rfl) (pe_ix ix_list (pe_lst (pa_cons pe_int (pa_cons pe_int (pa_cons pe_int (pa_cons pe_int (pa_cons (pe_op op_add pe_int (pcall D__law_draw hr (pa_cons (pv 0) (pa_cons (pe_op op_sub (pv 2) pe_int) pa_nil)))) pa_nil)))))) (pcall D__law_draw hr (pa_cons (pv 0) (pa_cons pe_int pa_nil))) (fun _ _ => rfl))) (pss_one (ps_if (PW.pt (pw_and (pt_cmpR op_le (pe_op op_mul (pe_ix ix_list (pv 3) (pe_un un_neg pe_int) (fun _ _ => rfl)) (pv 5)) (pe_op op_pow pe_int pe_int) (nomark _)) (pw_and1 (pt_cmpR op_le (pv 5) (pv 2) (nomark _))))) (pss_one (ps_expr (pe_bm PySem.F.plainAttrs_list PySem.F.slot_list_append PySem.F.type_list_append mt_append (pv 3) (pa_cons (pe_op op_mul (pe_ix ix_list (pv 3) (pe_un un_neg pe_int) (fun _ _ => rfl)) (pv 5)) pa_nil)))) pss_nil)))) (pss_one (ps_ret (pv 3))))), ?_⟩)
  · obtain ⟨r, lv, gr, rfl, _⟩ := h
    rfl
  · obtain ⟨r, lv, gr, rfl, hR, l1, l2, g1, g2, q⟩ := h
    have big : (10 : Int) ^ 40 = 10000000000000000000000000000000000000000 := by decide
    refine ⟨(by show 1 ≤ sizeLine; decide), fun l hl => ?_⟩
    have nrl : r ≠ l := hR.ne hl
    have s0 : Stp r H (upd H l (.lst [.int 1])) := (Stp.refl hR).new hl
    refine ⟨_, rfl, _, rfl, r, lv, rfl, s0.1, l1, by omega, fun d H1 d0 d1 s1 => ?_⟩
    refine ⟨d, rfl, by omega, by omega, ?_⟩
    have s01 := s0.trans s1
    refine for_range (fun i σ H' => ∃ ns x y, σ = [some (.ref r), some (.int lv), some (.int gr), some (.ref l), x, y] ∧ Good ns ∧ ns.length ≤ i + 1 ∧ H' l = some (.lst (ns.map V.int)) ∧ Stp r H H') ⟨[1], none, none, rfl, good_one, by simp, s1.2 l _ nrl.symm upd_same, s01⟩ ?_ ?_
    · rintro i σ H' hi ⟨ns, x, y, rfl, g, hlen, hL, st⟩
      have hi8 : i < 8 := by omega
      obtain ⟨ys, z, rfl⟩ := last_of g.len.1
      have zr := g.rng _ _ (last_get ys z)
      refine ⟨_, rfl, _, rfl, _, _, rfl, rfl, r, gr - 1, rfl, st.1, by omega, by omega, fun d1 H1 a0 a1 t1 => ?_⟩
      have st1 := st.trans t1
      have hL1 : H1 l = some (.lst ((ys ++ [z]).map V.int)) := t1.2 l _ nrl.symm hL
      refine ⟨_, _, rfl, rfl, (by show 5 ≤ sizeLine; decide), fun t ht => ?_⟩
      have st2 := st1.new (o := .lst [.int 2, .int 2, .int 3, .int 4, .int (2 + d1)]) ht
      have nrt : r ≠ t := st1.1.ne ht
      have hL2 : (upd H1 t (.lst [.int 2, .int 2, .int 3, .int 4, .int (2 + d1)])) l = some (.lst ((ys ++ [z]).map V.int)) := by rw [upd_ne (ne_of_none hL1 ht)]; exact hL1
      refine ⟨_, rfl, r, 5, rfl, st2.1, by decide, by omega, fun d2 H3 b0 b1 t3 => ?_⟩
      have st3 := st2.trans t3
      have hL3 : H3 l = some (.lst ((ys ++ [z]).map V.int)) := t3.2 l _ nrl.symm hL2
      obtain ⟨v, hv, hm⟩ := at_of (xs := [.int 2, .int 2, .int 3, .int 4, .int (2 + d1)]) b0 b1
      obtain ⟨k, rfl, k2⟩ : ∃ k : Int, v = .int k ∧ 2 ≤ k := by
        simp only [List.mem_cons, List.not_mem_nil, or_false] at hm
        rcases hm with rfl | rfl | rfl | rfl | rfl
        · exact ⟨_, rfl, by omega⟩
        · exact ⟨_, rfl, by omega⟩
        · exact ⟨_, rfl, by omega⟩
        · exact ⟨_, rfl, by omega⟩
        · exact ⟨_, rfl, by omega⟩
      refine ⟨t, _, _, _, rfl, rfl, SqL.of (t3.2 t _ nrt.symm upd_same), hv, ?_⟩
      refine ⟨_, rfl, _, rfl, l, _, _, _, rfl, rfl, SqL.of hL3, at_last ys z, _, rfl, _, _, rfl, rfl, .inl ⟨by omega, by omega⟩, _, _, rfl, rfl, ⟨by decide, by decide, by decide⟩, _, _, rfl, rfl, _, rfl, ?_⟩
      by_cases hc : z * k ≤ 10 ^ (9 : Int).toNat
      · refine ifT (decide_eq_true hc) ?_
        refine ⟨_, rfl, _, rfl, _, _, rfl, rfl, _, rfl, ite2 (fun hk => ?_) (fun _ => ?_)⟩
        · refine ⟨_, rfl, .inl ⟨rfl, _, SqL.of hL3⟩, _, rfl, _, rfl, l, _, _, _, rfl, rfl, SqL.of hL3, at_last ys z, _, rfl, _, _, rfl, rfl, .inl ⟨by omega, by omega⟩, l, _, _, rfl, rfl, hL3, ?_, ?_⟩
          · exact small1000 (by rw [List.length_map]; omega)
          · have hc2 : z * k ≤ 1000000000 := hc
            refine ⟨(ys ++ [z]) ++ [z * k], _, _, rfl, good_more g (by omega) (last_get ys z) k2 hc2, by rw [List.length_append (bs := [z * k]), List.length_singleton]; omega, ?_, ?_⟩
            · rw [upd_same, List.map_append (l₂ := [z * k])]
              rfl
            · obtain ⟨⟨x1, x2, e1, e2⟩, kk⟩ := st3
              refine ⟨⟨x1, x2, by rw [upd_ne nrl]; exact e1, e2⟩, fun b o n e => ?_⟩
              rw [upd_ne (ne_of_none e hl)]
              exact kk b o n e
        · exact ⟨_, _, _, rfl, g, by omega, hL3, st3⟩
      · exact ifF (decide_eq_false hc) ⟨_, _, _, rfl, g, by omega, hL3, st3⟩
    · rintro σ H' ⟨ns, x, y, rfl, g, hlen, hL, st⟩
      exact ⟨_, rfl, q l ns H' g hl hL st⟩
end
end K12

set_option Elab.async false
set_option linter.all false
set_option maxRecDepth 100000
set_option maxHeartbeats 4000000
namespace K12
open PySem PySem.Spec PyProof.Rows L2 Gu Ex
section
variable {P : Program} {w : World} {K : PySem.W.Frag} {mg : Str → Option Value} {base : Heap} {f : Addr} {fd : FuncData}
def spDue (K : PySem.W.Frag) : Sp := fun vs H Q _ => ∃ (v : V) (o : Option (List V)), vs = [v] ∧ Cand K H v o ∧ (judge o = none → ∀ H', Same H H' → Q .non H') ∧
  (∀ s p t H', judge o = some (s, p) → H t = none → Same H H' → H' t = some (.tup [.str s, .int (p : Nat)]) → Q (.ref t) H')
theorem Cand.ty {H : Hp} {v : V} {o : Option (List V)} (h : Cand K H v o) : ∃ Ty, TyX K H v (.type Ty) ∧ kitB Ty "list" = some o.isSome := by
  cases h with
  | other an nl =>
    cases an with
    | non => exact ⟨"NoneType", .base .non, by decide +kernel⟩
    | bl b => exact ⟨"bool", .base (.bl b), by decide +kernel⟩
    | int i => exact ⟨"int", .base (.int i), by decide +kernel⟩
    | str x _ => exact ⟨"str", .base (.str x), by decide +kernel⟩
    | lst e => exact absurd e (nl _ _ rfl)
    | tup e => exact ⟨"tuple", .base (.tup e), by decide +kernel⟩
    | dct e => exact ⟨"dict", .base (.dK e), by decide +kernel⟩
  | list hl _ _ => exact ⟨"list", .base (.lst hl), (show kitB "list" "list" = some true by decide +kernel)⟩
theorem sc__law_due : FnScope ["_law_some", "_law_position", "_law_one"] ["_law_some"] (defScope (top 18)) := ⟨rfl, rfl, rfl, by decide +kernel, rfl, by decide +kernel, by decide +kernel⟩
theorem ok_due (T : Tx K mg) (F : FnP K "_law_due" "_law_due" (top 18) f fd) : FnOk P w K mg base CX0 1 f fd ["_law_some"] (spDue K) := by
  refine F.ok sc__law_due (fun vs H Q E h => ?_) (fun cdv A outer s H vs Q E hr h => ⟨_, PSs.nox (pss_cons (ps_if (pt_not (pt_val (pe_callB call_isi (by rfl) T.n_isinstance (by decide +kernel) (pa_cons (pv 0) (pa_cons (pe_bltn (v := .ty "list") (by rfl) T.n_list (by decide +kernel) rfl) pa_nil))))) (pss_one (ps_ret (pe_tup (pa_cons pe_str (pa_cons pe_int pa_nil))))) pss_nil) (pss_cons (ps_for PassesOwn.never rfl (pi_enum rfl T.n_enumerate (pa_cons (pv 0) pa_nil)) (pg_tup (by rfl) (pgs_cons (pg_name (i := 1) sc__law_due.nd rfl (by first | exact Or.inl rfl | exact Or.inr rfl)) (pgs_cons (pg_name (i := 2) sc__law_due.nd rfl (by first | exact Or.inl rfl | exact Or.inr rfl)) pgs_nil))) (pss_cons (ps_if (PW.pt (pw_or (pt_not (pt_val (pe_callB call_isi (by rfl) T.n_isinstance (by decide +kernel) (pa_cons (pv 2) (pa_cons (pe_bltn (v := .ty "int") (by rfl) T.n_int (by decide +kernel) rfl) pa_nil))))) (pw_or (pt_val (pe_callB call_isi (by rfl) T.n_isinstance (by decide +kernel) (pa_cons (pv 2) (pa_cons (pe_bltn (v := .ty "bool") (by rfl) T.n_bool (by decide +kernel) rfl) pa_nil)))) (pw_or1 (pt_not (pt_chain op_le op_le pe_int (pv 2) (pe_op op_pow pe_int pe_int))))))) (pss_one (ps_ret (pe_tup (pa_cons pe_str (pa_cons (pv 1) pa_nil))))) pss_nil) (pss_cons (ps_if (PW.pt (pw_and (pt_cmpR op_eq (pv 1) pe_int (nomark _)) (pw_and1 (pt_cmpR op_ne (pv 2) pe_int (nomark _))))) (pss_one (ps_ret (pe_tup (pa_cons pe_str (pa_cons pe_int pa_nil))))) pss_nil) (pss_one (ps_if (PW.pt (pw_and (pt_cmpR op_gt (pv 1) pe_int (nomark _)) (pw_and1 (PW.pt (pw_or (pt_cmpR op_le (pv 2) (pe_ix ix_list (pv 0) (pe_op op_sub (pv 1) pe_int) (fun _ _ => rfl)) (nomark _)) (pw_or1 (pt_cmpR op_ne (pe_op op_mod (pv 2) (pe_ix ix_list (pv 0) (pe_op op_sub (pv 1) pe_int) (fun _ _ => rfl))) pe_int (nomark _)))))))) (pss_one (ps_ret (pe_tup (pa_cons pe_str (pa_cons (pv 1) pa_nil))))) pss_nil))))) (pss_one (ps_ret (pe_ifExp (pt_chain op_le op_le pe_int (pe_callB call_len_seq (by rfl) T.n_len (by decide +kernel) (pa_cons (pv 0) pa_nil)) pe_int) pe_non (pe_tup (pa_cons pe_str (pa_cons pe_int pa_nil)))))))), ?_⟩)
  · obtain ⟨v, o, rfl, _⟩ := h
    rfl
  · obtain ⟨v, o, rfl, hc, q1, q2⟩ := h
    obtain ⟨Ty, ty, k⟩ := hc.ty
    refine ⟨_, rfl, _, _, _, _, _, rfl, .ty "list", ty, kit_ty k, _, rfl, ?_⟩
    cases hc with
    | other an nl => exact iteT ⟨(by show 2 ≤ sizeLine; decide), fun t ht => q2 _ _ t _ rfl ht (same_upd ht) upd_same⟩
    | @list a xs hl hlen ha =>
      refine iteF ?_
      have two : 2 ≤ sizeLine := by decide
      -- the result at a heap that has kept what stood
      have bad : ∀ {G : Hp} {z : Str} {p : Nat} {n : Int}, Same H G → judge (some xs) = some (z, p) → n = (p : Nat) → ∀ t, G t = none → Q (.ref t) (upd G t (.tup [.str z, .int n])) := by
        rintro G z p n sm e rfl t ht
        exact q2 z p t _ e (sm.free ht) (sm.trans (same_upd ht)) upd_same
      refine ⟨_, rfl, a, _, rfl, SqL.of hl, ?_⟩
      refine for_it (walk_enum (xs := xs)) (fun i σ H' => Same H H' ∧ (∃ x y, σ = [some (.ref a), x, y]) ∧ firstFrom xs 0 xs.length = firstFrom xs i (xs.length - i) ∧ (0 < i → prob xs (i - 1) = none)) ⟨Same.refl H, ⟨none, none, rfl⟩, rfl, fun z => absurd z (by decide)⟩ (fun i σ H' _ h => SqL.of (h.1 _ _ hl)) ?_ ?_
      · rintro i x σ H1 H2 hi ⟨sm, ⟨x', y', rfl⟩, hf, hp⟩ ⟨T', y1, y2, rfl, hT, rfl, e1, e2⟩
        cases e1
        have sm2 := sm.trans (same_upd (o := .tup [.int (i : Nat), y2]) hT)
        have hl2 := sm2 _ _ hl
        have hx : xs[i]? = some y2 := e2
        have ex : xs.length - i = (xs.length - (i + 1)) + 1 := by omega
        have hy : Any (upd H1 T' (.tup [.int (i : Nat), y2])) y2 := (ha _ (List.mem_of_getElem? hx)).same sm2
        have pr : prob xs i = probV i xs[i - 1]? y2 := by
          unfold prob
          rw [hx]
        have jd : ∀ z, prob xs i = some z → judge (some xs) = some (z, i) := fun z e => by
          show wrong xs = _
          unfold wrong
          rw [hf, ex, first_hit e]
        have nx : prob xs i = none → firstFrom xs 0 xs.length = firstFrom xs (i + 1) (xs.length - (i + 1)) := fun e => by rw [hf, ex, first_skip e]
        refine ⟨T', _, rfl, .inl (.inl upd_same), rfl, _, _, rfl, _, _, rfl, rfl, ?_⟩
        generalize (upd H1 T' (.tup [.int (i : Nat), y2])) = G at *
        obtain ⟨Ty, ty, k1, k2, _⟩ := hy.ty (K := K)
        refine ⟨_, rfl, _, _, _, _, _, rfl, .ty "int", ty, kit_ty k1, _, rfl, ?_⟩
        cases y2 with
        | int z =>
          refine iteF ⟨_, rfl, _, _, _, _, _, rfl, .ty "bool", ty, kit_ty k2, _, rfl, iteF ⟨_, rfl, _, _, rfl, rfl, _, rfl, ?_⟩⟩
          by_cases h1 : (1 : Int) ≤ z
          · refine ifT (decide_eq_true h1) ⟨_, _, rfl, rfl, ⟨by decide, by decide, by decide⟩, _, _, rfl, rfl, _, rfl, ?_⟩
            by_cases h2 : z ≤ 10 ^ (9 : Int).toNat
            · refine ifF (by rw [decide_eq_true h2]; rfl) ?_
              have h2' : z ≤ 1000000000 := h2
              have pz : probV i xs[i - 1]? (.int z) = (if i = 0 then (if z = 1 then none else some ("first" : Str)) else probB z xs[i - 1]?) := if_pos ⟨h1, h2'⟩
              rw [pz] at pr
              refine ⟨_, rfl, rfl, _, rfl, ?_⟩
              by_cases h0 : i = 0
              · subst h0
                rw [if_pos rfl] at pr
                refine ifT (vT rfl) ⟨_, rfl, rfl, _, rfl, ?_⟩
                by_cases hz : z = 1
                · rw [if_pos hz] at pr
                  refine ifF (by rw [vT hz]; rfl) ⟨_, rfl, _, _, rfl, rfl, _, rfl, ifF (decide_eq_false (by decide)) ?_⟩
                  exact ⟨sm2, ⟨_, _, rfl⟩, nx pr, fun _ => pr⟩
                · rw [if_neg hz] at pr
                  exact ifT (by rw [vF hz]; rfl) ⟨two, fun t ht => bad sm2 (jd _ pr) rfl t ht⟩
              · rw [if_neg h0] at pr
                obtain ⟨b, hb1, hb2, _⟩ := prob_int (xs := xs) (p := i - 1) (by omega) (hp (by omega))
                rw [hb1] at pr
                have pr2 : prob xs i = (if z ≤ b ∨ z % b ≠ 0 then some ("multiple" : Str) else none) := pr
                have hat : atI xs ((i : Int) - 1) = some (.int b) := by
                  rw [show ((i : Int) - 1) = ((i - 1 : Nat) : Int) by omega]
                  exact atI_nat hb1
                refine ifF (vF (by omega)) ⟨_, rfl, _, _, rfl, rfl, _, rfl, ifT (decide_eq_true (by omega)) ?_⟩
                refine ⟨_, rfl, _, rfl, _, rfl, _, _, rfl, rfl, a, _, _, _, rfl, rfl, SqL.of hl2, hat, _, _, rfl, rfl, _, rfl, ?_⟩
                by_cases h3 : z ≤ b
                · rw [if_pos (Or.inl h3)] at pr2
                  exact ifT (decide_eq_true h3) ⟨_, rfl, two, fun t ht => bad sm2 (jd _ pr2) rfl t ht⟩
                · refine ifF (decide_eq_false h3) ⟨_, rfl, _, rfl, _, rfl, _, _, rfl, rfl, a, _, _, _, rfl, rfl, SqL.of hl2, hat, _, _, rfl, rfl, (by show (0 : Int) < b; omega), rfl, _, rfl, ?_⟩
                  by_cases h4 : z % b = 0
                  · rw [if_neg fun zz => zz.elim h3 fun y => y h4] at pr2
                    exact ifF (by rw [vT h4]; rfl) ⟨sm2, ⟨_, _, rfl⟩, nx pr2, fun _ => pr2⟩
                  · rw [if_pos (Or.inr h4)] at pr2
                    exact ifT (by rw [vF h4]; rfl) ⟨_, rfl, two, fun t ht => bad sm2 (jd _ pr2) rfl t ht⟩
            · have pn : prob xs i = some ("number" : Str) := by
                rw [pr]
                exact if_neg fun zz => h2 zz.2
              exact ifT (by rw [decide_eq_false h2]; rfl) ⟨_, rfl, two, fun t ht => bad sm2 (jd _ pn) rfl t ht⟩
          · have pn : prob xs i = some ("number" : Str) := by
              rw [pr]
              exact if_neg fun zz => h1 zz.1
            exact ifF (decide_eq_false h1) ⟨_, rfl, iteT ⟨_, rfl, two, fun t ht => bad sm2 (jd _ pn) rfl t ht⟩⟩
        | bl b => exact iteF ⟨_, rfl, _, _, _, _, _, rfl, .ty "bool", ty, kit_ty k2, _, rfl, iteT ⟨_, rfl, two, fun t ht => bad sm2 (jd _ pr) rfl t ht⟩⟩
        | _ => exact iteT ⟨_, rfl, two, fun t ht => bad sm2 (jd _ pr) rfl t ht⟩
      · rintro σ H' ⟨sm, ⟨x, y, rfl⟩, hf, hp⟩
        rw [Nat.sub_self] at hf
        have hw : wrong xs = if 1 ≤ xs.length ∧ xs.length ≤ 8 then none else some (("count" : Str), 0) := by
          unfold wrong
          rw [hf]
          rfl
        have cnt : ¬ (1 ≤ xs.length ∧ xs.length ≤ 8) → judge (some xs) = some (("count" : Str), 0) := fun n => by
          show wrong xs = _
          rw [hw, if_neg n]
        refine ⟨_, rfl, a, _, rfl, .inl (SqL.of (sm _ _ hl)), _, _, rfl, rfl, _, rfl, ?_⟩
        by_cases h1 : (1 : Int) ≤ (xs.length : Int)
        · refine ifT (decide_eq_true h1) ⟨_, _, rfl, rfl, _, rfl, ?_⟩
          by_cases h2 : (xs.length : Int) ≤ 8
          · refine ifT (decide_eq_true h2) (q1 ?_ _ sm)
            show wrong xs = none
            rw [hw, if_pos ⟨by omega, by omega⟩]
          · exact ifF (decide_eq_false h2) ⟨two, fun t ht => bad sm (cnt (by omega)) rfl t ht⟩
        · exact ifF (decide_eq_false h1) ⟨_, rfl, iteF ⟨two, fun t ht => bad sm (cnt (by omega)) rfl t ht⟩⟩
end
end K12

set_option Elab.async false
set_option linter.all false
set_option maxRecDepth 100000
set_option maxHeartbeats 4000000
namespace K12
open PySem PySem.Spec PyProof.Rows L2 Gu Ex
def t_suite (K : PySem.W.Frag) (a : Addr) (cls : Value) (d : Option Addr) : TS :=
  tIfS (tAnd (tB (tCB (rIsX K (cE K) a cls d) (tCons (tVar 2) (tCons (tC (.ref (He.ga K "RoomError"))) tNil))))
      (tNot (tB (tCB (rIsXT K (cE K) a cls d) (tCons (tVar 2) (tCons (tTup (tCons (tC (.ref (He.ga K "InvalidCount"))) (tCons (tC (.ref (He.ga K "InvalidLevel"))) (tCons (tC (.ref (He.ga K "InvalidNumber"))) (tCons (tC (.ref (He.ga K "InvalidNumbers"))) tNil))))) tNil))))))
    (tAsg (tTup (tCons (tXf a cls d (cE K) "problem" (tVar 2)) (tCons (tXf a cls d (cE K) "position" (tVar 2)) tNil))) (gName 1)) tNext
section
variable {P : Program} {w : World} {K : PySem.W.Frag} {mg : Str → Option Value} {base : Heap} {f : Addr} {fd : FuncData}
def spTold (K : PySem.W.Frag) : Sp := fun vs H Q _ => ∃ (v : V) (o : Option (List V)), vs = [v] ∧ Cand K H v o ∧
  (∀ xs t l H', o = some xs → judge o = none → H t = none → H l = none → Same H H' → H' l = some (.lst xs) → H' t = some (.tup [.str "sizes", .ref l]) → Q (.ref t) H') ∧
  (∀ s p t H', judge o = some (s, p) → H t = none → Same H H' → H' t = some (.tup [.str s, .int (p : Nat)]) → Q (.ref t) H')
theorem Cand.same {H H' : Hp} {v : V} {o : Option (List V)} (h : Cand K H v o) (s : Same H H') : Cand K H' v o := by
  cases h with
  | other an nl =>
    refine .other (an.same s) (fun a xs e z => ?_)
    cases an with
    | lst e2 => exact nl _ _ rfl e2
    | tup e2 =>
      cases e
      rw [s _ _ e2] at z
      cases z
    | dct e2 =>
      cases e
      rw [s _ _ e2] at z
      cases z
    | _ => cases e
  | list hl ln ha => exact .list (s _ _ hl) ln fun v hv => (ha v hv).same s
theorem sc_told : FnScope ["_law_some", "_law_told_here", "e"] ["_law_some"] (defScope (top 19)) := ⟨rfl, rfl, rfl, by decide +kernel, rfl, by decide +kernel, by decide +kernel⟩
theorem ok_told (T : Tx K mg) (K_Sizes : KfX P w K mg base 5 "Sizes" ["self", "values"] (spMade K)) (M_all_sizes : Mf P w K mg base 1 "Sizes" "all_sizes" ["self"] (spAll K)) (F : FnP K "_law_told" "_law_told" (top 19) f fd) :
    FnOk P w K mg base CX0 8 f fd ["_law_some"] (spTold K) := by
  refine F.ok sc_told (fun vs H Q E h => ?_) (fun cdv A outer s H vs Q E hr h => ⟨_, PSs.nox (pss_cons (ps_set (i := 1) sc_told.nd rfl (Or.inl rfl) (pe_tup (pa_cons pe_str (pa_cons pe_non pa_nil))))
    (pss_cons (ps_try_as (i := 2) (tb := fun W => tAsg (tTup (tCons (tC (.str "sizes")) (tCons (tMeth (He.ga K "Sizes") "all_sizes" (spAll K) [] E0 (tMakeT (He.ga K "Sizes") (spMade K) (WE W) (tCons (tVar 0) tNil)) tNil) tNil))) (gName 1)) (ts := t_suite K) (Wout := fun _ _ _ _ => False)
        rfl rfl sc_told.nd rfl rfl ⟨rfl, by decide, Or.inl T.g_InvalidSizes⟩ takes0
      (fun W pn xe tk _ => pss_one (ps_set (i := 1) sc_told.nd rfl (Or.inl rfl) (by exact (pe_tup (pa_cons pe_str (pa_cons (by exact (pmeth0 M_all_sizes hr (by exact (pmakeT K_Sizes hr tk (pa_cons (pv 0) pa_nil))))) pa_nil))))))
      (fun a oe cls d pn hz hf => pss_one (ps_if (PW.pt (pw_and (pt_val (by exact (pe_callB (r := rIsX K (cE K) a cls d) (id := "isinstance") (call_isX T.ec hz hf) (by rfl) T.n_isinstance (by decide +kernel) (by exact (pa_cons (pv 2) (pa_cons (pe_glob (v := .ref _) rfl T.g_RoomError rfl) pa_nil))))))
          (pw_and1 (pt_not (pt_val (by exact (pe_callB (r := rIsXT K (cE K) a cls d) (id := "isinstance") (call_isXT T.ec hz hf) (by rfl) T.n_isinstance (by decide +kernel) (by exact (pa_cons (pv 2) (pa_cons (pe_tup (pa_cons (pe_glob (v := .ref _) rfl T.g_InvalidCount rfl) (pa_cons (pe_glob (v := .ref _) rfl T.g_InvalidLevel rfl) (pa_cons (pe_glob (v := .ref _) rfl T.g_InvalidNumber rfl) (pa_cons (pe_glob (v := .ref _) rfl T.g_InvalidNumbers rfl) pa_nil))))) pa_nil))))))))))
        (pss_one (ps_set (i := 1) sc_told.nd rfl (Or.inl rfl) (by exact (pe_tup (pa_cons (pe_xf T.xf T.noP hz hf (pv 2)) (pa_cons (pe_xf T.xf T.noQ hz hf (pv 2)) pa_nil))))))
        pss_nil)))
    (pss_one (ps_ret (pv 1))))), ?_⟩)
  · obtain ⟨v, o, rfl, _⟩ := h
    rfl
  · obtain ⟨v, o, rfl, hc, q1, q2⟩ := h
    have two : 2 ≤ sizeLine := by decide
    refine ⟨two, fun t0 h0 => ?_⟩
    have sm0 := same_upd (o := .tup [.str "other", .non]) h0
    refine ⟨_, rfl, fun x dx hx hdx ne => ?_⟩
    have smA : Same H (upd (upd (upd H t0 (.tup [.str "other", .non])) dx (.own x)) x (.ins (He.ga K "Sizes") dx [])) := (sm0.trans (same_upd hdx)).trans (same_upd (by rw [upd_ne (Ne.symm ne)]; exact hx))
    refine ⟨x, dx, v, o, rfl, upd_same, hc.same smA, fun xs ho hw l hl => ⟨rfl, ?_⟩, fun z p hj dd H1 hdd sm hx1 => ?_⟩
    · have nx : H x = none := sm0.free hx
      have smB := smA.trans (same_upd (o := .lst xs) hl)
      have lx : l ≠ x := fun z => by
        rw [z, upd_same] at hl
        cases hl
      have hG : (upd (upd (upd (upd H t0 (.tup [.str "other", .non])) dx (.own x)) x (.ins (He.ga K "Sizes") dx [])) l (.lst xs)) l = some (.lst xs) := upd_same
      generalize (upd (upd (upd (upd H t0 (.tup [.str "other", .non])) dx (.own x)) x (.ins (He.ga K "Sizes") dx [])) l (.lst xs)) = G at smB hG ⊢
      have smC : Same H (upd G x (.ins (He.ga K "Sizes") dx (szF l))) := fun b ob e => by
        rw [upd_ne (ne_of_none e nx)]
        exact smB b ob e
      refine ⟨x, dx, _, rfl, upd_same, szF_no l rfl, x, xs, rfl, ⟨dx, l, upd_same, by rw [upd_ne lx]; exact hG⟩, fun l2 hl2 => ⟨two, fun t ht => ⟨_, rfl, ?_⟩⟩⟩
      have smD := smC.trans (same_upd (o := .lst xs) hl2)
      refine q1 xs t l2 _ ho (by rw [ho]; exact hw) (smD.free ht) (smC.free hl2) (smD.trans (same_upd ht)) ?_ upd_same
      rw [upd_ne (ne_of_none (o := .lst xs) upd_same ht)]
      exact upd_same
    · have sm2' := smA.trans sm
      refine ⟨true, T.em, fun _ a0 ha0 => ?_, fun zz => Bool.noConfusion zz⟩
      refine ⟨_, rfl, _, _, _, dd, _, rfl, rfl, rfl, .own _, hx1, T.kR, _, rfl, iteT ?_⟩
      refine ⟨_, rfl, (by show 4 ≤ sizeLine; decide), fun tp htp => ?_⟩
      have sm2 := same_upd (o := .tup [.ref (He.ga K "InvalidCount"), .ref (He.ga K "InvalidLevel"), .ref (He.ga K "InvalidNumber"), .ref (He.ga K "InvalidNumbers")]) htp
      refine ⟨tp, _, _, _, dd, _, rfl, rfl, rfl, upd_same, .cons (.own _) (.cons (.own _) (.cons (.own _) (.cons (.own _) .nil))), sm2 _ _ hx1, T.kO, _, rfl, iteT ?_⟩
      refine ⟨_, rfl, rfl, rfl, dd, _, .str z, rfl, sm2 _ _ hx1, rfl, _, rfl, rfl, rfl, dd, _, .int p, rfl, sm2 _ _ hx1, (by simp [List.lookup]), two, fun t ht => ?_⟩
      have sm3 := sm2'.trans sm2
      exact ⟨_, rfl, q2 z p t _ hj (sm3.free ht) (sm3.trans (same_upd ht)) upd_same⟩
end
end K12

set_option Elab.async false
set_option linter.all false
set_option maxRecDepth 100000
set_option maxHeartbeats 4000000
namespace K12
open PySem PySem.Spec PyProof.Rows L2 Gu Ex
/-- a value that stays what it is while only the drawing list changes -/
def Val (K : PySem.W.Frag) (r : Addr) (H : Hp) (v : V) : Prop := ∀ H', Stp r H H' → Any H' v ∧ ∃ d, Tq K H' v d 2 2000
theorem Val.step {K : PySem.W.Frag} {r : Addr} {H H1 : Hp} {v : V} (h : Val K r H v) (s : Stp r H H1) : Val K r H1 v := fun H' t => h H' (s.trans t)
theorem Stp.put {r D : Addr} {H H1 : Hp} {o : HO} (a : Stp r H H1) (h0 : H D = none) (ne : D ≠ r) : Stp r H (upd H1 D o) := by
  obtain ⟨⟨x, y, e, z⟩, k⟩ := a
  refine ⟨⟨x, y, by rw [upd_ne ne.symm]; exact e, z⟩, fun b u n e2 => ?_⟩
  rw [upd_ne (ne_of_none e2 h0)]
  exact k b u n e2
section
variable {K : PySem.W.Frag} {r p : Addr} {H : Hp}
theorem val_ints {ms : List Int} (ne : p ≠ r) (h : H p = some (.lst (ms.map V.int))) (hl : ms.length ≤ 40) (hb : ∀ x ∈ ms, -(10 ^ 39) ≤ x ∧ x ≤ 10 ^ 39) : Val K r H (.ref p) := fun H' st => by
  have h' := st.2 p _ ne h
  obtain ⟨ds, t⟩ := tq_all (K := K) (H := H') (n := 0) (m := 41) (xs := ms.map V.int) (fun v hv => by
    obtain ⟨x, hx, rfl⟩ := List.mem_map.mp hv
    exact ⟨_, tq_int (hb x hx).1 (hb x hx).2⟩)
  exact ⟨.lst h', _, (t.lst h').mono (by decide) (by rw [List.length_map]; omega)⟩
theorem val_tints {ms : List Int} (ne : p ≠ r) (h : H p = some (.tup (ms.map V.int))) (hl : ms.length ≤ 40) (hb : ∀ x ∈ ms, -(10 ^ 39) ≤ x ∧ x ≤ 10 ^ 39) : Val K r H (.ref p) := fun H' st => by
  have h' := st.2 p _ ne h
  obtain ⟨ds, t⟩ := tq_all (K := K) (H := H') (n := 0) (m := 41) (xs := ms.map V.int) (fun v hv => by
    obtain ⟨x, hx, rfl⟩ := List.mem_map.mp hv
    exact ⟨_, tq_int (hb x hx).1 (hb x hx).2⟩)
  exact ⟨.tup h', _, (t.tup h').mono (by decide) (by rw [List.length_map]; omega)⟩
theorem val_int {x : Int} (h1 : -(10 ^ 39) ≤ x) (h2 : x ≤ 10 ^ 39) : Val K r H (.int x) := fun _ _ => ⟨.int x, _, (tq_int h1 h2).mono (by decide) (by decide)⟩
theorem val_non : Val K r H .non := fun _ _ => ⟨.non, _, tq_non.mono (by decide) (by decide)⟩
theorem val_bl (b : Bool) : Val K r H (.bl b) := fun _ _ => ⟨.bl b, _, (tq_bl b).mono (by decide) (by decide)⟩
theorem val_text (z : String) (h1 : (Str.ofString z).length ≤ 1000 := by decide +kernel) (h2 : (reprText (Str.ofString z)).length ≤ 41 := by decide +kernel) : Val K r H (.str (Str.ofString z)) := fun _ _ => ⟨.str _ ⟨h1, fun c hc => code_lt hc⟩, _, (tq_text z h2).mono (by decide) (by decide)⟩
theorem val_dct (ne : p ≠ r) (h : H p = some (.dK [])) : Val K r H (.ref p) := fun H' st => by
  have h' := st.2 p _ ne h
  exact ⟨.dct h', _, (tq_dct h').mono (by decide) (by decide)⟩
end
section
variable {P : Program} {w : World} {K : PySem.W.Frag} {mg : Str → Option Value} {base : Heap} {f : Addr} {fd : FuncData}
def spLen (K : PySem.W.Frag) : Sp := fun vs H Q _ => ∃ (p : Addr) (xs : List V), vs = [.ref p] ∧ SzAt (He.ga K "Sizes") H p xs ∧ Q (.int xs.length) H
theorem sc___len__ : FnScope ["self"] ["self"] (defScope (inClass (top 12) 6)) := ⟨rfl, rfl, rfl, by decide +kernel, rfl, by decide +kernel, by decide +kernel⟩
theorem ok_len (T : Tx K mg) (F : FnP K "__len__" "Sizes.__len__" (inClass (top 12) 6) f fd) : FnOk P w K mg base CX0 1 f fd ["self"] (spLen K) := by
  refine F.ok sc___len__ (fun vs H Q E h => ?_) (fun cdv A outer s H vs Q E hr h => ⟨_, PSs.nox (pss_one (ps_ret (pe_callB call_len_seq (by rfl) T.n_len (by decide +kernel) (pa_cons (pe_fld (pv 0) rfl) pa_nil)))), ?_⟩)
  · obtain ⟨p, xs, rfl, _⟩ := h
    rfl
  · obtain ⟨p, xs, rfl, ⟨dx, l, h1, h2⟩, q⟩ := h
    exact ⟨_, rfl, p, _, dx, _, _, rfl, h1, T.cl, T.nSL, szF_get l, l, _, rfl, .inl (SqL.of h2), q⟩
def nearI : List Int := [1, 2, 3, 6, 10 ^ (9 : Int).toNat, 10 ^ (9 : Int).toNat + 1, 10 ^ (12 : Int).toNat, 10 ^ (30 : Int).toNat, 0, -1, -2]
def spOdd (K : PySem.W.Frag) : Sp := fun vs H Q _ => ∃ (r l : Addr) (ns : List Int), vs = [.ref r, .ref l] ∧ Rng H r ∧ H l = some (.lst (ns.map V.int)) ∧ l ≠ r ∧ ns.length ≤ 12 ∧ (∀ x ∈ ns, 1 ≤ x ∧ x ≤ 1000000000) ∧ ∀ v H', Stp r H H' → Val K r H' v → Q v H'
theorem sc__law_odd : FnScope ["_law_rng_here", "_law_some", "_law_near", "_law_odd_here", "_law_one"] ["_law_rng_here", "_law_some"] (defScope (top 20)) := ⟨rfl, rfl, rfl, by decide +kernel, rfl, by decide +kernel, by decide +kernel⟩
theorem ok_odd (T : Tx K mg) (D__law_draw : Df P w K mg base 1 "_law_draw" ["_law_rng_here", "_law_many"] spDraw) (D__law_choice : Df P w K mg base 2 "_law_choice" ["_law_rng_here", "_law_options"] spChoice) (F : FnP K "_law_odd" "_law_odd" (top 20) f fd) :
    FnOk P w K mg base CX0 3 f fd ["_law_rng_here", "_law_some"] (spOdd K) := by
  refine F.ok sc__law_odd (fun vs H Q E h => ?_) (fun cdv A outer s H vs Q E hr h => ⟨_, PSs.nox (pss_cons (ps_set (i := 2) sc__law_odd.nd rfl (by first | exact Or.inl rfl | exact Or.inr rfl) (pe_lst (pa_cons pe_int (pa_cons pe_int (pa_cons pe_int (pa_cons pe_int (pa_cons (pe_op op_pow pe_int pe_int) (pa_cons (pe_op op_add (pe_op op_pow pe_int pe_int) pe_int) (pa_cons (pe_op op_pow pe_int pe_int) (pa_cons (pe_op op_pow pe_int pe_int) (pa_cons pe_int (pa_cons (pe_un un_neg pe_int) (pa_cons (pe_un un_neg pe_int) pa_nil))))))))))))) (pss_cons (ps_set (i := 2) sc__law_odd.nd rfl (by first | exact Or.inl rfl | exact Or.inr rfl) (pe_op op_cat (pe_op op_cat (pv 2) (pe_lc (own := [("_law_one", 4)]) (g := gName 4) rfl sc__law_odd.nd (pi_list (pv 1)) (blkOk_by (own := [("_law_one", 4)]) (N := ["_law_rng_here", "_law_some", "_law_near", "_law_odd_here", "_law_one"]) (sc := defScope (top 20)) (by decide +kernel)) (fun _ _ _ _ _ => pg_name (i := 4) sc__law_odd.nd rfl (Or.inl rfl)) (fun _ _ _ _ _ => pts_nil) (fun _ _ _ _ _ => (pe_op op_add (pv 4) (pcall D__law_draw hr (pa_cons (pv 0) (pa_cons pe_int pa_nil))))))) (pe_lc (own := [("_law_one", 4)]) (g := gName 4) rfl sc__law_odd.nd (pi_list (pv 1)) (blkOk_by (own := [("_law_one", 4)]) (N := ["_law_rng_here", "_law_some", "_law_near", "_law_odd_here", "_law_one"]) (sc := defScope (top 20)) (by decide +kernel)) (fun _ _ _ _ _ => pg_name (i := 4) sc__law_odd.nd rfl (Or.inl rfl)) (fun _ _ _ _ _ => pts_nil) (fun _ _ _ _ _ => (pe_op op_mul (pv 4) (pcall D__law_draw hr (pa_cons (pv 0) (pa_cons pe_int pa_nil)))))))) (pss_cons (ps_set (i := 3) sc__law_odd.nd rfl (by first | exact Or.inl rfl | exact Or.inr rfl) (pe_lst (pa_cons pe_non (pa_cons pe_bl (pa_cons pe_bl (pa_cons pe_str (pa_cons pe_str (pa_cons (pe_lst pa_nil) (pa_cons (pe_lst (pa_cons pe_int pa_nil)) (pa_cons (pe_tup (pa_cons pe_int pa_nil)) (pa_cons pe_dnewK (pa_cons (pe_tup pa_nil) (pa_cons (pv 2) pa_nil))))))))))))) (pss_one (ps_ret (pe_ifExp (pt_cmpR op_gt (pcall D__law_draw hr (pa_cons (pv 0) (pa_cons pe_int pa_nil))) pe_int (nomark _)) (pcall D__law_choice hr (pa_cons (pv 0) (pa_cons (pv 2) pa_nil))) (pcall D__law_choice hr (pa_cons (pv 0) (pa_cons (pv 3) pa_nil))))))))), ?_⟩)
  · obtain ⟨r, l, ns, rfl, _⟩ := h
    rfl
  · obtain ⟨r, l, ns, rfl, hR, hL, nl, hlen, hns, q⟩ := h
    have big : (10 : Int) ^ 40 = 10000000000000000000000000000000000000000 := by decide
    have b39 : (10 : Int) ^ 39 = 1000000000000000000000000000000000000000 := by decide
    have sl : sizeLine = 16777216 := sizeLine_eq
    have pw9 : CPow 10 9 := ⟨by decide, by decide, by decide⟩
    have pw12 : CPow 10 12 := ⟨by decide, by decide, by decide⟩
    have pw30 : CPow 10 30 := ⟨by decide, by decide, by decide⟩
    refine ⟨_, _, rfl, rfl, pw9, _, _, rfl, rfl, pw9, _, _, rfl, rfl, _, _, rfl, rfl, pw12, _, _, rfl, rfl, pw30, _, rfl, _, rfl, (by show 11 ≤ sizeLine; decide), fun p0 h0 => ?_⟩
    have s0 := (Stp.refl hR).new (o := .lst (nearI.map V.int)) h0
    have n0 : p0 ≠ r := (hR.ne h0).symm
    have e0 : (upd H p0 (.lst (nearI.map V.int))) p0 = some (.lst (nearI.map V.int)) := upd_same

    refine ⟨_, rfl, _, rfl, l, rfl, ⟨_, SqL.of (s0.2 l _ nl hL)⟩, fun D hD => ?_⟩
    change (upd H p0 (.lst (nearI.map V.int))) D = none at hD
    have nD : D ≠ r := (s0.1.ne hD).symm
    refine lc_list (K := K) (a := l) (xs := ns.map V.int) (fun i G => ∃ ms : List Int, ms.length = i ∧ G D = some (.lst (ms.map V.int)) ∧ (∀ x ∈ ms, 0 ≤ x ∧ x ≤ 4000000000) ∧ Stp r (upd H p0 (.lst (nearI.map V.int))) G)
      ⟨[], rfl, upd_same, fun x hx => absurd hx List.not_mem_nil, s0.1.elim fun _ _ => (Stp.refl s0.1).new hD⟩ (fun i G _ hh => ?_) ?_ ?_
    · obtain ⟨_, _, _, _, st⟩ := hh
      exact SqL.of (st.2 l _ nl (s0.2 l _ nl hL))
    · rintro i x G hx ⟨ms, hm, hG, hb, st⟩
      have hi : i < ns.length := by
        have := (List.getElem?_eq_some_iff.mp hx).1
        rwa [List.length_map] at this
      obtain ⟨y, hy, rfl⟩ := List.mem_map.mp (List.mem_of_getElem? hx)
      have yb := hns y hy
      refine ⟨rfl, _, rfl, _, rfl, r, 3, rfl, st.1, by decide, by omega, fun d G1 d0 d1 t1 => ?_⟩
      refine ⟨_, _, rfl, rfl, _, t1.2 D _ nD hG, (by rw [List.length_map]; omega), ms ++ [y + d], by rw [List.length_append, hm]; rfl, by rw [upd_same, List.map_append]; rfl, fun z hz => ?_, ?_⟩
      · rcases List.mem_append.mp hz with zz | zz
        · exact hb z zz
        · rw [List.mem_singleton.mp zz]
          omega
      · exact (st.trans t1).put hD nD
    rintro G1 ⟨ms1, hm1, hG1, hb1, st1⟩
    rw [List.length_map] at hm1
    refine ⟨p0, D, _, _, rfl, rfl, st1.2 p0 _ n0 e0, hG1, (by rw [List.length_map, List.length_map]; have : nearI.length = 11 := rfl; omega), fun p1 h1 => ?_⟩
    have n1 : p1 ≠ r := (st1.1.ne h1).symm
    have s1 := (s0.trans st1).new (o := .lst (nearI.map V.int ++ ms1.map V.int)) h1
    generalize eG : upd G1 p1 (.lst (nearI.map V.int ++ ms1.map V.int)) = G2 at s1
    have e1 : G2 p1 = some (.lst (nearI.map V.int ++ ms1.map V.int)) := by rw [← eG]; exact upd_same
    refine ⟨_, rfl, l, rfl, ⟨_, SqL.of (s1.2 l _ nl hL)⟩, fun D2 hD2 => ?_⟩
    have nD2 : D2 ≠ r := (s1.1.ne hD2).symm
    refine lc_list (K := K) (a := l) (xs := ns.map V.int) (fun i G => ∃ ms : List Int, ms.length = i ∧ G D2 = some (.lst (ms.map V.int)) ∧ (∀ x ∈ ms, 0 ≤ x ∧ x ≤ 4000000000) ∧ Stp r G2 G)
      ⟨[], rfl, upd_same, fun x hx => absurd hx List.not_mem_nil, (Stp.refl s1.1).new hD2⟩ (fun i G _ hh => ?_) ?_ ?_
    · obtain ⟨_, _, _, _, st⟩ := hh
      exact SqL.of (st.2 l _ nl (s1.2 l _ nl hL))
    · rintro i x G hx ⟨ms, hm, hG, hb, st⟩
      have hi : i < ns.length := by
        have := (List.getElem?_eq_some_iff.mp hx).1
        rwa [List.length_map] at this
      obtain ⟨y, hy, rfl⟩ := List.mem_map.mp (List.mem_of_getElem? hx)
      have yb := hns y hy
      refine ⟨rfl, _, rfl, _, rfl, r, 4, rfl, st.1, by decide, by omega, fun d G1 d0 d1 t1 => ?_⟩
      refine ⟨_, _, rfl, rfl, .inl ⟨by omega, by omega⟩, _, t1.2 D2 _ nD2 hG, (by rw [List.length_map]; omega), ms ++ [y * d], by rw [List.length_append, hm]; rfl, by rw [upd_same, List.map_append]; rfl, fun z hz => ?_, ?_⟩
      · rcases List.mem_append.mp hz with zz | zz
        · exact hb z zz
        · rw [List.mem_singleton.mp zz]
          have z1 := Int.mul_nonneg (show 0 ≤ y by omega) d0
          have z2 := Int.mul_le_mul_of_nonneg_left (show d ≤ 4 by omega) (show 0 ≤ y by omega)
          omega
      · exact (st.trans t1).put hD2 nD2
    rintro G3 ⟨ms2, hm2, hG3, hb2, st3⟩
    rw [List.length_map] at hm2
    refine ⟨p1, D2, _, _, rfl, rfl, st3.2 p1 _ n1 e1, hG3, (by rw [List.length_append, List.length_map, List.length_map, List.length_map]; have : nearI.length = 11 := rfl; omega), fun p2 h2 => ?_⟩
    have n2 : p2 ≠ r := (st3.1.ne h2).symm
    have eN : nearI.map V.int ++ ms1.map V.int ++ ms2.map V.int = (nearI ++ ms1 ++ ms2).map V.int := by rw [List.map_append, List.map_append]
    rw [eN]
    have nb : ∀ x ∈ nearI ++ ms1 ++ ms2, -(10 ^ 39) ≤ x ∧ x ≤ 10 ^ 39 := fun x hx => by
      rcases List.mem_append.mp hx with z | z
      · rcases List.mem_append.mp z with z | z
        · unfold nearI at z
          simp only [List.mem_cons, List.not_mem_nil, or_false] at z
          rcases z with rfl | rfl | rfl | rfl | rfl | rfl | rfl | rfl | rfl | rfl | rfl <;> exact ⟨by decide, by decide⟩
        · have := hb1 x z
          omega
      · have := hb2 x z
        omega
    have nlen : (nearI ++ ms1 ++ ms2).length ≤ 40 := by
      rw [List.length_append, List.length_append]
      have : nearI.length = 11 := rfl
      omega
    have npos : 1 ≤ (nearI ++ ms1 ++ ms2).length := by
      rw [List.length_append, List.length_append]
      have : nearI.length = 11 := rfl
      omega
    generalize nearI ++ ms1 ++ ms2 = nr at *
    have s4 := (s1.trans st3).new (o := .lst (nr.map V.int)) h2
    have e4 : (upd G3 p2 (.lst (nr.map V.int))) p2 = some (.lst (nr.map V.int)) := upd_same
    generalize (upd G3 p2 (.lst (nr.map V.int))) = G4 at s4 e4 ⊢
    refine ⟨Nat.zero_le _, fun q1 k1 => ?_⟩
    have t1 := s4.new (o := .lst []) k1
    have nq1 : q1 ≠ r := (s4.1.ne k1).symm
    refine ⟨(by show 1 ≤ sizeLine; decide), fun q2 k2 => ?_⟩
    have t2 := t1.new (o := .lst [.int 1]) k2
    have nq2 : q2 ≠ r := (t1.1.ne k2).symm
    refine ⟨(by show 1 ≤ sizeLine; decide), fun q3 k3 => ?_⟩
    have t3 := t2.new (o := .tup [.int 1]) k3
    have nq3 : q3 ≠ r := (t2.1.ne k3).symm
    intro q4 k4
    have t4 := t3.new (o := .dK []) k4
    have nq4 : q4 ≠ r := (t3.1.ne k4).symm
    refine ⟨Nat.zero_le _, fun q5 k5 => ?_⟩
    have t5 := t4.new (o := .tup []) k5
    have nq5 : q5 ≠ r := (t4.1.ne k5).symm
    refine ⟨_, rfl, (by show 11 ≤ sizeLine; decide), fun po ho => ?_⟩
    have npo : po ≠ r := (t5.1.ne ho).symm
    have m1 := same_upd (o := .lst []) k1
    have m2 := same_upd (o := .lst [.int 1]) k2
    have m3 := same_upd (o := .tup [.int 1]) k3
    have m4 := same_upd (o := .dK []) k4
    have m5 := same_upd (o := .tup []) k5
    have m6 := same_upd (o := .lst [.non, .bl true, .bl false, .str "1", .str "", .ref q1, .ref q2, .ref q3, .ref q4, .ref q5, .ref p2]) ho
    have t6 := t5.new (o := .lst [.non, .bl true, .bl false, .str "1", .str "", .ref q1, .ref q2, .ref q3, .ref q4, .ref q5, .ref p2]) ho
    have f1 := ((((m2.trans m3).trans m4).trans m5).trans m6) q1 _ upd_same
    have f2 := (((m3.trans m4).trans m5).trans m6) q2 _ upd_same
    have f3 := ((m4.trans m5).trans m6) q3 _ upd_same
    have f4 := (m5.trans m6) q4 _ upd_same
    have f5 := m6 q5 _ upd_same
    have f0 := (((((m1.trans m2).trans m3).trans m4).trans m5).trans m6) p2 _ e4
    have fo : (upd (upd (upd (upd (upd (upd G4 q1 (.lst [])) q2 (.lst [.int 1])) q3 (.tup [.int 1])) q4 (.dK [])) q5 (.tup [])) po (.lst [.non, .bl true, .bl false, .str "1", .str "", .ref q1, .ref q2, .ref q3, .ref q4, .ref q5, .ref p2])) po = some (.lst [.non, .bl true, .bl false, .str "1", .str "", .ref q1, .ref q2, .ref q3, .ref q4, .ref q5, .ref p2]) := upd_same
    generalize (upd (upd (upd (upd (upd (upd G4 q1 (.lst [])) q2 (.lst [.int 1])) q3 (.tup [.int 1])) q4 (.dK [])) q5 (.tup [])) po (.lst [.non, .bl true, .bl false, .str "1", .str "", .ref q1, .ref q2, .ref q3, .ref q4, .ref q5, .ref p2])) = G at t6 f0 f1 f2 f3 f4 f5 fo ⊢
    have vv : ∀ v ∈ [V.non, .bl true, .bl false, .str "1", .str "", .ref q1, .ref q2, .ref q3, .ref q4, .ref q5, .ref p2], Val K r G v := fun v hv => by
      simp only [List.mem_cons, List.not_mem_nil, or_false] at hv
      rcases hv with rfl | rfl | rfl | rfl | rfl | rfl | rfl | rfl | rfl | rfl | rfl
      · exact val_non
      · exact val_bl _
      · exact val_bl _
      · exact val_text "1"
      · exact val_text ""
      · exact val_ints (ms := []) nq1 f1 (by decide) (fun x hx => absurd hx List.not_mem_nil)
      · exact val_ints (ms := [1]) nq2 f2 (by decide) (fun x hx => by rw [List.mem_singleton.mp hx]; exact ⟨by decide, by decide⟩)
      · exact val_tints (ms := [1]) nq3 f3 (by decide) (fun x hx => by rw [List.mem_singleton.mp hx]; exact ⟨by decide, by decide⟩)
      · exact val_dct nq4 f4
      · exact val_tints (ms := []) nq5 f5 (by decide) (fun x hx => absurd hx List.not_mem_nil)
      · exact val_ints n2 f0 nlen nb
    refine ⟨_, rfl, r, 3, rfl, t6.1, by decide, by omega, fun d G9 d0 d1 t9 => ⟨_, _, rfl, rfl, _, rfl, ite2 (fun _ => ?_) (fun _ => ?_)⟩⟩
    · refine ⟨_, rfl, _, rfl, r, p2, _, rfl, t9.1, t9.2 p2 _ n2 f0, n2, (by rw [List.length_map]; omega), (by rw [List.length_map]; omega), fun v H' hv st => q v H' ((t6.trans t9).trans st) ?_⟩
      obtain ⟨x, hx, rfl⟩ := List.mem_map.mp hv
      exact val_int (nb x hx).1 (nb x hx).2
    · exact ⟨_, rfl, _, rfl, r, po, _, rfl, t9.1, t9.2 po _ npo fo, npo, (by show 1 ≤ 11; decide), (by show 11 ≤ 1000; decide), fun v H' hv st => q v H' ((t6.trans t9).trans st) ((vv v hv).step (t9.trans st))⟩
theorem mem_cut {xs : List V} {lo hi : Option Int} {v : V} (h : v ∈ cutV xs lo hi) : v ∈ xs := List.mem_of_mem_drop (List.mem_of_mem_take h)
end
end K12

set_option Elab.async false
set_option linter.all false
set_option maxRecDepth 100000
set_option maxHeartbeats 4000000
namespace K12
open PySem PySem.Spec PyProof.Rows L2 Gu Ex
/-- the cuts of a list ahead of a place and from a later one on -/
theorem cut_two {xs : List V} {a b : Int} (h0 : 0 ≤ a) (h1 : a ≤ b) : (cutV xs none (some a)).length + (cutV xs (some b) none).length ≤ xs.length := by
  have e1 : (cutV xs none (some a)).length ≤ min a.toNat xs.length := by
    unfold cutV
    refine Nat.le_trans (List.length_take_le _ _) ?_
    show (if a < 0 then (a + (xs.length : Int)).toNat else min a.toNat xs.length) - 0 ≤ _
    rw [if_neg (by omega)]
    omega
  have e2 : (cutV xs (some b) none).length ≤ xs.length - min b.toNat xs.length := by
    unfold cutV
    refine Nat.le_trans (List.length_take_le _ _) ?_
    show xs.length - (if b < 0 then (b + (xs.length : Int)).toNat else min b.toNat xs.length) ≤ _
    rw [if_neg (by omega)]
    omega
  omega
/-- the list that is being bent, at p -/
structure Bt (K : PySem.W.Frag) (r : Addr) (H0 H : Hp) (p : Addr) (xs : List V) (n : Nat) : Prop where
  ne : p ≠ r
  nu : H0 p = none
  at_ : H p = some (.lst xs)
  ln : xs.length ≤ n
  vs : ∀ v ∈ xs, Val K r H v
  st : Stp r H0 H
section
variable {K : PySem.W.Frag} {r p : Addr} {H0 H H' : Hp} {xs : List V} {n : Nat}
theorem Bt.step (b : Bt K r H0 H p xs n) (s : Stp r H H') : Bt K r H0 H' p xs n := ⟨b.ne, b.nu, s.2 p _ b.ne b.at_, b.ln, fun v hv => (b.vs v hv).step s, b.st.trans s⟩
theorem Bt.rng (b : Bt K r H0 H p xs n) : Rng H r := b.st.1
theorem Bt.new {q : Addr} {ys : List V} {m : Nat} (b : Bt K r H0 H p xs n) (hq : H q = none) (hy : ∀ v ∈ ys, Val K r H v) (hl : ys.length ≤ m) : Bt K r H0 (upd H q (.lst ys)) q ys m :=
  have s := (Stp.refl b.rng).new (o := .lst ys) hq
  ⟨(b.rng.ne hq).symm, b.st.free hq, upd_same, hl, fun v hv => (hy v hv).step s, b.st.new hq⟩
theorem Bt.also {q : Addr} {o : HO} (b : Bt K r H0 H p xs n) (hq : H q = none) : Bt K r H0 (upd H q o) p xs n := b.step ((Stp.refl b.rng).new hq)
end
section
variable {P : Program} {w : World} {K : PySem.W.Frag} {mg : Str → Option Value} {base : Heap} {f : Addr} {fd : FuncData}
def spBent (K : PySem.W.Frag) : Sp := fun vs H Q _ => ∃ (r l : Addr) (ns : List Int), vs = [.ref r, .ref l] ∧ Rng H r ∧ H l = some (.lst (ns.map V.int)) ∧ l ≠ r ∧ ns.length ≤ 12 ∧ (∀ x ∈ ns, 1 ≤ x ∧ x ≤ 1000000000) ∧ ∀ p xs H', Bt K r H H' p xs 16 → Q (.ref p) H'
theorem sc__law_bent : FnScope ["_law_rng_here", "_law_some", "_law_found", "_law_turn", "_law_at", "_law_way"] ["_law_rng_here", "_law_some"] (defScope (top 21)) := ⟨rfl, rfl, rfl, by decide +kernel, rfl, by decide +kernel, by decide +kernel⟩
theorem ok_bent (T : Tx K mg) (D__law_draw : Df P w K mg base 1 "_law_draw" ["_law_rng_here", "_law_many"] spDraw) (D__law_odd : Df P w K mg base 3 "_law_odd" ["_law_rng_here", "_law_some"] (spOdd K)) (F : FnP K "_law_bent" "_law_bent" (top 21) f fd) :
    FnOk P w K mg base CX0 4 f fd ["_law_rng_here", "_law_some"] (spBent K) := by
  refine F.ok sc__law_bent (fun vs H Q E h => ?_) (fun cdv A outer s H vs Q E hr h => ⟨_, PSs.nox (pss_cons (ps_set (i := 2) sc__law_bent.nd rfl (by first | exact Or.inl rfl | exact Or.inr rfl) (pe_callTy call_list_of (by rfl) T.n_list (by decide +kernel) (pa_cons (pv 1) pa_nil))) (pss_cons (ps_for PassesOwn.never rfl (pi_range1 rfl T.n_range (pa_cons (pcall D__law_draw hr (pa_cons (pv 0) (pa_cons pe_int pa_nil))) pa_nil)) (pg_name (i := 3) sc__law_bent.nd rfl (by first | exact Or.inl rfl | exact Or.inr rfl)) (pss_cons (ps_par (by rfl) sc__law_bent.nd (i := 4) (j := 5) rfl rfl (by decide) rfl rfl (pa_cons (pcall D__law_draw hr (pa_cons (pv 0) (pa_cons (pe_op op_add (pe_callB call_len_seq (by rfl) T.n_len (by decide +kernel) (pa_cons (pv 2) pa_nil)) pe_int) pa_nil))) (pa_cons (pcall D__law_draw hr (pa_cons (pv 0) (pa_cons pe_int pa_nil))) pa_nil)) (by rfl)) (pss_one (ps_if (pt_cmpR op_eq (pv 5) pe_int (nomark _)) (pss_one (ps_set (i := 2) sc__law_bent.nd rfl (by first | exact Or.inl rfl | exact Or.inr rfl) (pe_op op_cat (pe_slice sl_list (pv 2) po_none (po_some (pv 4))) (pe_slice sl_list (pv 2) (po_some (pe_op op_add (pv 4) pe_int)) po_none)))) (pss_one (ps_if (pt_cmpR op_eq (pv 5) pe_int (nomark _)) (pss_one (ps_set (i := 2) sc__law_bent.nd rfl (by first | exact Or.inl rfl | exact Or.inr rfl) (pe_op op_cat (pe_slice sl_list (pv 2) (po_some (pv 4)) po_none) (pe_slice sl_list (pv 2) po_none (po_some (pv 4)))))) (pss_one (ps_set (i := 2) sc__law_bent.nd rfl (by first | exact Or.inl rfl | exact Or.inr rfl) (pe_op op_cat (pe_op op_cat (pe_slice sl_list (pv 2) po_none (po_some (pv 4))) (pe_lst (pa_cons (pcall D__law_odd hr (pa_cons (pv 0) (pa_cons (pv 1) pa_nil))) pa_nil))) (pe_slice sl_list (pv 2) (po_some (pe_op op_sub (pe_op op_add (pv 4) (pv 5)) pe_int)) po_none)))))))))) (pss_one (ps_ret (pv 2))))), ?_⟩)
  · obtain ⟨r, l, ns, rfl, _⟩ := h
    rfl
  · obtain ⟨r, l, ns, rfl, hR, hL, nl, hlen, hns, q⟩ := h
    have big : (10 : Int) ^ 40 = 10000000000000000000000000000000000000000 := by decide
    have b39 : (10 : Int) ^ 39 = 1000000000000000000000000000000000000000 := by decide
    have sl : sizeLine = 16777216 := sizeLine_eq
    refine ⟨_, rfl, l, _, rfl, .inl (SqL.of hL), fun p hp => ?_⟩
    have s0 := (Stp.refl hR).new (o := .lst (ns.map V.int)) hp
    have b0 : Bt K r H (upd H p (.lst (ns.map V.int))) p (ns.map V.int) 12 := ⟨(hR.ne hp).symm, hp, upd_same, by rw [List.length_map]; exact hlen, fun v hv => by
      obtain ⟨x, hx, rfl⟩ := List.mem_map.mp hv
      have := hns x hx
      exact val_int (by omega) (by omega), s0⟩
    generalize upd H p (.lst (ns.map V.int)) = G0 at b0 s0 ⊢
    refine ⟨_, rfl, r, 4, rfl, s0.1, by decide, by omega, fun d H1 d0 d1 s1 => ⟨d, rfl, by omega, by omega, ?_⟩⟩
    refine for_range (fun i σ G => ∃ (p : Addr) (xs : List V) (x y z : Option V), σ = [some (.ref r), some (.ref l), some (.ref p), x, y, z] ∧ Bt K r H G p xs (12 + i)) ⟨p, _, none, none, none, rfl, b0.step s1⟩ ?_ ?_
    · rintro i σ G hi ⟨p, xs, x, y, z, rfl, b⟩
      have hi4 : i < 4 := by omega
      have xl := b.ln
      refine ⟨_, rfl, _, rfl, p, _, rfl, .inl (SqL.of b.at_), _, _, rfl, rfl, r, _, rfl, b.rng, by omega, by omega, fun at_ G1 a0 a1 t1 => ?_⟩
      refine ⟨_, rfl, r, 4, rfl, t1.1, by decide, by omega, fun way G2 w0 w1 t2 => ⟨_, _, rfl, ?_⟩⟩
      have c := (b.step t1).step t2
      refine ⟨_, rfl, rfl, _, rfl, ?_⟩
      by_cases hw : way = 0
      · refine ifT (vT hw) ?_
        refine ⟨_, rfl, _, rfl, _, rfl, p, _, rfl, SqL.of c.at_, fun q1 k1 => ?_⟩
        have c1 := c.new (m := 16) k1 (ys := cutV xs none (some at_)) (fun v hv => c.vs v (mem_cut hv)) (Nat.le_trans (cutV_length _ _ _) (by omega))
        have c' := c.also (o := .lst (cutV xs none (some at_))) k1
        refine ⟨_, rfl, _, rfl, _, _, rfl, rfl, _, rfl, p, _, rfl, SqL.of c'.at_, fun q2 k2 => ?_⟩
        have c2 := c'.new (m := 16) k2 (ys := cutV xs (some (at_ + 1)) none) (fun v hv => c'.vs v (mem_cut hv)) (Nat.le_trans (cutV_length _ _ _) (by omega))
        have c1' := c1.also (o := .lst (cutV xs (some (at_ + 1)) none)) k2
        have lens := cut_two (xs := xs) a0 (show at_ ≤ at_ + 1 by omega)
        refine ⟨q1, q2, _, _, rfl, rfl, c1'.at_, c2.at_, by omega, fun q3 k3 => ?_⟩
        refine ⟨q3, _, _, _, _, rfl, c2.new k3 (fun v hv => ?_) (by rw [List.length_append]; omega)⟩
        rcases List.mem_append.mp hv with zz | zz
        · exact c1'.vs v zz
        · exact c2.vs v zz
      · refine ifF (vF hw) ⟨_, rfl, rfl, _, rfl, ?_⟩
        by_cases h3 : way = 3
        · refine ifT (vT h3) ?_
          refine ⟨_, rfl, _, rfl, _, rfl, p, _, rfl, SqL.of c.at_, fun q1 k1 => ?_⟩
          have c1 := c.new (m := 16) k1 (ys := cutV xs (some at_) none) (fun v hv => c.vs v (mem_cut hv)) (Nat.le_trans (cutV_length _ _ _) (by omega))
          have c' := c.also (o := .lst (cutV xs (some at_) none)) k1
          refine ⟨_, rfl, _, rfl, _, rfl, p, _, rfl, SqL.of c'.at_, fun q2 k2 => ?_⟩
          have c2 := c'.new (m := 16) k2 (ys := cutV xs none (some at_)) (fun v hv => c'.vs v (mem_cut hv)) (Nat.le_trans (cutV_length _ _ _) (by omega))
          have c1' := c1.also (o := .lst (cutV xs none (some at_))) k2
          have lens := cut_two (xs := xs) a0 (Int.le_refl at_)
          refine ⟨q1, q2, _, _, rfl, rfl, c1'.at_, c2.at_, by omega, fun q3 k3 => ?_⟩
          refine ⟨q3, _, _, _, _, rfl, c2.new k3 (fun v hv => ?_) (by rw [List.length_append]; omega)⟩
          rcases List.mem_append.mp hv with zz | zz
          · exact c1'.vs v zz
          · exact c2.vs v zz
        · refine ifF (vF h3) ?_
          refine ⟨_, rfl, _, rfl, _, rfl, p, _, rfl, SqL.of c.at_, fun q1 k1 => ?_⟩
          have c1 := c.new (m := 16) k1 (ys := cutV xs none (some at_)) (fun v hv => c.vs v (mem_cut hv)) (Nat.le_trans (cutV_length _ _ _) (by omega))
          have c' := c.also (o := .lst (cutV xs none (some at_))) k1
          refine ⟨_, rfl, _, rfl, r, l, ns, rfl, c'.rng, c'.st.2 l _ nl hL, nl, hlen, hns, fun u G3 t3 hu => ?_⟩
          have d1 := c1.step t3
          have d' := c'.step t3
          refine ⟨(by show 1 ≤ sizeLine; decide), fun q4 k4 => ?_⟩
          have d4 := d'.new (m := 1) k4 (ys := [u]) (fun v hv => by rw [List.mem_singleton.mp hv]; exact hu) (by show 1 ≤ 1; decide)
          have e1 := d1.also (o := .lst [u]) k4
          have e' := d'.also (o := .lst [u]) k4
          refine ⟨q1, q4, _, _, rfl, rfl, e1.at_, d4.at_, (by have := e1.ln; rw [List.length_singleton]; omega), fun q5 k5 => ?_⟩
          have lens := cut_two (xs := xs) a0 (show at_ ≤ at_ + way - 1 by omega)
          have f5 := e'.new (m := 17) k5 (ys := cutV xs none (some at_) ++ [u]) (fun v hv => by
            rcases List.mem_append.mp hv with zz | zz
            · exact e1.vs v zz
            · exact d4.vs v zz) (by have := e1.ln; rw [List.length_append, List.length_singleton]; omega)
          have f' := e'.also (o := .lst (cutV xs none (some at_) ++ [u])) k5
          refine ⟨_, rfl, _, rfl, _, rfl, _, _, rfl, rfl, _, _, rfl, rfl, _, rfl, p, _, rfl, SqL.of f'.at_, fun q6 k6 => ?_⟩
          have g6 := f'.new (m := 16) k6 (ys := cutV xs (some (at_ + way - 1)) none) (fun v hv => f'.vs v (mem_cut hv)) (Nat.le_trans (cutV_length _ _ _) (by omega))
          have g5 := f5.also (o := .lst (cutV xs (some (at_ + way - 1)) none)) k6
          refine ⟨q5, q6, _, _, rfl, rfl, g5.at_, g6.at_, (by have := g5.ln; have := g6.ln; omega), fun q7 k7 => ?_⟩
          refine ⟨q7, _, _, _, _, rfl, g6.new k7 (fun v hv => ?_) (by rw [List.length_append, List.length_append, List.length_singleton]; omega)⟩
          rcases List.mem_append.mp hv with zz | zz
          · exact g5.vs v zz
          · exact g6.vs v zz
    · rintro σ G ⟨p, xs, x, y, z, rfl, b⟩
      exact ⟨_, rfl, q p xs G ⟨b.ne, b.nu, b.at_, Nat.le_trans b.ln (by omega), b.vs, b.st⟩⟩
end
end K12

set_option Elab.async false
set_option linter.all false
set_option maxRecDepth 100000
set_option maxHeartbeats 4000000
namespace K12
open PySem PySem.Spec PyProof.Rows L2 Gu Ex
/-- what is asked of one value: no list, or a list with its items, and what repr shows of it -/
inductive Arg (K : PySem.W.Frag) (H : Hp) : V → Option (List V) → PyData → Prop
  | other {v : V} {d : PyData} : Any H v → (∀ a xs, v = .ref a → H a ≠ some (.lst xs)) → Tq K H v d 4 100000 → Arg K H v none d
  | list {a : Addr} {xs : List V} {ds : List PyData} : H a = some (.lst xs) → xs.length ≤ 40 → (∀ v ∈ xs, Any H v) → TqAll K H xs ds 3 2000 → Arg K H (.ref a) (some xs) (.list ds)
section
variable {K : PySem.W.Frag} {H H' : Hp} {v : V} {o : Option (List V)} {d : PyData}
theorem Arg.cand (h : Arg K H v o d) : Cand K H v o := by
  cases h with
  | other a b _ => exact .other a b
  | list a b c _ => exact .list a (Nat.le_trans b (by decide)) c
theorem Arg.tq (h : Arg K H v o d) : Tq K H v d 4 100000 := by
  cases h with
  | other _ _ t => exact t
  | list a b c t => exact (t.lst a).mono (by decide) (by omega)
end
/-- the words of a problem -/
theorem prob_words {xs : List V} {p : Nat} {s : Str} (h : prob xs p = some s) : s = "number" ∨ s = "first" ∨ s = "multiple" := by
  unfold prob at h
  split at h
  · rename_i v _
    unfold probV at h
    split at h
    · split at h
      · split at h
        · split at h
          · cases h
          · exact .inr (.inl (Option.some.inj h).symm)
        · unfold probB at h
          split at h
          · split at h
            · exact .inr (.inr (Option.some.inj h).symm)
            · cases h
          · cases h
      · exact .inl (Option.some.inj h).symm
    · exact .inl (Option.some.inj h).symm
  · cases h
theorem first_words {xs : List V} {s : Str} {q : Nat} : ∀ (n p : Nat), firstFrom xs p n = some (s, q) → (s = "number" ∨ s = "first" ∨ s = "multiple") ∧ q ≤ p + n
  | 0, p, h => by cases h
  | n + 1, p, h => by
    cases e : prob xs p with
    | some z =>
      rw [first_hit e] at h
      cases h
      exact ⟨prob_words e, by omega⟩
    | none =>
      rw [first_skip e] at h
      obtain ⟨a, b⟩ := first_words n (p + 1) h
      exact ⟨a, by omega⟩
theorem judge_words {o : Option (List V)} {s : Str} {p : Nat} (hl : ∀ xs, o = some xs → xs.length ≤ 1000) (h : judge o = some (s, p)) : (s = "list" ∨ s = "number" ∨ s = "first" ∨ s = "multiple" ∨ s = "count") ∧ p ≤ 1000 := by
  cases o with
  | none =>
    cases h
    exact ⟨.inl rfl, by decide⟩
  | some xs =>
    have h2 : wrong xs = some (s, p) := h
    unfold wrong at h2
    split at h2
    · rename_i e he
      cases h2
      obtain ⟨a, b⟩ := first_words _ _ he
      have := hl xs rfl
      refine ⟨?_, by omega⟩
      rcases a with a | a | a
      · exact .inr (.inl a)
      · exact .inr (.inr (.inl a))
      · exact .inr (.inr (.inr (.inl a)))
    · split at h2
      · cases h2
      · cases h2
        exact ⟨.inr (.inr (.inr (.inr rfl))), by decide⟩
theorem Arg.short {K : PySem.W.Frag} {H : Hp} {v : V} {o : Option (List V)} {d : PyData} (h : Arg K H v o d) : ∀ xs, o = some xs → xs.length ≤ 1000 := fun xs e => by
  cases h with
  | other _ _ _ => cases e
  | list a b c _ =>
    cases e
    exact Nat.le_trans b (by decide)
/-- of a right list every element is a whole number -/
theorem first_none {xs : List V} : ∀ (n p : Nat), p + n = xs.length → firstFrom xs p n = none → ∀ i, p ≤ i → i < xs.length → prob xs i = none
  | 0, p, e, _, i, h1, h2 => by omega
  | n + 1, p, e, h, i, h1, h2 => by
    cases g : prob xs p with
    | some z =>
      rw [first_hit g] at h
      cases h
    | none =>
      rw [first_skip g] at h
      by_cases hi : i = p
      · rw [hi]
        exact g
      · exact first_none n (p + 1) (by omega) h i (by omega) h2
theorem all_ints {xs : List V} (hj : judge (some xs) = none) : ∀ v ∈ xs, ∃ z : Int, v = .int z ∧ 1 ≤ z ∧ z ≤ 1000000000 := fun v hv => by
  have h : wrong xs = none := hj
  unfold wrong at h
  split at h
  · cases h
  · rename_i e
    obtain ⟨i, hi, rfl⟩ := List.getElem_of_mem hv
    obtain ⟨z, e1, e2⟩ := prob_int hi (first_none xs.length 0 (by omega) e i (Nat.zero_le _) hi)
    rw [List.getElem?_eq_getElem hi] at e1
    exact ⟨z, Option.some.inj e1, e2⟩
/-- the pair of a problem and a place, shown -/
theorem tq_pair {K : PySem.W.Frag} {H : Hp} {t : Addr} {s : Str} {p : Nat} (hs : s = "list" ∨ s = "number" ∨ s = "first" ∨ s = "multiple" ∨ s = "count") (hp : p ≤ 1000) (h : H t = some (.tup [.str s, .int (p : Nat)])) :
    Tq K H (.ref t) (.tuple [.str s, .int (p : Nat)]) 1 1000 := by
  have b39 : (10 : Int) ^ 39 = 1000000000000000000000000000000000000000 := by decide
  have ti : Tq K H (.int (p : Nat)) (.int (p : Nat)) 0 41 := tq_int (by omega) (by omega)
  have tx : Tq K H (.str s) (.str s) 0 41 := by
    rcases hs with rfl | rfl | rfl | rfl | rfl
    · exact tq_text "list" (by decide +kernel)
    · exact tq_text "number" (by decide +kernel)
    · exact tq_text "first" (by decide +kernel)
    · exact tq_text "multiple" (by decide +kernel)
    · exact tq_text "count" (by decide +kernel)
  have ta : TqAll K H [.str s, .int (p : Nat)] [.str s, .int (p : Nat)] 0 41 := by
    refine ⟨.cons tx.dq (.cons ti.dq .nil), ?_, ?_, ?_⟩
    · show (PyData.showable (.str s) && (PyData.showable (.int (p : Nat)) && true)) = true
      rw [tx.sh, ti.sh]
      rfl
    · exact Nat.le_refl _
    · show ((PyData.str s).shown.length + ((PyData.int (p : Nat)).shown.length + 0)) + 2 * 2 ≤ 2 * (41 + 2)
      have := tx.ln
      have := ti.ln
      omega
  exact (ta.tup h).mono (by decide) (by show 2 * (41 + 2) + 3 ≤ 1000; decide)
/-- the pair of a word and the list, shown -/
theorem tq_made {K : PySem.W.Frag} {H : Hp} {t l : Addr} {xs : List V} {ds : List PyData} (hx : xs.length ≤ 40) (ta : TqAll K H xs ds 3 2000) (hl : H l = some (.lst xs)) (h : H t = some (.tup [.str "sizes", .ref l])) :
    Tq K H (.ref t) (.tuple [.str "sizes", .list ds]) 5 300000 := by
  have tl : Tq K H (.ref l) (.list ds) 4 100000 := (ta.lst hl).mono (by decide) (by omega)
  have tx : Tq K H (.str "sizes") (.str "sizes") 0 41 := tq_text "sizes" (by decide +kernel)
  have tb : TqAll K H [.str "sizes", .ref l] [.str "sizes", .list ds] 4 100000 := by
    refine ⟨.cons tx.dq (.cons tl.dq .nil), ?_, ?_, ?_⟩
    · show (PyData.showable (.str "sizes") && (PyData.showable (.list ds) && true)) = true
      rw [tx.sh, tl.sh]
      rfl
    · show max (PyData.depth (.str "sizes")) (max (PyData.depth (.list ds)) 0) ≤ 4
      have := tl.dp
      have e : PyData.depth (.str "sizes") = 0 := rfl
      omega
    · show ((PyData.str "sizes").shown.length + ((PyData.list ds).shown.length + 0)) + 2 * 2 ≤ 2 * (100000 + 2)
      have := tx.ln
      have := tl.ln
      omega
  exact (tb.tup h).mono (by decide) (by show 2 * (100000 + 2) + 3 ≤ 300000; decide)
/-- data of whole numbers does not look at the heap -/
theorem dq_ints {K : PySem.W.Frag} {H H' : Hp} : ∀ {xs : List V} {ds : List PyData}, DqAll K H xs ds → (∀ v ∈ xs, ∃ z : Int, v = .int z ∧ 1 ≤ z ∧ z ≤ 1000000000) → DqAll K H' xs ds
  | _, _, .nil, _ => .nil
  | _, _, .cons h1 h2, h => by
    obtain ⟨z, rfl, _⟩ := h _ List.mem_cons_self
    cases h1
    exact .cons (.int z) (dq_ints h2 fun v hv => h v (List.mem_cons_of_mem _ hv))
section
variable {P : Program} {w : World} {K : PySem.W.Frag} {mg : Str → Option Value} {base : Heap} {f : Addr} {fd : FuncData}
/-- what stood stands, but for the object at v -/
def But (v : V) (H H' : Hp) : Prop := ∀ b o, v ≠ .ref b → H b = some o → H' b = some o
theorem But.of {v : V} {H H' : Hp} (s : Same H H') : But v H H' := fun b o _ e => s b o e
theorem But.trans {v : V} {H H1 H2 : Hp} (a : But v H H1) (b : But v H1 H2) : But v H H2 := fun c o n e => b c o n (a c o n e)
def spOne (K : PySem.W.Frag) : Sp := fun vs H Q _ => ∃ (v : V) (o : Option (List V)) (d : PyData), vs = [v] ∧ Arg K H v o d ∧ ∀ H', But v H H' → Q (.bl true) H'
theorem sc__law_one_right : FnScope ["_law_some", "_law_told_here", "_law_shown", "_law_due_here", "_law_made"] ["_law_some"] (defScope (top 22)) := ⟨rfl, rfl, rfl, by decide +kernel, rfl, by decide +kernel, by decide +kernel⟩
theorem ok_one (T : Tx K mg) (D__law_due : Df P w K mg base 1 "_law_due" ["_law_some"] (spDue K)) (D__law_told : Df P w K mg base 8 "_law_told" ["_law_some"] (spTold K)) (K_Sizes : KfX P w K mg base 5 "Sizes" ["self", "values"] (spMade K))
    (M_all_sizes : Mf P w K mg base 1 "Sizes" "all_sizes" ["self"] (spAll K)) (M_len : Mf P w K mg base 1 "Sizes" "__len__" ["self"] (spLen K)) (F : FnP K "_law_one_right" "_law_one_right" (top 22) f fd) :
    FnG P w K mg base CX0 9 f fd ["_law_some"] (spOne K) := by
  refine okG F sc__law_one_right (fun vs H Q E h => ?_) (fun cdv A outer s H vs Q E hr h => ⟨_, PSs.nox (pss_cons (ps_par (by rfl) sc__law_one_right.nd (i := 2) (j := 3) rfl rfl (by decide) rfl rfl (pa_cons (pe_callB (call_reprQ hr T.sys) (by rfl) T.n_repr (by decide +kernel) (pa_cons (pv 0) pa_nil)) (pa_cons (pcall D__law_due hr.r (pa_cons (pv 0) pa_nil)) pa_nil)) (by rfl)) (pss_cons (ps_set (i := 1) sc__law_one_right.nd rfl (by first | exact Or.inl rfl | exact Or.inr rfl) (pcall D__law_told hr.r (pa_cons (pv 0) pa_nil))) (pss_cons (ps_if (PW.pt (pw_or (pt_cmpR op_ne (pe_callB (call_reprQ hr T.sys) (by rfl) T.n_repr (by decide +kernel) (pa_cons (pv 1) pa_nil)) (pe_callB (call_reprQ hr T.sys) (by rfl) T.n_repr (by decide +kernel) (pa_cons (pe_ifExp (pt_cmpR op_isN (pv 3) pe_non (nomark _)) (pe_tup (pa_cons pe_str (pa_cons (pv 0) pa_nil))) (pv 3)) pa_nil)) (nomark _)) (pw_or1 (pt_cmpR op_ne (pe_callB (call_reprQ hr T.sys) (by rfl) T.n_repr (by decide +kernel) (pa_cons (pv 0) pa_nil)) (pv 2) (nomark _))))) (pss_one (ps_ret pe_bl)) pss_nil) (pss_cons (ps_if (pt_cmpR op_isN (pv 3) pe_non (nomark _)) (pss_cons (ps_set (i := 4) sc__law_one_right.nd rfl (by first | exact Or.inl rfl | exact Or.inr rfl) (pmakeT (W := fun _ _ _ _ => False) K_Sizes hr.r takes0 (pa_cons (pv 0) pa_nil))) (pss_cons (ps_expr (pe_bm PySem.F.plainAttrs_list PySem.F.slot_list_append PySem.F.type_list_append mt_append (pv 0) (pa_cons pe_non pa_nil))) (pss_cons (ps_expr (pe_bm0 PySem.F.plainAttrs_list PySem.F.slot_list_clear PySem.F.type_list_clear mt_clear (pmeth0 M_all_sizes hr.r (pv 4)))) (pss_one (ps_ret (pe_and (pe_cmpR op_eq (pe_callB (call_reprQ hr T.sys) (by rfl) T.n_repr (by decide +kernel) (pa_cons (pmeth0 M_all_sizes hr.r (pv 4)) pa_nil)) (pv 2) (nomark _)) (pe_one (pe_cmpR op_eq (pe_callB (call_lenO M_len hr.r) (by rfl) T.n_len (by decide +kernel) (pa_cons (pv 4) pa_nil)) (pe_op op_sub (pe_callB call_len_seq (by rfl) T.n_len (by decide +kernel) (pa_cons (pv 0) pa_nil)) pe_int) (nomark _))))))))) pss_nil) (pss_one (ps_ret pe_bl)))))), ?_⟩)
  · obtain ⟨v, o, d, rfl, _⟩ := h
    rfl
  · obtain ⟨v, o, d, rfl, ha, q⟩ := h
    have sl : sizeLine = 16777216 := sizeLine_eq
    have two : 2 ≤ sizeLine := by decide
    have t0 := ha.tq
    refine ⟨_, rfl, _, _, rfl, t0.dq, t0.sh, Nat.le_trans t0.dp (by decide), Nat.le_trans t0.ln (by decide), ?_⟩
    refine ⟨_, rfl, v, o, rfl, ha.cand, fun hj H1 m1 => ?_, fun s p t H1 hj ht m1 hT => ?_⟩
    · -- the list is one of sizes
      refine ⟨_, _, rfl, ?_⟩
      refine ⟨_, rfl, v, o, rfl, ha.cand.same m1, fun xs t l2 H2 ho _ ht hl2 m2 hL2 hT2 => ?_, fun s p t H2 hj2 => absurd (hj.symm.trans hj2) (fun z => nomatch z)⟩
      have m12 := m1.trans m2
      cases ha with
      | other _ _ _ => cases ho
      | @list a _ ds hA hlen hany ta =>
        cases ho
        have t1 := tq_made hlen (ta.same m12) hL2 hT2
        refine ⟨_, rfl, _, _, rfl, t1.dq, t1.sh, Nat.le_trans t1.dp (by decide), Nat.le_trans t1.ln (by decide), ?_⟩
        refine ⟨_, rfl, rfl, _, rfl, iteT ⟨_, rfl, two, fun tp htp => ?_⟩⟩
        have m3 := m12.trans (same_upd (o := .tup [.str "sizes", .ref a]) htp)
        have t2 : Tq K (upd H2 tp (.tup [.str "sizes", .ref a])) (.ref tp) _ 5 300000 := tq_made hlen (ta.same m3) (m3 _ _ hA) upd_same
        refine ⟨_, _, rfl, t2.dq, t2.sh, Nat.le_trans t2.dp (by decide), Nat.le_trans t2.ln (by decide), ?_⟩
        refine ⟨rfl, _, rfl, ifF (by rw [decide_eq_true rfl]; rfl) ?_⟩
        generalize upd H2 tp (.tup [.str "sizes", .ref a]) = G at m3 ⊢
        have t3 := ((ta.same m3).lst (m3 _ _ hA)).mono (m' := 100000) (Nat.le_refl _) (by omega)
        refine ⟨_, rfl, _, _, rfl, t3.dq, t3.sh, Nat.le_trans t3.dp (by decide), Nat.le_trans t3.ln (by decide), ⟨_, rfl, rfl, _, rfl, ifF (by rw [decide_eq_true rfl]; rfl) ?_⟩⟩
        refine ⟨_, rfl, rfl, _, rfl, iteT ⟨_, rfl, fun x dx hx hdx ne => ?_⟩⟩
        have m4 : Same H (upd (upd G dx (.own x)) x (.ins (He.ga K "Sizes") dx [])) := (m3.trans (same_upd hdx)).trans (same_upd (by rw [upd_ne (Ne.symm ne)]; exact hx))
        refine ⟨x, dx, _, some xs, rfl, upd_same, (Cand.list hA (Nat.le_trans hlen (by decide)) hany).same m4, fun ys ho hw l hl => ⟨rfl, ?_⟩, fun s p hj2 => absurd (hj.symm.trans hj2) (fun z => nomatch z)⟩
        cases ho
        have nx : H x = none := m3.free hx
        have lx : l ≠ x := fun z => by
          rw [z, upd_same] at hl
          cases hl
        have nl : H l = none := m4.free hl
        have m5 : Same H (upd (upd (upd (upd G dx (.own x)) x (.ins (He.ga K "Sizes") dx [])) l (.lst xs)) x (.ins (He.ga K "Sizes") dx (szF l))) := fun b ob e => by
          rw [upd_ne (ne_of_none e nx), upd_ne (ne_of_none e nl)]
          exact m4 b ob e
        have k1 : (upd (upd (upd (upd G dx (.own x)) x (.ins (He.ga K "Sizes") dx [])) l (.lst xs)) x (.ins (He.ga K "Sizes") dx (szF l))) x = some (.ins (He.ga K "Sizes") dx (szF l)) := upd_same
        have k2 : (upd (upd (upd (upd G dx (.own x)) x (.ins (He.ga K "Sizes") dx [])) l (.lst xs)) x (.ins (He.ga K "Sizes") dx (szF l))) l = some (.lst xs) := by rw [upd_ne lx, upd_same]
        have hA5 := m5 _ _ hA
        refine ⟨_, rfl, .inl ⟨rfl, _, SqL.of hA5⟩, a, _, _, rfl, rfl, hA5, by omega, ?_⟩
        have nax : x ≠ a := fun z => ne_of_none hA nx z.symm
        have nal : l ≠ a := fun z => ne_of_none hA nl z.symm
        have b6 : But (.ref a) H (upd (upd (upd (upd (upd G dx (.own x)) x (.ins (He.ga K "Sizes") dx [])) l (.lst xs)) x (.ins (He.ga K "Sizes") dx (szF l))) a (.lst (xs ++ [.non]))) := fun b ob n e => by
          rw [upd_ne (fun z => n (by rw [z]))]
          exact m5 b ob e
        have k1' : (upd (upd (upd (upd (upd G dx (.own x)) x (.ins (He.ga K "Sizes") dx [])) l (.lst xs)) x (.ins (He.ga K "Sizes") dx (szF l))) a (.lst (xs ++ [.non]))) x = some (.ins (He.ga K "Sizes") dx (szF l)) := by rw [upd_ne nax]; exact k1
        have k2' : (upd (upd (upd (upd (upd G dx (.own x)) x (.ins (He.ga K "Sizes") dx [])) l (.lst xs)) x (.ins (He.ga K "Sizes") dx (szF l))) a (.lst (xs ++ [.non]))) l = some (.lst xs) := by rw [upd_ne nal]; exact k2
        have k3' : (upd (upd (upd (upd (upd G dx (.own x)) x (.ins (He.ga K "Sizes") dx [])) l (.lst xs)) x (.ins (He.ga K "Sizes") dx (szF l))) a (.lst (xs ++ [.non]))) a = some (.lst (xs ++ [.non])) := upd_same
        have allI : ∀ v ∈ xs, ∃ z : Int, v = .int z ∧ 1 ≤ z ∧ z ≤ 1000000000 := all_ints hj
        refine ⟨_, rfl, x, dx, _, rfl, k1', szF_no l rfl, x, xs, rfl, ⟨dx, l, k1', k2'⟩, fun l2 hl2 => ?_⟩
        refine ⟨.inl ⟨rfl, _, SqL.of upd_same⟩, l2, _, rfl, rfl, upd_same, ?_⟩
        have m7 : ∀ b ob, (upd (upd (upd (upd (upd G dx (.own x)) x (.ins (He.ga K "Sizes") dx [])) l (.lst xs)) x (.ins (He.ga K "Sizes") dx (szF l))) a (.lst (xs ++ [.non]))) b = some ob → (upd (upd (upd (upd (upd (upd (upd G dx (.own x)) x (.ins (He.ga K "Sizes") dx [])) l (.lst xs)) x (.ins (He.ga K "Sizes") dx (szF l))) a (.lst (xs ++ [.non]))) l2 (.lst xs)) l2 (.lst [])) b = some ob := fun b ob e => by
          rw [upd_ne (ne_of_none e hl2), upd_ne (ne_of_none e hl2)]
          exact e
        refine ⟨_, rfl, x, dx, _, rfl, m7 _ _ k1', szF_no l rfl, x, xs, rfl, ⟨dx, l, m7 _ _ k1', m7 _ _ k2'⟩, fun l3 hl3 => ?_⟩
        have m8 := same_upd (o := .lst xs) hl3
        have t9 : Tq K _ (.ref l3) (.list ds) 4 100000 := ((⟨dq_ints ta.dq allI, ta.sh, ta.dp, ta.ln⟩ : TqAll K _ xs ds 3 2000).lst (upd_same (H := (upd (upd (upd (upd (upd (upd (upd G dx (.own x)) x (.ins (He.ga K "Sizes") dx [])) l (.lst xs)) x (.ins (He.ga K "Sizes") dx (szF l))) a (.lst (xs ++ [.non]))) l2 (.lst xs)) l2 (.lst []))) (a := l3) (o := .lst xs))).mono (by decide) (by omega)
        refine ⟨_, _, rfl, t9.dq, t9.sh, Nat.le_trans t9.dp (by decide), Nat.le_trans t9.ln (by decide), _, rfl, rfl, _, rfl, ifT (decide_eq_true rfl) ?_⟩
        refine ⟨_, rfl, x, dx, _, rfl, m8 _ _ (m7 _ _ k1'), x, xs, rfl, ⟨dx, l, m8 _ _ (m7 _ _ k1'), m8 _ _ (m7 _ _ k2')⟩, ⟨xs.length, rfl, by omega, ?_⟩⟩
        refine ⟨_, rfl, a, _, rfl, .inl (SqL.of (m8 _ _ (m7 _ _ k3'))), _, _, rfl, rfl, rfl, ?_⟩
        rw [show decide (V.int (xs.length : Nat) = V.int (((xs ++ [V.non]).length : Nat) - 1)) = true from vT (by rw [List.length_append, List.length_singleton]; omega)]
        exact q _ ((b6.trans (.of m7)).trans (.of m8))
    · -- a problem
      refine ⟨_, _, rfl, ?_⟩
      obtain ⟨ws, pb⟩ := judge_words ha.short hj
      refine ⟨_, rfl, v, o, rfl, ha.cand.same m1, fun xs t l2 H2 ho hj2 => absurd (hj.symm.trans hj2) (fun z => nomatch z), fun s2 p2 t2 H2 hj2 ht2 m2 hT2 => ?_⟩
      have e := hj.symm.trans hj2
      cases e
      have m12 := m1.trans m2
      have t1 := tq_pair (K := K) ws pb hT2
      have t2 := tq_pair (K := K) ws pb (m2 _ _ hT)
      have t3 := ha.tq.same m12
      refine ⟨_, rfl, _, _, rfl, t1.dq, t1.sh, Nat.le_trans t1.dp (by decide), Nat.le_trans t1.ln (by decide), ?_⟩
      refine ⟨_, rfl, rfl, _, rfl, iteF ⟨_, rfl, _, _, rfl, t2.dq, t2.sh, Nat.le_trans t2.dp (by decide), Nat.le_trans t2.ln (by decide), ?_⟩⟩
      refine ⟨rfl, _, rfl, ifF (by rw [decide_eq_true rfl]; rfl) ?_⟩
      refine ⟨_, rfl, _, _, rfl, t3.dq, t3.sh, Nat.le_trans t3.dp (by decide), Nat.le_trans t3.ln (by decide), ⟨_, rfl, rfl, _, rfl, ifF (by rw [decide_eq_true rfl]; rfl) ?_⟩⟩
      exact ⟨_, rfl, rfl, _, rfl, iteF (q _ (.of m12))⟩
end
end K12

set_option Elab.async false
set_option linter.all false
set_option maxRecDepth 100000
set_option maxHeartbeats 4000000
namespace K12
open PySem PySem.Spec PyProof.Rows L2 Gu Ex
def trues (i : Nat) : List V := (List.replicate i true).map V.bl
theorem trues_more (i : Nat) : trues i ++ [V.bl true] = trues (i + 1) := by
  unfold trues
  rw [List.replicate_succ', List.map_append]
  rfl
theorem trues_len (i : Nat) : (trues i).length = i := by
  unfold trues
  rw [List.length_map, List.length_replicate]
theorem all_trues (i : Nat) : (List.replicate i true).all id = true := by
  rw [List.all_replicate]
  split <;> rfl
/-- the sizes of a turn, at l -/
structure Ls (r : Addr) (H0 H : Hp) (l : Addr) (ns : List Int) : Prop where
  ne : l ≠ r
  at_ : H l = some (.lst (ns.map V.int))
  l1 : 1 ≤ ns.length
  l2 : ns.length ≤ 12
  b : ∀ x ∈ ns, 1 ≤ x ∧ x ≤ 1000000000
  st : Stp r H0 H
section
variable {r l : Addr} {H0 H H' : Hp} {ns : List Int}
theorem Ls.step (a : Ls r H0 H l ns) (s : Stp r H H') : Ls r H0 H' l ns := ⟨a.ne, s.2 l _ a.ne a.at_, a.l1, a.l2, a.b, a.st.trans s⟩
theorem Ls.rng (a : Ls r H0 H l ns) : Rng H r := a.st.1
theorem Ls.new {q : Addr} {o : HO} (a : Ls r H0 H l ns) (hq : H q = none) : Ls r H0 (upd H q o) l ns := a.step ((Stp.refl a.rng).new hq)
/-- a call that may have changed the new object at v -/
theorem But.stp {v : V} {G : Hp} (s : Stp r H G) (b : But v G H') (hv : ∀ p, v = .ref p → p ≠ r ∧ H p = none) : Stp r H H' := by
  obtain ⟨⟨x, y, e, z⟩, k⟩ := s
  refine ⟨⟨x, y, b r _ (fun zz => (hv r zz).1 rfl) e, z⟩, fun c o n e2 => b c o (fun zz => ?_) (k c o n e2)⟩
  rw [(hv c zz).2] at e2
  cases e2
end
theorem arg_list {K : PySem.W.Frag} {r a : Addr} {H : Hp} {xs : List V} (hR : Rng H r) (h : H a = some (.lst xs)) (hl : xs.length ≤ 40) (hv : ∀ v ∈ xs, Val K r H v) : ∃ ds, Arg K H (.ref a) (some xs) (.list ds) := by
  obtain ⟨ds, t⟩ := tq_all (K := K) (H := H) (n := 3) (m := 2000) (xs := xs) (fun v hx => by
    obtain ⟨_, d, t⟩ := hv v hx H (Stp.refl hR)
    exact ⟨d, t.mono (by decide) (by decide)⟩)
  exact ⟨ds, .list h hl (fun v hx => (hv v hx H (Stp.refl hR)).1) t⟩
theorem arg_other {K : PySem.W.Frag} {r : Addr} {H : Hp} {v : V} (hR : Rng H r) (hv : Val K r H v) (n : ∀ a xs, v = .ref a → H a ≠ some (.lst xs)) : ∃ d, Arg K H v none d := by
  obtain ⟨an, d, t⟩ := hv H (Stp.refl hR)
  exact ⟨d, .other an n (t.mono (by decide) (by decide))⟩
section
variable {P : Program} {w : World} {K : PySem.W.Frag} {mg : Str → Option Value} {base : Heap} {f : Addr} {fd : FuncData}
def spRight : Sp := fun vs H Q _ => ∃ r : Addr, vs = [.ref r] ∧ Rng H r ∧ ∀ H', Stp r H H' → Q (.bl true) H'
theorem sc__law_right : FnScope ["_law_rng_here", "_law_some", "_law_turn", "_law_odd_here"] ["_law_rng_here"] (defScope (top 23)) := ⟨rfl, rfl, rfl, by decide +kernel, rfl, by decide +kernel, by decide +kernel⟩
theorem ok_right (T : Tx K mg) (D__law_sizes : Df P w K mg base 2 "_law_sizes" ["_law_rng_here", "_law_levels", "_law_greatest"] spSizes) (D__law_draw : Df P w K mg base 1 "_law_draw" ["_law_rng_here", "_law_many"] spDraw)
    (D__law_choice : Df P w K mg base 2 "_law_choice" ["_law_rng_here", "_law_options"] spChoice) (D__law_bent : Df P w K mg base 4 "_law_bent" ["_law_rng_here", "_law_some"] (spBent K)) (D__law_one_right : DfG P w K mg base 9 "_law_one_right" ["_law_some"] (spOne K))
    (F : FnP K "_law_right" "_law_right" (top 23) f fd) : FnG P w K mg base CX0 10 f fd ["_law_rng_here"] spRight := by
  refine okG F sc__law_right (fun vs H Q E h => ?_) (fun cdv A outer s H vs Q E hr h => ⟨_, PSs.nox (pss_cons (ps_set (i := 1) sc__law_right.nd rfl (by first | exact Or.inl rfl | exact Or.inr rfl) (pcall D__law_sizes hr.r (pa_cons (pv 0) (pa_cons pe_int (pa_cons pe_int pa_nil))))) (pss_cons (ps_for PassesOwn.never rfl (pi_range1 rfl T.n_range (pa_cons (pe_op op_mul (pcall D__law_draw hr.r (pa_cons (pv 0) (pa_cons pe_int pa_nil))) pe_int) pa_nil)) (pg_name (i := 2) sc__law_right.nd rfl (by first | exact Or.inl rfl | exact Or.inr rfl)) (pss_one (ps_if (PW.pt (pw_and (pt_cmpR op_le (pe_op op_mul (pe_ix ix_list (pv 1) (pe_un un_neg pe_int) (fun _ _ => rfl)) pe_int) (pe_op op_pow pe_int pe_int) (nomark _)) (pw_and1 (pt_cmpR op_lt (pe_callB call_len_seq (by rfl) T.n_len (by decide +kernel) (pa_cons (pv 1) pa_nil)) pe_int (nomark _))))) (pss_one (ps_expr (pe_bm PySem.F.plainAttrs_list PySem.F.slot_list_append PySem.F.type_list_append mt_append (pv 1) (pa_cons (pe_op op_mul (pe_ix ix_list (pv 1) (pe_un un_neg pe_int) (fun _ _ => rfl)) pe_int) pa_nil)))) pss_nil))) (pss_cons (ps_for PassesOwn.never rfl (pi_range1 rfl T.n_range (pa_cons pe_int pa_nil)) (pg_name (i := 2) sc__law_right.nd rfl (by first | exact Or.inl rfl | exact Or.inr rfl)) (pss_one (ps_if (pt_not (pt_val (pcallG D__law_one_right hr (pa_cons (pcall D__law_bent hr.r (pa_cons (pv 0) (pa_cons (pv 1) pa_nil))) pa_nil)))) (pss_one (ps_ret pe_bl)) pss_nil))) (pss_cons (ps_set (i := 3) sc__law_right.nd rfl (by first | exact Or.inl rfl | exact Or.inr rfl) (pcall D__law_choice hr.r (pa_cons (pv 0) (pa_cons (pe_lst (pa_cons pe_non (pa_cons pe_int (pa_cons pe_int (pa_cons pe_bl (pa_cons pe_str (pa_cons pe_str (pa_cons (pe_tup pa_nil) (pa_cons pe_dnewK (pa_cons (pe_callTy call_tuple_of (by rfl) T.n_tuple (by decide +kernel) (pa_cons (pv 1) pa_nil)) (pa_cons (pe_lst pa_nil) (pa_cons (pe_lst (pa_cons (pe_lst (pa_cons pe_int (pa_cons pe_int pa_nil))) pa_nil)) (pa_cons (pe_lst (pa_cons (pv 1) pa_nil)) pa_nil))))))))))))) pa_nil)))) (pss_one (ps_ret (pe_and (pcallG D__law_one_right hr (pa_cons (pv 3) pa_nil)) (pe_one (pcallG D__law_one_right hr (pa_cons (pe_callTy call_list_of (by rfl) T.n_list (by decide +kernel) (pa_cons (pv 1) pa_nil)) pa_nil)))))))))), ?_⟩)
  · obtain ⟨r, rfl, _⟩ := h
    rfl
  · obtain ⟨r, rfl, hR, q⟩ := h
    have big : (10 : Int) ^ 40 = 10000000000000000000000000000000000000000 := by decide
    have b39 : (10 : Int) ^ 39 = 1000000000000000000000000000000000000000 := by decide
    have sl : sizeLine = 16777216 := sizeLine_eq
    refine ⟨_, rfl, r, 8, 30, rfl, hR, by decide, by decide, by decide, by decide, fun l ns H1 g hl hL s1 => ?_⟩
    have nlr : l ≠ r := (hR.ne hl).symm
    have L1 : Ls r H H1 l ns := ⟨nlr, hL, g.len.1, by have := g.len.2; omega, fun x hx => by
      obtain ⟨i, hi, rfl⟩ := List.getElem_of_mem hx
      exact g.rng i _ (List.getElem?_eq_getElem hi), s1⟩
    refine ⟨_, rfl, r, 2, rfl, L1.rng, by decide, by omega, fun d H2 d0 d1 s2 => ?_⟩
    refine ⟨_, _, rfl, rfl, .inr ⟨by decide, by decide⟩, _, rfl, by omega, by omega, ?_⟩
    refine for_range (fun i σ G => ∃ ns x y, σ = [some (.ref r), some (.ref l), x, y] ∧ Ls r H G l ns) ⟨ns, none, none, rfl, L1.step s2⟩ ?_ ?_
    · rintro i σ G hi ⟨ns, x, y, rfl, a⟩
      obtain ⟨ys, z, rfl⟩ := last_of a.l1
      have zb := a.b z (List.mem_append_right _ List.mem_cons_self)
      refine ⟨_, rfl, _, rfl, l, _, _, _, rfl, rfl, SqL.of a.at_, at_last ys z, _, _, rfl, rfl, .inl ⟨by omega, by omega⟩, _, _, rfl, rfl, ⟨by decide, by decide, by decide⟩, _, _, rfl, rfl, _, rfl, ?_⟩
      by_cases hc : z * 2 ≤ 10 ^ (9 : Int).toNat
      · refine ifT (decide_eq_true hc) ⟨_, rfl, l, _, rfl, .inl (SqL.of a.at_), _, _, rfl, rfl, _, rfl, ?_⟩
        by_cases hk : ((((ys ++ [z]).map V.int).length : Nat) : Int) < 12
        · refine ifT (decide_eq_true hk) ?_
          rw [List.length_map] at hk
          refine ⟨_, rfl, .inl ⟨rfl, _, SqL.of a.at_⟩, _, rfl, _, rfl, l, _, _, _, rfl, rfl, SqL.of a.at_, at_last ys z, _, _, rfl, rfl, .inl ⟨by omega, by omega⟩, l, _, _, rfl, rfl, a.at_, (by rw [List.length_map]; omega), ?_⟩
          refine ⟨(ys ++ [z]) ++ [z * 2], _, _, rfl, ⟨a.ne, ?_, by rw [List.length_append]; have := a.l1; omega, by rw [List.length_append (bs := [z * 2]), List.length_singleton]; omega, fun x hx => ?_, a.st.put hl a.ne⟩⟩
          · rw [upd_same, List.map_append (l₂ := [z * 2])]
            rfl
          · rcases List.mem_append.mp hx with zz | zz
            · exact a.b x zz
            · rw [List.mem_singleton.mp zz]
              have e9 : (10 : Int) ^ (9 : Int).toNat = 1000000000 := by decide
              omega
        · exact ifF (decide_eq_false hk) ⟨_, _, _, rfl, a⟩
      · exact ifF (decide_eq_false hc) ⟨_, _, _, rfl, a⟩
    rintro σ G ⟨ns, x, y, rfl, a⟩
    refine ⟨8, rfl, by decide, by decide, ?_⟩
    refine for_range (n := 8) (fun i σ G => ∃ x y, σ = [some (.ref r), some (.ref l), x, y] ∧ Ls r H G l ns) ⟨_, _, rfl, a⟩ ?_ ?_
    · rintro i σ G hi ⟨x, y, rfl, a⟩
      refine ⟨_, rfl, _, rfl, r, l, ns, rfl, a.rng, a.at_, a.ne, a.l2, a.b, fun p xs G1 b => ?_⟩
      obtain ⟨ds, ar⟩ := arg_list b.rng b.at_ (Nat.le_trans b.ln (by decide)) b.vs
      refine ⟨_, some xs, _, rfl, ar, fun G2 bt => ⟨_, rfl, iteF ⟨_, _, rfl, a.step (bt.stp b.st ?_)⟩⟩⟩
      intro p' e
      cases e
      exact ⟨b.ne, b.nu⟩
    rintro σ G9 ⟨x, y, rfl, c⟩
    have cl2 := c.l2
    refine ⟨_, rfl, Nat.zero_le _, fun q1 k1 => ?_⟩
    have t1 := c.new (o := .tup []) k1
    have n1 := (c.rng.ne k1).symm
    intro q2 k2
    have t2 := t1.new (o := .dK []) k2
    have n2 := (t1.rng.ne k2).symm
    refine ⟨_, rfl, l, _, rfl, .inl ⟨SqL.of t2.at_, fun q3 k3 => ?_⟩⟩
    have t3 := t2.new (o := .tup (ns.map V.int)) k3
    have n3 := (t2.rng.ne k3).symm
    refine ⟨Nat.zero_le _, fun q4 k4 => ?_⟩
    have t4 := t3.new (o := .lst []) k4
    have n4 := (t3.rng.ne k4).symm
    refine ⟨(by show 2 ≤ sizeLine; decide), fun q5 k5 => ?_⟩
    have t5 := t4.new (o := .lst [.int 1, .int 2]) k5
    have n5 := (t4.rng.ne k5).symm
    refine ⟨(by show 1 ≤ sizeLine; decide), fun q6 k6 => ?_⟩
    have t6 := t5.new (o := .lst [.ref q5]) k6
    have n6 := (t5.rng.ne k6).symm
    refine ⟨_, rfl, (by show 1 ≤ sizeLine; decide), fun q7 k7 => ?_⟩
    have t7 := t6.new (o := .lst [.ref l]) k7
    have n7 := (t6.rng.ne k7).symm
    refine ⟨(by show 12 ≤ sizeLine; decide), fun po ho => ?_⟩
    have t8 := t7.new (o := .lst [.non, .int 0, .int 1, .bl true, .str "", .str "1 2", .ref q1, .ref q2, .ref q3, .ref q4, .ref q6, .ref q7]) ho
    have npo := (t7.rng.ne ho).symm
    have m1 := same_upd (o := .tup []) k1
    have m2 := same_upd (o := .dK []) k2
    have m3 := same_upd (o := .tup (ns.map V.int)) k3
    have m4 := same_upd (o := .lst []) k4
    have m5 := same_upd (o := .lst [.int 1, .int 2]) k5
    have m6 := same_upd (o := .lst [.ref q5]) k6
    have m7 := same_upd (o := .lst [.ref l]) k7
    have m8 := same_upd (o := .lst [.non, .int 0, .int 1, .bl true, .str "", .str "1 2", .ref q1, .ref q2, .ref q3, .ref q4, .ref q6, .ref q7]) ho
    have f1 := ((((((m2.trans m3).trans m4).trans m5).trans m6).trans m7).trans m8) q1 _ upd_same
    have f2 := (((((m3.trans m4).trans m5).trans m6).trans m7).trans m8) q2 _ upd_same
    have f3 := ((((m4.trans m5).trans m6).trans m7).trans m8) q3 _ upd_same
    have f4 := (((m5.trans m6).trans m7).trans m8) q4 _ upd_same
    have f5 := ((m6.trans m7).trans m8) q5 _ upd_same
    have f6 := (m7.trans m8) q6 _ upd_same
    have f7 := m8 q7 _ upd_same
    have g1 : H q1 = none := c.st.free k1
    have g2 : H q2 = none := t1.st.free k2
    have g3 : H q3 = none := t2.st.free k3
    have g4 : H q4 = none := t3.st.free k4
    have g6 : H q6 = none := t5.st.free k6
    have g7 : H q7 = none := t6.st.free k7
    have ll : ∀ p, H p = none → p ≠ l → True := fun _ _ _ => trivial
    have l4 : l ≠ q4 := ne_of_none t3.at_ k4
    have l6 : l ≠ q6 := ne_of_none t5.at_ k6
    have l7 : l ≠ q7 := ne_of_none t6.at_ k7
    have l1 : l ≠ q1 := ne_of_none c.at_ k1
    have l2 : l ≠ q2 := ne_of_none t1.at_ k2
    have l3 : l ≠ q3 := ne_of_none t2.at_ k3
    have fo : (upd (upd (upd (upd (upd (upd (upd (upd G9 q1 (.tup [])) q2 (.dK [])) q3 (.tup (ns.map V.int))) q4 (.lst [])) q5 (.lst [.int 1, .int 2])) q6 (.lst [.ref q5])) q7 (.lst [.ref l])) po (.lst [.non, .int 0, .int 1, .bl true, .str "", .str "1 2", .ref q1, .ref q2, .ref q3, .ref q4, .ref q6, .ref q7])) po = some (.lst [.non, .int 0, .int 1, .bl true, .str "", .str "1 2", .ref q1, .ref q2, .ref q3, .ref q4, .ref q6, .ref q7]) := upd_same
    generalize (upd (upd (upd (upd (upd (upd (upd (upd G9 q1 (.tup [])) q2 (.dK [])) q3 (.tup (ns.map V.int))) q4 (.lst [])) q5 (.lst [.int 1, .int 2])) q6 (.lst [.ref q5])) q7 (.lst [.ref l])) po (.lst [.non, .int 0, .int 1, .bl true, .str "", .str "1 2", .ref q1, .ref q2, .ref q3, .ref q4, .ref q6, .ref q7])) = G at t8 f1 f2 f3 f4 f5 f6 f7 fo ⊢
    refine ⟨r, po, _, rfl, t8.rng, fo, npo, (by show 1 ≤ 12; decide), (by show 12 ≤ 1000; decide), fun v G2 hv st => ?_⟩
    have a2 := t8.step st
    have nb : ∀ x ∈ ns, -(10 ^ 39) ≤ x ∧ x ≤ 10 ^ 39 := fun x hx => by
      have := t8.b x hx
      omega
    have vl : Val K r G2 (.ref l) := val_ints a2.ne a2.at_ (by omega) nb
    have e1 := st.2 _ _ n1 f1
    have e2 := st.2 _ _ n2 f2
    have e3 := st.2 _ _ n3 f3
    have e4 := st.2 _ _ n4 f4
    have e5 := st.2 _ _ n5 f5
    have e6 := st.2 _ _ n6 f6
    have e7 := st.2 _ _ n7 f7
    have ar : (∃ o d, Arg K G2 v o d) ∧ ∀ p, v = .ref p → (p ≠ r ∧ H p = none) ∧ l ≠ p := by
      simp only [List.mem_cons, List.not_mem_nil, or_false] at hv
      rcases hv with rfl | rfl | rfl | rfl | rfl | rfl | rfl | rfl | rfl | rfl | rfl | rfl
      · exact ⟨⟨none, arg_other a2.rng val_non (fun _ _ z => nomatch z)⟩, fun p z => nomatch z⟩
      · exact ⟨⟨none, arg_other a2.rng (val_int (by omega) (by omega)) (fun _ _ z => nomatch z)⟩, fun p z => nomatch z⟩
      · exact ⟨⟨none, arg_other a2.rng (val_int (by omega) (by omega)) (fun _ _ z => nomatch z)⟩, fun p z => nomatch z⟩
      · exact ⟨⟨none, arg_other a2.rng (val_bl _) (fun _ _ z => nomatch z)⟩, fun p z => nomatch z⟩
      · exact ⟨⟨none, arg_other a2.rng (val_text "") (fun _ _ z => nomatch z)⟩, fun p z => nomatch z⟩
      · exact ⟨⟨none, arg_other a2.rng (val_text "1 2") (fun _ _ z => nomatch z)⟩, fun p z => nomatch z⟩
      · refine ⟨⟨none, arg_other a2.rng (val_tints (ms := []) n1 e1 (by decide) (fun x hx => absurd hx List.not_mem_nil)) (fun b xs z => ?_)⟩, fun p z => ?_⟩
        · cases z
          rw [e1]
          exact fun z => nomatch z
        · cases z
          exact ⟨⟨n1, g1⟩, l1⟩
      · refine ⟨⟨none, arg_other a2.rng (val_dct n2 e2) (fun b xs z => ?_)⟩, fun p z => ?_⟩
        · cases z
          rw [e2]
          exact fun z => nomatch z
        · cases z
          exact ⟨⟨n2, g2⟩, l2⟩
      · refine ⟨⟨none, arg_other a2.rng (val_tints n3 e3 (by omega) nb) (fun b xs z => ?_)⟩, fun p z => ?_⟩
        · cases z
          rw [e3]
          exact fun z => nomatch z
        · cases z
          exact ⟨⟨n3, g3⟩, l3⟩
      · obtain ⟨ds, z⟩ := arg_list (K := K) a2.rng e4 (by decide) (fun v hv => absurd hv List.not_mem_nil)
        refine ⟨⟨_, _, z⟩, fun p z => ?_⟩
        cases z
        exact ⟨⟨n4, g4⟩, l4⟩
      · obtain ⟨ds, z⟩ := arg_list (K := K) a2.rng e6 (by show 1 ≤ 40; decide) (fun v hv => by
          rw [List.mem_singleton.mp hv]
          refine val_ints (ms := [1, 2]) n5 e5 (by decide) (fun x hx => ?_)
          simp only [List.mem_cons, List.not_mem_nil, or_false] at hx
          rcases hx with rfl | rfl <;> exact ⟨by decide, by decide⟩)
        refine ⟨⟨_, _, z⟩, fun p z => ?_⟩
        cases z
        exact ⟨⟨n6, g6⟩, l6⟩
      · obtain ⟨ds, z⟩ := arg_list (K := K) a2.rng e7 (by show 1 ≤ 40; decide) (fun v hv => by
          rw [List.mem_singleton.mp hv]
          exact vl)
        refine ⟨⟨_, _, z⟩, fun p z => ?_⟩
        cases z
        exact ⟨⟨n7, g7⟩, l7⟩
    obtain ⟨⟨o, d, ag⟩, far⟩ := ar
    refine ⟨_, rfl, v, o, d, rfl, ag, fun G3 b3 => ⟨_, rfl, iteT ?_⟩⟩
    have s3 : Stp r H G3 := b3.stp a2.st fun p z => (far p z).1
    have hl3 : G3 l = some (.lst (ns.map V.int)) := b3 l _ (fun z => (far l z).2 rfl) a2.at_
    refine ⟨_, rfl, l, _, rfl, .inl (SqL.of hl3), fun q8 k8 => ?_⟩
    have s4 := s3.new (o := .lst (ns.map V.int)) k8
    have n8 := (s3.1.ne k8).symm
    obtain ⟨ds, ag8⟩ := arg_list (K := K) (xs := ns.map V.int) s4.1 (upd_same (H := G3) (a := q8) (o := .lst (ns.map V.int))) (by rw [List.length_map]; omega) (fun v hv => by
      obtain ⟨x, hx, rfl⟩ := List.mem_map.mp hv
      exact val_int (nb x hx).1 (nb x hx).2)
    refine ⟨_, _, _, rfl, ag8, fun G5 b5 => q G5 (b5.stp s4 fun p z => ?_)⟩
    cases z
    exact ⟨n8, s3.free k8⟩
def spLaw (K : PySem.W.Frag) : Sp := fun vs H Q _ => ∃ (a : Addr) (ns : List Int), vs = [.ref a] ∧ SqL K H a (ns.map V.int) ∧ ns.length ≤ 63 ∧ ∀ H', Q (.bl true) H'
theorem sc_law : FnScope ["_law_script", "_law_k"] ["_law_script"] (defScope (top 24)) := ⟨rfl, rfl, rfl, by decide +kernel, rfl, by decide +kernel, by decide +kernel⟩
theorem ok_law (T : Tx K mg) (D__law_rng : Df P w K mg base 1 "_law_rng" ["_law_script", "_law_k"] (spRng K)) (D__law_right : DfG P w K mg base 10 "_law_right" ["_law_rng_here"] spRight)
    (F : FnP K "law" "law" (top 24) f fd) : FnG P w K mg base CX0 11 f fd ["_law_script"] (spLaw K) := by
  refine okG F sc_law (fun vs H Q E h => ?_) (fun cdv A outer s H vs Q E hr h => ⟨_, PSs.nox (pss_one (ps_ret (pe_callB (cr_all rfl) (by rfl) T.n_all (by decide +kernel) (pa_cons (pe_lc (own := [("_law_k", 1)]) (g := gName 1) rfl sc_law.nd (pi_range1 rfl T.n_range (pa_cons (pe_callB (call_max2 rfl) (by rfl) T.n_max (by decide +kernel) (pa_cons pe_int (pa_cons (pe_callB (call_min2 rfl) (by rfl) T.n_min (by decide +kernel) (pa_cons (pe_callB call_len_seq (by rfl) T.n_len (by decide +kernel) (pa_cons (pv 0) pa_nil)) (pa_cons pe_int pa_nil))) pa_nil))) pa_nil)) (blkOk_by (own := [("_law_k", 1)]) (N := ["_law_script", "_law_k"]) (sc := defScope (top 24)) (by decide +kernel)) (fun _ _ _ _ _ => pg_name (i := 1) sc_law.nd rfl (Or.inl rfl)) (fun _ _ _ _ _ => pts_nil) (fun _ _ _ _ _ => (pcallG D__law_right hr (pa_cons (pcall D__law_rng hr.r (pa_cons (pv 0) (pa_cons (pv 1) pa_nil))) pa_nil)))) pa_nil)))), ?_⟩)
  · obtain ⟨a, ns, rfl, _⟩ := h
    rfl
  · obtain ⟨a, ns, rfl, hS, hlen, q⟩ := h
    refine ⟨_, rfl, a, _, rfl, .inl hS, _, _, rfl, _, _, rfl, ?_⟩
    obtain ⟨j, ej, j1, j2⟩ : ∃ j : Int, (if (if (6 : Int) < ((ns.map V.int).length : Int) then 6 else ((ns.map V.int).length : Int)) > 1 then (if (6 : Int) < ((ns.map V.int).length : Int) then 6 else ((ns.map V.int).length : Int)) else 1) = j ∧ 1 ≤ j ∧ j ≤ 6 := by
      refine ⟨_, rfl, ?_, ?_⟩
      · split <;> omega
      · split <;> split <;> omega
    refine ⟨j, (by rw [ej]), by omega, by omega, fun D hD => ?_⟩
    refine lc_range (fun i H' => H' D = some (.lst (trues i)) ∧ Same H H') ⟨upd_same, same_upd hD⟩ ?_ ?_
    · rintro i H' hi ⟨hD', sm⟩
      have hi2 : i < 6 := by omega
      refine ⟨rfl, _, rfl, _, rfl, a, ns, i, (by rw [Int.zero_add]; rfl), sm.seq hS, by omega, fun p H1 hp sm1 rg => ?_⟩
      refine ⟨p, rfl, rg, fun H2 st => ?_⟩
      have hD1 : H1 D = some (.lst (trues i)) := sm1 _ _ hD'
      have nDp : D ≠ p := ne_of_none hD' hp
      refine ⟨_, st.2 D _ nDp hD1, small1000 (by rw [trues_len]; omega), by rw [upd_same, trues_more], fun b o e => ?_⟩
      have e' := sm b o e
      rw [upd_ne (ne_of_none e hD)]
      exact st.2 b o (ne_of_none e' hp) (sm1 b o e')
    · rintro H' ⟨hD', sm⟩
      refine ⟨D, List.replicate j.toNat true, rfl, SqL.of hD', ?_⟩
      rw [all_trues]
      exact q _
end
end K12

set_option Elab.async false
set_option linter.all false
set_option maxRecDepth 100000
set_option maxHeartbeats 0
namespace Ex
open PySem PySem.Spec PyProof.Rows L2 Gu
/-! ### facts of a class beyond those by names: constants, a property -/
def cvB (K : PySem.W.Frag) (C : Addr) (f : Str) (i : Int) : Bool := match PySem.W.findCls K (.ref C) (.type "type") f with
  | some (.val (.int j _)) => decide (j = i)
  | _ => false
theorem cvB_ok {K : PySem.W.Frag} {C : Addr} {f : Str} {i : Int} (h : cvB K C f i = true) : ∃ u, ClX.CVal K C (.type "type") f (.int i) u := by
  unfold cvB at h
  split at h
  · rename_i j t e
    have ej : j = i := of_decide_eq_true h
    exact ⟨_, e, t, by rw [ej]⟩
  · cases h
def rdB (K : PySem.W.Frag) (C : Addr) : Bool := PySem.W.readsIn K C (.type "type") && He.eqO (PySem.W.specialIn K (.ref C) "__getattribute__") (some (some (.builtin "type.__getattribute__")))
theorem rdB_ok {K : PySem.W.Frag} {C : Addr} (h : rdB K C = true) : ClX.CRead K C (.type "type") := by
  obtain ⟨h1, h2⟩ := He.ba h
  exact ⟨h1, He.eqO_ok h2⟩
def prA (K : PySem.W.Frag) (C : Addr) (f : Str) : Addr := match PySem.W.findIn K (.ref C) f with
  | some (some (.ref p)) => p
  | _ => 0
def pgA (K : PySem.W.Frag) (C : Addr) (f : Str) : Addr := match PySem.W.recIn K (prA K C f) "property" with
  | some (.ref g :: _) => g
  | _ => 0
def prB (K : PySem.W.Frag) (C : Addr) (f : Str) : Bool := He.eqO (PySem.W.findIn K (.ref C) f) (some (some (.ref (prA K C f)))) &&
  (He.eqO (PySem.W.specialIn K (.ref (prA K C f)) "__get__") (some (some (.builtin "property.__get__"))) && (decide (PySem.W.takesIn K (.ref (prA K C f)) = some true) &&
    (match PySem.W.recIn K (prA K C f) "property" with
    | some (.ref _ :: _) => true
    | _ => false)))
theorem prB_ok {K : PySem.W.Frag} {C : Addr} {f : Str} (h : prB K C f = true) : PropOf K C f (prA K C f) (pgA K C f) := by
  obtain ⟨h1, h⟩ := He.ba h
  obtain ⟨h2, h⟩ := He.ba h
  obtain ⟨h3, h4⟩ := He.ba h
  refine ⟨He.eqO_ok h1, He.eqO_ok h2, of_decide_eq_true h3, ?_⟩
  unfold pgA
  split at h4
  · rename_i g r e
    rw [e]
    exact ⟨r, rfl⟩
  · cases h4
/-- the def at an address -/
def fnAt (K : PySem.W.Frag) (a : Addr) : He.FnW := match K.lookup a with
  | some ⟨_, _, .func fd, _⟩ => some (fd.name, fd.qualname, fd.params, fd.body, fd.scope, fd.globals, fd.closure, fd.builtins)
  | _ => none
def okAt (K : PySem.W.Frag) (a : Addr) (qual : Str) : Bool := PySem.W.keepIn K (.ref a) && (match K.lookup a with
  | some ⟨_, _, .func fd, _⟩ => PySem.W.codeIn K fd.code qual && (He.dflB K fd.defaults [] && He.kwdB K fd.kwdefaults [])
  | _ => false)
theorem fun_at {K : PySem.W.Frag} {a : Addr} {name qual : Str} {params : Arguments} {body : List Stmt} {scope : Scope} (e : fnAt K a = some (name, qual, params, .stmts body, scope, mainGlobals, [], builtinsNs)) (c : okAt K a qual = true) :
    ∃ fd, FunD K name qual params body scope [] [] a fd := by
  obtain ⟨kp, c2⟩ := He.ba c
  unfold fnAt at e
  split at e
  · rename_i oc od fd sl q
    rw [q] at c2
    obtain ⟨k1, k2⟩ := He.ba c2
    obtain ⟨k3, k4⟩ := He.ba k2
    obtain ⟨n1, n2, n3, n4, n5, n6, n7, n8, n9, n10, n11, n12, n13, n14, n15⟩ := fd
    simp only [Option.some.injEq, Prod.mk.injEq] at e
    obtain ⟨rfl, rfl, rfl, rfl, rfl, rfl, rfl, rfl⟩ := e
    exact ⟨_, ⟨oc, od, n8, n9, n10, n11, n12, n13, n14, sl, rfl, q, k1, He.dflB_ok k3, He.kwdB_ok k4⟩, kp⟩
  · cases e
def sysB (K : PySem.W.Frag) : Bool := match K.lookup sysModules with
  | some o => decide (o.cls ≠ .type "list")
  | none => false
end Ex

set_option Elab.async false
set_option linter.all false
set_option maxRecDepth 100000
set_option maxHeartbeats 4000000
namespace Ex
open PySem PySem.Spec PyProof.Rows L2 Gu
/-! ### facts of an error's class -/
def oexB (K : PySem.W.Frag) (C : Addr) : Bool := match K.lookup C with
  | some ⟨.type "type", _, .cls cd, sl⟩ => (match cd.mro, sl.toList with
    | .ref c :: bm, [_, _, _, _, some (.builtin n), _] => (c == C && n == "ValueError.__new__") && ((!cd.hasDel && cd.hasDict) && PySem.HandSPX.refsVE bm)
    | _, _ => false)
  | _ => false
theorem oexB_ok {K : PySem.W.Frag} {C : Addr} (h : oexB K C = true) :
    ∃ nm q N bs bm sn sub ab col dd k0 k1 k2 k3 k5, K.lookup C = some (excClassObj nm q C N bs bm true sn sub ab col dd k0 k1 k2 k3 k5 "ValueError.__new__") ∧ PySem.HandSPX.refsVE bm = true := by
  unfold oexB at h
  split at h
  · rename_i dd cd sl ho
    split at h
    · rename_i c bm k0 k1 k2 k3 n k5 hm hs
      obtain ⟨⟨h1, h2⟩, h3⟩ := (He.ba h).imp_left He.ba
      obtain ⟨h4, h5⟩ := He.ba h3
      obtain ⟨h6, h7⟩ := He.ba h4
      have e1 : c = C := beq_iff_eq.mp h1
      have e2 : n = "ValueError.__new__" := beq_iff_eq.mp h2
      have e3 : cd.hasDel = false := by simpa using h6
      subst e1 e2
      obtain ⟨nm, bs, mro, ns, qn, hd, sn, sub, ab, col, del⟩ := cd
      dsimp only at hm e3 h7
      subst hm e3 h7
      have e4 : sl = #[k0, k1, k2, k3, some (.builtin "ValueError.__new__"), k5] := by
        obtain ⟨l⟩ := sl
        simp only at hs
        rw [hs]
      subst e4
      exact ⟨nm, qn, ns, bs, bm, sn, sub, ab, col, dd, k0, k1, k2, k3, k5, ho, h5⟩
    · cases h
  · cases h
def bOf (a : Option Bool) (b : Bool) : Bool := decide (a = some b)
/-- what the rules ask of an error's class at C with the one field f -/
def errB (K : PySem.W.Frag) (C : Addr) (n : Str) : Bool := oexB K C && (He.eqO (PySem.W.findIn K (.ref C) "__setattr__") (some (some (.builtin "object.__setattr__"))) && (bOf (PySem.W.subIn K (.ref C) (.type "BaseException")) true &&
  (decide (PySem.W.typeIn K (.ref C) = some (.type "type")) && (PySem.W.keepIn K (.ref C) && (xfB K C && (He.eqO (PySem.W.findIn K (.ref C) "__class__") (some (some (.builtin "object.__class__"))) &&
  (He.eqO (PySem.W.specialIn K (.builtin "object.__class__") "__get__") (some (some (.builtin "getset_descriptor.__get__"))) && (bOf (PySem.W.takesIn K (.builtin "object.__class__")) true && (bOf (PySem.W.mroIn K C (.type "object")) true &&
  (He.eqO (PySem.W.findIn K (.ref C) n) (some none) && (He.eqO (PySem.W.findIn K (.ref C) "__init__") (some (some (.ref (He.ma K C "__init__")))) && (decide (PySem.W.typeIn K (.ref (He.ma K C "__init__")) = some (.type "function")) && bOf (PySem.W.exmOne K (.ref C) (.ref C)) true))))))))))))
structure ErrOk (K : PySem.W.Frag) (C : Addr) (n : Str) : Prop where
  ox : OexC K C
  xf : XfC K C
  ec : ExcC K C
  no : PySem.W.findIn K (.ref C) n = some none
  ii : PySem.W.findIn K (.ref C) "__init__" = some (some (.ref (He.ma K C "__init__")))
  ti : PySem.W.typeIn K (.ref (He.ma K C "__init__")) = some (.type "function")
  em : PySem.W.exmOne K (.ref C) (.ref C) = some true
theorem bOf_ok {a : Option Bool} {b : Bool} (h : bOf a b = true) : a = some b := of_decide_eq_true h
theorem errB_ok {K : PySem.W.Frag} {C : Addr} {n : Str} (h : errB K C n = true) : ErrOk K C n := by
  obtain ⟨a1, h⟩ := He.ba h
  obtain ⟨a2, h⟩ := He.ba h
  obtain ⟨a3, h⟩ := He.ba h
  obtain ⟨a4, h⟩ := He.ba h
  obtain ⟨a5, h⟩ := He.ba h
  obtain ⟨a6, h⟩ := He.ba h
  obtain ⟨a7, h⟩ := He.ba h
  obtain ⟨a8, h⟩ := He.ba h
  obtain ⟨a9, h⟩ := He.ba h
  obtain ⟨a10, h⟩ := He.ba h
  obtain ⟨a11, h⟩ := He.ba h
  obtain ⟨a12, h⟩ := He.ba h
  obtain ⟨a13, a14⟩ := He.ba h
  have x := xfB_ok a6
  exact ⟨⟨oexB_ok a1, He.eqO_ok a2, bOf_ok a3, of_decide_eq_true a4, a5⟩, x, ⟨x.ga, x.gg, x.exC, x.hdC, He.eqO_ok a7, He.eqO_ok a8, bOf_ok a9, bOf_ok a10⟩, He.eqO_ok a11, He.eqO_ok a12, of_decide_eq_true a13, bOf_ok a14⟩
end Ex

set_option Elab.async false
set_option linter.all false
set_option maxRecDepth 100000
set_option maxHeartbeats 0
namespace K12
open PySem PySem.Spec PyProof.Rows L2 Gu Ex
abbrev R : PySem.W.OpenRow := PySem.W.OpenLaw.row PySem.Challenge.rw_exactroom_k12_first_invalid_size
def dOf (a : Str × Option Str) (x q : Str) (st : Stmt) : He.DefD := ⟨a, x, q, defArgs st, defBody st, defScope st, [], []⟩
def fn : List He.DefD := [dOf ("is_integer", none) "is_integer" "is_integer" (top 9),
  dOf ("size_problem", none) "size_problem" "size_problem" (top 10),
  dOf ("check_sizes", none) "check_sizes" "check_sizes" (top 11),
  dOf ("Sizes", some "__init__") "__init__" "Sizes.__init__" (inClass (top 12) 4),
  dOf ("Sizes", some "all_sizes") "all_sizes" "Sizes.all_sizes" (inClass (top 12) 11),
  dOf ("Sizes", some "__len__") "__len__" "Sizes.__len__" (inClass (top 12) 6),
  dOf ("InvalidSizes", some "__init__") "__init__" "InvalidSizes.__init__" (inClass (top 3) 0),
  dOf ("_law_rng", none) "_law_rng" "_law_rng" (top 14),
  dOf ("_law_draw", none) "_law_draw" "_law_draw" (top 15),
  dOf ("_law_choice", none) "_law_choice" "_law_choice" (top 16),
  dOf ("_law_sizes", none) "_law_sizes" "_law_sizes" (top 17),
  dOf ("_law_due", none) "_law_due" "_law_due" (top 18),
  dOf ("_law_told", none) "_law_told" "_law_told" (top 19),
  dOf ("_law_odd", none) "_law_odd" "_law_odd" (top 20),
  dOf ("_law_bent", none) "_law_bent" "_law_bent" (top 21),
  dOf ("_law_one_right", none) "_law_one_right" "_law_one_right" (top 22),
  dOf ("_law_right", none) "_law_right" "_law_right" (top 23),
  dOf ("law", none) "law" "law" (top 24)]
def fa : List He.Fa := [.glo "is_integer", .glo "size_problem", .glo "check_sizes", .glo "_law_rng", .glo "_law_draw", .glo "_law_choice", .glo "_law_sizes", .glo "_law_due", .glo "_law_told", .glo "_law_odd", .glo "_law_bent", .glo "_law_one_right", .glo "_law_right", .glo "law", .glo "Sizes", .glo "InvalidSizes", .glo "RoomError", .glo "InvalidCount", .glo "InvalidLevel", .glo "InvalidNumber", .glo "InvalidNumbers", .free "len", .free "isinstance", .free "int", .free "bool", .free "list", .free "tuple", .free "range", .free "divmod", .free "abs", .free "max", .free "min", .free "all", .free "repr", .free "enumerate", .cls "Sizes", .noat "Sizes" "size_list", .mkr "Sizes", .meth "Sizes" "all_sizes", .meth "Sizes" "__len__"]
def exB (K : PySem.W.Frag) : Bool := (rdB K (He.ga K "Sizes") && (cvB K (He.ga K "Sizes") "MAX_SIZE" 1000000000 && (cvB K (He.ga K "Sizes") "MAX_SIZES" 8 && (sysB K && (errB K (cE K) "problem" && (He.eqO (PySem.W.findIn K (.ref (cE K)) "position") (some none) && (bOf (PySem.W.kitOne K (.ref (cE K)) (.ref (He.ga K "RoomError"))) true && (bOf (PySem.W.kitAny K (.ref (cE K)) [.ref (He.ga K "InvalidCount"), .ref (He.ga K "InvalidLevel"), .ref (He.ga K "InvalidNumber"), .ref (He.ga K "InvalidNumbers")]) false && true))))))))
abbrev Al : Type := He.AlD × Bool
def ob0 (K : PySem.W.Frag) : Al := (He.obsD fa fn K, exB K)
def vl0 : Al := (He.valD fn, true)
def ob1 (g : Addr → Option Obj) : Al := ob0 (He.frG g (cStatics :: sysModules :: He.asD g 6))
def hk : PySem.W.Hook where
  α := Al
  obs := fun s => ob1 s.heap.get?
  val := fun _ => vl0
  says := fun _ h => ∃ K : PySem.W.Frag, K.In h ∧ ob0 K = vl0
  of := fun _ _ e => ⟨_, He.frG_in, e⟩
  keeps := fun _ _ _ ⟨K, hK, c⟩ k => ⟨K, PySem.W.Frag.In.keeps hK k, c⟩
def ob (s : PySem.W.SharedT) : Al := ob1 (HandSHeadRun.getT s)
theorem ob_eq (s : PySem.W.SharedT) : ob s = hk.obs s.abs := by
  have e : HandSHeadRun.getT s = s.abs.heap.get? := funext (HandSHeadRun.getT_eq s)
  show ob1 (HandSHeadRun.getT s) = ob1 s.abs.heap.get?
  rw [e]
def loose : List Str := ["_wall", "RoomError", "InvalidSizes", "InvalidLevel", "InvalidNumber", "InvalidNumbers", "InvalidCount", "is_integer", "size_problem", "check_sizes", "Sizes", "_law_rng", "_law_draw", "_law_choice", "_law_sizes", "_law_due", "_law_told", "_law_odd", "_law_bent", "_law_one_right", "_law_right"]
theorem run (w : World) : HandSHeadRun.RunEq R (PySem.W.view R.prog [24]) hk ob 4000 loose w := by
  intro os
  kernel_rfl
section
variable {P : Program} {w : World} {K : PySem.W.Frag} {h : Heap} {mg : Str → Option Value} {base : Heap}
theorem tx (X : K.In h) (G : h.Ns mainGlobals mg) (c : He.SaysD fa fn K) (x : exB K = true) : Tx K mg := by
  obtain ⟨x1, x⟩ := He.ba x
  obtain ⟨x2, x⟩ := He.ba x
  obtain ⟨x3, x⟩ := He.ba x
  obtain ⟨x4, x⟩ := He.ba x
  obtain ⟨x5, x⟩ := He.ba x
  obtain ⟨x6, x⟩ := He.ba x
  obtain ⟨x7, x⟩ := He.ba x
  obtain ⟨x8, x⟩ := He.ba x
  have hsys : SysOk K := by
    unfold sysB at x4
    split at x4
    · rename_i o e
      exact ⟨o, e, of_decide_eq_true x4⟩
    · cases x4
  have eo := errB_ok x5
  exact ⟨He.free_ok X G (c.fact 21 (f := .free "len") rfl),
    He.free_ok X G (c.fact 22 (f := .free "isinstance") rfl),
    He.free_ok X G (c.fact 23 (f := .free "int") rfl),
    He.free_ok X G (c.fact 24 (f := .free "bool") rfl),
    He.free_ok X G (c.fact 25 (f := .free "list") rfl),
    He.free_ok X G (c.fact 26 (f := .free "tuple") rfl),
    He.free_ok X G (c.fact 27 (f := .free "range") rfl),
    He.free_ok X G (c.fact 28 (f := .free "divmod") rfl),
    He.free_ok X G (c.fact 29 (f := .free "abs") rfl),
    He.free_ok X G (c.fact 30 (f := .free "max") rfl),
    He.free_ok X G (c.fact 31 (f := .free "min") rfl),
    He.free_ok X G (c.fact 32 (f := .free "all") rfl),
    He.free_ok X G (c.fact 33 (f := .free "repr") rfl),
    He.free_ok X G (c.fact 34 (f := .free "enumerate") rfl),
    He.glo_ok X G (c.fact 14 (f := .glo "Sizes") rfl),
    He.cls_ok (c.fact 35 (f := .cls "Sizes") rfl),
    He.noat_ok (c.fact 36 (f := .noat "Sizes" "size_list") rfl),
    rdB_ok x1,
    cvB_ok x2,
    cvB_ok x3,
    hsys,
    He.glo_ok X G (c.fact 15 (f := .glo "InvalidSizes") rfl),
    eo.ox,
    eo.xf,
    eo.ec,
    eo.no,
    He.eqO_ok x6,
    eo.ii,
    eo.ti,
    eo.em,
    He.glo_ok X G (c.fact 16 (f := .glo "RoomError") rfl),
    He.glo_ok X G (c.fact 17 (f := .glo "InvalidCount") rfl),
    He.glo_ok X G (c.fact 18 (f := .glo "InvalidLevel") rfl),
    He.glo_ok X G (c.fact 19 (f := .glo "InvalidNumber") rfl),
    He.glo_ok X G (c.fact 20 (f := .glo "InvalidNumbers") rfl),
    bOf_ok x7,
    bOf_ok x8⟩
theorem df {x : Str} {ps : List Str} {sp : Sp} {k : Nat} {st : Stmt} {fd : FuncData} (X : K.In h) (G : h.Ns mainGlobals mg) (g : (He.Fa.glo x).ok K = true) (F : FnP K x x st (He.ga K x) fd)
    (hb : ∀ (kV doc pm : Value) (an : Option Addr) (cdv ct : Value) (us : List Value), us.length = ps.length → bindArgs (PySem.W.fnOf x x (defArgs st) (defBody st) (defScope st) .none kV doc pm an cdv ct) ⟨us, []⟩ = pure (ps.zip us))
    (ok : FnOk P w K mg base CX0 k (He.ga K x) fd ps sp) : Df P w K mg base k x ps sp := ⟨⟨fd, ok, F.bindsN hb⟩, He.glo_ok X G g, F.kp⟩
theorem dfG {x : Str} {ps : List Str} {sp : Sp} {k : Nat} {st : Stmt} {fd : FuncData} (X : K.In h) (G : h.Ns mainGlobals mg) (g : (He.Fa.glo x).ok K = true) (F : FnP K x x st (He.ga K x) fd)
    (hb : ∀ (kV doc pm : Value) (an : Option Addr) (cdv ct : Value) (us : List Value), us.length = ps.length → bindArgs (PySem.W.fnOf x x (defArgs st) (defBody st) (defScope st) .none kV doc pm an cdv ct) ⟨us, []⟩ = pure (ps.zip us))
    (ok : FnG P w K mg base CX0 k (He.ga K x) fd ps sp) : DfG P w K mg base k x ps sp := ⟨⟨fd, ok, F.bindsN hb⟩, He.glo_ok X G g, F.kp⟩
theorem dfX {x : Str} {ps : List Str} {sp : Sp} {k : Nat} {st : Stmt} {fd : FuncData} (X : K.In h) (G : h.Ns mainGlobals mg) (g : (He.Fa.glo x).ok K = true) (F : FnP K x x st (He.ga K x) fd)
    (hb : ∀ (kV doc pm : Value) (an : Option Addr) (cdv ct : Value) (us : List Value), us.length = ps.length → bindArgs (PySem.W.fnOf x x (defArgs st) (defBody st) (defScope st) .none kV doc pm an cdv ct) ⟨us, []⟩ = pure (ps.zip us))
    (ok : FnOk P w K mg base (L2.CX P w) k (He.ga K x) fd ps sp) : DfX P w K mg base k x ps sp := ⟨⟨fd, ok, F.bindsN hb⟩, He.glo_ok X G g, F.kp⟩
theorem dfK {x : Str} {ps ks : List Str} {j : List Nat} {sp : Sp} {k : Nat} {st : Stmt} {fd : FuncData} (X : K.In h) (G : h.Ns mainGlobals mg) (g : (He.Fa.glo x).ok K = true) (F : FnP K x x st (He.ga K x) fd)
    (hb : ∀ (kV doc pm : Value) (an : Option Addr) (cdv ct : Value) (ws : List Value), ws.length = ks.length → bindArgs (PySem.W.fnOf x x (defArgs st) (defBody st) (defScope st) .none kV doc pm an cdv ct) ⟨[], ks.zip ws⟩ = pure (ps.zip (j.filterMap fun i => ws[i]?)))
    (ok : FnOk P w K mg base CX0 k (He.ga K x) fd ps sp) : DfK P w K mg base k x ps ks j sp := by
  refine ⟨⟨fd, ok, fun s ws hl => ?_⟩, He.glo_ok X G g, F.kp⟩
  obtain ⟨oc, od, dV, kV, doc, pm, an, cdv, ct, osl, rfl, lk, hcd, hD, hK⟩ := F.ex
  rcases hD with ⟨_, rfl⟩ | ⟨e, _⟩
  · exact .of_eq (hb kV doc pm an cdv ct ws hl)
  · exact absurd rfl e
theorem facts {f : Addr} (X : K.In h) (G : h.Ns mainGlobals mg) (hfa : mg ("law" : Str) = some (.ref f)) (c0 : ob0 K = vl0) :
    ∃ fd : FuncData, (∀ (s : Shared) (v : Value), BindsTo s fd ⟨[v], []⟩ [("_law_script", v)]) ∧ ∀ base : Heap, K.In base → base.Ns mainGlobals mg → FnG P w K mg base CX0 11 f fd ["_law_script"] (spLaw K) := by
  have c : He.SaysD fa fn K := congrArg (fun z : Al => z.1) c0
  have x : exB K = true := congrArg (fun z : Al => z.2) c0
  have T := tx X G c x
  obtain ⟨x1, x⟩ := He.ba x
  obtain ⟨x2, x⟩ := He.ba x
  obtain ⟨x3, x⟩ := He.ba x
  obtain ⟨x4, x⟩ := He.ba x
  obtain ⟨x5, x⟩ := He.ba x
  obtain ⟨x6, x⟩ := He.ba x
  obtain ⟨x7, x⟩ := He.ba x
  obtain ⟨x8, x⟩ := He.ba x
  obtain ⟨fd0, F0⟩ : ∃ fd, FnP K "is_integer" "is_integer" (top 9) (He.ga K "is_integer") fd := c.def_ 0 (d := dOf ("is_integer", none) "is_integer" "is_integer" (top 9)) rfl
  obtain ⟨fd1, F1⟩ : ∃ fd, FnP K "size_problem" "size_problem" (top 10) (He.ga K "size_problem") fd := c.def_ 1 (d := dOf ("size_problem", none) "size_problem" "size_problem" (top 10)) rfl
  obtain ⟨fd2, F2⟩ : ∃ fd, FnP K "check_sizes" "check_sizes" (top 11) (He.ga K "check_sizes") fd := c.def_ 2 (d := dOf ("check_sizes", none) "check_sizes" "check_sizes" (top 11)) rfl
  obtain ⟨fd3, F3⟩ : ∃ fd, FnP K "__init__" "Sizes.__init__" (inClass (top 12) 4) (He.ma K (He.ga K "Sizes") "__init__") fd := c.def_ 3 (d := dOf ("Sizes", some "__init__") "__init__" "Sizes.__init__" (inClass (top 12) 4)) rfl
  obtain ⟨fd4, F4⟩ : ∃ fd, FnP K "all_sizes" "Sizes.all_sizes" (inClass (top 12) 11) (He.ma K (He.ga K "Sizes") "all_sizes") fd := c.def_ 4 (d := dOf ("Sizes", some "all_sizes") "all_sizes" "Sizes.all_sizes" (inClass (top 12) 11)) rfl
  obtain ⟨fd5, F5⟩ : ∃ fd, FnP K "__len__" "Sizes.__len__" (inClass (top 12) 6) (He.ma K (He.ga K "Sizes") "__len__") fd := c.def_ 5 (d := dOf ("Sizes", some "__len__") "__len__" "Sizes.__len__" (inClass (top 12) 6)) rfl
  obtain ⟨fd6, F6⟩ : ∃ fd, FnP K "__init__" "InvalidSizes.__init__" (inClass (top 3) 0) (He.ma K (He.ga K "InvalidSizes") "__init__") fd := c.def_ 6 (d := dOf ("InvalidSizes", some "__init__") "__init__" "InvalidSizes.__init__" (inClass (top 3) 0)) rfl
  obtain ⟨fd7, F7⟩ : ∃ fd, FnP K "_law_rng" "_law_rng" (top 14) (He.ga K "_law_rng") fd := c.def_ 7 (d := dOf ("_law_rng", none) "_law_rng" "_law_rng" (top 14)) rfl
  obtain ⟨fd8, F8⟩ : ∃ fd, FnP K "_law_draw" "_law_draw" (top 15) (He.ga K "_law_draw") fd := c.def_ 8 (d := dOf ("_law_draw", none) "_law_draw" "_law_draw" (top 15)) rfl
  obtain ⟨fd9, F9⟩ : ∃ fd, FnP K "_law_choice" "_law_choice" (top 16) (He.ga K "_law_choice") fd := c.def_ 9 (d := dOf ("_law_choice", none) "_law_choice" "_law_choice" (top 16)) rfl
  obtain ⟨fd10, F10⟩ : ∃ fd, FnP K "_law_sizes" "_law_sizes" (top 17) (He.ga K "_law_sizes") fd := c.def_ 10 (d := dOf ("_law_sizes", none) "_law_sizes" "_law_sizes" (top 17)) rfl
  obtain ⟨fd11, F11⟩ : ∃ fd, FnP K "_law_due" "_law_due" (top 18) (He.ga K "_law_due") fd := c.def_ 11 (d := dOf ("_law_due", none) "_law_due" "_law_due" (top 18)) rfl
  obtain ⟨fd12, F12⟩ : ∃ fd, FnP K "_law_told" "_law_told" (top 19) (He.ga K "_law_told") fd := c.def_ 12 (d := dOf ("_law_told", none) "_law_told" "_law_told" (top 19)) rfl
  obtain ⟨fd13, F13⟩ : ∃ fd, FnP K "_law_odd" "_law_odd" (top 20) (He.ga K "_law_odd") fd := c.def_ 13 (d := dOf ("_law_odd", none) "_law_odd" "_law_odd" (top 20)) rfl
  obtain ⟨fd14, F14⟩ : ∃ fd, FnP K "_law_bent" "_law_bent" (top 21) (He.ga K "_law_bent") fd := c.def_ 14 (d := dOf ("_law_bent", none) "_law_bent" "_law_bent" (top 21)) rfl
  obtain ⟨fd15, F15⟩ : ∃ fd, FnP K "_law_one_right" "_law_one_right" (top 22) (He.ga K "_law_one_right") fd := c.def_ 15 (d := dOf ("_law_one_right", none) "_law_one_right" "_law_one_right" (top 22)) rfl
  obtain ⟨fd16, F16⟩ : ∃ fd, FnP K "_law_right" "_law_right" (top 23) (He.ga K "_law_right") fd := c.def_ 16 (d := dOf ("_law_right", none) "_law_right" "_law_right" (top 23)) rfl
  obtain ⟨fd17, F17⟩ : ∃ fd, FnP K "law" "law" (top 24) (He.ga K "law") fd := c.def_ 17 (d := dOf ("law", none) "law" "law" (top 24)) rfl
  have e := hfa.symm.trans (He.glo_ok X G (c.fact 13 (f := .glo "law") rfl))
  cases e
  have b := FunD.bindsA (ps := ["_law_script"]) F17 (fun _ _ _ _ _ _ us hl => match us, hl with | [_], _ => rfl)
  refine ⟨_, fun s v => b s [v] rfl, fun base _ _ => ?_⟩
  have D_is_integer := df (P := P) (w := w) (base := base) X G (c.fact 0 (f := .glo "is_integer") rfl) F0 (ps := ["value"]) (fun _ _ _ _ _ _ us hl => match us, hl with | [_], _ => rfl) (ok_is_integer T F0)
  have Mi : Ei P w K mg base := ⟨⟨fd6, ok_err T F6, F6.bindsN (fun _ _ _ _ _ _ us hl => match us, hl with | [_, _, _], _ => rfl)⟩⟩
  have D_size_problem := df (P := P) (w := w) (base := base) X G (c.fact 1 (f := .glo "size_problem") rfl) F1 (ps := ["values", "position"]) (fun _ _ _ _ _ _ us hl => match us, hl with | [_, _], _ => rfl) (ok_size_problem T D_is_integer F1)
  have D_check_sizes := dfX (P := P) (w := w) (base := base) X G (c.fact 2 (f := .glo "check_sizes") rfl) F2 (ps := ["values"]) (fun _ _ _ _ _ _ us hl => match us, hl with | [_], _ => rfl) (ok_check_sizes T D_size_problem Mi F2)
  have K_Sizes : KfX P w K mg base _ "Sizes" ["self", "values"] _ := ⟨⟨fd3, ok_init T D_check_sizes F3, F3.bindsN (fun _ _ _ _ _ _ us hl => match us, hl with | [_, _], _ => rfl)⟩, He.glo_ok X G (c.fact 14 (f := .glo "Sizes") rfl), He.mkr_ok (c.fact 37 (f := .mkr "Sizes") rfl)⟩
  have M_all_sizes : Mf P w K mg base _ "Sizes" "all_sizes" ["self"] _ := ⟨⟨fd4, ok_all T F4, F4.bindsN (fun _ _ _ _ _ _ us hl => match us, hl with | [_], _ => rfl)⟩, He.cls_ok (c.fact 35 (f := .cls "Sizes") rfl), He.meth_ok (c.fact 38 (f := .meth "Sizes" "all_sizes") rfl)⟩
  have M_len : Mf P w K mg base _ "Sizes" "__len__" ["self"] _ := ⟨⟨fd5, ok_len T F5, F5.bindsN (fun _ _ _ _ _ _ us hl => match us, hl with | [_], _ => rfl)⟩, He.cls_ok (c.fact 35 (f := .cls "Sizes") rfl), He.meth_ok (c.fact 39 (f := .meth "Sizes" "__len__") rfl)⟩
  have D__law_rng := df (P := P) (w := w) (base := base) X G (c.fact 3 (f := .glo "_law_rng") rfl) F7 (ps := ["_law_script", "_law_k"]) (fun _ _ _ _ _ _ us hl => match us, hl with | [_, _], _ => rfl) (ok_rng T F7)
  have D__law_draw := df (P := P) (w := w) (base := base) X G (c.fact 4 (f := .glo "_law_draw") rfl) F8 (ps := ["_law_rng_here", "_law_many"]) (fun _ _ _ _ _ _ us hl => match us, hl with | [_, _], _ => rfl) (ok_draw T F8)
  have D__law_choice := df (P := P) (w := w) (base := base) X G (c.fact 5 (f := .glo "_law_choice") rfl) F9 (ps := ["_law_rng_here", "_law_options"]) (fun _ _ _ _ _ _ us hl => match us, hl with | [_, _], _ => rfl) (ok_choice T D__law_draw F9)
  have D__law_sizes := df (P := P) (w := w) (base := base) X G (c.fact 6 (f := .glo "_law_sizes") rfl) F10 (ps := ["_law_rng_here", "_law_levels", "_law_greatest"]) (fun _ _ _ _ _ _ us hl => match us, hl with | [_, _, _], _ => rfl) (ok_sizes T D__law_draw F10)
  have D__law_due := df (P := P) (w := w) (base := base) X G (c.fact 7 (f := .glo "_law_due") rfl) F11 (ps := ["_law_some"]) (fun _ _ _ _ _ _ us hl => match us, hl with | [_], _ => rfl) (ok_due T F11)
  have D__law_told := df (P := P) (w := w) (base := base) X G (c.fact 8 (f := .glo "_law_told") rfl) F12 (ps := ["_law_some"]) (fun _ _ _ _ _ _ us hl => match us, hl with | [_], _ => rfl) (ok_told T K_Sizes M_all_sizes F12)
  have D__law_odd := df (P := P) (w := w) (base := base) X G (c.fact 9 (f := .glo "_law_odd") rfl) F13 (ps := ["_law_rng_here", "_law_some"]) (fun _ _ _ _ _ _ us hl => match us, hl with | [_, _], _ => rfl) (ok_odd T D__law_draw D__law_choice F13)
  have D__law_bent := df (P := P) (w := w) (base := base) X G (c.fact 10 (f := .glo "_law_bent") rfl) F14 (ps := ["_law_rng_here", "_law_some"]) (fun _ _ _ _ _ _ us hl => match us, hl with | [_, _], _ => rfl) (ok_bent T D__law_draw D__law_odd F14)
  have D__law_one_right := dfG (P := P) (w := w) (base := base) X G (c.fact 11 (f := .glo "_law_one_right") rfl) F15 (ps := ["_law_some"]) (fun _ _ _ _ _ _ us hl => match us, hl with | [_], _ => rfl) (ok_one T D__law_due D__law_told K_Sizes M_all_sizes M_len F15)
  have D__law_right := dfG (P := P) (w := w) (base := base) X G (c.fact 12 (f := .glo "_law_right") rfl) F16 (ps := ["_law_rng_here"]) (fun _ _ _ _ _ _ us hl => match us, hl with | [_], _ => rfl) (ok_right T D__law_sizes D__law_draw D__law_choice D__law_bent D__law_one_right F16)
  exact ok_law T D__law_rng D__law_right F17
end
end K12
open PySem PySem.W PySem.Calls PyProof.Rows
theorem PySem.Challenge.cw_exactroom_k12_first_invalid_size_holds : PySem.Challenge.rw_exactroom_k12_first_invalid_size.Holds := by
  w_on; o_law
  refine HandSHeadRun.head_any (r := OpenLaw.row PySem.Challenge.rw_exactroom_k12_first_invalid_size) (q := view (OpenLaw.row PySem.Challenge.rw_exactroom_k12_first_invalid_size).prog [24]) (H := K12.hk) (ob := K12.ob) (M := 4000)
    (loose := K12.loose) (d := HandSHeadRun.topDef (OpenLaw.row PySem.Challenge.rw_exactroom_k12_first_invalid_size).prog 24) (kwd := []) K12.ob_eq
    (by kernel_rfl) (fun s => by kernel_rfl) K12.run (by kernel_rfl) (by kernel_rfl) (by kernel_rfl) (by rfl) (by first | assumption | decide +kernel) (by decide +kernel) ⟨rfl, rfl, rfl, rfl, rfl, by decide +kernel⟩ ?hw ?hc
  case hw => w_witness2
  case hc =>
    refine Gu.walkG (l := PySem.Challenge.rw_exactroom_k12_first_invalid_size) (n := 63) (k := 11) (x := "_law_script") (CX := L2.CX0) rfl (by decide) (by kernel_rfl) ⟨⟨rfl, by decide, by decide⟩, rfl⟩ ?F (fun _ _ _ _ z => z)
    intro w mg fa h Y G hmg0
    obtain ⟨K, KX, c⟩ := Y
    have hmg : mg ("law" : PySem.Str) = some (.ref fa) := by
      have e : (HandSHeadRun.topDef (OpenLaw.row PySem.Challenge.rw_exactroom_k12_first_invalid_size).prog 24).name = ("law" : PySem.Str) := by kernel_rfl
      rw [← e]
      exact hmg0
    obtain ⟨fd, hb, hF⟩ := K12.facts (P := (PySem.Challenge.rw_exactroom_k12_first_invalid_size).prog) (w := w) KX G hmg c
    exact ⟨K, fd, K12.spLaw K, KX, hb, fun H a ns hl _ hS => ⟨a, ns, rfl, hS, hl, fun _ => rfl⟩, hF⟩

