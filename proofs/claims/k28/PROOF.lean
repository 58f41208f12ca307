import PyProof.Rows.All
import Wide.All
import OpenK.AllK
import Wide.FinOn
import PyProof.ReprRoads
import HandS.ForMost
import HandS.ForExc
import HandS.Property
import HandS.ClsMeth
import HandS.Defaults
import HandS.IsInst
import HandS.Wide
import HandS.WideBits
import HandS.Ends
import HandS.HeadEnd
import HandS.Head0
import HandS.Head1
import HandS.Head2
import HandS.HeadHook1
import HandS.HeadHook2
import HandS.Flow
import HandS.Style
import PyProof.LongRange
import HandS.ExcInit
import HandS.ExcField
import HandS.ExcIs
import HandS.TryOnly
import HandS.OwnEq
import HandS.Iter
import HandS.Comp
import PyProof.Rows.SetFrom
import HandS.TupSets
import HandS.Walk
import HandS.More
import HandS.DictComp
import HandS.GenYield
import HandS.SortRule
import KE.KStateDown
import Lean
import PySem.Challenge.RW_exactroom_k28_pins_of_layouts
set_option Elab.async false
set_option linter.all false
set_option maxRecDepth 100000
set_option maxHeartbeats 4000000
/-! Own layer: defs that are called where no repr is under way (the guards are known to be none), so that repr of data can be walked. -/
namespace Gu
open PySem PySem.Spec PyProof.Rows L2
structure RoomG (k : Nat) (A : Around) : Prop where
  r : Room k A
  g : A.guards = some []
theorem RoomG.mono {j k : Nat} {A : Around} (x : RoomG k A) (h : j ≤ k) : RoomG j A := ⟨x.r.mono h, x.g⟩
theorem RoomG.down {k : Nat} {A : Around} (x : RoomG (k + 1) A) (env : Env) : RoomG k (A.deeper env) := ⟨x.r.deeper env, x.g⟩
structure FnG (P : Program) (w : World) (K : PySem.W.Frag) (mg : Str → Option Value) (base : Heap) (CX : CXT) (k : Nat) (f : Addr) (fd : FuncData) (ps : List Str) (sp : Sp) : Prop where
  len : ∀ vs H Q E, sp vs H Q E → vs.length = ps.length
  run : ∀ (A : Around) (outer : List Env) (s : Shared) (H : Hp) (args : Args) (us : List Value) (vs : List V) (Q : VK) (E : XK),
    RoomG k A → Env0 P w K mg base A outer s H → BindsTo s fd args (ps.zip us) → Vals vs us → sp vs H Q E →
    codeAny (model P w) A (.call (.ref f) args) (CR CX outer P w H s Q E) s
section
variable {P : Program} {w : World} {K : PySem.W.Frag} {mg : Str → Option Value} {base : Heap} {CX : CXT} {k : Nat} {f : Addr} {fd : FuncData} {ps : List Str} {sp : Sp}
theorem FnG.of (F : FnOk P w K mg base CX k f fd ps sp) : FnG P w K mg base CX k f fd ps sp :=
  ⟨F.len, fun A outer s H args us vs Q E hr => F.run A outer s H args us vs Q E hr.r⟩
/-- a def by its body -/
theorem okG {x qual : Str} {params : Arguments} {body : List Stmt} {scope : Scope} {dvs : List V} {kws : List (Str × V)} {N : List Str}
    (F : FunD K x qual params body scope dvs kws f fd) (S : FnScope N ps scope) (len : ∀ vs H Q E, sp vs H Q E → vs.length = ps.length)
    (hbody : ∀ (cdv : Value) (A : Around) (outer : List Env) (s : Shared) (H : Hp) (vs : List V) (Q : VK) (E : XK),
      RoomG k (A.deeper (envOfC qual scope s.heap.objs.size f cdv)) → sp vs H Q E →
      ∃ t, PSs (cxOf CX P w K mg base N qual scope f cdv A outer s H E) body t ∧ t { nx := fun _ H' => Q .non H', rt := Q } (start N vs) H) :
    FnG P w K mg base CX (k + 1) f fd ps sp := by
  obtain ⟨oc, od, dV, kV, doc, pm, an, cdv, ct, osl, rfl, lk, hcd, _, _⟩ := F.ex
  refine ⟨len, fun A outer s H args us vs Q E hr e0 hb rv hsp => ?_⟩
  have KX : K.In s.heap := e0.mod.kin.keeps fun b o e => (e0.bs b o e).1
  have hkinds : ∀ y ∈ ps.zip us, scope.names.lookup y.1 = some .local ∨
      (scope.names.lookup y.1 = some .cell ∧ ((cellsFrom (s.heap.objs.size + 1) scope.names []).lookup y.1).isSome = true) := by
    rintro ⟨n, v⟩ hy
    rcases S.par n (List.of_mem_zip hy).1 with q | q
    · exact .inl q
    · exact .inr ⟨q, PySem.W.cellsFrom_some _ _ _ (.inl q)⟩
  refine codeAny_call_function hr.r.depth (KX _ _ lk) rfl S.co S.gen rfl (PySem.W.codeRec_of KX hcd) (hb _ _ _ _ ?_)
  refine wpAny_newFunctionEnv_cells S.kind hkinds fun env he s1 x => ?_
  subst he
  refine ⟨(e0.mod.nolimit.keeps fun b o e => (e0.bs b o e).1).keeps x.toInCall.keep, codeAny_func ?_⟩
  obtain ⟨t, ht, hq⟩ := hbody cdv A outer s H vs Q E (hr.down _) hsp
  have I := inv_start (CX := CX) (E := E) (N := N) (qual := qual) (f := f) (cd := cdv) S hr.r.hd e0 (len _ _ _ _ hsp) rv x
  refine wpAny_mono (ht.run [] s1 (start N vs) H _ I hq) (fun fl s' hs => ?_) fun e s' hs => hs
  cases fl with
  | ret u =>
    obtain ⟨v, σ', H', J, rv', q⟩ := hs
    exact ⟨v, H', J.os, J.bare, J.base, J.hok, rv', q⟩
  | next =>
    obtain ⟨σ', H', J, q⟩ := hs
    exact ⟨V.non, H', J.os, J.bare, J.base, J.hok, rfl, q⟩
  | brk => exact hs.elim fun _ z => z.elim fun _ z => z.2.elim
  | cont => exact hs.elim fun _ z => z.elim fun _ z => z.2.elim
end
section
variable {X : Cx} {CX : CXT} {k : Nat} {f : Addr} {fd : FuncData} {ps : List Str} {sp : Sp} {dvs : List V} {ds : List Value} {E : XK} {x : Str} {p pos : Pos} {e : Expr} {es : List Expr} {t : TA}
theorem runG {pins : List (Addr × Obj)} {σ : L2.St} {H : Hp} {s : Shared} {Q : VK} {us : List Value} {vs : List V} (F : FnG X.prog X.w X.K X.mg X.base CX k f fd ps sp)
    (hr : RoomG k X.A) (hb : Binds X.K fd ps ds) (hd : Vals dvs ds) (hx : Passes CX X E) (I : Inv X pins σ H s) (r : Vals vs us) (h : sp (vs ++ dvs) H Q E) :
    wpAny (model X.prog X.w) X.A (call (.ref f) us) (EP X pins σ Q) X.xe s := by
  have r2 := r.append hd
  have hl : (us ++ ds).length = ps.length := r2.length.symm.trans (F.len _ _ _ _ h)
  refine wpAny_call (codeAny_mono (F.run X.A X.stack s H ⟨us, []⟩ _ _ Q E hr I.env0 (hb s us I.kIn hl) r2 h) fun r s' hq => ?_)
  match r, hq with
  | .error e, hq => exact hx pins σ H s e s' I hq
  | .ok (.ret u), hq => exact I.after hq
/-- f(e, ..) -/
theorem pe_callG (F : FnG X.prog X.w X.K X.mg X.base CX k f fd ps sp) (hr : RoomG k X.A) (hg : Gl X x) (hm : X.mg x = some (.ref f)) (hk : PySem.W.keepIn X.K (.ref f) = true)
    (hb : Binds X.K fd ps ds) (hd : Vals dvs ds) (hx : Passes CX X E) (ha : PA X (e :: es) t) (hdb : (x == ("__debug__" : Str)) = false := by decide)
    (he : starEach (e :: es) X.env = (false, eval e X.env) :: starEach es X.env := by rfl) (hpl : (backTo pos (starEach es X.env)).any (·.1) = false := by rfl) :
    PE X (.Call (.Name x p) (e :: es) [] pos) (tCall sp dvs E t) :=
  ⟨fun pins s σ H Q I h => wpAny_Call_Name_kw (ld_glob I hg hm (PySem.W.callWith_K (h₀ := X.base) I.ok.mod.kin hk
    (thn (ha.run pos pins s σ H _ I h) fun us s1 ⟨vs, H1, I1, r, q⟩ => ⟨I1.kIn, runG F hr hb hd hx I1 r q⟩) he hpl) hdb)⟩
/-- repr of a list or a tuple of data -/
def rReprD (K : PySem.W.Frag) : List V → Hp → VK → Prop := fun xs H Q => ∃ (a : Addr) (d : PyData), xs = [.ref a] ∧ Dp K H (.ref a) d ∧ d.showable = true ∧ d.hasDict = false ∧ d.depth ≤ 60 ∧ d.shown.length ≤ sizeLine ∧ Q (.str d.shown) H
theorem call_reprD (hr : RoomG k X.A) : CallR X (.builtin "repr") (rReprD X.K) := by
  intro pins s σ H xs us Q I r h
  obtain ⟨a, d, rfl, hd, hs, hn, hdep, hz, q⟩ := h
  obtain ⟨u, rfl, ru⟩ := vals1 r
  obtain rfl : u = Value.ref a := ru
  obtain ⟨as, rd⟩ := Dp.reads I d (.ref a) (.ref a) hd rfl
  have hu := hr.r.units
  exact repr_of_reads' rd hs (PyData.noDict_hsm hn) hr.g (by omega) (fun _ _ e => e) (fun h' u tk hk => ⟨.str d.shown, H, I.kept hk, ⟨u, rfl⟩, q⟩) hz
end
/-- the law's call, from its promise where no repr is under way -/
theorem law_go {P : Program} {w : World} {K : PySem.W.Frag} {mg mb : Str → Option Value} {CX : CXT} {k : Nat} {fa a : Addr} {fd : FuncData} {x : Str} {sp : Sp} {s₁ : Shared} {vs : List Value} {H : Hp}
    (KX : K.In s₁.heap) (hns : s₁.heap.Ns mainGlobals mg) (hb : s₁.heap.Ns builtinsNs mb) (hbb : ∀ x : Str, x ≠ "__name__" → mb x = bootBuiltins x) (hlim : s₁.heap.NoLimit) (hg : s₁.gens = #[])
    (ha : s₁.heap.get? a = some { cls := .type "list", data := .seq vs.toArray }) (hr : RoomG k callerA)
    (F : ∀ base : Heap, K.In base → base.Ns mainGlobals mg → FnG P w K mg base CX k fa fd [x] sp) (hbind : ∀ (s : Shared) (u : Value), BindsTo s fd ⟨[u], []⟩ [(x, u)])
    (hsp : sp [.ref a] H (fun v _ => v = .bl true) fun _ _ _ => False) (hCX : ∀ e s', CX [] H s₁ (fun _ _ _ => False) e s' → False)
    (hO : Only H) (hok : HOk P w H s₁.heap) (hA : ∀ b, H b ≠ none → b = a) (hK : H a ≠ none → K.lookup a = none) :
    codeAny (model P w) callerA (.call (.ref fa) ⟨[.ref a], []⟩) (fun r s' => r = .ok (.ret (.bool true)) ∧ OldK s₁.heap s'.heap ∧ s'.os = s₁.os ∧ AllBare s'.gens) s₁ := by
  have free : ∀ {b : Addr} {o : Obj}, s₁.heap.get? b = some o → (b = a → False) → (hidT s₁.heap H).get? b = some o := fun {b o} e n => hidT_get e (by
    cases q : H b with
    | none => rfl
    | some u => exact (n (hA b (by rw [q]; exact fun z => nomatch z))).elim)
  have nsK : ∀ {b : Addr} {m : Str → Option Value}, s₁.heap.Ns b m → (hidT s₁.heap H).Ns b m := fun {b m} ⟨o, es, ep, e, d, r⟩ => ⟨o, es, ep, free e (fun z => by
    rw [z, ha] at e
    have e' := Option.some.inj e
    rw [← e'] at d
    exact nomatch d), d, r⟩
  have hKb : K.In (hidT s₁.heap H) := fun b o e => hidT_get (KX b o e) (by
    cases q : H b with
    | none => rfl
    | some u =>
      have z : b = a := hA b (by rw [q]; exact fun z => nomatch z)
      rw [z] at e q
      rw [hK (by rw [q]; exact fun z => nomatch z)] at e
      exact nomatch e)
  obtain ⟨mc, l1, l2⟩ := hlim
  have e0 : Env0 P w K mg (hidT s₁.heap H) callerA [] s₁ H :=
    ⟨rfl, ⟨hKb, nsK hns, ⟨mb, nsK hb, hbb⟩, ⟨mc, nsK l1, l2⟩⟩, fun b o e => of_hidT e, Nat.le_of_eq (hidT_size _ _), trivial, fun b hb => absurd (show b ∈ ([] : List Addr) from hb) List.not_mem_nil, hok, .of_eq hg⟩
  refine codeAny_mono ((F _ hKb (nsK hns)).run callerA [] s₁ H ⟨[.ref a], []⟩ [.ref a] [.ref a] _ _ hr e0 (hbind s₁ (.ref a)) (.cons rfl .nil) hsp) fun r s' h => ?_
  match r, h with
  | .error e, h => exact (hCX e s' h).elim
  | .ok (.ret u), h =>
    obtain ⟨v, H', os, bare, un, hok', r', q⟩ := h
    obtain rfl : v = .bl true := q
    obtain rfl : u = Value.bool true := r'
    refine ⟨rfl, OldK.of_keep fun b o e => ?_, os, bare⟩
    cases q : H b with
    | none => exact un.keep b o e q (fun z => absurd (show b ∈ ([] : List Addr) from z) List.not_mem_nil) (fun z => absurd (show b ∈ ([] : List Addr) from z) List.not_mem_nil)
    | some u =>
      rcases hO b with z | ⟨ob, xs, z⟩
      · rw [q] at z
        exact nomatch z
      · obtain ⟨e1, _⟩ := hok b _ z
        obtain ⟨e2, _⟩ := hok' b _ (un.frzs b ob _ z)
        rw [e] at e1
        rw [Option.some.inj e1]
        exact e2
theorem law_callG {P : Program} {w : World} {K : PySem.W.Frag} {mg mb : Str → Option Value} {CX : CXT} {k : Nat} {fa a : Addr} {fd : FuncData} {x : Str} {sp : Sp} {s₁ : Shared} {vs : List Value} {ns : List Int}
    (KX : K.In s₁.heap) (hns : s₁.heap.Ns mainGlobals mg) (hb : s₁.heap.Ns builtinsNs mb) (hbb : ∀ x : Str, x ≠ "__name__" → mb x = bootBuiltins x) (hlim : s₁.heap.NoLimit) (hg : s₁.gens = #[])
    (ha : s₁.heap.get? a = some { cls := .type "list", data := .seq vs.toArray }) (hi : IntsAre vs ns) (hl : ns.length ≤ sizeLine) (hr : RoomG k callerA)
    (F : ∀ base : Heap, K.In base → base.Ns mainGlobals mg → FnG P w K mg base CX k fa fd [x] sp) (hbind : ∀ (s : Shared) (u : Value), BindsTo s fd ⟨[u], []⟩ [(x, u)])
    (hsp : ∀ H : Hp, Only H → SqL K H a (ns.map V.int) → sp [.ref a] H (fun v _ => v = .bl true) fun _ _ _ => False) (hCX : ∀ H e s', CX [] H s₁ (fun _ _ _ => False) e s' → False) :
    codeAny (model P w) callerA (.call (.ref fa) ⟨[.ref a], []⟩) (fun r s' => r = .ok (.ret (.bool true)) ∧ OldK s₁.heap s'.heap ∧ s'.os = s₁.os ∧ AllBare s'.gens) s₁ := by
  have rv := vals_ints hi
  have lenV := hi.length
  cases hk : K.lookup a with
  | some o =>
    have e := (KX a o hk).symm.trans ha
    obtain rfl := Option.some.inj e
    have hO : Only (fun _ => none) := fun _ => .inl rfl
    exact law_go (H := fun _ => none) KX hns hb hbb hlim hg ha hr F hbind
      (hsp _ hO (.inr ⟨_, vs.toArray, _, hk, rfl, rfl, rfl, by rw [List.size_toArray, lenV]; exact hl, by simpa using rv⟩)) (hCX _) hO
      (fun b u z => nomatch (show (none : Option HO) = some u from z)) (fun b z => (z rfl).elim) (fun z => (z rfl).elim)
  | none =>
    let H0 : Hp := fun b => if b = a then some (.frz { cls := .type "list", data := .seq vs.toArray } (.lst (ns.map V.int))) else none
    have at_ : H0 a = some (.frz { cls := .type "list", data := .seq vs.toArray } (.lst (ns.map V.int))) := if_pos rfl
    have off : ∀ b, b ≠ a → H0 b = none := fun b h => if_neg h
    have hO : Only H0 := fun b => by
      by_cases h : b = a
      · rw [h]
        exact .inr ⟨_, _, at_⟩
      · exact .inl (off b h)
    refine law_go (H := H0) KX hns hb hbb hlim hg ha hr F hbind (hsp _ hO (.inl (.inr ⟨_, at_⟩))) (hCX _) hO (fun b u z => ?_) (fun b z => ?_) (fun _ => hk)
    · by_cases h : b = a
      · rw [h, at_] at z
        obtain rfl := Option.some.inj z
        rw [h]
        exact ⟨ha, by rw [List.length_map]; exact hl, vs, _, rv, ha⟩
      · rw [off b h] at z
        exact nomatch z
    · by_cases h : b = a
      · exact h
      · exact (z (off b h)).elim
/-- the end of a law, over a head by facts -/
theorem walkG {l : PySem.W.OpenLaw} {n k : Nat} {q : Program} {loose : List Str} {XP : (Str → Option Value) → Heap → Prop} {YP : World → Heap → Prop} {d : DefRec} {CX : CXT} {x : Str}
    (hn : l.most = some n) (hn2 : n ≤ sizeLine) (hdf : d.params.defaults = []) (hr : RoomG k callerA)
    (F : ∀ (w : World) (mg : Str → Option Value) (fa : Addr) (h : Heap), YP w h → h.Ns mainGlobals mg → mg d.name = some (.ref fa) →
      ∃ (K : PySem.W.Frag) (fd : FuncData) (sp : Sp), K.In h ∧ (∀ (s : Shared) (u : Value), BindsTo s fd ⟨[u], []⟩ [(x, u)]) ∧
        (∀ (H : Hp) (a : Addr) (ns : List Int), ns.length ≤ n → Only H → SqL K H a (ns.map V.int) → sp [.ref a] H (fun v _ => v = .bl true) fun _ _ _ => False) ∧
        ∀ base : Heap, K.In base → base.Ns mainGlobals mg → FnG l.prog w K mg base CX k fa fd [x] sp)
    (hCX : ∀ (H : Hp) (s : Shared) (e : Value) (s' : Shared), CX [] H s (fun _ _ _ => False) e s' → False) :
    PySem.W.WalkO q loose XP YP l.row.toRowW d [] (fun f vs => PySem.call f vs) := by
  refine Att.attach_call hn hdf fun w s₀ s₁ mg mb fa o pm cd doc a vs ns G Y ho hd hcd hmg hobj hints hlen hg => ?_
  obtain ⟨K, fd, sp, KX, hb, hsp, hF⟩ := F w mg fa _ Y G.T.g hmg
  exact law_callG KX G.T.g G.T.b G.T.builtins G.T.nolimit hg hobj hints (Nat.le_trans hlen hn2) hr hF hb (fun H hO hS => hsp H a ns hlen hO hS) fun H e s' => hCX H s₁ e s'
end Gu

set_option Elab.async false
set_option linter.all false
set_option maxRecDepth 100000
set_option maxHeartbeats 4000000
/-! Own layer: defs, methods, makers and properties by their names. -/
namespace Ex
open PySem PySem.Spec PyProof.Rows L2 Gu
section
variable (P : Program) (w : World) (K : PySem.W.Frag) (mg : Str → Option Value) (base : Heap)
/-- the module's def x keeps sp -/
structure Df (k : Nat) (x : Str) (ps : List Str) (sp : Sp) : Prop where
  ex : ∃ fd, FnOk P w K mg base CX0 k (He.ga K x) fd ps sp ∧ Binds K fd ps []
  gl : mg x = some (.ref (He.ga K x))
  kp : PySem.W.keepIn K (.ref (He.ga K x)) = true
structure DfG (k : Nat) (x : Str) (ps : List Str) (sp : Sp) : Prop where
  ex : ∃ fd, FnG P w K mg base CX0 k (He.ga K x) fd ps sp ∧ Binds K fd ps []
  gl : mg x = some (.ref (He.ga K x))
  kp : PySem.W.keepIn K (.ref (He.ga K x)) = true
/-- .. called by keywords ks alone; j: the places of the parameters among the keywords -/
structure DfK (k : Nat) (x : Str) (ps ks : List Str) (j : List Nat) (sp : Sp) : Prop where
  ex : ∃ fd, FnOk P w K mg base CX0 k (He.ga K x) fd ps sp ∧ ∀ (s : Shared) (ws : List Value), ws.length = ks.length → BindsTo s fd ⟨[], ks.zip ws⟩ (ps.zip (j.filterMap fun i => ws[i]?))
  gl : mg x = some (.ref (He.ga K x))
  kp : PySem.W.keepIn K (.ref (He.ga K x)) = true
structure Mf (k : Nat) (c m : Str) (ps : List Str) (sp : Sp) : Prop where
  ex : ∃ fd, FnOk P w K mg base CX0 k (He.ma K (He.ga K c) m) fd ps sp ∧ Binds K fd ps []
  cl : Cls K (He.ga K c)
  me : Meth K (He.ga K c) m (He.ma K (He.ga K c) m)
structure Pf (k : Nat) (c m : Str) (sp : Sp) : Prop where
  cl : Cls K (He.ga K c)
  ex : ∃ (p g : Addr) (fd : FuncData), PropOf K (He.ga K c) m p g ∧ FnOk P w K mg base CX0 k g fd ["self"] sp ∧ Binds K fd ["self"] []
structure Kf (k : Nat) (c : Str) (ps : List Str) (sp : Sp) : Prop where
  ex : ∃ fd, FnOk P w K mg base CX0 k (He.ma K (He.ga K c) "__init__") fd ps sp ∧ Binds K fd ps []
  gl : mg c = some (.ref (He.ga K c))
  mkr : Mk K (He.ga K c) (He.ma K (He.ga K c) "__init__")
end
section
variable {X : Cx} {k j : Nat} {x c m : Str} {ps ks : List Str} {ji : List Nat} {sp : Sp} {p pos apos : Pos} {e o : Expr} {es : List Expr} {kws : List Keyword} {t tk : TA} {ta : TE}
theorem pcall (D : Df X.prog X.w X.K X.mg X.base k x ps sp) (hr : Room j X.A) (ha : PA X (e :: es) t) (hj : k ≤ j := by decide) (hg : Gl X x := by rfl) (hdb : (x == ("__debug__" : Str)) = false := by decide)
    (he : starEach (e :: es) X.env = (false, eval e X.env) :: starEach es X.env := by rfl) (hpl : (backTo pos (starEach es X.env)).any (·.1) = false := by rfl) :
    PE X (.Call (.Name x p) (e :: es) [] pos) (tCall sp [] E0 t) := by
  obtain ⟨fd, F, b⟩ := D.ex
  exact pe_call F (hr.mono hj) hg D.gl D.kp b .nil pass0 ha hdb he hpl
theorem pcallG (D : DfG X.prog X.w X.K X.mg X.base k x ps sp) (hr : RoomG j X.A) (ha : PA X (e :: es) t) (hj : k ≤ j := by decide) (hg : Gl X x := by rfl) (hdb : (x == ("__debug__" : Str)) = false := by decide)
    (he : starEach (e :: es) X.env = (false, eval e X.env) :: starEach es X.env := by rfl) (hpl : (backTo pos (starEach es X.env)).any (·.1) = false := by rfl) :
    PE X (.Call (.Name x p) (e :: es) [] pos) (tCall sp [] E0 t) := by
  obtain ⟨fd, F, b⟩ := D.ex
  exact pe_callG F (hr.mono hj) hg D.gl D.kp b .nil pass0 ha hdb he hpl
def tKw (sp : Sp) (n : Nat) (j : List Nat) (tk : TA) : TE := fun σ H Q => tk σ H fun zs H2 => zs.length = n ∧ sp (j.filterMap fun i => zs[i]?) H2 Q E0
theorem vals_pick {zs : List V} {ws : List Value} (r : Vals zs ws) : ∀ j : List Nat, Vals (j.filterMap fun i => zs[i]?) (j.filterMap fun i => ws[i]?)
  | [] => .nil
  | i :: j => by
    rw [List.filterMap_cons, List.filterMap_cons]
    cases e : zs[i]? with
    | none =>
      rw [r.none_of e]
      exact vals_pick r j
    | some z =>
      obtain ⟨u, hu, ru⟩ := r.get e
      rw [hu]
      exact .cons ru (vals_pick r j)
theorem pcallK (D : DfK X.prog X.w X.K X.mg X.base k x ps ks ji sp) (hr : Room j X.A) (hkw : PK X kws tk) (hj : k ≤ j := by decide) (hg : Gl X x := by rfl)
    (hall : (backToKw pos (keywordEach kws X.env)).all (·.1.isSome) = true := by rfl) (hks : (backToKw pos (keywordEach kws X.env)).filterMap (·.1) = ks := by rfl)
    (hdb : (x == ("__debug__" : Str)) = false := by decide)
    (hpl : ((backTo pos (starEach [] X.env)).any (·.1) || (backToKw pos (keywordEach kws X.env)).any (·.1.isNone)) = false := by rfl) :
    PE X (.Call (.Name x p) [] kws pos) (tKw sp ks.length ji tk) := by
  obtain ⟨fd, F, b⟩ := D.ex
  refine ⟨fun pins s σ H Q I h => wpAny_Call_Name_kw (ld_glob I hg D.gl ?_ hdb)⟩
  refine PySem.W.callWith_KW0 (h₀ := X.base) I.ok.mod.kin D.kp hall (thn (hkw.run pos pins s σ H _ I h) fun ws s2 ⟨zs, H2, I2, rz, l2, q2⟩ => ⟨I2.kIn, ?_⟩) hpl
  rw [hks]
  refine wpAny_call (codeAny_mono (F.run X.A X.stack s2 H2 ⟨[], ks.zip ws⟩ _ _ Q E0 (hr.mono hj) I2.env0 (b s2 ws (rz.length.symm.trans l2)) (vals_pick rz ji) q2) fun r s' hq => ?_)
  match r, hq with
  | .ok (.ret u), hq => exact I2.after hq
theorem pmeth {pl : Sem Bool} (D : Mf X.prog X.w X.K X.mg X.base k c m ps sp) (hr : Room j X.A) (he : PE X o ta) (ha : PA X (e :: es) t) (hj : k ≤ j := by decide)
    (hst : starEach (e :: es) X.env = (false, eval e X.env) :: starEach es X.env := by rfl) (hpl : (backTo pos (starEach es X.env)).any (·.1) = false := by rfl)
    (ht : eval (.Call (.Attribute o m apos) (e :: es) [] pos) X.env = (do
      let ov ← eval o X.env
      standAt apos.atName
      let (f, first) ← holding [ov] (getMethod ov m pl)
      callWith pos f first (backTo pos (starEach (e :: es) X.env)) (backToKw pos (keywordEach [] X.env))) := by rfl) :
    PE X (.Call (.Attribute o m apos) (e :: es) [] pos) (tMeth (He.ga X.K c) m sp [] E0 ta t) := by
  obtain ⟨fd, F, b⟩ := D.ex
  exact pe_meth he D.cl D.me F (hr.mono hj) b .nil pass0 ha hst hpl ht
theorem pmeth0 {pl : Sem Bool} (D : Mf X.prog X.w X.K X.mg X.base k c m ps sp) (hr : Room j X.A) (he : PE X o ta) (hj : k ≤ j := by decide)
    (ht : eval (.Call (.Attribute o m apos) [] [] pos) X.env = (do
      let ov ← eval o X.env
      standAt apos.atName
      let (f, first) ← holding [ov] (getMethod ov m pl)
      callWith pos f first (backTo pos (starEach [] X.env)) (backToKw pos (keywordEach [] X.env))) := by rfl) :
    PE X (.Call (.Attribute o m apos) [] [] pos) (tMeth (He.ga X.K c) m sp [] E0 ta tNil) := by
  obtain ⟨fd, F, b⟩ := D.ex
  exact pe_meth0 he D.cl D.me F (hr.mono hj) b .nil pass0 ht
theorem pprop (D : Pf X.prog X.w X.K X.mg X.base k c m sp) (hr : Room j X.A) (he : PE X o ta) (hj : k + 1 ≤ j := by decide) (hab : attributeBase o m X.env (eval o X.env) = eval o X.env := by rfl) :
    PE X (.Attribute o m pos) (tProp (He.ga X.K c) sp [] E0 ta) := by
  obtain ⟨p, g, fd, hp, F, b⟩ := D.ex
  exact pe_prop he D.cl hp F (hr.mono hj) b .nil pass0 hab
theorem pmake (D : Kf X.prog X.w X.K X.mg X.base k c ps sp) (hr : Room j X.A) (ha : PA X (e :: es) t) (hj : k + 1 ≤ j := by decide) (hg : Gl X c := by rfl) (hdb : (c == ("__debug__" : Str)) = false := by decide)
    (he : starEach (e :: es) X.env = (false, eval e X.env) :: starEach es X.env := by rfl) (hpl : (backTo pos (starEach es X.env)).any (·.1) = false := by rfl) :
    PE X (.Call (.Name c p) (e :: es) [] pos) (tMake (He.ga X.K c) sp [] E0 t) := by
  obtain ⟨fd, F, b⟩ := D.ex
  exact pe_make D.mkr F (hr.mono hj) hg D.gl b .nil pass0 ha hdb he hpl
end
end Ex

set_option Elab.async false
set_option linter.all false
set_option maxRecDepth 100000
set_option maxHeartbeats 4000000
/-! Own layer: range(a, b) of any whole numbers (walked by one or the other iterator of the machine). -/
namespace Ex
open PySem PySem.Spec PyProof.Rows L2 Gu
theorem turn_long {P : Program} {w : World} {K : PySem.W.Frag} {tg : Expr} (it : Addr) (lo : Int) (n : Nat) :
    Turn P w K tg (Itr lo n) [it] it (fun i h => IsLongIter h it (lo + (i : Nat) * 1) ((n : Int) - (i : Nat)) 1) where
  mem := List.mem_singleton.mpr rfl
  obj := fun i h st b hb => by
    obtain rfl := List.mem_singleton.mp hb
    exact ⟨_, st, fun v z => nomatch (show Data.fields _ = Data.cell v from z)⟩
  keep := fun i h h' st k => k it (List.mem_singleton.mpr rfl) _ st
  item := by
    rintro X rfl rfl rfl hc i pins s σ H E I hf st hg
    obtain ⟨f0, f1, f2, f3, f4, f5⟩ := hf it (List.mem_singleton.mpr rfl)
    refine (Walks.longrange (prog := X.prog) (w := X.w) (I.ok.hd hc) it lo 1 n).item i s _ _ hg st fun v h' tk hv st' kk => ?_
    obtain ⟨t, rfl⟩ := hv
    have J : Inv X pins σ H { s with heap := h', toks := tk } := I.turned (fun b o hb e => kk b o (fun z => hb (List.mem_singleton.mp z)) e) f0 f1 f3 f4 f5
    refine ⟨_, rfl, go_of (s := { s with heap := h', toks := tk }) (n := "longrange_iterator") st' rfl rfl (by decide) ⟨.int (lo + i), H, J, ⟨t, ?_⟩, ⟨rfl, rfl⟩, st', fun b hb => (hf b hb).1⟩⟩
    rw [Int.mul_one]
  done := by
    rintro X rfl rfl rfl hc i pins s σ H E I hf st hg
    obtain ⟨f0, f1, f2, f3, f4, f5⟩ := hf it (List.mem_singleton.mpr rfl)
    have hn : n ≤ i := hg
    exact wpAny_pyNext_long_end (I.ok.hd hc) st (by omega) fun h' eb => ⟨rfl, I.turned (t' := s.toks) (fun b o hb e => eb b o hb e) f0 f1 f3 f4 f5⟩
  self := fun _ _ _ _ _ st h => wpAny_pyIter_longiter st h
section
variable {X : Cx} {tg : Expr}
theorem range_any {pins : List (Addr × Obj)} {σ : L2.St} {H : Hp} {s : Shared} {R : It → Hp → Prop} {E : Value → Shared → Prop} {lo hi : Int} {t u v : Tok} {tk : Nat} (I : Inv X pins σ H s) (q : R (Itr lo (hi - lo).toNat) H) :
    wpAny (model X.prog X.w) X.A (pyIter (.ref s.heap.objs.size)) (PIE X pins σ tg R) E { s with heap := s.heap.push { cls := .type "range", data := .fields #[.int lo t, .int hi u, .int 1 v] }, toks := tk } := by
  have J : Inv X pins σ H { s with heap := s.heap.push { cls := .type "range", data := .fields #[.int lo t, .int hi u, .int 1 v] }, toks := tk } := I.kept fun b o e => Heap.get?_push_of_some _ e
  have e1 : lo + ((0 : Nat) : Int) * 1 = lo := by simp
  have e2 : (((hi - lo).toNat : Nat) : Int) - ((0 : Nat) : Int) = Builtin.Range.rangeSize lo hi 1 := by rw [rangeSize_one]; split <;> omega
  have fr : ∀ b ∈ [(s.heap.push { cls := .type "range", data := .fields #[.int lo t, .int hi u, .int 1 v] }).objs.size], _ := fun b hb => by
    obtain rfl := List.mem_singleton.mp hb
    exact J.fpOk (Nat.le_refl _) (J.hok.fresh (Nat.le_refl _))
  cases hs : Builtin.Range.small lo hi 1 with
  | true =>
    refine wpAny_pyIter_range (IsRange.new ..) hs ⟨_, [_], _, _, H, rfl, J.kept (t' := tk) fun b o e => Heap.get?_push_of_some _ e, turn_range _ lo (hi - lo).toNat, ?_, fr, q⟩
    show IsRangeIter _ _ (lo + ((0 : Nat) : Int) * 1) ((((hi - lo).toNat : Nat) : Int) - ((0 : Nat) : Int)) 1
    rw [e1, e2]
    exact Heap.get?_push_size _ rfl
  | false =>
    refine wpAny_pyIter_longrange (IsRange.new ..) hs ⟨_, [_], _, _, H, rfl, J.kept (t' := tk) fun b o e => Heap.get?_push_of_some _ e, turn_long _ lo (hi - lo).toNat, ?_, fr, q⟩
    show IsLongIter _ _ (lo + ((0 : Nat) : Int) * 1) ((((hi - lo).toNat : Nat) : Int) - ((0 : Nat) : Int)) 1
    rw [e1, e2]
    exact Heap.get?_push_size _ rfl
def iRngA (ta : TA) : TI := fun σ H R => ta σ H fun vs H1 => ∃ i j : Int, vs = [.int i, .int j] ∧ R (Itr i (j - i).toNat) H1
theorem pi_rangeA {a b : Expr} {ta : TA} {p pos : Pos} (hg : Gl X "range") (hm : X.mg "range" = none) (ha : PA X [a, b] ta) (hs : starEach [a, b] X.env = [(false, eval a X.env), (false, eval b X.env)] := by rfl)
    (hs2 : starEach [b] X.env = [(false, eval b X.env)] := by rfl) : PI X tg (.Call (.Name "range" p) [a, b] [] pos) (iRngA ta) := by
  refine ⟨fun pins s σ H R I h => Call_ (ld_blt I hg hm boot_range (PyProof.Rows.callWith_type1 (thn (ha.run pos pins s σ H _ I h) fun us s1 ⟨vs, H1, I1, r1, q1⟩ => ?_) (by rw [hs, hs2]) (by rw [hs2]; rfl)))⟩
  obtain ⟨i, j, rfl, q⟩ := q1
  obtain ⟨u, z, rfl, ⟨t, rfl⟩, ⟨t', rfl⟩⟩ := vals2 r1
  exact call_range_2 (range_any I1 q)
end
end Ex

set_option linter.all false
/-! The mathematics of counted regions. -/
namespace M15
theorem div_is {x s q r : Int} (h : x = s * q + r) (h0 : 0 ≤ r) (h1 : r < s) : x / s = q := by
  have e : r + s * q = x := by rw [h, Int.add_comm]
  exact ((Int.ediv_emod_unique (by omega)).mpr ⟨e, h0, h1⟩).1
/-- the number of multiples below x, rounded up -/
def C (s x : Int) : Int := (x + s - 1) / s
theorem parts (s x : Int) (h : 1 ≤ s) : x = s * (x / s) + x % s ∧ 0 ≤ x % s ∧ x % s < s :=
  ⟨(Int.mul_ediv_add_emod x s).symm, Int.emod_nonneg _ (by omega), Int.emod_lt_of_pos _ (by omega)⟩
theorem C_of {s x q r : Int} (hs : 1 ≤ s) (h : x = s * q + r) (h0 : 0 ≤ r) (h1 : r < s) : C s x = if r = 0 then q else q + 1 := by
  unfold C
  by_cases z : r = 0
  · rw [if_pos z]
    exact div_is (r := s - 1) (by omega) (by omega) (by omega)
  · rw [if_neg z]
    refine div_is (r := r - 1) ?_ (by omega) (by omega)
    have e : s * (q + 1) = s * q + s := by rw [Int.mul_add, Int.mul_one]
    omega
theorem C_step {s x : Int} (hs : 1 ≤ s) : C s (x + 1) = C s x + (if x % s = 0 then 1 else 0) := by
  obtain ⟨e, h0, h1⟩ := parts s x hs
  have a : C s (x + 1) = x / s + 1 := by
    unfold C
    have e2 : s * (x / s + 1) = s * (x / s) + s := by rw [Int.mul_add, Int.mul_one]
    exact div_is (r := x % s) (by omega) h0 h1
  rw [a, C_of hs e h0 h1]
  by_cases z : x % s = 0
  · rw [if_pos z, if_pos z]
  · rw [if_neg z, if_neg z]
    omega
theorem C_mono {s : Int} (hs : 1 ≤ s) (x : Int) (n : Nat) : C s x ≤ C s (x + n) := by
  induction n with
  | zero => simp
  | succ n ih =>
    have e := C_step (s := s) (x := x + n) hs
    rw [show x + ((n + 1 : Nat) : Int) = x + n + 1 by omega, e]
    split <;> omega
theorem C_le {s : Int} (hs : 1 ≤ s) {x y : Int} (h : x ≤ y) : C s x ≤ C s y := by
  have e := C_mono hs x (y - x).toNat
  rw [show x + (((y - x).toNat : Nat) : Int) = y by omega] at e
  exact e
/-- how many of the first n addresses from b on begin a region that ends by e -/
def cnt (s b e : Int) : Nat → Nat
  | 0 => 0
  | n + 1 => cnt s b e n + if (b + n) % s = 0 ∧ b + n + s ≤ e then 1 else 0
theorem cnt_is {s b e : Int} (hs : 1 ≤ s) : ∀ n : Nat, ((cnt s b e n : Nat) : Int) = if C s (min (b + n) (e - s + 1)) > C s b then C s (min (b + n) (e - s + 1)) - C s b else 0
  | 0 => by
    have h : C s (min (b + (0 : Nat)) (e - s + 1)) ≤ C s b := C_le hs (by omega)
    rw [if_neg (by omega)]
    rfl
  | n + 1 => by
    have ih := cnt_is (s := s) (b := b) (e := e) hs n
    show (((cnt s b e n + if (b + n) % s = 0 ∧ b + n + s ≤ e then 1 else 0 : Nat)) : Int) = _
    by_cases hb : b + n + s ≤ e
    · rw [show min (b + ((n + 1 : Nat) : Int)) (e - s + 1) = b + n + 1 by omega, C_step hs]
      rw [show min (b + (n : Int)) (e - s + 1) = b + n by omega] at ih
      have m := C_mono hs b n
      by_cases z : (b + n) % s = 0
      · rw [if_pos ⟨z, hb⟩, if_pos z]
        split at ih <;> split <;> omega
      · rw [if_neg (fun q => z q.1), if_neg z]
        split at ih <;> split <;> omega
    · rw [if_neg (fun q => hb q.2)]
      rw [show min (b + ((n + 1 : Nat) : Int)) (e - s + 1) = e - s + 1 by omega]
      rw [show min (b + (n : Int)) (e - s + 1) = e - s + 1 by omega] at ih
      omega
/-- the greatest of 0 and the difference -/
def cntM (s b e : Int) : Int := if e / s - C s b > 0 then e / s - C s b else 0
theorem C_end {s e : Int} : C s (e - s + 1) = e / s := by
  unfold C
  rw [show e - s + 1 + s - 1 = e by omega]
theorem cnt_all {s b e : Int} (hs : 1 ≤ s) (hb : b ≤ e) : ((cnt s b e (e - b).toNat : Nat) : Int) = cntM s b e := by
  rw [cnt_is hs, show min (b + (((e - b).toNat : Nat) : Int)) (e - s + 1) = e - s + 1 by omega, C_end]
  unfold cntM
  split <;> split <;> omega
theorem up_is {s a : Int} (hs : 1 ≤ s) : -(-a / s) = C s a := by
  obtain ⟨e, h0, h1⟩ := parts s a hs
  rw [C_of hs e h0 h1]
  by_cases z : a % s = 0
  · rw [if_pos z]
    have : -a / s = -(a / s) := div_is (r := 0) (by rw [Int.mul_neg]; omega) (by omega) (by omega)
    omega
  · rw [if_neg z]
    have e2 : s * (-(a / s) - 1) = -(s * (a / s)) - s := by rw [Int.mul_sub, Int.mul_neg, Int.mul_one]
    have : -a / s = -(a / s) - 1 := div_is (r := s - a % s) (by omega) (by omega) (by omega)
    omega
theorem quot_is {s a e : Int} (hs : 1 ≤ s) : ((e - e % s) - -(-a / s) * s) / s = e / s - C s a := by
  obtain ⟨h, h0, h1⟩ := parts s e hs
  rw [up_is hs]
  refine div_is (r := 0) ?_ (by omega) (by omega)
  have x1 : C s a * s = s * C s a := Int.mul_comm _ _
  have x2 : s * (e / s - C s a) = s * (e / s) - s * C s a := Int.mul_sub _ _ _
  omega
/-- a region across the cut -/
theorem across {s b c e : Int} (hs : 1 ≤ s) (h1 : b ≤ c) (h2 : c ≤ e) :
    cntM s b c + cntM s c e + (if b ≤ c - c % s ∧ c - c % s < c ∧ c - c % s + s ≤ e ∧ c % s ≠ 0 then 1 else 0) = cntM s b e := by
  obtain ⟨ec, c0, c1⟩ := parts s c hs
  obtain ⟨ee, e0, e1⟩ := parts s e hs
  obtain ⟨eb, b0, b1⟩ := parts s b hs
  have hCc := C_of hs ec c0 c1
  have hCb := C_of hs eb b0 b1
  have m1 : C s b ≤ C s c := C_le hs h1
  have m2 : c / s ≤ e / s := Int.ediv_le_ediv (by omega) h2
  have m3 : b / s ≤ c / s := Int.ediv_le_ediv (by omega) h1
  unfold cntM
  -- quotients: qb qc qe
  generalize hqb : b / s = qb at *
  generalize hqc : c / s = qc at *
  generalize hqe : e / s = qe at *
  have k1 : b ≤ c - c % s ↔ C s b ≤ qc := by
    have t : c - c % s = s * qc := by omega
    rw [t, hCb]
    constructor
    · intro h
      by_cases z : b % s = 0
      · rw [if_pos z]
        exact m3
      · rw [if_neg z]
        refine Int.not_lt.mp fun hn => ?_
        have : qc = qb := by omega
        rw [this] at h
        omega
    · intro h
      by_cases z : b % s = 0
      · rw [if_pos z] at h
        have := Int.mul_le_mul_of_nonneg_left h (show (0 : Int) ≤ s by omega)
        omega
      · rw [if_neg z] at h
        have := Int.mul_le_mul_of_nonneg_left h (show (0 : Int) ≤ s by omega)
        rw [Int.mul_add, Int.mul_one] at this
        omega
  have k2 : c - c % s + s ≤ e ↔ qc + 1 ≤ qe := by
    have t : c - c % s + s = s * (qc + 1) := by rw [Int.mul_add, Int.mul_one]; omega
    rw [t]
    constructor
    · intro h
      refine Int.not_lt.mp fun hn => ?_
      have := Int.mul_le_mul_of_nonneg_left (show qe ≤ qc by omega) (show (0 : Int) ≤ s by omega)
      have : s * (qc + 1) = s * qc + s := by rw [Int.mul_add, Int.mul_one]
      omega
    · intro h
      have := Int.mul_le_mul_of_nonneg_left h (show (0 : Int) ≤ s by omega)
      omega
  have hI : (if b ≤ c - c % s ∧ c - c % s < c ∧ c - c % s + s ≤ e ∧ c % s ≠ 0 then (1 : Int) else 0) = if c % s ≠ 0 ∧ C s b ≤ qc ∧ qc + 1 ≤ qe then 1 else 0 := by
    by_cases y : c % s ≠ 0 ∧ C s b ≤ qc ∧ qc + 1 ≤ qe
    · rw [if_pos y, if_pos ⟨k1.mpr y.2.1, by omega, k2.mpr y.2.2, y.1⟩]
    · rw [if_neg y, if_neg fun q => y ⟨q.2.2.2, k1.mp q.1, k2.mp q.2.2.1⟩]
  rw [hI]
  have hc3 : C s c = qc ∧ c % s = 0 ∨ C s c = qc + 1 ∧ c % s ≠ 0 := by
    by_cases z : c % s = 0
    · rw [if_pos z] at hCc
      exact .inl ⟨hCc, z⟩
    · rw [if_neg z] at hCc
      exact .inr ⟨hCc, z⟩
  clear hCc hCb k1 k2 hI
  generalize C s b = cb at *
  generalize C s c = cc at *
  rcases hc3 with ⟨rfl, z⟩ | ⟨rfl, z⟩
  · rw [if_neg (c := c % s ≠ 0 ∧ cb ≤ cc ∧ cc + 1 ≤ qe) fun q => q.1 z]
    split <;> split <;> split <;> omega
  · by_cases y : cb ≤ qc ∧ qc + 1 ≤ qe
    · rw [if_pos (c := c % s ≠ 0 ∧ cb ≤ qc ∧ qc + 1 ≤ qe) ⟨z, y.1, y.2⟩]
      split <;> split <;> split <;> omega
    · rw [if_neg (c := c % s ≠ 0 ∧ cb ≤ qc ∧ qc + 1 ≤ qe) fun q => y q.2]
      split <;> split <;> split <;> omega
end M15

set_option Elab.async false
set_option linter.all false
set_option maxRecDepth 100000
set_option maxHeartbeats 4000000
/-! Own layer: data of any depth, dicts among it, as repr shows it. -/
namespace Ex
open PySem PySem.Spec PyProof.Rows L2 Gu
mutual
inductive Dq (K : PySem.W.Frag) (H : Hp) : V → PyData → Prop
  | non : Dq K H .non .none
  | bl (b : Bool) : Dq K H (.bl b) (.bool b)
  | int (i : Int) : Dq K H (.int i) (.int i)
  | str (x : Str) : Dq K H (.str x) (.str x)
  | lst {a : Addr} {xs : List V} {ds : List PyData} : SqL K H a xs → DqAll K H xs ds → Dq K H (.ref a) (.list ds)
  | tup {a : Addr} {xs : List V} {ds : List PyData} : SqT K H a xs → DqAll K H xs ds → Dq K H (.ref a) (.tuple ds)
  | dct {a : Addr} {kvs : List (Key × V)} {ds : List (PyData × PyData)} : H a = some (.dK kvs) → DqAll K H (kvs.map fun p => kV p.1) (ds.map (·.1)) → DqAll K H (kvs.map (·.2)) (ds.map (·.2)) → Dq K H (.ref a) (.dict ds)
inductive DqAll (K : PySem.W.Frag) (H : Hp) : List V → List PyData → Prop
  | nil : DqAll K H [] []
  | cons {v : V} {vs : List V} {d : PyData} {ds : List PyData} : Dq K H v d → DqAll K H vs ds → DqAll K H (v :: vs) (d :: ds)
end
/-- the table of modules stands in the written part: no list lies there -/
def SysOk (K : PySem.W.Frag) : Prop := ∃ o, K.lookup sysModules = some o ∧ o.cls ≠ .type "list"
section
variable {X : Cx} {pins : List (Addr × Obj)} {σ : L2.St} {H : Hp} {s : Shared}
theorem key_rel {k : Key} {v : Value} (h : keyIs k v = true) : RelV (kV k) v := by
  rcases keyIs_shape h with ⟨i, t, rfl, rfl⟩ | ⟨x, t, rfl, rfl⟩
  · exact ⟨t, rfl⟩
  · exact ⟨t, rfl⟩
theorem not_sys {a : Addr} {o : Obj} (hs : SysOk X.K) (I : Inv X pins σ H s) (ho : s.heap.get? a = some o) (hc : o.cls = .type "list") : a ≠ sysModules := fun z => by
  obtain ⟨u, e, n⟩ := hs
  have h2 := I.kIn _ _ e
  rw [z, h2] at ho
  rw [Option.some.inj ho] at n
  exact n hc
theorem pairs_rel {es : List DictEntry} {vs : List (Key × Value)} (h : Pairs (mixKind X.prog X.w) es vs) : ∀ {kvs : List (Key × V)}, KV kvs vs → Vals (kvs.map fun p => kV p.1) (es.map (·.key)) ∧ Vals (kvs.map (·.2)) (es.map (·.val)) := by
  induction h with
  | nil =>
    intro kvs r
    cases r
    exact ⟨.nil, .nil⟩
  | @cons e kv es vs h1 h2 h3 ih =>
    intro kvs r
    cases r with
    | @cons p _ l _ r1 r2 =>
      obtain ⟨i1, i2⟩ := ih r2
      have k1 : RelV (kV p.1) e.key := by
        rw [r1.1]
        exact key_rel h1
      have k2 : RelV p.2 e.val := by
        rw [h2]
        exact r1.2
      exact ⟨.cons k1 i1, .cons k2 i2⟩
mutual
theorem Dq.reads (hs : SysOk X.K) (I : Inv X pins σ H s) : ∀ {v : V} {d : PyData}, Dq X.K H v d → ∀ u, RelV v u → ∃ as, Reads s.heap u d as ∧ sysModules ∉ as
  | _, _, .non, u, r => by
    cases r
    exact ⟨_, Reads.none, List.not_mem_nil⟩
  | _, _, .bl b, u, r => by
    cases r
    exact ⟨_, Reads.bool b, List.not_mem_nil⟩
  | _, _, .int i, u, r => by
    obtain ⟨t, rfl⟩ := r
    exact ⟨_, Reads.int i t, List.not_mem_nil⟩
  | _, _, .str x, u, r => by
    obtain ⟨t, rfl⟩ := r
    exact ⟨_, Reads.str x t, List.not_mem_nil⟩
  | _, _, .lst (a := a) hq ha, u, r => by
    cases r
    obtain ⟨its, rv, ⟨o, n, ho, hc, _, hd⟩, _⟩ := I.list hq
    obtain ⟨as, hr, na⟩ := Dq.readsAll hs I ha its rv
    refine ⟨_, Reads.list ho hc hd hr, fun hm => ?_⟩
    rcases List.mem_cons.mp hm with z | z
    · exact not_sys hs I ho hc z.symm
    · exact na z
  | _, _, .tup (a := a) hq ha, u, r => by
    cases r
    obtain ⟨its, rv, ⟨o, ho, hc, n, hd⟩, _⟩ := I.tuple hq
    obtain ⟨as, hr, na⟩ := Dq.readsAll hs I ha its rv
    exact ⟨_, Reads.tuple ho hc hd hr, na⟩
  | _, _, .dct (a := a) (kvs := kvs) hq h1 h2, u, r => by
    cases r
    obtain ⟨_, ns, vs, rk, o, es, ep, ho, hx, hd, _, hp, _⟩ := (show ObjOk X.prog X.w H s.heap a (.dK kvs) from I.hok a _ hq)
    obtain ⟨r1, r2⟩ := pairs_rel hp rk
    obtain ⟨as, q1, n1⟩ := Dq.readsAll hs I h1 _ r1
    obtain ⟨bs, q2, n2⟩ := Dq.readsAll hs I h2 _ r2
    refine ⟨_, Reads.dict ho hx.1 hd q1 q2, fun hm => ?_⟩
    rcases List.mem_append.mp hm with z | z
    · rcases List.mem_cons.mp z with z | z
      · rw [← z, beq_self_eq_true] at ns
        cases ns
      · exact n1 z
    · exact n2 z
theorem Dq.readsAll (hs : SysOk X.K) (I : Inv X pins σ H s) : ∀ {vs : List V} {ds : List PyData}, DqAll X.K H vs ds → ∀ us : List Value, Vals vs us → ∃ as, ReadsAll s.heap us ds as ∧ sysModules ∉ as
  | _, _, .nil, us, r => by
    cases r
    exact ⟨_, ReadsAll.nil, List.not_mem_nil⟩
  | _, _, .cons h1 h2, us, r => by
    cases r with
    | cons r1 r2 =>
      obtain ⟨as, q1, n1⟩ := Dq.reads hs I h1 _ r1
      obtain ⟨bs, q2, n2⟩ := Dq.readsAll hs I h2 _ r2
      refine ⟨_, ReadsAll.cons q1 q2, fun hm => ?_⟩
      rcases List.mem_append.mp hm with z | z
      · exact n1 z
      · exact n2 z
end
end
section
variable {X : Cx} {k : Nat}
/-- repr of any data -/
def rReprQ (K : PySem.W.Frag) : List V → Hp → VK → Prop := fun xs H Q => ∃ (v : V) (d : PyData), xs = [v] ∧ Dq K H v d ∧ d.showable = true ∧ d.depth ≤ 60 ∧ d.shown.length ≤ sizeLine ∧ Q (.str d.shown) H
theorem call_reprQ (hr : RoomG k X.A) (hs : SysOk X.K) : CallR X (.builtin "repr") (rReprQ X.K) := by
  intro pins s σ H xs us Q I r h
  obtain ⟨v, d, rfl, hd, hsh, hdep, hz, q⟩ := h
  obtain ⟨u, rfl, ru⟩ := vals1 r
  obtain ⟨as, rd, na⟩ := Dq.reads hs I hd u ru
  have hu := hr.r.units
  cases hd with
  | non =>
    cases ru
    exact PySem.P.repr_of_none ⟨.str _, H, I.tok _, ⟨_, rfl⟩, by simpa only [PyData.shown] using q⟩
  | bl b =>
    cases ru
    exact PySem.P.repr_of_bool ⟨.str _, H, I.tok _, ⟨_, rfl⟩, by simpa only [PyData.shown] using q⟩
  | int i =>
    obtain ⟨t, rfl⟩ := ru
    exact PySem.P.repr_of_int (by simpa [PyData.showable] using hsh) ⟨.str _, H, I.tok _, ⟨_, rfl⟩, by simpa only [PyData.shown] using q⟩
  | str x =>
    obtain ⟨t, rfl⟩ := ru
    exact PySem.P.repr_of_str ⟨.str _, H, I.tok _, ⟨_, rfl⟩, by simpa only [PyData.shown] using q⟩ (by simpa only [PyData.shown] using hz)
  | @lst a xs ds hq ha =>
    obtain rfl : u = Value.ref a := ru
    exact repr_of_reads' rd hsh (fun _ => na) hr.g (by omega) (fun _ _ e => e) (fun h' u tk hk => ⟨.str _, H, I.kept hk, ⟨u, rfl⟩, q⟩) hz
  | @tup a xs ds hq ha =>
    obtain rfl : u = Value.ref a := ru
    exact repr_of_reads' rd hsh (fun _ => na) hr.g (by omega) (fun _ _ e => e) (fun h' u tk hk => ⟨.str _, H, I.kept hk, ⟨u, rfl⟩, q⟩) hz
  | @dct a kvs ds hq h1 h2 =>
    obtain rfl : u = Value.ref a := ru
    exact repr_of_reads' rd hsh (fun _ => na) hr.g (by omega) (fun _ _ e => e) (fun h' u tk hk => ⟨.str _, H, I.kept hk, ⟨u, rfl⟩, q⟩) hz
/-- x is not True, x is not False, of any scalar -/
def rNotBA : R2 := fun x y H Q => ∃ b : Bool, y = .bl b ∧ ((∃ a : Bool, x = .bl a ∧ Q (.bl (!decide (a = b))) H) ∨ (∃ i : Int, x = .int i ∧ Q (.bl true) H))
theorem op_notBA : OpR X (compareOp .IsNot) rNotBA := by
  intro pins s σ H x y v u Q I rx ry h
  obtain ⟨b, rfl, h⟩ := h
  rcases h with ⟨a, rfl, q⟩ | ⟨i, rfl, q⟩
  · exact op_notBl pins s σ H _ _ v u Q I rx ry ⟨a, b, rfl, rfl, q⟩
  · cases (show u = Value.bool b from ry)
    obtain ⟨t, rfl⟩ := (show ∃ t, v = Value.int i t from rx)
    exact wpAny_isNot_other rfl (fun z => nomatch z) ⟨.bl true, H, I, rfl, q⟩
end
end Ex

set_option Elab.async false
set_option linter.all false
set_option maxRecDepth 100000
set_option maxHeartbeats 4000000
/-! Own layer: isinstance of a caught error that has a dict of its own; errors with fields, raised. -/
namespace Ex
open PySem PySem.Spec PySem.Calls PyProof.Rows L2 Gu
section
variable {prog : Program} {w : World} {A : Around} {E : Value → Shared → Prop} {s : Shared} {K : PySem.W.Frag} {x D : Addr} {ox od : Obj}
theorem class_of_exc {Q : Option Value → Shared → Prop} (c : ExcC K D) (X : K.In s.heap) (I : PySem.W.InstAt s.heap x ox D (some od)) (h : Q (some (.ref D)) { s with toks := s.toks + 1 }) :
    wpAny (model prog w) A (getAttr? (.ref x) "__class__") Q E s := by
  have found : PySem.W.findObj K D (some od) "__class__" = some (.bind (.builtin "getset_descriptor.__get__") (.builtin "object.__class__")) :=
    PySem.W.findObj_data (by obtain ⟨cd, e, _⟩ := PySem.W.any_some c.hd; rw [e]; rfl) c.ha c.hn c.ht
  obtain ⟨hp, g, d, t, os⟩ := s
  have lt := I.type (M := model prog w)
  have lg := PySem.W.looks_findIn (M := model prog w) X c.hg
  have lk := PySem.W.looks_findIn (M := model prog w) X c.hk
  have lf := PySem.W.looks_find (M := model prog w) X I found
  have other : (onTheHeap (Value.ref D) && Value.builtin "BaseException.__getattribute__" == Value.builtin "object.__getattribute__") = false := by
    rw [show (Value.builtin "BaseException.__getattribute__" == Value.builtin "object.__getattribute__") = false by decide +kernel]
    rfl
  unfold getAttr? getAttrBy? getAttrBy
  refine wpAny_bind (wpAny_mkText (wpAny_bind (wpAny_attempt (wpAny_holding (wpAny_bind (lt.at (wpAny_bind (lg.at ?own))))))))
  case own =>
    show wpAny _ _ (if (onTheHeap (Value.ref D) && Value.builtin "BaseException.__getattribute__" == Value.builtin "object.__getattribute__") = true then _ else _) _ _ _
    rw [other, if_neg Bool.false_ne_true]
    unfold getAttrByItsOwn hookBefore
    refine wpAny_bind ?_
    rw [if_pos (show onTheHeap (Value.ref D) = true from rfl)]
    refine lk.at (wpAny_bind (wpAny_attempt (wpAny_holding ?_)))
    unfold callGetattribute
    rw [show (false && onTheHeap (Value.builtin "BaseException.__getattribute__")) = false from rfl, if_neg Bool.false_ne_true]
    unfold boundAndCalled
    rw [PySem.F.excAttr_ValueError.ga.bind (.ref x)]
    refine wpAny_bind (wpAny_pure ?_)
    show wpAny _ _ (call (.builtin "BaseException.__getattribute__") [.ref x, .str "__class__" t]) _ _ _
    refine wpAny_call (codeAny_call_builtin PySem.F.excAttr_ValueError.ga.plain PySem.F.entry_bexc_ga
      (@PySem.W.check_slot (model prog w) _ _ ⟨hp, g, d, t + 1, os⟩ "BaseException.__getattribute__" "BaseException" "__getattribute__" (.ref x) [.str "__class__" t] [] _
        (by decide +kernel) (by decide +kernel) (lt.andThen (PySem.W.looks_subIn X c.hs)) (PySem.F.args_bexc_ga (.ref x) (.str "__class__" t)) ?_))
    unfold Builtin.«object.__getattribute__»
    refine wpAny_bind (wpAny_of_eq (a := ((Value.ref x : Value), [Value.str "__class__" t])) (by first | rfl | (simp only [slotArgs]; rfl)) (wpAny_bind (wpAny_pure (wpAny_bind (lt.at (wpAny_bind (lf.at ?_)))))))
    show wpAny _ _ (holding [Value.builtin "object.__class__"] (call (.builtin "getset_descriptor.__get__") [.builtin "object.__class__", .ref x, .ref D]) >>= ret) _ _ _
    refine wpAny_bind (wpAny_holding (wpAny_call (PySem.W.class_get (s := ⟨hp, g, d, t + 1, os⟩) (ox := ox) (od := some od) X I c.hm (wpAny_pure ?_))))
    show wpAny _ _ (handedOut (.ref D)) _ _ _
    rw [PySem.W.handedOut_of (v := .ref D) rfl]
    first
      | exact wpAny_pure (wpAny_pure h)
      | exact wpAny_pure h
      | exact wpAny_pure (wpAny_bind (wpAny_pure (wpAny_pure h)))
theorem kitx_exc (c : ExcC K D) : PySem.W.KitX K (.ref x) (.ref D) (fun h => PySem.W.InstAt h x ox D (some od)) where
  ty := fun _ _ _ I => I.type
  it := fun _ _ X _ => by
    obtain ⟨cd, e, _⟩ := PySem.W.any_some c.hd
    unfold PySem.W.clsIn at e
    split at e
    · rename_i ho
      exact fun A' Q' E' s' k q => by
        unfold isType loadHead
        exact wpAny_bind (wpAny_loadPart (k _ _ (X _ _ ho)) (wpAny_pure q))
    · cases e
  ne := fun h tp dd its n sl X htp => by
    obtain ⟨cd, e, _⟩ := PySem.W.any_some c.hd
    cases q : (Value.ref D == Value.ref tp) with
    | false => rfl
    | true =>
      have z : D = tp := Value.ref.inj (beq_iff_eq.mp q)
      rw [← z] at htp
      unfold PySem.W.clsIn at e
      split at e
      · rename_i ho
        have y := (X _ _ ho).symm.trans htp
        cases y
      · cases e
  ca := fun X I k => class_of_exc c X I k
end
section
variable {X : Cx} {a D : Addr} {oe : Obj} {d : Addr} {pn : List (Addr × Obj)}
/-- the caught error as the machine sees it -/
theorem inst_exc {pins : List (Addr × Obj)} {σ : L2.St} {H : Hp} {s : Shared} {fs : List (Str × V)} (I : Inv (X.suite a ((a, oe) :: pn)) pins σ H s) (hz : Zc (.ref D) (some d) oe) (hf : ∃ vs, oe.data = .fields vs) (hd : H d = some (.xd fs)) :
    ∃ od, PySem.W.InstAt s.heap a oe D (some od) := by
  obtain ⟨hget, _⟩ := I.pin (a, oe) (List.mem_append_left _ List.mem_cons_self)
  obtain ⟨vs, hv⟩ := hf
  obtain ⟨mA, hns, _⟩ := (show ObjOk X.prog X.w H s.heap d (.xd fs) from I.hok d _ hd)
  obtain ⟨od, ho, _⟩ := lookIn_ns hns
  exact ⟨od, hget, hz.1, by unfold PySem.W.notCls; rw [hv] <;> rfl, by rw [hz.2]; exact ho⟩
/-- isinstance(e, c) -/
def rIsX (K : PySem.W.Frag) (D a : Addr) (cls : Value) (d : Option Addr) : List V → Hp → VK → Prop := fun xs H Q => ∃ (c : V) (u : Value) (b : Bool) (dd : Addr) (fs : List (Str × V)), xs = [.ref a, c] ∧ cls = .ref D ∧ d = some dd ∧ ClsV c u ∧ H dd = some (.xd fs) ∧ PySem.W.kitOne K (.ref D) u = some b ∧ Q (.bl b) H
theorem call_isX {cls : Value} {d : Option Addr} (c : ExcC X.K D) (hz : Zc cls d oe) (hf : ∃ vs, oe.data = .fields vs) : CallR (X.suite a ((a, oe) :: pn)) (.builtin "isinstance") (rIsX X.K D a cls d) := by
  intro pins s σ H xs us Q I r h
  obtain ⟨cv, u, b, dd, fs, rfl, rfl, rfl, k, hd, e, q⟩ := h
  obtain ⟨u1, u2, rfl, r1, r2⟩ := vals2 r
  obtain rfl : u1 = Value.ref a := r1
  have e2 := k.eq r2
  subst e2
  obtain ⟨od, J⟩ := inst_exc I hz hf hd
  exact PySem.W.kia_one (kitx_exc c) I.kIn J e (fun z => nomatch z) fun tk => ⟨.bl b, H, I.tok tk, rfl, q⟩
/-- isinstance(e, (c1, c2, ..)) -/
def rIsXT (K : PySem.W.Frag) (D a : Addr) (cls : Value) (d : Option Addr) : List V → Hp → VK → Prop := fun xs H Q => ∃ (tp : Addr) (cs : List V) (us : List Value) (b : Bool) (dd : Addr) (fs : List (Str × V)), xs = [.ref a, .ref tp] ∧ cls = .ref D ∧ d = some dd ∧
  H tp = some (.tup cs) ∧ Paired ClsV cs us ∧ H dd = some (.xd fs) ∧ PySem.W.kitAny K (.ref D) us = some b ∧ Q (.bl b) H
theorem call_isXT {cls : Value} {d : Option Addr} (c : ExcC X.K D) (hz : Zc cls d oe) (hf : ∃ vs, oe.data = .fields vs) : CallR (X.suite a ((a, oe) :: pn)) (.builtin "isinstance") (rIsXT X.K D a cls d) := by
  intro pins s σ H xs us Q I r h
  obtain ⟨tp, cs, ws, b, dd, fs, rfl, rfl, rfl, hT, k, hd, e, q⟩ := h
  obtain ⟨u1, u2, rfl, r1, r2⟩ := vals2 r
  obtain rfl : u1 = Value.ref a := r1
  obtain rfl : u2 = Value.ref tp := r2
  obtain ⟨od, J⟩ := inst_exc I hz hf hd
  obtain ⟨_, its, rv, o, h1, h2, n, h3⟩ := (show ObjOk X.prog X.w H s.heap tp (.tup cs) from I.hok tp _ hT)
  have e3 := ClsV.all k rv
  subst e3
  obtain ⟨oc, odd, dt, sl⟩ := o
  simp only at h2 h3
  subst h2 h3
  exact PySem.W.kia_tup (kitx_exc c) I.kIn J h1 e (fun z => nomatch z) fun tk => ⟨.bl b, H, I.tok tk, rfl, q⟩
end
section
variable {X : Cx}
/-- repr of any data, also while an error is handled -/
theorem call_reprH (hg : X.A.guards = some []) (hu : X.A.units + 64 < cLine) (hs : SysOk X.K) : CallR X (.builtin "repr") (rReprQ X.K) := by
  intro pins s σ H xs us Q I r h
  obtain ⟨v, d, rfl, hd, hsh, hdep, hz, q⟩ := h
  obtain ⟨u, rfl, ru⟩ := vals1 r
  obtain ⟨as, rd, na⟩ := Dq.reads hs I hd u ru
  have viaRef : ∀ {a : Addr}, u = Value.ref a → wpAny (model X.prog X.w) X.A (call (.builtin "repr") [u]) (EP X pins σ Q) X.xe s := fun {a} e => by
    subst e
    exact repr_of_reads' rd hsh (fun _ => na) hg (by omega) (fun _ _ e => e) (fun h' u tk hk => ⟨.str _, H, I.kept hk, ⟨u, rfl⟩, q⟩) hz
  cases hd with
  | non =>
    cases ru
    exact PySem.P.repr_of_none ⟨.str _, H, I.tok _, ⟨_, rfl⟩, by simpa only [PyData.shown] using q⟩
  | bl b =>
    cases ru
    exact PySem.P.repr_of_bool ⟨.str _, H, I.tok _, ⟨_, rfl⟩, by simpa only [PyData.shown] using q⟩
  | int i =>
    obtain ⟨t, rfl⟩ := ru
    exact PySem.P.repr_of_int (by simpa [PyData.showable] using hsh) ⟨.str _, H, I.tok _, ⟨_, rfl⟩, by simpa only [PyData.shown] using q⟩
  | str x =>
    obtain ⟨t, rfl⟩ := ru
    exact PySem.P.repr_of_str ⟨.str _, H, I.tok _, ⟨_, rfl⟩, by simpa only [PyData.shown] using q⟩ (by simpa only [PyData.shown] using hz)
  | lst hq ha => exact viaRef ru
  | tup hq ha => exact viaRef ru
  | dct hq h1 h2 => exact viaRef ru
end
end Ex

set_option Elab.async false
set_option linter.all false
set_option maxRecDepth 100000
set_option maxHeartbeats 4000000
/-! Own layer: len(o) by an own __len__; what repr shows, within bounds; both law-free. -/
namespace Ex
open PySem PySem.Spec PySem.Calls PyProof.Rows L2 Gu
section
variable {X : Cx} {k j : Nat} {c : Str} {ps : List Str} {sp : Sp}
/-- len(o) by the class's own __len__ -/
def rLenO (C : Addr) (sp : Sp) : List V → Hp → VK → Prop := fun xs H Q => ∃ (a dx : Addr) (fs : List (Str × V)), xs = [.ref a] ∧ H a = some (.ins C dx fs) ∧ sp [.ref a] H (fun v H' => ∃ n : Nat, v = .int n ∧ n ≤ sizeLine ∧ Q (.int n) H') E0
theorem call_lenO (D : Mf X.prog X.w X.K X.mg X.base k c "__len__" ps sp) (hr : Room j X.A) (hj : k + 1 ≤ j := by decide) : CallR X (.builtin "len") (rLenO (He.ga X.K c) sp) := by
  intro pins s σ H xs us Q I r h
  obtain ⟨a, dx, fs, rfl, ha, hq⟩ := h
  obtain ⟨u, rfl, ru⟩ := vals1 r
  obtain rfl : u = Value.ref a := ru
  obtain ⟨fd, F, b⟩ := D.ex
  obtain ⟨mA, J, _⟩ := ins_get I.hok ha
  obtain ⟨od, J, _⟩ := J.look
  have rm : Room k X.A.in1 := (hr.mono hj).in1
  refine Calls.call_function_entry kind_len plain_len entry_len (args_len1 _) ?_
  unfold Builtin.«len»
  refine wpAny_bind (m := oneArg "len" _) (wpAny_pure ?_)
  refine wpAny_bind (m := callSpecial? (.ref a) (Str.ofString "__len__")) (PySem.W.special_fn (name := Str.ofString "__len__") (args := []) I.kIn J D.me.at_ (beq_iff_eq.mp D.me.fn) ?_)
  have e0 : Env0 X.prog X.w X.K X.mg X.base X.A.in1 X.stack s H := by
    have e := I.env0
    exact ⟨e.frames, e.mod, e.bs, e.bsz, e.funs, e.frf, e.hok, e.bare⟩
  have hl := F.len _ _ _ _ hq
  refine wpAny_call (codeAny_mono (F.run X.A.in1 X.stack s H ⟨[.ref a], []⟩ [.ref a] [.ref a] _ E0 rm e0 (by
    have := b s [.ref a] I.kIn (by simpa using hl)
    simpa using this) (.cons rfl .nil) hq) fun r s' hq' => ?_)
  match r, hq' with
  | .ok (.ret u), hq' =>
    obtain ⟨v, H', I', rv, n, rfl, hn, q⟩ := I.after hq'
    obtain ⟨t, rfl⟩ := rv
    have hs : sizeLine = 16777216 := sizeLine_eq
    refine wpAny_bind (wpAny_holding (wpAny_pure ?_))
    refine wpAny_bind (wpAny_letGo ?_)
    show wpAny _ _ (if ((n : Nat) : Int) < 0 then _ else _) _ _ _
    rw [if_neg (by omega)]
    show wpAny _ _ (if ((n : Nat) : Int) ≥ 2 ^ 63 then _ else _) _ _ _
    rw [if_neg (by omega)]
    exact wpAny_bind (wpAny_mkInt (wpAny_pure ⟨_, rfl, ⟨.int n, H', I'.tok _, ⟨_, rfl⟩, q⟩⟩))
end
theorem seqT {K : PySem.W.Frag} {H H' : Hp} {a : Addr} {xs : List V} (e : Same H H') (h : SqT K H a xs) : SqT K H' a xs := by
  rcases h with (h | ⟨o, h⟩) | h
  · exact .inl (.inl (e _ _ h))
  · exact .inl (.inr ⟨o, e _ _ h⟩)
  · exact .inr h
mutual
theorem dq_same {K : PySem.W.Frag} {H H' : Hp} (e : Same H H') : ∀ {v : V} {d : PyData}, Dq K H v d → Dq K H' v d
  | _, _, .non => .non
  | _, _, .bl b => .bl b
  | _, _, .int i => .int i
  | _, _, .str x => .str x
  | _, _, .lst hq ha => .lst (e.seq hq) (dqAll_same e ha)
  | _, _, .tup hq ha => .tup (seqT e hq) (dqAll_same e ha)
  | _, _, .dct hq h1 h2 => .dct (e _ _ hq) (dqAll_same e h1) (dqAll_same e h2)
theorem dqAll_same {K : PySem.W.Frag} {H H' : Hp} (e : Same H H') : ∀ {vs : List V} {ds : List PyData}, DqAll K H vs ds → DqAll K H' vs ds
  | _, _, .nil => .nil
  | _, _, .cons h1 h2 => .cons (dq_same e h1) (dqAll_same e h2)
end
/-- a value as repr shows it: nested at most n deep, at most m signs -/
structure Tq (K : PySem.W.Frag) (H : Hp) (v : V) (d : PyData) (n m : Nat) : Prop where
  dq : Dq K H v d
  sh : d.showable = true
  dp : d.depth ≤ n
  ln : d.shown.length ≤ m
structure TqAll (K : PySem.W.Frag) (H : Hp) (xs : List V) (ds : List PyData) (n m : Nat) : Prop where
  dq : DqAll K H xs ds
  sh : PyData.showableAll ds = true
  dp : PyData.depthAll ds ≤ n
  ln : ((PyData.shownAll ds).map (·.length)).sum + 2 * (PyData.shownAll ds).length ≤ xs.length * (m + 2)
section
variable {K : PySem.W.Frag} {H H' : Hp} {n m : Nat}
theorem Tq.same {v : V} {d : PyData} (t : Tq K H v d n m) (e : Same H H') : Tq K H' v d n m := ⟨dq_same e t.dq, t.sh, t.dp, t.ln⟩
theorem Tq.mono {v : V} {d : PyData} {n' m' : Nat} (t : Tq K H v d n m) (h1 : n ≤ n') (h2 : m ≤ m') : Tq K H v d n' m' := ⟨t.dq, t.sh, Nat.le_trans t.dp h1, Nat.le_trans t.ln h2⟩
theorem TqAll.same {xs : List V} {ds : List PyData} (t : TqAll K H xs ds n m) (e : Same H H') : TqAll K H' xs ds n m := ⟨dqAll_same e t.dq, t.sh, t.dp, t.ln⟩
theorem tq_all : ∀ {xs : List V}, (∀ v ∈ xs, ∃ d, Tq K H v d n m) → ∃ ds, TqAll K H xs ds n m
  | [], _ => ⟨[], .nil, rfl, Nat.zero_le _, Nat.zero_le _⟩
  | v :: xs, h => by
    obtain ⟨d, t⟩ := h v List.mem_cons_self
    obtain ⟨ds, a, b, c, e⟩ := tq_all (xs := xs) fun u hu => h u (List.mem_cons_of_mem _ hu)
    refine ⟨d :: ds, .cons t.dq a, ?_, ?_, ?_⟩
    · show (d.showable && PyData.showableAll ds) = true
      rw [t.sh, b]
      rfl
    · show max d.depth (PyData.depthAll ds) ≤ n
      have := t.dp
      omega
    · show (d.shown.length + ((PyData.shownAll ds).map (·.length)).sum) + 2 * ((PyData.shownAll ds).length + 1) ≤ (xs.length + 1) * (m + 2)
      have := t.ln
      rw [Nat.add_mul, Nat.one_mul]
      omega
theorem TqAll.lst {a : Addr} {xs : List V} {ds : List PyData} (t : TqAll K H xs ds n m) (h : H a = some (.lst xs)) : Tq K H (.ref a) (.list ds) (n + 1) (xs.length * (m + 2) + 3) := by
  refine ⟨.lst (SqL.of h) t.dq, t.sh, ?_, ?_⟩
  · show PyData.depthAll ds + 1 ≤ n + 1
    have := t.dp
    omega
  · have e := listText_len_le (PyData.shownAll ds)
    show (listText (PyData.shownAll ds)).length ≤ _
    have := t.ln
    omega
theorem TqAll.tup {a : Addr} {xs : List V} {ds : List PyData} (t : TqAll K H xs ds n m) (h : H a = some (.tup xs)) : Tq K H (.ref a) (.tuple ds) (n + 1) (xs.length * (m + 2) + 3) := by
  refine ⟨.tup (SqT.of h) t.dq, t.sh, ?_, ?_⟩
  · show PyData.depthAll ds + 1 ≤ n + 1
    have := t.dp
    omega
  · have e := tupleText_len_le (PyData.shownAll ds)
    show (tupleText (PyData.shownAll ds)).length ≤ _
    have := t.ln
    omega
theorem tq_non : Tq K H .non .none 0 41 := ⟨.non, rfl, Nat.le_refl _, by decide +kernel⟩
theorem tq_bl (b : Bool) : Tq K H (.bl b) (.bool b) 0 41 := ⟨.bl b, rfl, Nat.le_refl _, by cases b <;> decide +kernel⟩
theorem tq_int {i : Int} (h1 : -(10 ^ 39) ≤ i) (h2 : i ≤ 10 ^ 39) : Tq K H (.int i) (.int i) 0 41 := by
  have b39 : (10 : Int) ^ 39 = 1000000000000000000000000000000000000000 := by decide
  have e : i.natAbs < 10 ^ 40 := by
    have z : (10 : Nat) ^ 40 = 10000000000000000000000000000000000000000 := by decide
    omega
  have a : i.natAbs.log2 < 1920 := Nat.lt_of_lt_of_le (PySem.Flt.log2_lt_of (k := 200) (by decide) (Nat.lt_trans e (by decide))) (by decide)
  refine ⟨.int i, decide_eq_true a, Nat.le_refl _, ?_⟩
  have z := int_text_length_le10 (k := 40) (by decide) e
  show (Str.ofString (toString i)).length ≤ 41
  rw [PySem.ofString_length]
  exact z
theorem tq_text (z : String) (h : (reprText (Str.ofString z)).length ≤ 41) : Tq K H (.str (Str.ofString z)) (.str (Str.ofString z)) 0 41 := ⟨.str _, rfl, Nat.le_refl _, h⟩
theorem tq_dct {a : Addr} (h : H a = some (.dK [])) : Tq K H (.ref a) (.dict []) 1 41 := ⟨.dct h .nil .nil, rfl, by decide, by decide +kernel⟩
end
theorem code_lt {z : String} {c : Nat} (hc : c ∈ (Str.ofString z).cps.toList) : c < 1114112 := by
  have hc2 : c ∈ z.toList.map Char.toNat := by
    rw [← cpsOfBytes_string]
    simpa [Str.ofString] using hc
  obtain ⟨ch, _, rfl⟩ := List.mem_map.mp hc2
  have v : ch.val.toNat < 55296 ∨ (57343 < ch.val.toNat ∧ ch.val.toNat < 1114112) := ch.valid
  show ch.val.toNat < 1114112
  omega
/-- repr of such a value -/
theorem repr_tq {K : PySem.W.Frag} {H : Hp} {v : V} {d : PyData} {n m : Nat} {Q : VK} (t : Tq K H v d n m) (q : Q (.str d.shown) H) (hn : n ≤ 60 := by decide) (hm : m ≤ sizeLine := by decide) : rReprQ K [v] H Q :=
  ⟨v, d, rfl, t.dq, t.sh, Nat.le_trans t.dp hn, Nat.le_trans t.ln hm, q⟩
end Ex

set_option Elab.async false
set_option linter.all false
set_option maxRecDepth 100000
set_option maxHeartbeats 4000000
/-! Own layer: range(a, b, c) of any whole numbers a, b and a step from 1 to 2^30; a comprehension over it. -/
namespace Ex
open PySem PySem.Spec PyProof.Rows L2 Gu
theorem turn_longC {P : Program} {w : World} {K : PySem.W.Frag} {tg : Expr} (it : Addr) (lo c : Int) (n : Nat) :
    Turn P w K tg (Itc lo c n) [it] it (fun i h => IsLongIter h it (lo + (i : Nat) * c) ((n : Int) - (i : Nat)) c) where
  mem := List.mem_singleton.mpr rfl
  obj := fun i h st b hb => by
    obtain rfl := List.mem_singleton.mp hb
    exact ⟨_, st, fun v z => nomatch (show Data.fields _ = Data.cell v from z)⟩
  keep := fun i h h' st k => k it (List.mem_singleton.mpr rfl) _ st
  item := by
    rintro X rfl rfl rfl hc i pins s σ H E I hf st hg
    obtain ⟨f0, f1, f2, f3, f4, f5⟩ := hf it (List.mem_singleton.mpr rfl)
    refine (Walks.longrange (prog := X.prog) (w := X.w) (I.ok.hd hc) it lo c n).item i s _ _ hg st fun v h' tk hv st' kk => ?_
    obtain ⟨t, rfl⟩ := hv
    have J : Inv X pins σ H { s with heap := h', toks := tk } := I.turned (fun b o hb e => kk b o (fun z => hb (List.mem_singleton.mp z)) e) f0 f1 f3 f4 f5
    exact ⟨_, rfl, go_of (s := { s with heap := h', toks := tk }) (n := "longrange_iterator") st' rfl rfl (by decide) ⟨.int (lo + (i : Nat) * c), H, J, ⟨t, rfl⟩, ⟨rfl, rfl⟩, st', fun b hb => (hf b hb).1⟩⟩
  done := by
    rintro X rfl rfl rfl hc i pins s σ H E I hf st hg
    obtain ⟨f0, f1, f2, f3, f4, f5⟩ := hf it (List.mem_singleton.mpr rfl)
    have hn : n ≤ i := hg
    exact wpAny_pyNext_long_end (I.ok.hd hc) st (by omega) fun h' eb => ⟨rfl, I.turned (t' := s.toks) (fun b o hb e => eb b o hb e) f0 f1 f3 f4 f5⟩
  self := fun _ _ _ _ _ st h => wpAny_pyIter_longiter st h
section
variable {X : Cx} {tg : Expr}
theorem range_anyC {pins : List (Addr × Obj)} {σ : L2.St} {H : Hp} {s : Shared} {R : It → Hp → Prop} {E : Value → Shared → Prop} {lo hi c : Int} {t u v : Tok} {tk : Nat} (I : Inv X pins σ H s) (q : R (Itc lo c (Builtin.Range.rangeSize lo hi c).toNat) H) :
    wpAny (model X.prog X.w) X.A (pyIter (.ref s.heap.objs.size)) (PIE X pins σ tg R) E { s with heap := s.heap.push { cls := .type "range", data := .fields #[.int lo t, .int hi u, .int c v] }, toks := tk } := by
  have J : Inv X pins σ H { s with heap := s.heap.push { cls := .type "range", data := .fields #[.int lo t, .int hi u, .int c v] }, toks := tk } := I.kept fun b o e => Heap.get?_push_of_some _ e
  have e1 : lo + ((0 : Nat) : Int) * c = lo := by simp
  have e2 : (((Builtin.Range.rangeSize lo hi c).toNat : Nat) : Int) - ((0 : Nat) : Int) = Builtin.Range.rangeSize lo hi c := by
    rw [← rangeSize_toNat]
    simp
  have fr : ∀ b ∈ [(s.heap.push { cls := .type "range", data := .fields #[.int lo t, .int hi u, .int c v] }).objs.size], _ := fun b hb => by
    obtain rfl := List.mem_singleton.mp hb
    exact J.fpOk (Nat.le_refl _) (J.hok.fresh (Nat.le_refl _))
  cases hs : Builtin.Range.small lo hi c with
  | true =>
    refine wpAny_pyIter_range (IsRange.new ..) hs ⟨_, [_], _, _, H, rfl, J.kept (t' := tk) fun b o e => Heap.get?_push_of_some _ e, turn_rangeC _ lo c (Builtin.Range.rangeSize lo hi c).toNat, ?_, fr, q⟩
    show IsRangeIter _ _ (lo + ((0 : Nat) : Int) * c) ((((Builtin.Range.rangeSize lo hi c).toNat : Nat) : Int) - ((0 : Nat) : Int)) c
    rw [e1, e2]
    exact Heap.get?_push_size _ rfl
  | false =>
    refine wpAny_pyIter_longrange (IsRange.new ..) hs ⟨_, [_], _, _, H, rfl, J.kept (t' := tk) fun b o e => Heap.get?_push_of_some _ e, turn_longC _ lo c (Builtin.Range.rangeSize lo hi c).toNat, ?_, fr, q⟩
    show IsLongIter _ _ (lo + ((0 : Nat) : Int) * c) ((((Builtin.Range.rangeSize lo hi c).toNat : Nat) : Int) - ((0 : Nat) : Int)) c
    rw [e1, e2]
    exact Heap.get?_push_size _ rfl
/-- how many turns range(i, j, c) has -/
def stepsN (i j c : Int) : Nat := (Builtin.Range.rangeSize i j c).toNat
def iRngS (ta : TA) : TI := fun σ H R => ta σ H fun vs H1 => ∃ i j c : Int, vs = [.int i, .int j, .int c] ∧ 1 ≤ c ∧ c < 1073741824 ∧ R (Itc i c (stepsN i j c)) H1
theorem pi_rangeS {a b c : Expr} {ta : TA} {p pos : Pos} (hg : Gl X "range") (hm : X.mg "range" = none) (ha : PA X [a, b, c] ta)
    (hs : starEach [a, b, c] X.env = (false, eval a X.env) :: starEach [b, c] X.env := by rfl) (hpl : (backTo pos (starEach [b, c] X.env)).any (·.1) = false := by rfl) :
    PI X tg (.Call (.Name "range" p) [a, b, c] [] pos) (iRngS ta) := by
  refine ⟨fun pins s σ H R I h => ?_⟩
  refine Call_ (ld_blt I hg hm boot_range (PyProof.Rows.callWith_type1 (thn (ha.run pos pins s σ H _ I h) fun us s1 ⟨vs, H1, I1, r1, q1⟩ => ?_) hs hpl))
  obtain ⟨i, j, k, e, c0, c1, q⟩ := q1
  subst e
  cases r1 with
  | cons r rr =>
    cases rr with
    | cons r' rr =>
      cases rr with
      | cons r'' rr =>
        cases rr
        obtain ⟨t, rfl⟩ := r
        obtain ⟨t', rfl⟩ := r'
        obtain ⟨t'', rfl⟩ := r''
        exact call_range_3 (by omega) (range_anyC (tk := s1.toks) I1 q) (.inl (PyProof.noPylong_small (by omega)))
end
theorem steps_le {i j c : Int} (hc : 1 ≤ c) (h : j - i ≤ 100) : stepsN i j c ≤ 100 := by
  unfold stepsN Builtin.Range.rangeSize
  rw [if_pos (by omega)]
  split
  · have h1 := Int.ediv_le_self c (show (0 : Int) ≤ j - i - 1 by omega)
    omega
  · decide
/-- the turns reach every step below the end, and no other -/
theorem steps_lt {i j c : Int} (hc : 1 ≤ c) (n : Nat) : n < stepsN i j c ↔ i + (n : Int) * c < j := by
  unfold stepsN Builtin.Range.rangeSize
  rw [if_pos (by omega)]
  by_cases hij : i < j
  · rw [if_pos hij]
    have d0 : 0 ≤ (j - i - 1) / c := Int.ediv_nonneg (by omega) (by omega)
    have e1 := Int.mul_ediv_add_emod (j - i - 1) c
    have e2 := Int.emod_nonneg (j - i - 1) (show c ≠ 0 by omega)
    have e3 := Int.emod_lt_of_pos (j - i - 1) (show 0 < c by omega)
    generalize (j - i - 1) / c = q at *
    constructor
    · intro h
      have h2 : (n : Int) ≤ q := by omega
      have h3 := Int.mul_le_mul_of_nonneg_left h2 (show 0 ≤ c by omega)
      have h4 : (n : Int) * c = c * n := Int.mul_comm _ _
      omega
    · intro h
      have h4 : (n : Int) * c = c * n := Int.mul_comm _ _
      have h2 : (n : Int) ≤ q := by
        refine Int.not_lt.mp fun z => ?_
        have h3 := Int.mul_le_mul_of_nonneg_left (show q + 1 ≤ (n : Int) by omega) (show 0 ≤ c by omega)
        rw [Int.mul_add, Int.mul_one] at h3
        omega
      omega
  · rw [if_neg hij]
    have : 0 ≤ (n : Int) * c := Int.mul_nonneg (by omega) (by omega)
    constructor
    · intro h
      have : n < (0 : Int).toNat := h
      exact absurd this (Nat.not_lt_zero _)
    · intro h
      omega
/-- a comprehension over such a range -/
theorem lc_rangeC {lo c : Int} {n : Nat} {g : TG} {tt : TT} {te : TE} {vs : List Nat} {σ : L2.St} {H1 : Hp} {D : Addr} {Qd : Hp → Prop} (Pv : Nat → Hp → Prop) (h0 : Pv 0 (upd H1 D (.lst [])))
    (hs : ∀ i H, i < n → Pv i H → g (.int (lo + (i : Nat) * c)) (wipe σ vs) H fun σ2 H2 => wipe σ2 vs = wipe σ vs ∧ tt σ2 H2 fun b H3 =>
      if b = true then te σ2 H3 fun y H4 => ∃ acc, H4 D = some (.lst acc) ∧ acc.length < sizeLine ∧ Pv (i + 1) (upd H4 D (.lst (acc ++ [y]))) else Pv (i + 1) H3) (hd : ∀ H, Pv n H → Qd H) :
    ∃ W : Nat → Nat → Hp → Prop, (∃ m, W 0 m (upd H1 D (.lst []))) ∧ ∀ i m H, W i m H →
      ((Itc lo c n).stop i H ∧ Qd H) ∨ ((Itc lo c n).go i H ∧ ∃ Nx : Hp → Prop, (∀ H', Nx H' → ∃ m', m' < m ∧ W (i + 1) m' H') ∧ ∀ x H', (Itc lo c n).yld i H x H' → g x (wipe σ vs) H' fun σ2 H2 => wipe σ2 vs = wipe σ vs ∧ tt σ2 H2 fun b H3 =>
        if b = true then te σ2 H3 fun y H4 => ∃ acc, H4 D = some (.lst acc) ∧ acc.length < sizeLine ∧ Nx (upd H4 D (.lst (acc ++ [y]))) else Nx H3) := by
  refine ⟨fun i m H => m = n - i ∧ i ≤ n ∧ Pv i H, ⟨n, by simp, Nat.zero_le _, h0⟩, ?_⟩
  rintro i m H ⟨rfl, hi, p⟩
  by_cases hlt : i < n
  · refine .inr ⟨hlt, Pv (i + 1), fun H' p' => ⟨n - (i + 1), by omega, rfl, hlt, p'⟩, fun x H' y => ?_⟩
    obtain ⟨e, y⟩ := y
    subst e y
    exact hs i _ hlt p
  · have e : i = n := by omega
    subst e
    exact .inl ⟨Nat.le_refl _, hd H p⟩
end Ex

set_option Elab.async false
set_option linter.all false
/-! The mathematics of maximal regions: sizes that divide each other, a range from lo to hi. -/
namespace M16
structure Ch (s : Nat → Int) (m : Nat) : Prop where
  m1 : 1 ≤ m
  one : s 0 = 1
  pos : ∀ k, k < m → 1 ≤ s k
  dv : ∀ k, k + 1 < m → s k ∣ s (k + 1)
theorem Ch.dvd {s : Nat → Int} {m : Nat} (c : Ch s m) {j : Nat} : ∀ {k : Nat}, j ≤ k → k < m → s j ∣ s k
  | 0, h, _ => by
    rw [show j = 0 by omega]
    exact Int.dvd_refl _
  | k + 1, h, hk => by
    by_cases e : j = k + 1
    · rw [e]
      exact Int.dvd_refl _
    · exact Int.dvd_trans (Ch.dvd c (show j ≤ k by omega) (by omega)) (c.dv k hk)
theorem gap {z q e : Int} (h1 : z ∣ q) (h2 : z ∣ e) (h : q < e) : q + z ≤ e := by
  have := Int.le_of_dvd (by omega) (Int.dvd_sub h2 h1)
  omega
theorem mod0 {z x : Int} (h : z ∣ x) : x % z = 0 := Int.emod_eq_zero_of_dvd h
theorem dvd0 {z x : Int} (h : x % z = 0) : z ∣ x := Int.dvd_of_emod_eq_zero h
theorem fl_dvd (z x : Int) : z ∣ x - x % z := ⟨x / z, by have := Int.mul_ediv_add_emod x z; omega⟩
theorem fl_le {z : Int} (x : Int) (hz : 1 ≤ z) : x - x % z ≤ x := by
  have := Int.emod_nonneg x (show z ≠ 0 by omega)
  omega
theorem fl_lt {z : Int} (x : Int) (hz : 1 ≤ z) : x < x - x % z + z := by
  have := Int.emod_lt_of_pos x (show 0 < z by omega)
  omega
theorem fl_eq {z q x : Int} (hz : 1 ≤ z) (h : z ∣ q) (h1 : q ≤ x) (h2 : x < q + z) : x - x % z = q := by
  have a := fl_le x hz
  have b := fl_lt x hz
  have d := fl_dvd z x
  rcases Int.lt_trichotomy (x - x % z) q with e | e | e
  · have := gap d h e
    omega
  · exact e
  · have := gap h d e
    omega
theorem fl_ge {z q x : Int} (hz : 1 ≤ z) (h : z ∣ q) (h1 : q ≤ x) : q ≤ x - x % z := by
  have b := fl_lt x hz
  refine Int.not_lt.mp fun e => ?_
  have := gap (fl_dvd z x) h e
  omega
/-- the least multiple from a on -/
def nx (z a : Int) : Int := -(-a / z) * z
theorem nx_is (z a : Int) : nx z a = a + (-a) % z := by
  have e := Int.mul_ediv_add_emod (-a) z
  have h : nx z a = -(z * (-a / z)) := by
    unfold nx
    rw [Int.neg_mul, Int.mul_comm]
  omega
theorem nx_dvd (z a : Int) : z ∣ nx z a := ⟨-(-a / z), by unfold nx; rw [Int.mul_comm]⟩
theorem nx_ge {z : Int} (a : Int) (hz : 1 ≤ z) : a ≤ nx z a := by
  have := Int.emod_nonneg (-a) (show z ≠ 0 by omega)
  rw [nx_is]
  omega
theorem nx_lt {z : Int} (a : Int) (hz : 1 ≤ z) : nx z a < a + z := by
  have := Int.emod_lt_of_pos (-a) (show 0 < z by omega)
  rw [nx_is]
  omega
theorem nx_least {z a q : Int} (hz : 1 ≤ z) (h : z ∣ q) (ha : a ≤ q) : nx z a ≤ q := by
  refine Int.not_lt.mp fun e => ?_
  have := gap h (nx_dvd z a) e
  have := nx_lt a hz
  omega
theorem nx_self {z a : Int} (hz : 1 ≤ z) (h : z ∣ a) : nx z a = a := by
  have := nx_ge a hz
  have := nx_least hz h (Int.le_refl a)
  omega
/-- count_regions is positive just if the first region ends by b -/
theorem cnt_pos {z a b : Int} (hz : 1 ≤ z) : 0 < ((b - b % z) - nx z a) / z ↔ nx z a + z ≤ b := by
  have h : (1 : Int) ≤ ((b - b % z) - nx z a) / z ↔ 1 * z ≤ (b - b % z) - nx z a := Int.le_ediv_iff_mul_le (by omega)
  rw [Int.one_mul] at h
  have l := fl_le b hz
  constructor
  · intro k
    have := h.mp (by omega)
    omega
  · intro k
    have d : z ∣ nx z a + z := Int.dvd_add (nx_dvd z a) (Int.dvd_refl z)
    have := fl_ge hz d k
    have := h.mpr (by omega)
    omega
section
variable (s : Nat → Int) (m : Nat) (hi : Int)
def Lies (a : Int) (k : Nat) : Prop := a % s k = 0 ∧ a + s k ≤ hi
instance (a : Int) (k : Nat) : Decidable (Lies s hi a k) := inferInstanceAs (Decidable (a % s k = 0 ∧ a + s k ≤ hi))
/-- the highest level of a region at a, sought from n down -/
def lev (a : Int) : Nat → Nat
  | 0 => 0
  | n + 1 => if Lies s hi a (n + 1) then n + 1 else lev a n
def L (a : Int) : Nat := lev s hi a (m - 1)
def en (a : Int) : Int := if L s m hi a + 1 < m ∧ nx (s (L s m hi a + 1)) a + s (L s m hi a + 1) ≤ hi then nx (s (L s m hi a + 1)) a else hi - hi % s (L s m hi a)
/-- no region that lies in the range goes across a -/
def B (lo a : Int) : Prop := ∀ j, j < m → a % s j ≠ 0 → ¬ (lo ≤ a - a % s j ∧ a - a % s j + s j ≤ hi)
abbrev Run : Type := Nat × Int × Int
def run (a : Int) : Run := (L s m hi a, a, (en s m hi a - a) / s (L s m hi a))
def lay : Nat → Int → List Run
  | 0, _ => []
  | n + 1, a => if a < hi then run s m hi a :: lay n (en s m hi a) else []
def R (a : Int) : List Run := lay s m hi (hi - a).toNat a
end
section
variable {s : Nat → Int} {m : Nat} {hi a lo : Int}
theorem lev_le : ∀ n, lev s hi a n ≤ n
  | 0 => Nat.le_refl _
  | n + 1 => by
    show (if Lies s hi a (n + 1) then n + 1 else lev s hi a n) ≤ n + 1
    split
    · exact Nat.le_refl _
    · have := lev_le n
      omega
theorem lev_lies (h0 : Lies s hi a 0) : ∀ n, Lies s hi a (lev s hi a n)
  | 0 => h0
  | n + 1 => by
    show Lies s hi a (if Lies s hi a (n + 1) then n + 1 else lev s hi a n)
    split
    · assumption
    · exact lev_lies h0 n
theorem lev_max : ∀ n j, j ≤ n → lev s hi a n < j → ¬ Lies s hi a j
  | 0, j, h, h2 => by
    have : lev s hi a 0 = 0 := rfl
    omega
  | n + 1, j, h, h2 => by
    have e : lev s hi a (n + 1) = if Lies s hi a (n + 1) then n + 1 else lev s hi a n := rfl
    by_cases hl : Lies s hi a (n + 1)
    · rw [e, if_pos hl] at h2
      omega
    · rw [e, if_neg hl] at h2
      by_cases ej : j = n + 1
      · rw [ej]
        exact hl
      · exact lev_max n j (by omega) h2
theorem lies0 (c : Ch s m) (h : a < hi) : Lies s hi a 0 := by
  unfold Lies
  rw [c.one]
  exact ⟨Int.emod_one a, by omega⟩
theorem L_lt (c : Ch s m) : L s m hi a < m := by
  have := lev_le (s := s) (hi := hi) (a := a) (m - 1)
  have := c.m1
  show lev s hi a (m - 1) < m
  omega
theorem L_lies (c : Ch s m) (h : a < hi) : Lies s hi a (L s m hi a) := lev_lies (lies0 c h) _
theorem L_max (c : Ch s m) {j : Nat} (hj : j < m) (h : L s m hi a < j) : ¬ Lies s hi a j := lev_max (m - 1) j (by omega) h
theorem lies_down (c : Ch s m) {j k : Nat} (h : j ≤ k) (hk : k < m) (x : Lies s hi a k) : Lies s hi a j := by
  have d := c.dvd h hk
  have p := c.pos k hk
  have l := Int.le_of_dvd (by omega) d
  exact ⟨mod0 (Int.dvd_trans d (dvd0 x.1)), by have := x.2; omega⟩
theorem en1 (c1 : L s m hi a + 1 < m ∧ nx (s (L s m hi a + 1)) a + s (L s m hi a + 1) ≤ hi) : en s m hi a = nx (s (L s m hi a + 1)) a := if_pos c1
theorem en2 (c2 : ¬ (L s m hi a + 1 < m ∧ nx (s (L s m hi a + 1)) a + s (L s m hi a + 1) ≤ hi)) : en s m hi a = hi - hi % s (L s m hi a) := if_neg c2
theorem en_gt (c : Ch s m) (h : a < hi) : a < en s m hi a := by
  have hl := L_lies c h
  have hm := L_lt (a := a) (hi := hi) c
  by_cases c1 : L s m hi a + 1 < m ∧ nx (s (L s m hi a + 1)) a + s (L s m hi a + 1) ≤ hi
  · rw [en1 c1]
    have z := c.pos _ c1.1
    have g := nx_ge a z
    refine Int.not_le.mp fun hle => ?_
    have e : a = nx (s (L s m hi a + 1)) a := by omega
    refine L_max c c1.1 (Nat.lt_succ_self _) ⟨mod0 ?_, ?_⟩
    · have d := nx_dvd (s (L s m hi a + 1)) a
      rw [← e] at d
      exact d
    · have := c1.2
      rw [← e] at this
      exact this
  · rw [en2 c1]
    have z := c.pos _ hm
    have := fl_ge (x := hi) z (Int.dvd_add (dvd0 hl.1) (Int.dvd_refl _)) hl.2
    omega
theorem en_le (c : Ch s m) : en s m hi a ≤ hi := by
  by_cases c1 : L s m hi a + 1 < m ∧ nx (s (L s m hi a + 1)) a + s (L s m hi a + 1) ≤ hi
  · rw [en1 c1]
    have := c.pos _ c1.1
    have := c1.2
    omega
  · rw [en2 c1]
    exact fl_le hi (c.pos _ (L_lt c))
theorem en_dvd (c : Ch s m) : s (L s m hi a) ∣ en s m hi a := by
  by_cases c1 : L s m hi a + 1 < m ∧ nx (s (L s m hi a + 1)) a + s (L s m hi a + 1) ≤ hi
  · rw [en1 c1]
    exact Int.dvd_trans (c.dv _ c1.1) (nx_dvd _ _)
  · rw [en2 c1]
    exact fl_dvd _ _
/-- one way up, the other down -/
theorem up (c : Ch s m) (c1 : L s m hi a + 1 < m ∧ nx (s (L s m hi a + 1)) a + s (L s m hi a + 1) ≤ hi) : en s m hi a < hi ∧ L s m hi a < L s m hi (en s m hi a) := by
  have z := c.pos _ c1.1
  have e := en1 c1
  have h2 := c1.2
  rw [← e] at h2
  refine ⟨by omega, Nat.lt_of_not_le fun hle => ?_⟩
  refine L_max (a := en s m hi a) c c1.1 (by omega) ⟨mod0 ?_, h2⟩
  rw [e]
  exact nx_dvd _ _
def NoHi (s : Nat → Int) (m : Nat) (hi a : Int) : Prop := ¬ (L s m hi a + 1 < m ∧ nx (s (L s m hi a + 1)) a + s (L s m hi a + 1) ≤ hi)
theorem down (c : Ch s m) (c2 : NoHi s m hi a) (h : en s m hi a < hi) : L s m hi (en s m hi a) < L s m hi a ∧ NoHi s m hi (en s m hi a) := by
  have e := en2 c2
  have hm := L_lt (a := a) (hi := hi) c
  have z := c.pos _ hm
  have l := fl_lt hi z
  have dk : s (L s m hi a) ∣ en s m hi a := en_dvd c
  have lt : L s m hi (en s m hi a) < L s m hi a := Nat.lt_of_not_le fun hle => by
    have x := lies_down c hle (L_lt c) (L_lies c h)
    have := x.2
    omega
  refine ⟨lt, fun c1 => ?_⟩
  have d := Int.dvd_trans (c.dvd (show L s m hi (en s m hi a) + 1 ≤ L s m hi a by omega) hm) dk
  have n := nx_self (c.pos _ c1.1) d
  have k := c1.2
  rw [n] at k
  exact L_max (a := en s m hi a) c c1.1 (Nat.lt_succ_self _) ⟨mod0 d, k⟩
theorem other (c : Ch s m) (h : en s m hi a < hi) : L s m hi a ≠ L s m hi (en s m hi a) := by
  by_cases c1 : L s m hi a + 1 < m ∧ nx (s (L s m hi a + 1)) a + s (L s m hi a + 1) ≤ hi
  · have := (up c c1).2
    omega
  · have := (down c c1 h).1
    omega
theorem B_lo (c : Ch s m) : B s m hi lo lo := fun j hj n h => by
  have := Int.emod_nonneg lo (show s j ≠ 0 by have := c.pos j hj; omega)
  omega
theorem B_next (c : Ch s m) (h : a < hi) (b : B s m hi lo a) : B s m hi lo (en s m hi a) := fun j hj n ⟨h1, h2⟩ => by
  have hm := L_lt (a := a) (hi := hi) c
  have zj := c.pos j hj
  have q0 := fl_dvd (s j) (en s m hi a)
  have q1 := fl_le (en s m hi a) zj
  have q2 := fl_lt (en s m hi a) zj
  have gt := en_gt c h
  have nq : en s m hi a - en s m hi a % s j < en s m hi a := by
    have := Int.emod_nonneg (en s m hi a) (show s j ≠ 0 by omega)
    omega
  generalize en s m hi a - en s m hi a % s j = q at *
  have hk : L s m hi a < j := Nat.lt_of_not_le fun hle => n (mod0 (Int.dvd_trans (c.dvd hle hm) (en_dvd c)))
  have k1 : L s m hi a + 1 < m := by omega
  have z1 := c.pos _ k1
  have dq : s (L s m hi a + 1) ∣ q := Int.dvd_trans (c.dvd (by omega) hj) q0
  have lz : s (L s m hi a + 1) ≤ s j := Int.le_of_dvd (by omega) (c.dvd (by omega) hj)
  have qa : q < a := by
    by_cases c1 : L s m hi a + 1 < m ∧ nx (s (L s m hi a + 1)) a + s (L s m hi a + 1) ≤ hi
    · have e := en1 c1
      have l := nx_lt a z1
      have d := nx_dvd (s (L s m hi a + 1)) a
      rw [← e] at l d
      have := gap dq d nq
      omega
    · refine Int.not_le.mp fun ha => c1 ⟨k1, ?_⟩
      have := nx_least z1 dq ha
      omega
  have f := fl_eq zj q0 (show q ≤ a by omega) (by omega)
  refine b j hj ?_ ?_
  · omega
  · rw [f]
    exact ⟨h1, h2⟩
/-- no higher region around an address of the run lies in the range -/
theorem no_high (c : Ch s m) (h : a < hi) (b : B s m hi lo a) (k1 : L s m hi a + 1 < m) {x : Int} (x1 : a ≤ x) (x2 : x < en s m hi a) :
    ¬ (lo ≤ x - x % s (L s m hi a + 1) ∧ x - x % s (L s m hi a + 1) + s (L s m hi a + 1) ≤ hi) := fun ⟨h1, h2⟩ => by
  have z1 := c.pos _ k1
  have q0 := fl_dvd (s (L s m hi a + 1)) x
  have q1 := fl_le x z1
  have q2 := fl_lt x z1
  generalize x - x % s (L s m hi a + 1) = q at *
  by_cases qa : q < a
  · have f := fl_eq z1 q0 (show q ≤ a by omega) (by omega)
    refine b _ k1 ?_ ?_
    · omega
    · rw [f]
      exact ⟨h1, h2⟩
  · have n := nx_least z1 q0 (show a ≤ q by omega)
    by_cases c1 : L s m hi a + 1 < m ∧ nx (s (L s m hi a + 1)) a + s (L s m hi a + 1) ≤ hi
    · rw [en1 c1] at x2
      omega
    · exact c1 ⟨k1, by omega⟩
theorem top_in (c : Ch s m) (h : a < hi) {x : Int} (x1 : a ≤ x) (x2 : x < en s m hi a) : a ≤ x - x % s (L s m hi a) ∧ x - x % s (L s m hi a) + s (L s m hi a) ≤ en s m hi a := by
  have z := c.pos _ (L_lt (a := a) (hi := hi) c)
  have l := fl_le x z
  refine ⟨fl_ge z (dvd0 (L_lies c h).1) x1, gap (fl_dvd _ _) (en_dvd c) (by omega)⟩
theorem top_max (c : Ch s m) (h : a < hi) (b : B s m hi lo a) {x : Int} (x1 : a ≤ x) (x2 : x < en s m hi a) {j : Nat} (hj : j < m) (h1 : lo ≤ x - x % s j) (h2 : x - x % s j + s j ≤ hi) : j ≤ L s m hi a := by
  refine Nat.le_of_not_lt fun hlt => ?_
  have k1 : L s m hi a + 1 < m := by omega
  have z1 := c.pos _ k1
  have zj := c.pos j hj
  have d := c.dvd (show L s m hi a + 1 ≤ j by omega) hj
  have g1 := fl_ge (x := x) z1 (Int.dvd_trans d (fl_dvd (s j) x)) (fl_le x zj)
  have g2 := gap (fl_dvd (s (L s m hi a + 1)) x) (Int.dvd_add (Int.dvd_trans d (fl_dvd (s j) x)) d) (show x - x % s (L s m hi a + 1) < x - x % s j + s j by
    have := fl_le x z1
    have := fl_lt x zj
    omega)
  exact no_high c h b k1 x1 x2 ⟨by omega, by omega⟩
theorem lay_eq (c : Ch s m) : ∀ n n' a, (hi - a).toNat ≤ n → (hi - a).toNat ≤ n' → lay s m hi n a = lay s m hi n' a
  | 0, 0, _, _, _ => rfl
  | 0, n' + 1, a, h, _ => by
    show ([] : List Run) = if a < hi then run s m hi a :: lay s m hi n' (en s m hi a) else []
    rw [if_neg (by omega)]
  | n + 1, 0, a, _, h => by
    show (if a < hi then run s m hi a :: lay s m hi n (en s m hi a) else []) = []
    rw [if_neg (by omega)]
  | n + 1, n' + 1, a, h, h' => by
    show (if a < hi then run s m hi a :: lay s m hi n (en s m hi a) else []) = if a < hi then run s m hi a :: lay s m hi n' (en s m hi a) else []
    by_cases e : a < hi
    · have g := en_gt c e
      rw [if_pos e, if_pos e, lay_eq c n n' (en s m hi a) (by omega) (by omega)]
    · rw [if_neg e, if_neg e]
theorem R_end (h : ¬ a < hi) : R s m hi a = [] := by
  unfold R
  rw [show (hi - a).toNat = 0 by omega]
  rfl
theorem R_step (c : Ch s m) (h : a < hi) : R s m hi a = run s m hi a :: R s m hi (en s m hi a) := by
  unfold R
  obtain ⟨n, e⟩ : ∃ n, (hi - a).toNat = n + 1 := ⟨(hi - a).toNat - 1, by omega⟩
  rw [e]
  show (if a < hi then run s m hi a :: lay s m hi n (en s m hi a) else []) = _
  have g := en_gt c h
  rw [if_pos h, lay_eq c n (hi - en s m hi a).toNat (en s m hi a) (by omega) (Nat.le_refl _)]
theorem R_down (c : Ch s m) : ∀ (n : Nat) (a : Int), (hi - a).toNat ≤ n → a < hi → NoHi s m hi a → (R s m hi a).length ≤ L s m hi a + 1
  | 0, a, h, h2, _ => by omega
  | n + 1, a, h, h2, c2 => by
    rw [R_step c h2, List.length_cons]
    by_cases e : en s m hi a < hi
    · obtain ⟨d1, d2⟩ := down c c2 e
      have g := en_gt c h2
      have := R_down c n (en s m hi a) (by omega) e d2
      omega
    · rw [R_end e]
      simp
theorem R_len (c : Ch s m) : ∀ (n : Nat) (a : Int), (hi - a).toNat ≤ n → a < hi → (R s m hi a).length + L s m hi a ≤ 2 * m
  | 0, a, h, h2 => by omega
  | n + 1, a, h, h2 => by
    have l := L_lt (a := a) (hi := hi) c
    by_cases c1 : L s m hi a + 1 < m ∧ nx (s (L s m hi a + 1)) a + s (L s m hi a + 1) ≤ hi
    · obtain ⟨u1, u2⟩ := up c c1
      have g := en_gt c h2
      have := R_len c n (en s m hi a) (by omega) u1
      rw [R_step c h2, List.length_cons]
      omega
    · have := R_down c (n + 1) a h h2 c1
      omega
theorem R_short (c : Ch s m) (h8 : m ≤ 8) : (R s m hi a).length ≤ 16 := by
  by_cases h : a < hi
  · have := R_len c _ a (Nat.le_refl _) h
    omega
  · rw [R_end h]
    simp
/-- a place between two runs -/
structure Mid (s : Nat → Int) (m : Nat) (hi lo a : Int) (done : List Run) : Prop where
  eq : R s m hi lo = done ++ R s m hi a
  lo_le : lo ≤ a
  le_hi : a ≤ hi
  bd : B s m hi lo a
  last : a < hi → ∀ t, done.getLast? = some t → t.1 ≠ L s m hi a
theorem mid0 (c : Ch s m) (h : lo ≤ hi) : Mid s m hi lo lo [] := ⟨rfl, Int.le_refl _, h, B_lo c, fun _ t e => by cases e⟩
theorem Mid.next {done : List Run} (c : Ch s m) (M : Mid s m hi lo a done) (h : a < hi) : Mid s m hi lo (en s m hi a) (done ++ [run s m hi a]) := by
  have g := en_gt c h
  have l := M.lo_le
  refine ⟨?_, by omega, en_le c, B_next c h M.bd, fun h2 t e => ?_⟩
  · rw [M.eq, R_step c h, List.append_assoc]
    rfl
  · rw [List.getLast?_concat] at e
    cases e
    exact other c h2
/-- the number of cells of a run -/
theorem run_cells (c : Ch s m) (h : a < hi) : (en s m hi a - a) / s (L s m hi a) * s (L s m hi a) = en s m hi a - a := Int.ediv_mul_cancel (Int.dvd_sub (en_dvd c) (dvd0 (L_lies c h).1))
theorem run_one (c : Ch s m) (h : a < hi) : 1 ≤ (en s m hi a - a) / s (L s m hi a) := by
  have z := c.pos _ (L_lt (a := a) (hi := hi) c)
  have g := gap (dvd0 (L_lies c h).1) (en_dvd c) (en_gt c h)
  exact (Int.le_ediv_iff_mul_le (by omega)).mpr (by omega)
/-- multiples of z below y, from 0 on -/
def cd (z y : Int) : Int := (y + z - 1) / z
theorem cd_zero {z : Int} (hz : 1 ≤ z) : cd z 0 = 0 := by
  unfold cd
  exact Int.ediv_eq_zero_of_lt (by omega) (by omega)
theorem cd_mul {z y : Int} (hz : 1 ≤ z) (h : z ∣ y) : cd z y = y / z := by
  obtain ⟨q, rfl⟩ := h
  unfold cd
  rw [show z * q + z - 1 = (z - 1) + z * q by omega, Int.add_mul_ediv_left _ _ (by omega), Int.mul_ediv_cancel_left _ (by omega), Int.ediv_eq_zero_of_lt (by omega) (by omega)]
  omega
theorem cd_next {z y : Int} (hz : 1 ≤ z) (h : z ∣ y) : cd z (y + 1) = y / z + 1 := by
  obtain ⟨q, rfl⟩ := h
  unfold cd
  rw [show z * q + 1 + z - 1 = z * (q + 1) by rw [Int.mul_add]; omega, Int.mul_ediv_cancel_left _ (by omega), Int.mul_ediv_cancel_left _ (by omega)]
theorem cd_stay {z y : Int} (hz : 1 ≤ z) (h : ¬ z ∣ y) : cd z (y + 1) = cd z y := by
  unfold cd
  have e := Int.mul_ediv_add_emod y z
  have e1 := Int.emod_nonneg y (show z ≠ 0 by omega)
  have e2 := Int.emod_lt_of_pos y (show 0 < z by omega)
  have n : y % z ≠ 0 := fun q => h (dvd0 q)
  have a1 : (y + 1 + z - 1) / z = y / z + 1 := by
    rw [show y + 1 + z - 1 = (y % z) + z * (y / z + 1) by rw [Int.mul_add]; omega, Int.add_mul_ediv_left _ _ (by omega), Int.ediv_eq_zero_of_lt e1 e2]
    omega
  have a2 : (y + z - 1) / z = y / z + 1 := by
    rw [show y + z - 1 = (y % z - 1) + z * (y / z + 1) by rw [Int.mul_add]; omega, Int.add_mul_ediv_left _ _ (by omega), Int.ediv_eq_zero_of_lt (by omega) (by omega)]
    omega
  rw [a1, a2]
end
end M16

set_option Elab.async false
set_option linter.all false
set_option maxRecDepth 100000
set_option maxHeartbeats 4000000
/-! Own layer: a == b by an own __eq__ that answers True or False; len(set(xs)) of ints that may be equal. -/
namespace Ex
open PySem PySem.Spec PySem.Calls PyProof.Rows L2 Gu
/-- a class's own == -/
structure EqOf (P : Program) (w : World) (K : PySem.W.Frag) (mg : Str → Option Value) (base : Heap) (k : Nat) (c : Str) (sp : Sp) : Prop where
  ex : ∃ fd, FnOk P w K mg base CX0 k (He.ma K (He.ga K c) "__eq__") fd ["self", "other"] sp ∧ Binds K fd ["self", "other"] []
  at_ : PySem.W.findIn K (.ref (He.ga K c)) "__eq__" = some (some (.ref (He.ma K (He.ga K c) "__eq__")))
  fn : PySem.W.isFn K (.ref (He.ma K (He.ga K c) "__eq__")) = true
/-- what isinstance asks of an own class, and that it knows itself -/
structure InsOk (K : PySem.W.Frag) (C : Addr) : Prop where
  cl : Cls K C
  ha : PySem.W.findIn K (.ref C) "__class__" = some (some (.builtin "object.__class__"))
  hn : PySem.W.specialIn K (.builtin "object.__class__") "__get__" = some (some (.builtin "getset_descriptor.__get__"))
  ht : PySem.W.takesIn K (.builtin "object.__class__") = some true
  hm : PySem.W.mroIn K C (.type "object") = some true
  ki : PySem.W.kitOne K (.ref C) (.ref C) = some true
def insB (K : PySem.W.Frag) (C : Addr) : Bool := He.eqO (PySem.W.findIn K (.ref C) "__class__") (some (some (.builtin "object.__class__"))) && (He.eqO (PySem.W.specialIn K (.builtin "object.__class__") "__get__") (some (some (.builtin "getset_descriptor.__get__"))) &&
  (decide (PySem.W.takesIn K (.builtin "object.__class__") = some true) && (decide (PySem.W.mroIn K C (.type "object") = some true) && decide (PySem.W.kitOne K (.ref C) (.ref C) = some true))))
theorem insB_ok {K : PySem.W.Frag} {C : Addr} (cl : Cls K C) (h : insB K C = true) : InsOk K C := by
  obtain ⟨h1, h⟩ := He.ba h
  obtain ⟨h2, h⟩ := He.ba h
  obtain ⟨h3, h⟩ := He.ba h
  obtain ⟨h4, h5⟩ := He.ba h
  exact ⟨cl, He.eqO_ok h1, He.eqO_ok h2, of_decide_eq_true h3, of_decide_eq_true h4, of_decide_eq_true h5⟩
theorem InsOk.ty {K : PySem.W.Frag} {C a dx : Addr} {fs : List (Str × V)} {H : Hp} (i : InsOk K C) (e : H a = some (.ins C dx fs)) : TyX K H (.ref a) (.ref C) := .base (.ins e i.cl i.ha i.hn i.ht i.hm)
/-- the facts of an own == by one Bool -/
def eqB (K : PySem.W.Frag) (C : Addr) : Bool := He.eqO (PySem.W.findIn K (.ref C) "__eq__") (some (some (.ref (He.ma K C "__eq__")))) && PySem.W.isFn K (.ref (He.ma K C "__eq__"))
theorem eqB_ok {K : PySem.W.Frag} {C : Addr} (h : eqB K C = true) : PySem.W.findIn K (.ref C) "__eq__" = some (some (.ref (He.ma K C "__eq__"))) ∧ PySem.W.isFn K (.ref (He.ma K C "__eq__")) = true := by
  obtain ⟨h1, h2⟩ := He.ba h
  exact ⟨He.eqO_ok h1, h2⟩
def rOwnEq (C : Addr) (sp : Sp) : R2 := fun x y H Q => ∃ a b dx dy fs gs, x = .ref a ∧ y = .ref b ∧ H a = some (.ins C dx fs) ∧ H b = some (.ins C dy gs) ∧ sp [.ref a, .ref b] H (fun v H' => (∃ t, v = .bl t) ∧ Q v H') E0
section
variable {X : Cx} {k j : Nat} {c : Str} {sp : Sp}
theorem op_own (D : EqOf X.prog X.w X.K X.mg X.base k c sp) (hr : Room j X.A) (hj : k ≤ j := by decide) : OpR X (compareOp .Eq) (rOwnEq (He.ga X.K c) sp) := by
  intro pins s σ H x y u v Q I rx ry ⟨a, b, dx, dy, fs, gs, ex, ey, ha, hb, hsp⟩
  subst ex ey
  obtain rfl : u = Value.ref a := rx
  obtain rfl : v = Value.ref b := ry
  obtain ⟨fd, F, bi⟩ := D.ex
  have hr' := hr.mono hj
  obtain ⟨mA, J, _⟩ := ins_get I.hok ha
  obtain ⟨mB, J', _⟩ := ins_get I.hok hb
  obtain ⟨od, J, _⟩ := J.look
  obtain ⟨od', J', _⟩ := J'.look
  obtain ⟨m, hF⟩ := I.fr
  show wpAny (model X.prog X.w) X.A (richCompare .Eq (.ref a) (.ref b)) (EP X pins σ Q) X.xe s
  refine PySem.W.cmp_K (op := .Eq) (tb := .ref (He.ga X.K c)) hr'.units0 hF I.ok.mod.kin J J'.type (by simp [PySem.W.notFirst]) D.at_ D.fn ?_
  have r2 : Vals [V.ref a, V.ref b] [Value.ref a, Value.ref b] := .cons rfl (.cons rfl .nil)
  have bb := bi s [.ref a, .ref b] I.kIn rfl
  refine wpAny_call (codeAny_mono (F.run X.A X.stack s H ⟨[.ref a, .ref b], []⟩ [.ref a, .ref b] [.ref a, .ref b] _ E0 hr' I.env0 (by simpa using bb) r2 hsp) fun r s' hq => ?_)
  match r, hq with
  | .ok (.ret w), hq =>
    obtain ⟨z, H', I', rz, ⟨t, ez⟩, q⟩ := I.after hq
    subst ez
    cases rz
    exact ⟨.bl t, H', I', rfl, q⟩
/-- how many different ones -/
def diff (ns : List Int) : Nat := (ns.foldl step_dedup []).length
theorem range_get (ns : List Int) : (List.range ns.length).map (fun i => ns.getD i 0) = ns := by
  apply List.ext_getElem?
  intro i
  by_cases h : i < ns.length
  · rw [List.getElem?_map, List.getElem?_range h, List.getElem?_eq_getElem h]
    simp [h]
  · rw [List.getElem?_eq_none (by rw [List.length_map, List.length_range]; omega), List.getElem?_eq_none (by omega)]
def tLenSetD (K : PySem.W.Frag) (ta : TE) : TE := fun σ H Q => ta σ H fun x H1 => ∃ (l : Addr) (ns : List Int), x = V.ref l ∧ SqL K H1 l (ns.map V.int) ∧ ns.length < 64 ∧ Q (.int (diff ns : Nat)) H1
theorem pe_lenSetD {a : Expr} {ta : TE} {p p2 q pos : Pos} (hc : X.calm = true) (hg : Gl X "len") (hm : X.mg "len" = none) (hg2 : Gl X "set") (hm2 : X.mg "set" = none) (ha : PE X a ta)
    (na : starEach [a] X.env = (false, eval a X.env) :: starEach [] X.env := by rfl) : PE X (.Call (.Name "len" p) [.Call (.Name "set" p2) [a] [] q] [] pos) (tLenSetD X.K ta) := by
  refine ⟨fun pins s σ H Q I h => Call_ (ld_blt I hg hm PySem.boot_len (PyProof.Rows.callWith_builtin1 (PyProof.Rows.args_cons (Call_ (ld_blt I hg2 hm2 PyProof.Rows.boot_set ?_)) rfl) rfl rfl))⟩
  refine PyProof.Rows.callWith_type1 (PyProof.Rows.args_cons (thn (ha.run pins s σ H _ I h) fun v s1 ⟨x, H1, I1, r1, l, ns, ex, hq, h1, q1⟩ => PyProof.Rows.args_nil ?_) na) na rfl
  subst ex
  obtain rfl : v = Value.ref l := r1
  obtain ⟨its, r, pl, hz⟩ := I1.list hq
  have hl : its.toArray.size = ns.length := by rw [List.size_toArray, ← r.length, List.length_map]
  refine call_set_list (I1.ok.hd hc) pl.isList (ns := ns) (by simpa using r.ints) (by unfold scanBound; omega) fun h' tk hS hk => PyProof.Rows.args_nil ?_
  have ed : (PyProof.Rows.firstMet (fun i => ns.getD i 0) its.toArray.size).length = diff ns := by
    unfold PyProof.Rows.firstMet diff
    rw [hl, range_get]
  have le : diff ns ≤ ns.length := by
    rw [← ed, ← hl]
    exact PyProof.Rows.firstMet_length_le _ _
  obtain ⟨o, es, ep, t, ho, hex, hd, _, _, _, hf, hn⟩ := hS
  rw [ed] at hn
  exact call_len_set ho hex hd hf (by rw [hn] <;> omega) ⟨.int (diff ns : Nat), H1, (I1.kept fun b o e => hk b o (Heap.lt_size e) e).tok _, ⟨_, by rw [hn]⟩, q1⟩
end
end Ex

set_option Elab.async false
set_option linter.all false
set_option maxRecDepth 100000
set_option maxHeartbeats 4000000
namespace K28
open PySem PySem.Spec PyProof.Rows L2 Gu Ex
def top (i : Nat) : Stmt := PySem.Challenge.pw_exactroom_k28_pins_of_layouts.main.body.getD i (.Pass ⟨0, 0, 0, 0⟩)
abbrev FnP (K : PySem.W.Frag) (x qual : Str) (st : Stmt) (f : Addr) (fd : FuncData) : Prop := FunD K x qual (defArgs st) (defBody st) (defScope st) [] [] f fd
/-- what the top has left -/
structure Tx (K : PySem.W.Frag) (mg : Str → Option Value) : Prop where
  n_len : mg "len" = none
  n_isinstance : mg "isinstance" = none
  n_int : mg "int" = none
  n_bool : mg "bool" = none
  n_list : mg "list" = none
  n_range : mg "range" = none
  n_divmod : mg "divmod" = none
  n_abs : mg "abs" = none
  n_max : mg "max" = none
  n_min : mg "min" = none
  n_enumerate : mg "enumerate" = none
  n_all : mg "all" = none
  n_sum : mg "sum" = none
  n_tuple : mg "tuple" = none
  n_sorted : mg "sorted" = none
  n_repr : mg "repr" = none
  n_set : mg "set" = none
  g_Sizes : mg "Sizes" = some (.ref (He.ga K "Sizes"))
  cl : Cls K (He.ga K "Sizes")
  nSL : NoAttr K (He.ga K "Sizes") "size_list"
  rd : ClX.CRead K (He.ga K "Sizes") (.type "type")
  cS : ∃ u, ClX.CVal K (He.ga K "Sizes") (.type "type") "MAX_SIZE" (.int 1000000000) u
  cN : ∃ u, ClX.CVal K (He.ga K "Sizes") (.type "type") "MAX_SIZES" (.int 8) u
  sys : SysOk K
  cC : ∃ u, ClX.CVal K (He.ga K "Sizes") (.type "type") "MAX_CELLS" (.int 1000000000000) u
  g_Layout : mg "Layout" = some (.ref (He.ga K "Layout"))
  ly : Cls K (He.ga K "Layout")
  nST : NoAttr K (He.ga K "Layout") "size_table"
  nCC : NoAttr K (He.ga K "Layout") "cell_count"
  nFC : NoAttr K (He.ga K "Layout") "free_count"
  nBL : NoAttr K (He.ga K "Layout") "block_list"
  iS : InsOk K (He.ga K "Sizes")
  iL : InsOk K (He.ga K "Layout")
/-- a list of sizes -/
structure Good (ns : List Int) : Prop where
  len : 1 ≤ ns.length ∧ ns.length ≤ 8
  one : ns[0]? = some 1
  rng : ∀ (i : Nat) x, ns[i]? = some x → 1 ≤ x ∧ x ≤ 1000000000
  up : ∀ (i : Nat) x y, ns[i]? = some x → ns[i + 1]? = some y → x < y ∧ y % x = 0
section
variable {P : Program} {w : World} {K : PySem.W.Frag} {mg : Str → Option Value} {base : Heap} {f : Addr} {fd : FuncData}
theorem bT {c : Prop} [Decidable c] (h : c) : V.bl (decide c) = V.bl true := congrArg V.bl (decide_eq_true h)
theorem bF {c : Prop} [Decidable c] (h : ¬ c) : V.bl (decide c) = V.bl false := congrArg V.bl (decide_eq_false h)
theorem ifT {c : Bool} {A B : Prop} (h : c = true) (x : A) : if c = true then A else B := by rw [h]; exact iteT x
theorem ifF {c : Bool} {A B : Prop} (h : c = false) (x : B) : if c = true then A else B := by rw [h]; exact iteF x
theorem vT {a b : Int} (h : a = b) : decide (V.int a = V.int b) = true := decide_eq_true (by rw [h])
theorem vF {a b : Int} (h : a ≠ b) : decide (V.int a = V.int b) = false := decide_eq_false fun z => h (V.int.inj z)
def spInt : Sp := fun vs H Q _ => ∃ i : Int, vs = [.int i] ∧ Q (.bl true) H
theorem sc_is_integer : FnScope ["value"] ["value"] (defScope (top 12)) := ⟨rfl, rfl, rfl, by decide +kernel, rfl, by decide +kernel, by decide +kernel⟩
theorem ok_is_integer (T : Tx K mg) (F : FnP K "is_integer" "is_integer" (top 12) f fd) : FnOk P w K mg base CX0 1 f fd ["value"] spInt := by
  refine F.ok sc_is_integer (fun vs H Q E h => ?_) (fun cdv A outer s H vs Q E hr h => ⟨_, PSs.nox (pss_one (ps_ret (pe_and (pe_callB call_isi (by rfl) T.n_isinstance (by decide +kernel) (pa_cons (pv 0) (pa_cons (pe_bltn (v := .ty "int") (by rfl) T.n_int (by decide +kernel) rfl) pa_nil))) (pe_one (pe_not (pe_callB call_isi (by rfl) T.n_isinstance (by decide +kernel) (pa_cons (pv 0) (pa_cons (pe_bltn (v := .ty "bool") (by rfl) T.n_bool (by decide +kernel) rfl) pa_nil)))))))), ?_⟩)
  · obtain ⟨i, rfl, _⟩ := h
    rfl
  · obtain ⟨i, rfl, q⟩ := h
    refine ⟨_, rfl, _, _, _, _, true, rfl, .ty "int", .base (.int i), kit_ty (by decide +kernel), _, rfl, iteT ?_⟩
    exact ⟨_, rfl, _, _, _, _, false, rfl, .ty "bool", .base (.int i), kit_ty (by decide +kernel), _, rfl, q⟩
/-- a good list at a, a place in it -/
def spProblem (K : PySem.W.Frag) : Sp := fun vs H Q _ => ∃ (a : Addr) (ns : List Int) (p : Nat), vs = [.ref a, .int p] ∧ SqL K H a (ns.map V.int) ∧ Good ns ∧ p < ns.length ∧ Q .non H
theorem at_map {ns : List Int} {p : Nat} {x : Int} (h : ns[p]? = some x) : atI (ns.map V.int) (p : Int) = some (.int x) := atI_nat (by rw [List.getElem?_map, h]; rfl)
theorem sc_size_problem : FnScope ["values", "position", "size", "before"] ["values", "position"] (defScope (top 16)) := ⟨rfl, rfl, rfl, by decide +kernel, rfl, by decide +kernel, by decide +kernel⟩
theorem ok_size_problem (T : Tx K mg) (D_is_integer : Df P w K mg base 1 "is_integer" ["value"] spInt) (F : FnP K "size_problem" "size_problem" (top 16) f fd) :
    FnOk P w K mg base CX0 2 f fd ["values", "position"] (spProblem K) := by
  refine F.ok sc_size_problem (fun vs H Q E h => ?_) (fun cdv A outer s H vs Q E hr h => ⟨_, PSs.nox (pss_cons (ps_set (i := 2) sc_size_problem.nd rfl (by first | exact Or.inl rfl | exact Or.inr rfl) (pe_ix ix_list (pv 0) (pv 1) (fun _ _ => rfl))) (pss_cons (ps_if (PW.pt (pw_or (pt_not (pt_val (pcall D_is_integer hr (pa_cons (pv 2) pa_nil)))) (pw_or1 (pt_not (pt_chain op_le op_le pe_int (pv 2) (ClX.pe_cval (pe_glob (v := .ref _) rfl T.g_Sizes rfl))))))) (pss_one (ps_ret pe_str)) pss_nil) (pss_cons (ps_if (pt_cmpR op_eq (pv 1) pe_int (nomark _)) (pss_one (ps_ret (pe_ifExp (pt_cmpR op_eq (pv 2) pe_int (nomark _)) pe_non pe_str))) pss_nil) (pss_cons (ps_set (i := 3) sc_size_problem.nd rfl (by first | exact Or.inl rfl | exact Or.inr rfl) (pe_ix ix_list (pv 0) (pe_op op_sub (pv 1) pe_int) (fun _ _ => rfl))) (pss_cons (ps_if (PW.pt (pw_or (pt_cmpR op_le (pv 2) (pv 3) (nomark _)) (pw_or1 (pt_cmpR op_ne (pe_op op_mod (pv 2) (pv 3)) pe_int (nomark _))))) (pss_one (ps_ret pe_str)) pss_nil) (pss_one (ps_ret pe_non))))))), ?_⟩)
  · obtain ⟨a, ns, p, rfl, _⟩ := h
    rfl
  · obtain ⟨a, ns, p, rfl, hS, g, hp, q⟩ := h
    have hx : ns[p]? = some ns[p] := List.getElem?_eq_getElem hp
    obtain ⟨b1, b2⟩ := g.rng p _ hx
    obtain ⟨u, cS⟩ := T.cS
    refine ⟨_, rfl, _, rfl, a, _, _, _, rfl, rfl, hS, at_map hx, ?_⟩
    refine ⟨_, rfl, _, rfl, true, rfl, iteF ?_⟩
    refine ⟨_, rfl, _, _, rfl, rfl, true, bT b1, iteT ?_⟩
    refine ⟨_, _, _, _, rfl, T.rd, cS, _, _, rfl, rfl, true, bT b2, iteF ?_⟩
    by_cases h0 : p = 0
    · subst h0
      have e1 : ns[0] = 1 := Option.some.inj (hx.symm.trans g.one)
      exact ⟨_, rfl, rfl, _, rfl, ifT (vT rfl) ⟨_, rfl, rfl, _, rfl, ifT (vT e1) q⟩⟩
    · refine ⟨_, rfl, rfl, _, rfl, ifF (vF (by omega)) ?_⟩
      have hp1 : p - 1 < ns.length := by omega
      have hy : ns[p - 1]? = some ns[p - 1] := List.getElem?_eq_getElem hp1
      have hx2 : ns[p - 1 + 1]? = some ns[p] := by rw [show p - 1 + 1 = p by omega]; exact hx
      obtain ⟨u1, u2⟩ := g.up (p - 1) _ _ hy hx2
      have u3 := (g.rng _ _ hy).1
      refine ⟨_, rfl, _, rfl, _, _, rfl, rfl, a, _, _, _, rfl, rfl, hS, (by rw [show ((p : Int) - 1) = ((p - 1 : Nat) : Int) by omega]; exact at_map hy), ?_⟩
      refine ⟨_, rfl, _, rfl, _, _, rfl, rfl, false, bF (by omega), iteF ?_⟩
      refine ⟨_, rfl, _, rfl, _, _, rfl, rfl, (by show (0 : Int) < _; omega), rfl, false, ?_, iteF q⟩
      exact congrArg V.bl (by rw [vT u2]; rfl)
/-- a good list -/
def spCheck (K : PySem.W.Frag) : Sp := fun vs H Q _ => ∃ (a : Addr) (ns : List Int), vs = [.ref a] ∧ SqL K H a (ns.map V.int) ∧ TyX K H (.ref a) (.type "list") ∧ Good ns ∧ Q .non H
theorem sc_check_sizes : FnScope ["values", "position", "problem"] ["values"] (defScope (top 17)) := ⟨rfl, rfl, rfl, by decide +kernel, rfl, by decide +kernel, by decide +kernel⟩
theorem ok_check_sizes (T : Tx K mg) (D_size_problem : Df P w K mg base 2 "size_problem" ["values", "position"] (spProblem K)) (F : FnP K "check_sizes" "check_sizes" (top 17) f fd) :
    FnOk P w K mg base CX0 3 f fd ["values"] (spCheck K) := by
  refine F.ok sc_check_sizes (fun vs H Q E h => ?_) (fun cdv A outer s H vs Q E hr h => ⟨_, PSs.nox (pss_cons (ps_if (pt_not (pt_val (pe_callB call_isi (by rfl) T.n_isinstance (by decide +kernel) (pa_cons (pv 0) (pa_cons (pe_bltn (v := .ty "list") (by rfl) T.n_list (by decide +kernel) rfl) pa_nil))))) (pss_one ps_never) pss_nil) (pss_cons (ps_for PassesOwn.never rfl (pi_range1 rfl T.n_range (pa_cons (pe_callB call_len_seq (by rfl) T.n_len (by decide +kernel) (pa_cons (pv 0) pa_nil)) pa_nil)) (pg_name (i := 1) sc_check_sizes.nd rfl (by first | exact Or.inl rfl | exact Or.inr rfl)) (pss_cons (ps_set (i := 2) sc_check_sizes.nd rfl (by first | exact Or.inl rfl | exact Or.inr rfl) (pcall D_size_problem hr (pa_cons (pv 0) (pa_cons (pv 1) pa_nil)))) (pss_one (ps_if (pt_cmpR op_notN (pv 2) pe_non (nomark _)) (pss_one ps_never) pss_nil)))) (pss_one (ps_if (pt_not (pt_chain op_le op_le pe_int (pe_callB call_len_seq (by rfl) T.n_len (by decide +kernel) (pa_cons (pv 0) pa_nil)) (ClX.pe_cval (pe_glob (v := .ref _) rfl T.g_Sizes rfl)))) (pss_one ps_never) pss_nil)))), ?_⟩)
  · obtain ⟨a, ns, rfl, _⟩ := h
    rfl
  · obtain ⟨a, ns, rfl, hS, ty, g, q⟩ := h
    obtain ⟨u, cN⟩ := T.cN
    obtain ⟨l1, l2⟩ := g.len
    refine ⟨_, rfl, _, _, _, _, true, rfl, .ty "list", ty, kit_ty (by decide +kernel), true, rfl, iteF ?_⟩
    refine ⟨_, rfl, a, _, rfl, .inl hS, _, rfl, (by simp only [List.length_map]; omega), (by simp only [List.length_map]; omega), ?_⟩
    refine for_range (fun i σ H' => H' = H ∧ ∃ x y, σ = [some (.ref a), x, y]) ⟨rfl, none, none, rfl⟩ ?_ ?_
    · rintro i σ H' hi ⟨rfl, x, y, rfl⟩
      have hi2 : i < ns.length := by simpa using hi
      refine ⟨_, rfl, _, rfl, a, ns, i, (by rw [Int.zero_add]; rfl), hS, g, hi2, ?_⟩
      exact ⟨_, rfl, rfl, false, rfl, iteF ⟨rfl, _, _, rfl⟩⟩
    · rintro σ H' ⟨rfl, x, y, rfl⟩
      refine ⟨_, rfl, a, _, rfl, .inl hS, _, _, rfl, rfl, true, bT (by simp only [List.length_map]; omega), iteT ?_⟩
      exact ⟨_, _, _, _, rfl, T.rd, cN, _, _, rfl, rfl, true, bT (by simp only [List.length_map]; omega), iteF q⟩
end
end K28

set_option Elab.async false
set_option linter.all false
set_option maxRecDepth 100000
set_option maxHeartbeats 4000000
namespace K28
open PySem PySem.Spec PyProof.Rows L2 Gu Ex
def szF (l : Addr) : List (Str × V) := [("size_list", V.ref l)]
theorem szF_get (l : Addr) : (szF l).lookup ("size_list" : Str) = some (.ref l) := by simp [szF, List.lookup]
theorem szF_no (l : Addr) {m : Str} (h : (m == ("size_list" : Str)) = false) : (szF l).lookup m = none := by simp [szF, List.lookup, h]
/-- at p an object of Sizes with the list ns -/
def SzAt (C : Addr) (H : Hp) (p : Addr) (ns : List Int) : Prop := ∃ dx l, H p = some (.ins C dx (szF l)) ∧ H l = some (.lst (ns.map V.int))
theorem putF_new (l : Addr) : putF "size_list" (V.ref l) [] = szF l := rfl
section
variable {P : Program} {w : World} {K : PySem.W.Frag} {mg : Str → Option Value} {base : Heap} {f : Addr} {fd : FuncData}
def spMade (K : PySem.W.Frag) : Sp := fun vs H Q _ => ∃ (x dx a : Addr) (ns : List Int), vs = [.ref x, .ref a] ∧ H x = some (.ins (He.ga K "Sizes") dx []) ∧ SqL K H a (ns.map V.int) ∧ TyX K H (.ref a) (.type "list") ∧ Good ns ∧
  ∀ l, H l = none → Q .non (upd (upd H l (.lst (ns.map V.int))) x (.ins (He.ga K "Sizes") dx (szF l)))
theorem sc_Sizes_init : FnScope ["self", "values"] ["self", "values"] (defScope (inClass (top 18) 4)) := ⟨rfl, rfl, rfl, by decide +kernel, rfl, by decide +kernel, by decide +kernel⟩
theorem ok_init (T : Tx K mg) (D_check_sizes : Df P w K mg base 3 "check_sizes" ["values"] (spCheck K)) (F : FnP K "__init__" "Sizes.__init__" (inClass (top 18) 4) f fd) :
    FnOk P w K mg base CX0 4 f fd ["self", "values"] (spMade K) := by
  refine F.ok sc_Sizes_init (fun vs H Q E h => ?_) (fun cdv A outer s H vs Q E hr h => ⟨_, PSs.nox (pss_cons (ps_expr (pcall D_check_sizes hr (pa_cons (pv 1) pa_nil))) (pss_one (ps_fld (pv 0) (pe_callTy call_list_of (by rfl) T.n_list (by decide +kernel) (pa_cons (pv 1) pa_nil)) rfl))), ?_⟩)
  · obtain ⟨x, dx, a, ns, rfl, _⟩ := h
    rfl
  · obtain ⟨x, dx, a, ns, rfl, hx, hS, ty, g, q⟩ := h
    refine ⟨_, rfl, a, ns, rfl, hS, ty, g, ?_⟩
    refine ⟨_, rfl, a, _, rfl, .inl hS, fun l hl => ?_⟩
    refine ⟨_, rfl, x, He.ga K "Sizes", dx, [], rfl, (by rw [upd_ne (ne_of_none hx hl)]; exact hx), T.cl, T.nSL, (by show 0 < 1000; decide), ?_⟩
    exact q l hl
def spTop (K : PySem.W.Frag) : Sp := fun vs H Q _ => ∃ (p : Addr) (ns : List Int), vs = [.ref p] ∧ SzAt (He.ga K "Sizes") H p ns ∧ Q (.int ((ns.length : Int) - 1)) H
theorem sc_top : FnScope ["self"] ["self"] (defScope (inClass (top 18) 10)) := ⟨rfl, rfl, rfl, by decide +kernel, rfl, by decide +kernel, by decide +kernel⟩
theorem ok_top (T : Tx K mg) (F : FnP K "top" "Sizes.top" (inClass (top 18) 10) f fd) : FnOk P w K mg base CX0 1 f fd ["self"] (spTop K) := by
  refine F.ok sc_top (fun vs H Q E h => ?_) (fun cdv A outer s H vs Q E hr h => ⟨_, PSs.nox (pss_one (ps_ret (pe_op op_sub (pe_callB call_len_seq (by rfl) T.n_len (by decide +kernel) (pa_cons (pe_fld (pv 0) rfl) pa_nil)) pe_int))), ?_⟩)
  · obtain ⟨p, ns, rfl, _⟩ := h
    rfl
  · obtain ⟨p, ns, rfl, ⟨dx, l, h1, h2⟩, q⟩ := h
    refine ⟨_, rfl, p, _, dx, _, _, rfl, h1, T.cl, T.nSL, szF_get l, l, _, rfl, .inl (SqL.of h2), _, _, rfl, rfl, ?_⟩
    rw [List.length_map]
    exact q
def spHas (K : PySem.W.Frag) : Sp := fun vs H Q _ => ∃ (p : Addr) (ns : List Int) (i : Nat), vs = [.ref p, .int i] ∧ SzAt (He.ga K "Sizes") H p ns ∧ i < ns.length ∧ Q (.bl true) H
theorem sc_has_level : FnScope ["self", "level"] ["self", "level"] (defScope (inClass (top 18) 12)) := ⟨rfl, rfl, rfl, by decide +kernel, rfl, by decide +kernel, by decide +kernel⟩
theorem ok_has (T : Tx K mg) (D_is_integer : Df P w K mg base 1 "is_integer" ["value"] spInt) (P_top : Pf P w K mg base 1 "Sizes" "top" (spTop K)) (F : FnP K "has_level" "Sizes.has_level" (inClass (top 18) 12) f fd) :
    FnOk P w K mg base CX0 3 f fd ["self", "level"] (spHas K) := by
  refine F.ok sc_has_level (fun vs H Q E h => ?_) (fun cdv A outer s H vs Q E hr h => ⟨_, PSs.nox (pss_one (ps_ret (pe_and (pcall D_is_integer hr (pa_cons (pv 1) pa_nil)) (pe_one (pe_chain op_le op_le pe_int (pv 1) (pprop P_top hr (pv 0))))))), ?_⟩)
  · obtain ⟨p, ns, i, rfl, _⟩ := h
    rfl
  · obtain ⟨p, ns, i, rfl, hz, hi, q⟩ := h
    obtain ⟨dx, l, h1, h2⟩ := id hz
    refine ⟨_, rfl, _, rfl, true, rfl, iteT ?_⟩
    refine ⟨_, rfl, _, _, rfl, rfl, true, bT (by omega), iteT ?_⟩
    refine ⟨_, rfl, p, dx, _, rfl, h1, p, ns, rfl, hz, _, _, rfl, rfl, ?_⟩
    have e : decide ((i : Int) ≤ (ns.length : Int) - 1) = true := decide_eq_true (by omega)
    show Q (.bl (decide ((i : Int) ≤ (ns.length : Int) - 1))) H
    rw [e]
    exact q
def spCheckL (K : PySem.W.Frag) : Sp := fun vs H Q _ => ∃ (p : Addr) (ns : List Int) (i : Nat), vs = [.ref p, .int i] ∧ SzAt (He.ga K "Sizes") H p ns ∧ i < ns.length ∧ Q .non H
theorem sc_check_level : FnScope ["self", "level"] ["self", "level"] (defScope (inClass (top 18) 13)) := ⟨rfl, rfl, rfl, by decide +kernel, rfl, by decide +kernel, by decide +kernel⟩
theorem ok_check_level (T : Tx K mg) (M_has_level : Mf P w K mg base 3 "Sizes" "has_level" ["self", "level"] (spHas K)) (F : FnP K "check_level" "Sizes.check_level" (inClass (top 18) 13) f fd) :
    FnOk P w K mg base CX0 4 f fd ["self", "level"] (spCheckL K) := by
  refine F.ok sc_check_level (fun vs H Q E h => ?_) (fun cdv A outer s H vs Q E hr h => ⟨_, PSs.nox (pss_one (ps_if (pt_not (pt_val (pmeth M_has_level hr (pv 0) (pa_cons (pv 1) pa_nil)))) (pss_one ps_never) pss_nil)), ?_⟩)
  · obtain ⟨p, ns, i, rfl, _⟩ := h
    rfl
  · obtain ⟨p, ns, i, rfl, hz, hi, q⟩ := h
    obtain ⟨dx, l, h1, h2⟩ := id hz
    exact ⟨_, rfl, p, dx, _, rfl, h1, szF_no l (by decide +kernel), _, rfl, p, ns, i, rfl, hz, hi, true, rfl, iteF q⟩
def spSize (K : PySem.W.Frag) : Sp := fun vs H Q _ => ∃ (p : Addr) (ns : List Int) (i : Nat) (x : Int), vs = [.ref p, .int i] ∧ SzAt (He.ga K "Sizes") H p ns ∧ ns[i]? = some x ∧ Q (.int x) H
theorem sc_size : FnScope ["self", "level"] ["self", "level"] (defScope (inClass (top 18) 14)) := ⟨rfl, rfl, rfl, by decide +kernel, rfl, by decide +kernel, by decide +kernel⟩
theorem ok_size (T : Tx K mg) (M_check_level : Mf P w K mg base 4 "Sizes" "check_level" ["self", "level"] (spCheckL K)) (F : FnP K "size" "Sizes.size" (inClass (top 18) 14) f fd) :
    FnOk P w K mg base CX0 5 f fd ["self", "level"] (spSize K) := by
  refine F.ok sc_size (fun vs H Q E h => ?_) (fun cdv A outer s H vs Q E hr h => ⟨_, PSs.nox (pss_cons (ps_expr (pmeth M_check_level hr (pv 0) (pa_cons (pv 1) pa_nil))) (pss_one (ps_ret (pe_ix ix_list (pe_fld (pv 0) rfl) (pv 1) (fun _ _ => rfl))))), ?_⟩)
  · obtain ⟨p, ns, i, x, rfl, _⟩ := h
    rfl
  · obtain ⟨p, ns, i, x, rfl, hz, hx, q⟩ := h
    obtain ⟨dx, l, h1, h2⟩ := id hz
    refine ⟨_, rfl, p, dx, _, rfl, h1, szF_no l (by decide +kernel), _, rfl, p, ns, i, rfl, hz, (List.getElem?_eq_some_iff.mp hx).1, ?_⟩
    exact ⟨_, rfl, p, _, dx, _, _, rfl, h1, T.cl, T.nSL, szF_get l, _, rfl, l, _, _, _, rfl, rfl, SqL.of h2, at_map hx, q⟩
def spAddr : Sp := fun vs H Q _ => ∃ i : Int, vs = [.int i] ∧ 0 ≤ i ∧ Q (.bl true) H
theorem sc_is_address : FnScope ["value"] ["value"] (defScope (top 20)) := ⟨rfl, rfl, rfl, by decide +kernel, rfl, by decide +kernel, by decide +kernel⟩
theorem ok_is_address (T : Tx K mg) (D_is_integer : Df P w K mg base 1 "is_integer" ["value"] spInt) (F : FnP K "is_address" "is_address" (top 20) f fd) : FnOk P w K mg base CX0 2 f fd ["value"] spAddr := by
  refine F.ok sc_is_address (fun vs H Q E h => ?_) (fun cdv A outer s H vs Q E hr h => ⟨_, PSs.nox (pss_one (ps_ret (pe_and (pcall D_is_integer hr (pa_cons (pv 0) pa_nil)) (pe_one (pe_cmpR op_ge (pv 0) pe_int (nomark _)))))), ?_⟩)
  · obtain ⟨i, rfl, _⟩ := h
    rfl
  · obtain ⟨i, rfl, hi, q⟩ := h
    refine ⟨_, rfl, _, rfl, true, rfl, iteT ⟨_, rfl, _, _, rfl, rfl, ?_⟩⟩
    have e : decide ((0 : Int) ≤ i) = true := decide_eq_true hi
    show Q (.bl (decide ((0 : Int) ≤ i))) H
    rw [e]
    exact q
def spRange : Sp := fun vs H Q _ => ∃ a b : Int, vs = [.int a, .int b] ∧ 0 ≤ a ∧ a ≤ b ∧ Q .non H
theorem sc_check_range : FnScope ["low", "high"] ["low", "high"] (defScope (top 21)) := ⟨rfl, rfl, rfl, by decide +kernel, rfl, by decide +kernel, by decide +kernel⟩
theorem ok_check_range (T : Tx K mg) (D_is_integer : Df P w K mg base 1 "is_integer" ["value"] spInt) (D_is_address : Df P w K mg base 2 "is_address" ["value"] spAddr) (F : FnP K "check_range" "check_range" (top 21) f fd) :
    FnOk P w K mg base CX0 3 f fd ["low", "high"] spRange := by
  refine F.ok sc_check_range (fun vs H Q E h => ?_) (fun cdv A outer s H vs Q E hr h => ⟨_, PSs.nox (pss_cons (ps_if (pt_not (pt_val (pcall D_is_address hr (pa_cons (pv 0) pa_nil)))) (pss_one ps_never) pss_nil) (pss_one (ps_if (PW.pt (pw_or (pt_not (pt_val (pcall D_is_integer hr (pa_cons (pv 1) pa_nil)))) (pw_or1 (pt_cmpR op_lt (pv 1) (pv 0) (nomark _))))) (pss_one ps_never) pss_nil))), ?_⟩)
  · obtain ⟨a, b, rfl, _⟩ := h
    rfl
  · obtain ⟨a, b, rfl, ha, hb, q⟩ := h
    refine ⟨_, rfl, _, rfl, ha, true, rfl, iteF ?_⟩
    exact ⟨_, rfl, _, rfl, true, rfl, iteF ⟨_, rfl, _, rfl, _, _, rfl, rfl, false, bF (by omega), iteF q⟩⟩
/-- the least multiple of s from a on -/
def nextI (s a : Int) : Int := -(-a / s) * s
def spNext : Sp := fun vs H Q _ => ∃ s a : Int, vs = [.int s, .int a] ∧ 1 ≤ s ∧ s ≤ 1000000000 ∧ Q (.int (nextI s a)) H
theorem div_ok {i s : Int} (h1 : 1 ≤ s) (h2 : s ≤ 1000000000) : CDivW i s := wide_div (b := 64) (by omega) (by omega) (by decide) (by decide)
theorem sc_next_start : FnScope ["size", "address"] ["size", "address"] (defScope (top 22)) := ⟨rfl, rfl, rfl, by decide +kernel, rfl, by decide +kernel, by decide +kernel⟩
theorem ok_next_start (T : Tx K mg) (F : FnP K "next_start" "next_start" (top 22) f fd) : FnOk P w K mg base CX0 1 f fd ["size", "address"] spNext := by
  refine F.ok sc_next_start (fun vs H Q E h => ?_) (fun cdv A outer s H vs Q E hr h => ⟨_, PSs.nox (pss_one (ps_ret (pe_op op_mul (pe_un un_neg (pe_op op_fdivW (pe_un un_neg (pv 1)) (pv 0))) (pv 0)))), ?_⟩)
  · obtain ⟨s, a, rfl, _⟩ := h
    rfl
  · obtain ⟨s, a, rfl, h1, h2, q⟩ := h
    exact ⟨_, rfl, _, rfl, _, rfl, _, _, rfl, rfl, div_ok h1 h2, _, rfl, _, rfl, _, _, rfl, rfl, .inr ⟨by omega, by omega⟩, q⟩
def spStart (K : PySem.W.Frag) : Sp := fun vs H Q _ => ∃ (p : Addr) (ns : List Int) (i : Nat) (x a : Int), vs = [.ref p, .int i, .int a] ∧ SzAt (He.ga K "Sizes") H p ns ∧ ns[i]? = some x ∧ 1 ≤ x ∧ 0 ≤ a ∧ Q (.int (a - a % x)) H
theorem sc_region_start : FnScope ["sizes", "level", "address", "size"] ["sizes", "level", "address"] (defScope (top 26)) := ⟨rfl, rfl, rfl, by decide +kernel, rfl, by decide +kernel, by decide +kernel⟩
theorem ok_region_start (T : Tx K mg) (D_is_address : Df P w K mg base 2 "is_address" ["value"] spAddr) (M_size : Mf P w K mg base 5 "Sizes" "size" ["self", "level"] (spSize K)) (F : FnP K "region_start" "region_start" (top 26) f fd) :
    FnOk P w K mg base CX0 6 f fd ["sizes", "level", "address"] (spStart K) := by
  refine F.ok sc_region_start (fun vs H Q E h => ?_) (fun cdv A outer s H vs Q E hr h => ⟨_, PSs.nox (pss_cons (ps_set (i := 3) sc_region_start.nd rfl (by first | exact Or.inl rfl | exact Or.inr rfl) (pmeth M_size hr (pv 0) (pa_cons (pv 1) pa_nil))) (pss_cons (ps_if (pt_not (pt_val (pcall D_is_address hr (pa_cons (pv 2) pa_nil)))) (pss_one ps_never) pss_nil) (pss_one (ps_ret (pe_op op_sub (pv 2) (pe_op op_mod (pv 2) (pv 3))))))), ?_⟩)
  · obtain ⟨p, ns, i, x, a, rfl, _⟩ := h
    rfl
  · obtain ⟨p, ns, i, x, a, rfl, hz, hx, x1, ha, q⟩ := h
    obtain ⟨dx, l, h1, h2⟩ := id hz
    refine ⟨_, rfl, p, dx, _, rfl, h1, szF_no l (by decide +kernel), _, rfl, p, ns, i, x, rfl, hz, hx, ?_⟩
    refine ⟨_, rfl, _, rfl, ha, true, rfl, iteF ?_⟩
    exact ⟨_, rfl, _, rfl, _, rfl, _, _, rfl, rfl, (by show (0 : Int) < x; omega), _, _, rfl, rfl, q⟩
/-- what count_regions reckons -/
def cntI (s lo hi : Int) : Int := if ((hi - hi % s) - nextI s lo) / s > 0 then ((hi - hi % s) - nextI s lo) / s else 0
def spCount (K : PySem.W.Frag) : Sp := fun vs H Q _ => ∃ (p : Addr) (ns : List Int) (i : Nat) (x a b : Int), vs = [.ref p, .int i, .int a, .int b] ∧ SzAt (He.ga K "Sizes") H p ns ∧ ns[i]? = some x ∧ 1 ≤ x ∧ x ≤ 1000000000 ∧ 0 ≤ a ∧ a ≤ b ∧ Q (.int (cntI x a b)) H
theorem sc_count_regions : FnScope ["sizes", "level", "low", "high", "size"] ["sizes", "level", "low", "high"] (defScope (top 27)) := ⟨rfl, rfl, rfl, by decide +kernel, rfl, by decide +kernel, by decide +kernel⟩
theorem ok_count_regions (T : Tx K mg) (D_check_range : Df P w K mg base 3 "check_range" ["low", "high"] spRange) (D_region_start : Df P w K mg base 6 "region_start" ["sizes", "level", "address"] (spStart K))
    (D_next_start : Df P w K mg base 1 "next_start" ["size", "address"] spNext) (M_size : Mf P w K mg base 5 "Sizes" "size" ["self", "level"] (spSize K)) (F : FnP K "count_regions" "count_regions" (top 27) f fd) :
    FnOk P w K mg base CX0 7 f fd ["sizes", "level", "low", "high"] (spCount K) := by
  refine F.ok sc_count_regions (fun vs H Q E h => ?_) (fun cdv A outer s H vs Q E hr h => ⟨_, PSs.nox (pss_cons (ps_set (i := 4) sc_count_regions.nd rfl (by first | exact Or.inl rfl | exact Or.inr rfl) (pmeth M_size hr (pv 0) (pa_cons (pv 1) pa_nil))) (pss_cons (ps_expr (pcall D_check_range hr (pa_cons (pv 2) (pa_cons (pv 3) pa_nil)))) (pss_one (ps_ret (pe_callB (call_max2 rfl) (by rfl) T.n_max (by decide +kernel) (pa_cons pe_int (pa_cons (pe_op op_fdivW (pe_op op_sub (pcall D_region_start hr (pa_cons (pv 0) (pa_cons (pv 1) (pa_cons (pv 3) pa_nil)))) (pcall D_next_start hr (pa_cons (pv 4) (pa_cons (pv 2) pa_nil)))) (pv 4)) pa_nil))))))), ?_⟩)
  · obtain ⟨p, ns, i, x, a, b, rfl, _⟩ := h
    rfl
  · obtain ⟨p, ns, i, x, a, b, rfl, hz, hx, x1, x2, ha, hb, q⟩ := h
    obtain ⟨dx, l, h1, h2⟩ := id hz
    refine ⟨_, rfl, p, dx, _, rfl, h1, szF_no l (by decide +kernel), _, rfl, p, ns, i, x, rfl, hz, hx, ?_⟩
    refine ⟨_, rfl, _, rfl, a, b, rfl, ha, hb, ?_⟩
    refine ⟨_, rfl, _, rfl, _, rfl, p, ns, i, x, b, rfl, hz, hx, x1, by omega, _, rfl, _, rfl, x, a, rfl, x1, x2, _, _, rfl, rfl, _, rfl, _, _, rfl, rfl, div_ok x1 x2, _, _, rfl, ?_⟩
    exact q
end
end K28

set_option Elab.async false
set_option linter.all false
set_option maxRecDepth 100000
set_option maxHeartbeats 4000000
namespace K28
open PySem PySem.Spec PyProof.Rows L2 Gu Ex
/-- the drawing list at r -/
def Rng (H : Hp) (r : Addr) : Prop := ∃ a b : Int, H r = some (.lst [.int a, .int b]) ∧ 0 ≤ a ∧ 0 ≤ b ∧ b < 2147483587
/-- only the drawing list at r may have changed -/
def Stp (r : Addr) (H H' : Hp) : Prop := Rng H' r ∧ ∀ b o, b ≠ r → H b = some o → H' b = some o
theorem Stp.trans {r : Addr} {H H1 H2 : Hp} (a : Stp r H H1) (b : Stp r H1 H2) : Stp r H H2 := ⟨b.1, fun c o n e => b.2 c o n (a.2 c o n e)⟩
theorem Stp.refl {r : Addr} {H : Hp} (h : Rng H r) : Stp r H H := ⟨h, fun _ _ _ e => e⟩
/-- the ways of a choice come together: what holds of every value -/
theorem join {α : Type} {G : Prop} (Pc : α → Prop) {R : α → Prop} (h1 : (∀ c, Pc c → R c) → G) (h2 : ∀ c, Pc c → R c) : G := h1 h2
theorem Rng.ne {H : Hp} {r p : Addr} (h : Rng H r) (hp : H p = none) : r ≠ p := fun z => by
  obtain ⟨_, _, e, _⟩ := h
  rw [z, hp] at e
  cases e
theorem Stp.new {r p : Addr} {H H1 : Hp} {o : HO} (a : Stp r H H1) (hp : H1 p = none) : Stp r H (upd H1 p o) := by
  obtain ⟨⟨x, y, e, z⟩, k⟩ := a
  refine ⟨⟨x, y, ?_, z⟩, fun b u n e2 => ?_⟩
  · rw [upd_ne (ne_of_none e hp)]
    exact e
  · rw [upd_ne (ne_of_none (k b u n e2) hp)]
    exact k b u n e2
theorem Stp.free {r p : Addr} {H H1 : Hp} (a : Stp r H H1) (h : H1 p = none) : H p = none := by
  cases e : H p with
  | none => rfl
  | some o =>
    have n : p ≠ r := fun z => (a.1.ne h) z.symm
    rw [a.2 p o n e] at h
    cases h
section
variable {P : Program} {w : World} {K : PySem.W.Frag} {mg : Str → Option Value} {base : Heap} {f : Addr} {fd : FuncData}
def spRng (K : PySem.W.Frag) : Sp := fun vs H Q _ => ∃ (a : Addr) (ns : List Int) (k : Nat), vs = [.ref a, .int k] ∧ SqL K H a (ns.map V.int) ∧ k ≤ 63 ∧ ∀ p H', H p = none → Same H H' → Rng H' p → Q (.ref p) H'
theorem sc__law_rng : FnScope ["_law_script", "_law_k", "_law_cell"] ["_law_script", "_law_k"] (defScope (top 34)) := ⟨rfl, rfl, rfl, by decide +kernel, rfl, by decide +kernel, by decide +kernel⟩
theorem ok_rng (T : Tx K mg) (F : FnP K "_law_rng" "_law_rng" (top 34) f fd) : FnOk P w K mg base CX0 1 f fd ["_law_script", "_law_k"] (spRng K) := by
  refine F.ok sc__law_rng (fun vs H Q E h => ?_) (fun cdv A outer s H vs Q E hr h => ⟨_, PSs.nox (pss_cons (ps_set (i := 2) sc__law_rng.nd rfl (by first | exact Or.inl rfl | exact Or.inr rfl) (pe_ifExp (pt_cmpR op_lt (pv 1) (pe_callB call_len_seq (by rfl) T.n_len (by decide +kernel) (pa_cons (pv 0) pa_nil)) (nomark _)) (pe_callB call_abs (by rfl) T.n_abs (by decide +kernel) (pa_cons (pe_ix ix_list (pv 0) (pv 1) (fun _ _ => rfl)) pa_nil)) pe_int)) (pss_one (ps_ret (pe_lst (pa_cons (pe_callB (call_max2 rfl) (by rfl) T.n_max (by decide +kernel) (pa_cons pe_int (pa_cons (pe_op op_sub (pv 2) (pe_op op_pow pe_int pe_int)) pa_nil))) (pa_cons (pe_op op_add (pe_op op_mod (pe_op op_pow (pe_op op_add (pe_op op_add (pe_op op_mod (pv 2) pe_int) (pe_op op_mul pe_int (pv 1))) pe_int) pe_int) pe_int) pe_int) pa_nil)))))), ?_⟩)
  · obtain ⟨a, ns, k, rfl, _⟩ := h
    rfl
  · obtain ⟨a, ns, k, rfl, hS, hk, q⟩ := h
    refine join (fun c : Int => 0 ≤ c) (R := ?R) (fun tail => ?main) ?tl
    case main =>
      refine ⟨_, rfl, _, rfl, a, _, rfl, .inl hS, _, _, rfl, rfl, _, rfl, ?_⟩
      by_cases hl : (k : Int) < (((ns.map V.int).length : Nat) : Int)
      · have hk2 : k < ns.length := by rw [List.length_map] at hl; omega
        refine ifT (decide_eq_true hl) ?_
        refine ⟨_, rfl, _, rfl, a, _, _, _, rfl, rfl, hS, at_map (List.getElem?_eq_getElem hk2), _, rfl, ?_⟩
        obtain ⟨c, hc, ec⟩ : ∃ c : Int, 0 ≤ c ∧ (if ns[k] < 0 then -ns[k] else ns[k]) = c := ⟨if ns[k] < 0 then -ns[k] else ns[k], by split <;> omega, rfl⟩
        rw [ec]
        exact tail c hc
      · refine ifF (decide_eq_false hl) ?_
        exact tail 0 (by decide)
    case tl =>
      intro c hc
      have c0 := Int.emod_nonneg c (show (2147483543 : Int) ≠ 0 by decide)
      have c1 := Int.emod_lt_of_pos c (show (0 : Int) < 2147483543 by decide)
      refine ⟨_, rfl, _, _, rfl, rfl, ⟨by decide, by decide, by decide⟩, _, _, rfl, rfl, _, _, rfl, ?_⟩
      refine ⟨_, rfl, _, _, rfl, rfl, (by show (0 : Int) < 2147483543; decide), _, rfl, _, _, rfl, rfl, .inl ⟨by decide, by decide⟩, _, _, rfl, rfl, _, _, rfl, rfl, _, _, rfl, rfl, ⟨by decide, by decide, by omega⟩, _, _, rfl, rfl, (by show (0 : Int) < 2147483497; decide), _, _, rfl, rfl, ?_⟩
      refine ⟨(by show 2 ≤ sizeLine; decide), fun p hp => q p _ hp (fun b o e => by rw [upd_ne (ne_of_none e hp)]; exact e) ⟨_, _, upd_same, ?_, ?_, ?_⟩⟩
      · split <;> omega
      · have := Int.emod_nonneg ((c % 2147483543 + 101 * (k : Int) + 7) ^ (2 : Int).toNat) (show (2147483497 : Int) ≠ 0 by decide)
        omega
      · have := Int.emod_lt_of_pos ((c % 2147483543 + 101 * (k : Int) + 7) ^ (2 : Int).toNat) (show (0 : Int) < 2147483497 by decide)
        omega
def spDraw : Sp := fun vs H Q _ => ∃ (r : Addr) (m : Int), vs = [.ref r, .int m] ∧ Rng H r ∧ 1 ≤ m ∧ m ≤ 10 ^ 40 ∧ ∀ d H', 0 ≤ d → d < m → Stp r H H' → Q (.int d) H'
theorem sc__law_draw : FnScope ["_law_rng_here", "_law_many", "_law_mixed", "_law_digit"] ["_law_rng_here", "_law_many"] (defScope (top 35)) := ⟨rfl, rfl, rfl, by decide +kernel, rfl, by decide +kernel, by decide +kernel⟩
theorem ok_draw (T : Tx K mg) (F : FnP K "_law_draw" "_law_draw" (top 35) f fd) : FnOk P w K mg base CX0 1 f fd ["_law_rng_here", "_law_many"] spDraw := by
  refine F.ok sc__law_draw (fun vs H Q E h => ?_) (fun cdv A outer s H vs Q E hr h => ⟨_, PSs.nox (pss_cons (ps_if (pt_cmpR op_gt (pe_ix ix_list (pv 0) pe_int (fun _ _ => rfl)) pe_int (nomark _)) (pss_cons (ps_asg (pe_callB call_divmodW (by rfl) T.n_divmod (by decide +kernel) (pa_cons (pe_ix ix_list (pv 0) pe_int (fun _ _ => rfl)) (pa_cons (pv 1) pa_nil))) (pg_tup (by rfl) (pgs_cons (pg_sub (pv 0) pe_int set_list) (pgs_cons (pg_name (i := 3) sc__law_draw.nd rfl (by first | exact Or.inl rfl | exact Or.inr rfl)) pgs_nil)))) (pss_one (ps_ret (pv 3)))) pss_nil) (pss_cons (ps_asg (pe_op op_mod (pe_op op_add (pe_op op_mul (pe_ix ix_list (pv 0) pe_int (fun _ _ => rfl)) pe_int) pe_int) pe_int) (pg_sub (pv 0) pe_int set_list)) (pss_cons (ps_set (i := 2) sc__law_draw.nd rfl (by first | exact Or.inl rfl | exact Or.inr rfl) (pe_op op_fdivW (pe_op op_mod (pe_op op_mul (pe_ix ix_list (pv 0) pe_int (fun _ _ => rfl)) (pe_ix ix_list (pv 0) pe_int (fun _ _ => rfl))) pe_int) pe_int)) (pss_one (ps_ret (pe_ifExp (pt_cmpR op_lt (pv 1) (pe_op op_pow pe_int pe_int) (nomark _)) (pe_op op_mod (pv 2) (pv 1)) (pe_op op_mod (pe_op op_mul (pe_op op_add (pe_op op_mul (pv 2) pe_int) (pe_ix ix_list (pv 0) pe_int (fun _ _ => rfl))) pe_int) (pv 1)))))))), ?_⟩)
  · obtain ⟨r, m, rfl, _⟩ := h
    rfl
  · obtain ⟨r, m, rfl, ⟨a, b, hR, ha, hb, hb2⟩, m1, m2, q⟩ := h
    have mb : m.natAbs < 2 ^ 200 := by
      have : (10 : Int) ^ 40 < 2 ^ 200 := by decide
      have e : ((2 : Nat) ^ 200 : Nat) = ((2 : Int) ^ 200).natAbs := by decide
      omega
    refine ⟨_, rfl, r, _, _, _, rfl, rfl, SqL.of hR, rfl, _, _, rfl, rfl, _, rfl, ?_⟩
    by_cases h0 : 0 < a
    · refine ifT (decide_eq_true h0) ?_
      refine ⟨_, rfl, r, _, _, _, rfl, rfl, SqL.of hR, rfl, _, rfl, _, _, rfl, ⟨by omega, PyProof.noPylong_of_log2 (Nat.lt_of_lt_of_le (PySem.Flt.log2_lt_of (by decide) mb) (by decide))⟩, fun p hp => ?_⟩
      have nrp : r ≠ p := ne_of_none hR hp
      have hR2 : (upd H p (.tup [.int (a / m), .int (a % m)])) r = some (.lst [.int a, .int b]) := by rw [upd_ne nrp]; exact hR
      refine ⟨p, _, rfl, .inl (.inl upd_same), rfl, _, _, rfl, _, rfl, r, _, _, 0, rfl, rfl, hR2, rfl, _, _, rfl, rfl, ?_⟩
      refine ⟨_, rfl, q _ _ (Int.emod_nonneg _ (by omega)) (Int.emod_lt_of_pos _ (by omega)) ⟨⟨a / m, b, upd_same, Int.ediv_nonneg (by omega) (by omega), hb, hb2⟩, fun c o n e => ?_⟩⟩
      rw [upd_ne n, upd_ne (ne_of_none e hp)]
      exact e
    · refine ifF (decide_eq_false h0) ?_
      have b0 := Int.emod_nonneg (b * 48271 + 10007) (show (2147483587 : Int) ≠ 0 by decide)
      have b1 := Int.emod_lt_of_pos (b * 48271 + 10007) (show (0 : Int) < 2147483587 by decide)
      refine ⟨_, rfl, r, _, _, _, rfl, rfl, SqL.of hR, rfl, _, _, rfl, rfl, .inr ⟨by decide, by decide⟩, _, _, rfl, rfl, _, _, rfl, rfl, (by show (0 : Int) < 2147483587; decide), _, rfl, r, _, _, 1, rfl, rfl, hR, rfl, ?_⟩
      dsimp only
      generalize hB : (b * 48271 + 10007) % 2147483587 = B at *
      have hR2 : (upd H r (.lst [.int a, .int B])) r = some (.lst [.int a, .int B]) := upd_same
      have st : Stp r H (upd H r (.lst [.int a, .int B])) := ⟨⟨a, B, upd_same, ha, b0, b1⟩, fun c o n e => by rw [upd_ne n]; exact e⟩
      refine ⟨_, rfl, r, _, _, _, rfl, rfl, SqL.of hR2, rfl, _, rfl, r, _, _, _, rfl, rfl, SqL.of hR2, rfl, _, _, rfl, rfl, .inl ⟨by omega, by omega⟩, _, _, rfl, rfl, (by show (0 : Int) < 2147483549; decide), _, _, rfl, rfl, wide_div (b := 64) (by decide) (by decide) (by decide) (by decide), ?_⟩
      refine ⟨_, rfl, _, _, rfl, rfl, ⟨by decide, by decide, by decide⟩, _, _, rfl, rfl, _, rfl, ite2 (fun _ => ?_) (fun _ => ?_)⟩
      · exact ⟨_, rfl, _, rfl, _, _, rfl, rfl, (by show (0 : Int) < m; omega), q _ _ (Int.emod_nonneg _ (by omega)) (Int.emod_lt_of_pos _ (by omega)) st⟩
      · refine ⟨_, rfl, _, _, rfl, rfl, .inr ⟨by decide, by decide⟩, _, rfl, r, _, _, _, rfl, rfl, SqL.of hR2, rfl, _, _, rfl, rfl, _, _, rfl, rfl, .inr ⟨by decide, by decide⟩, _, rfl, _, _, rfl, rfl, (by show (0 : Int) < m; omega), ?_⟩
        exact q _ _ (Int.emod_nonneg _ (by omega)) (Int.emod_lt_of_pos _ (by omega)) st
end
end K28

set_option Elab.async false
set_option linter.all false
set_option maxRecDepth 100000
set_option maxHeartbeats 4000000
namespace K28
open PySem PySem.Spec PyProof.Rows L2 Gu Ex
section
variable {P : Program} {w : World} {K : PySem.W.Frag} {mg : Str → Option Value} {base : Heap} {f : Addr} {fd : FuncData}
theorem at_of {xs : List V} {d : Int} (h0 : 0 ≤ d) (h1 : d < xs.length) : ∃ v, atI xs d = some v ∧ v ∈ xs := by
  obtain ⟨n, rfl⟩ := Int.eq_ofNat_of_zero_le h0
  have hn : n < xs.length := by omega
  exact ⟨xs[n], atI_nat (List.getElem?_eq_getElem hn), List.getElem_mem hn⟩
def spChoice : Sp := fun vs H Q _ => ∃ (r o : Addr) (xs : List V), vs = [.ref r, .ref o] ∧ Rng H r ∧ H o = some (.lst xs) ∧ o ≠ r ∧ 1 ≤ xs.length ∧ xs.length ≤ 1000 ∧ ∀ v H', v ∈ xs → Stp r H H' → Q v H'
theorem sc__law_choice : FnScope ["_law_rng_here", "_law_options"] ["_law_rng_here", "_law_options"] (defScope (top 36)) := ⟨rfl, rfl, rfl, by decide +kernel, rfl, by decide +kernel, by decide +kernel⟩
theorem ok_choice (T : Tx K mg) (D__law_draw : Df P w K mg base 1 "_law_draw" ["_law_rng_here", "_law_many"] spDraw) (F : FnP K "_law_choice" "_law_choice" (top 36) f fd) : FnOk P w K mg base CX0 2 f fd ["_law_rng_here", "_law_options"] spChoice := by
  refine F.ok sc__law_choice (fun vs H Q E h => ?_) (fun cdv A outer s H vs Q E hr h => ⟨_, PSs.nox (pss_one (ps_ret (pe_ix ix_list (pv 1) (pcall D__law_draw hr (pa_cons (pv 0) (pa_cons (pe_callB call_len_seq (by rfl) T.n_len (by decide +kernel) (pa_cons (pv 1) pa_nil)) pa_nil))) (fun _ _ => rfl)))), ?_⟩)
  · obtain ⟨r, o, xs, rfl, _⟩ := h
    rfl
  · obtain ⟨r, o, xs, rfl, hR, hO, ne, l1, l2, q⟩ := h
    refine ⟨_, rfl, _, rfl, _, rfl, o, _, rfl, .inl (SqL.of hO), r, _, rfl, hR, by omega, ?_, fun d H1 d0 d1 st => ?_⟩
    · have : (1000 : Int) ≤ 10 ^ 40 := by decide
      omega
    · obtain ⟨v, hv, hm⟩ := at_of d0 d1
      exact ⟨o, _, _, v, rfl, rfl, SqL.of (st.2 o _ ne hO), hv, q v H1 hm st⟩
theorem good_one : Good [1] := ⟨⟨by decide, by decide⟩, rfl, fun i x h => by
    cases i with
    | zero => cases h; decide
    | succ i => simp at h, fun i x y h1 h2 => by
    cases i with
    | zero => simp at h2
    | succ i => simp at h1⟩
theorem good_more {ns : List Int} {x k : Int} (g : Good ns) (hl : ns.length < 8) (hx : ns[ns.length - 1]? = some x) (hk : 2 ≤ k) (hm : x * k ≤ 1000000000) : Good (ns ++ [x * k]) := by
  have l := g.len
  have xr := g.rng _ _ hx
  have gt : x < x * k := by
    have := Int.mul_le_mul_of_nonneg_left hk (show (0 : Int) ≤ x by omega)
    omega
  refine ⟨⟨by rw [List.length_append, List.length_singleton]; omega, by rw [List.length_append, List.length_singleton]; omega⟩, ?_, fun i y h => ?_, fun i y z h1 h2 => ?_⟩
  · rw [List.getElem?_append_left (by omega)]
    exact g.one
  · by_cases hi : i < ns.length
    · rw [List.getElem?_append_left hi] at h
      exact g.rng i y h
    · rw [List.getElem?_append_right (by omega)] at h
      have hi2 : i - ns.length = 0 := by
        cases e : i - ns.length with
        | zero => rfl
        | succ n => rw [e] at h; simp at h
      rw [hi2] at h
      have e : x * k = y := Option.some.inj h
      omega
  · by_cases hi : i + 1 < ns.length
    · rw [List.getElem?_append_left hi] at h2
      rw [List.getElem?_append_left (by omega)] at h1
      exact g.up i y z h1 h2
    · by_cases hi2 : i + 1 = ns.length
      · rw [List.getElem?_append_left (by omega)] at h1
        rw [List.getElem?_append_right (by omega), hi2, Nat.sub_self] at h2
        have e : x * k = z := Option.some.inj h2
        rw [show i = ns.length - 1 by omega, hx] at h1
        have e2 : x = y := Option.some.inj h1
        rw [← e, ← e2]
        exact ⟨gt, Int.mul_emod_right x k⟩
      · rw [List.getElem?_append_right (by omega)] at h2
        cases e : i + 1 - ns.length with
        | zero => omega
        | succ n => rw [e] at h2; simp at h2
def spSizes : Sp := fun vs H Q _ => ∃ (r : Addr) (lv gr : Int), vs = [.ref r, .int lv, .int gr] ∧ Rng H r ∧ 1 ≤ lv ∧ lv ≤ 8 ∧ 2 ≤ gr ∧ gr ≤ 1000000 ∧
  ∀ l ns H', Good ns → H l = none → H' l = some (.lst (ns.map V.int)) → Stp r H H' → Q (.ref l) H'
theorem at_last (ys : List Int) (x : Int) : atI ((ys ++ [x]).map V.int) (-1) = some (.int x) := by
  rw [List.map_append]
  exact atI_last _ _
theorem last_of : ∀ {ns : List Int}, 1 ≤ ns.length → ∃ ys x, ns = ys ++ [x]
  | [], h => absurd h (by decide)
  | [x], _ => ⟨[], x, rfl⟩
  | a :: b :: r, _ => by
    obtain ⟨ys, x, e⟩ := last_of (ns := b :: r) (by simp)
    exact ⟨a :: ys, x, by rw [e]; rfl⟩
theorem last_get (ys : List Int) (x : Int) : (ys ++ [x])[(ys ++ [x]).length - 1]? = some x := by
  rw [List.length_append, List.length_singleton, Nat.add_sub_cancel, List.getElem?_append_right (Nat.le_refl _), Nat.sub_self]
  rfl
theorem sc__law_sizes : FnScope ["_law_rng_here", "_law_levels", "_law_greatest", "_law_result", "_law_k", "_law_factor"] ["_law_rng_here", "_law_levels", "_law_greatest"] (defScope (top 37)) := ⟨rfl, rfl, rfl, by decide +kernel, rfl, by decide +kernel, by decide +kernel⟩
theorem ok_sizes (T : Tx K mg) (D__law_draw : Df P w K mg base 1 "_law_draw" ["_law_rng_here", "_law_many"] spDraw) (F : FnP K "_law_sizes" "_law_sizes" (top 37) f fd) :
    FnOk P w K mg base CX0 2 f fd ["_law_rng_here", "_law_levels", "_law_greatest"] spSizes := by
  refine F.ok sc__law_sizes (fun vs H Q E h => ?_) (fun cdv A outer s H vs Q E hr h => ⟨_, PSs.nox (pss_cons (ps_set (i := 3) sc__law_sizes.nd rfl (by first | exact Or.inl rfl | exact Or.inr rfl) (pe_lst (pa_cons pe_int pa_nil))) (pss_cons (ps_for PassesOwn.never rfl (pi_range1 rfl T.n_range (pa_cons (pcall D__law_draw hr (pa_cons (pv 0) (pa_cons (pv 1) pa_nil))) pa_nil)) (pg_name (i := 4) sc__law_sizes.nd rfl (by first | exact Or.inl rfl | exact Or.inr rfl)) (pss_cons (ps_set (i := 5) sc__law_sizes.nd rfl (by first | exact Or.inl rfl | exact Or.inr rfl) (pe_ix ix_list (pe_lst (pa_cons pe_int (pa_cons pe_int (pa_cons pe_int (pa_cons pe_int (pa_cons (pe_op op_add pe_int (pcall D__law_draw hr (pa_cons (pv 0) (pa_cons (pe_op op_sub (pv 2) pe_int) pa_nil)))) pa_nil)))))) (pcall D__law_draw hr (pa_cons (pv 0) (pa_cons pe_int pa_nil))) (fun _ _ => rfl))) (pss_one (ps_if (PW.pt (pw_and (pt_cmpR op_le (pe_op op_mul (pe_ix ix_list (pv 3) (pe_un un_neg pe_int) (fun _ _ => rfl)) (pv 5)) (pe_op op_pow pe_int pe_int) (nomark _)) (pw_and1 (pt_cmpR op_le (pv 5) (pv 2) (nomark _))))) (pss_one (ps_expr (pe_bm PySem.F.plainAttrs_list PySem.F.slot_list_append PySem.F.type_list_append mt_append (pv 3) (pa_cons (pe_op op_mul (pe_ix ix_list (pv 3) (pe_un un_neg pe_int) (fun _ _ => rfl)) (pv 5)) pa_nil)))) pss_nil)))) (pss_one (ps_ret (pv 3))))), ?_⟩)
  · obtain ⟨r, lv, gr, rfl, _⟩ := h
    rfl
  · obtain ⟨r, lv, gr, rfl, hR, l1, l2, g1, g2, q⟩ := h
    have big : (10 : Int) ^ 40 = 10000000000000000000000000000000000000000 := by decide
    refine ⟨(by show 1 ≤ sizeLine; decide), fun l hl => ?_⟩
    have nrl : r ≠ l := hR.ne hl
    have s0 : Stp r H (upd H l (.lst [.int 1])) := (Stp.refl hR).new hl
    refine ⟨_, rfl, _, rfl, r, lv, rfl, s0.1, l1, by omega, fun d H1 d0 d1 s1 => ?_⟩
    refine ⟨d, rfl, by omega, by omega, ?_⟩
    have s01 := s0.trans s1
    refine for_range (fun i σ H' => ∃ ns x y, σ = [some (.ref r), some (.int lv), some (.int gr), some (.ref l), x, y] ∧ Good ns ∧ ns.length ≤ i + 1 ∧ H' l = some (.lst (ns.map V.int)) ∧ Stp r H H') ⟨[1], none, none, rfl, good_one, by simp, s1.2 l _ nrl.symm upd_same, s01⟩ ?_ ?_
    · rintro i σ H' hi ⟨ns, x, y, rfl, g, hlen, hL, st⟩
      have hi8 : i < 8 := by omega
      obtain ⟨ys, z, rfl⟩ := last_of g.len.1
      have zr := g.rng _ _ (last_get ys z)
      refine ⟨_, rfl, _, rfl, _, _, rfl, rfl, r, gr - 1, rfl, st.1, by omega, by omega, fun d1 H1 a0 a1 t1 => ?_⟩
      have st1 := st.trans t1
      have hL1 : H1 l = some (.lst ((ys ++ [z]).map V.int)) := t1.2 l _ nrl.symm hL
      refine ⟨_, _, rfl, rfl, (by show 5 ≤ sizeLine; decide), fun t ht => ?_⟩
      have st2 := st1.new (o := .lst [.int 2, .int 2, .int 3, .int 4, .int (2 + d1)]) ht
      have nrt : r ≠ t := st1.1.ne ht
      have hL2 : (upd H1 t (.lst [.int 2, .int 2, .int 3, .int 4, .int (2 + d1)])) l = some (.lst ((ys ++ [z]).map V.int)) := by rw [upd_ne (ne_of_none hL1 ht)]; exact hL1
      refine ⟨_, rfl, r, 5, rfl, st2.1, by decide, by omega, fun d2 H3 b0 b1 t3 => ?_⟩
      have st3 := st2.trans t3
      have hL3 : H3 l = some (.lst ((ys ++ [z]).map V.int)) := t3.2 l _ nrl.symm hL2
      obtain ⟨v, hv, hm⟩ := at_of (xs := [.int 2, .int 2, .int 3, .int 4, .int (2 + d1)]) b0 b1
      obtain ⟨k, rfl, k2⟩ : ∃ k : Int, v = .int k ∧ 2 ≤ k := by
        simp only [List.mem_cons, List.not_mem_nil, or_false] at hm
        rcases hm with rfl | rfl | rfl | rfl | rfl
        · exact ⟨_, rfl, by omega⟩
        · exact ⟨_, rfl, by omega⟩
        · exact ⟨_, rfl, by omega⟩
        · exact ⟨_, rfl, by omega⟩
        · exact ⟨_, rfl, by omega⟩
      refine ⟨t, _, _, _, rfl, rfl, SqL.of (t3.2 t _ nrt.symm upd_same), hv, ?_⟩
      refine ⟨_, rfl, _, rfl, l, _, _, _, rfl, rfl, SqL.of hL3, at_last ys z, _, rfl, _, _, rfl, rfl, .inl ⟨by omega, by omega⟩, _, _, rfl, rfl, ⟨by decide, by decide, by decide⟩, _, _, rfl, rfl, _, rfl, ?_⟩
      by_cases hc : z * k ≤ 10 ^ (9 : Int).toNat
      · refine ifT (decide_eq_true hc) ?_
        refine ⟨_, rfl, _, rfl, _, _, rfl, rfl, _, rfl, ite2 (fun hk => ?_) (fun _ => ?_)⟩
        · refine ⟨_, rfl, .inl ⟨rfl, _, SqL.of hL3⟩, _, rfl, _, rfl, l, _, _, _, rfl, rfl, SqL.of hL3, at_last ys z, _, rfl, _, _, rfl, rfl, .inl ⟨by omega, by omega⟩, l, _, _, rfl, rfl, hL3, ?_, ?_⟩
          · exact small1000 (by rw [List.length_map]; omega)
          · have hc2 : z * k ≤ 1000000000 := hc
            refine ⟨(ys ++ [z]) ++ [z * k], _, _, rfl, good_more g (by omega) (last_get ys z) k2 hc2, by rw [List.length_append (bs := [z * k]), List.length_singleton]; omega, ?_, ?_⟩
            · rw [upd_same, List.map_append (l₂ := [z * k])]
              rfl
            · obtain ⟨⟨x1, x2, e1, e2⟩, kk⟩ := st3
              refine ⟨⟨x1, x2, by rw [upd_ne nrl]; exact e1, e2⟩, fun b o n e => ?_⟩
              rw [upd_ne (ne_of_none e hl)]
              exact kk b o n e
        · exact ⟨_, _, _, rfl, g, by omega, hL3, st3⟩
      · exact ifF (decide_eq_false hc) ⟨_, _, _, rfl, g, by omega, hL3, st3⟩
    · rintro σ H' ⟨ns, x, y, rfl, g, hlen, hL, st⟩
      exact ⟨_, rfl, q l ns H' g hl hL st⟩
end
end K28

set_option Elab.async false
set_option linter.all false
set_option maxRecDepth 100000
set_option maxHeartbeats 4000000
namespace K28
open PySem PySem.Spec PyProof.Rows L2 Gu Ex
theorem same_upd {H : Hp} {p : Addr} {o : HO} (h : H p = none) : Same H (upd H p o) := fun b x e => by
  rw [upd_ne (ne_of_none e h)]
  exact e
theorem SzAt.same {C p : Addr} {H H' : Hp} {ns : List Int} (h : SzAt C H p ns) (s : Same H H') : SzAt C H' p ns := by
  obtain ⟨dx, l, a, b⟩ := h
  exact ⟨dx, l, s _ _ a, s _ _ b⟩
def sz (ns : List Int) (k : Nat) : Int := ns.getD k 0
theorem sz_at {ns : List Int} {k : Nat} (h : k < ns.length) : ns[k]? = some (sz ns k) := by
  unfold sz
  rw [List.getD_eq_getElem?_getD, List.getElem?_eq_getElem h]
  rfl
theorem chain {ns : List Int} (g : Good ns) : M16.Ch (sz ns) ns.length := by
  refine ⟨g.len.1, ?_, fun k h => (g.rng k _ (sz_at h)).1, fun k h => Int.dvd_of_emod_eq_zero (g.up k _ _ (sz_at (by omega)) (sz_at h)).2⟩
  have := (sz_at (ns := ns) (k := 0) (by have := g.len.1; omega)).symm.trans g.one
  exact Option.some.inj this
theorem sz_le {ns : List Int} (g : Good ns) {k : Nat} (h : k < ns.length) : sz ns k ≤ 1000000000 := (g.rng k _ (sz_at h)).2
theorem at_sz {ns : List Int} {k : Nat} (h : k < ns.length) : atI (ns.map V.int) (k : Int) = some (.int (sz ns k)) := at_map (sz_at h)
/-- objects at these addresses, told by f -/
inductive Refs {α : Type} (f : α → List V) (H : Hp) : List Addr → List α → Prop
  | nil : Refs f H [] []
  | cons {p : Addr} {ps : List Addr} {t : α} {ts : List α} : H p = some (.tup (f t)) → Refs f H ps ts → Refs f H (p :: ps) (t :: ts)
section
variable {α : Type} {f : α → List V} {H H' : Hp} {ps qs : List Addr} {ts us : List α}
theorem Refs.mono (h : Refs f H ps ts) (k : ∀ p xs, H p = some (.tup xs) → H' p = some (.tup xs)) : Refs f H' ps ts := by
  induction h with
  | nil => exact .nil
  | cons a _ ih => exact .cons (k _ _ a) ih
theorem Refs.same (h : Refs f H ps ts) (k : Same H H') : Refs f H' ps ts := h.mono fun p xs e => k p _ e
theorem Refs.app (h : Refs f H ps ts) (h2 : Refs f H qs us) : Refs f H (ps ++ qs) (ts ++ us) := by
  induction h with
  | nil => exact h2
  | cons b _ ih => exact .cons b ih
theorem Refs.one {p : Addr} {t : α} (h : H p = some (.tup (f t))) : Refs f H [p] [t] := .cons h .nil
theorem Refs.len (h : Refs f H ps ts) : ps.length = ts.length := by
  induction h with
  | nil => rfl
  | cons _ _ ih => rw [List.length_cons, List.length_cons, ih]
theorem Refs.get (h : Refs f H ps ts) : ∀ {i : Nat} {p : Addr}, ps[i]? = some p → ∃ t, ts[i]? = some t ∧ H p = some (.tup (f t)) := by
  induction h with
  | nil => intro i p e; cases e
  | cons a _ ih =>
    intro i p e
    cases i with
    | zero =>
      cases e
      exact ⟨_, rfl, a⟩
    | succ i => exact ih e
theorem Refs.at_ (h : Refs f H ps ts) {i : Nat} {t : α} (ht : ts[i]? = some t) : ∃ p, ps[i]? = some p ∧ H p = some (.tup (f t)) := by
  have hi : i < ts.length := (List.getElem?_eq_some_iff.mp ht).1
  have hi2 : i < ps.length := by rw [h.len]; exact hi
  obtain ⟨u, e1, e2⟩ := h.get (List.getElem?_eq_getElem hi2)
  rw [ht] at e1
  cases e1
  exact ⟨_, List.getElem?_eq_getElem hi2, e2⟩
theorem Refs.take (h : Refs f H ps ts) : ∀ n, Refs f H (ps.take n) (ts.take n) := by
  induction h with
  | nil => intro n; simp; exact .nil
  | cons a _ ih =>
    intro n
    cases n with
    | zero => exact .nil
    | succ n => exact .cons a (ih n)
theorem Refs.drop (h : Refs f H ps ts) : ∀ n, Refs f H (ps.drop n) (ts.drop n) := by
  induction h with
  | nil => intro n; simp; exact .nil
  | cons a b ih =>
    intro n
    cases n with
    | zero => exact .cons a b
    | succ n => exact ih n
theorem Refs.map_at {i : Nat} {p : Addr} (h : ps[i]? = some p) : atI (ps.map V.ref) (i : Int) = some (.ref p) := atI_nat (by rw [List.getElem?_map, h]; rfl)
end
section
variable {P : Program} {w : World} {K : PySem.W.Frag} {mg : Str → Option Value} {base : Heap} {f : Addr} {fd : FuncData}
def spCells : Sp := fun vs H Q _ => ∃ i : Int, vs = [.int i] ∧ 1 ≤ i ∧ i ≤ 1000000000000 ∧ Q (.bl true) H
theorem sc_is_cells : FnScope ["value"] ["value"] (defScope (top 13)) := ⟨rfl, rfl, rfl, by decide +kernel, rfl, by decide +kernel, by decide +kernel⟩
theorem ok_is_cells (T : Tx K mg) (D_is_integer : Df P w K mg base 1 "is_integer" ["value"] spInt) (F : FnP K "is_cells" "is_cells" (top 13) f fd) : FnOk P w K mg base CX0 2 f fd ["value"] spCells := by
  refine F.ok sc_is_cells (fun vs H Q E h => ?_) (fun cdv A outer s H vs Q E hr h => ⟨_, PSs.nox (pss_one (ps_ret (pe_and (pcall D_is_integer hr (pa_cons (pv 0) pa_nil)) (pe_one (pe_chain op_le op_le pe_int (pv 0) (ClX.pe_cval (pe_glob (v := .ref _) rfl T.g_Sizes rfl))))))), ?_⟩)
  · obtain ⟨i, rfl, _⟩ := h
    rfl
  · obtain ⟨i, rfl, h1, h2, q⟩ := h
    obtain ⟨u, cC⟩ := T.cC
    refine ⟨_, rfl, _, rfl, true, rfl, iteT ⟨_, rfl, _, _, rfl, rfl, _, rfl, ifT (decide_eq_true h1) ⟨_, _, _, _, rfl, T.rd, cC, _, _, rfl, rfl, ?_⟩⟩⟩
    have e : decide (i ≤ 1000000000000) = true := decide_eq_true h2
    show Q (.bl (decide (i ≤ 1000000000000))) H
    rw [e]
    exact q
def spCellsC : Sp := fun vs H Q _ => ∃ i : Int, vs = [.int i] ∧ 1 ≤ i ∧ i ≤ 1000000000000 ∧ Q .non H
theorem sc_check_cells : FnScope ["value"] ["value"] (defScope (top 14)) := ⟨rfl, rfl, rfl, by decide +kernel, rfl, by decide +kernel, by decide +kernel⟩
theorem ok_check_cells (T : Tx K mg) (D_is_cells : Df P w K mg base 2 "is_cells" ["value"] spCells) (F : FnP K "check_cells" "check_cells" (top 14) f fd) : FnOk P w K mg base CX0 3 f fd ["value"] spCellsC := by
  refine F.ok sc_check_cells (fun vs H Q E h => ?_) (fun cdv A outer s H vs Q E hr h => ⟨_, PSs.nox (pss_one (ps_if (pt_not (pt_val (pcall D_is_cells hr (pa_cons (pv 0) pa_nil)))) (pss_one ps_never) pss_nil)), ?_⟩)
  · obtain ⟨i, rfl, _⟩ := h
    rfl
  · obtain ⟨i, rfl, h1, h2, q⟩ := h
    exact ⟨_, rfl, _, rfl, h1, h2, true, rfl, iteF q⟩
def spWhole (K : PySem.W.Frag) : Sp := fun vs H Q _ => ∃ (p : Addr) (ns : List Int) (i : Nat) (x c : Int), vs = [.ref p, .int c, .int i] ∧ SzAt (He.ga K "Sizes") H p ns ∧ ns[i]? = some x ∧ 1 ≤ x ∧ 1 ≤ c ∧ c ≤ 1000000000000 ∧ Q (.int (c - c % x)) H
theorem sc_whole : FnScope ["self", "cells", "level"] ["self", "cells", "level"] (defScope (inClass (top 18) 16)) := ⟨rfl, rfl, rfl, by decide +kernel, rfl, by decide +kernel, by decide +kernel⟩
theorem ok_whole (T : Tx K mg) (D_check_cells : Df P w K mg base 3 "check_cells" ["value"] spCellsC) (M_size : Mf P w K mg base 5 "Sizes" "size" ["self", "level"] (spSize K)) (F : FnP K "whole" "Sizes.whole" (inClass (top 18) 16) f fd) :
    FnOk P w K mg base CX0 6 f fd ["self", "cells", "level"] (spWhole K) := by
  refine F.ok sc_whole (fun vs H Q E h => ?_) (fun cdv A outer s H vs Q E hr h => ⟨_, PSs.nox (pss_cons (ps_expr (pcall D_check_cells hr (pa_cons (pv 1) pa_nil))) (pss_one (ps_ret (pe_op op_sub (pv 1) (pe_op op_mod (pv 1) (pmeth M_size hr (pv 0) (pa_cons (pv 2) pa_nil))))))), ?_⟩)
  · obtain ⟨p, ns, i, x, c, rfl, _⟩ := h
    rfl
  · obtain ⟨p, ns, i, x, c, rfl, hz, hx, x1, c1, c2, q⟩ := h
    obtain ⟨dx, l, h1, h2⟩ := id hz
    refine ⟨_, rfl, c, rfl, c1, c2, ?_⟩
    exact ⟨_, rfl, _, rfl, _, rfl, p, dx, _, rfl, h1, szF_no l (by decide +kernel), _, rfl, p, ns, i, x, rfl, hz, hx, _, _, rfl, rfl, (by show (0 : Int) < x; omega), _, _, rfl, rfl, q⟩
def spBelow (K : PySem.W.Frag) : Sp := fun vs H Q _ => ∃ (p : Addr) (ns : List Int) (i : Nat) (x a e : Int), vs = [.ref p, .int i, .int a, .int e] ∧ SzAt (He.ga K "Sizes") H p ns ∧ ns[i]? = some x ∧ 1 ≤ x ∧ Q (.bl (decide (a % x = 0 ∧ a + x ≤ e))) H
theorem sc_lies_below : FnScope ["sizes", "level", "address", "end", "size"] ["sizes", "level", "address", "end"] (defScope (top 24)) := ⟨rfl, rfl, rfl, by decide +kernel, rfl, by decide +kernel, by decide +kernel⟩
theorem ok_below (T : Tx K mg) (M_size : Mf P w K mg base 5 "Sizes" "size" ["self", "level"] (spSize K)) (F : FnP K "lies_below" "lies_below" (top 24) f fd) : FnOk P w K mg base CX0 6 f fd ["sizes", "level", "address", "end"] (spBelow K) := by
  refine F.ok sc_lies_below (fun vs H Q E h => ?_) (fun cdv A outer s H vs Q E hr h => ⟨_, PSs.nox (pss_cons (ps_set (i := 4) sc_lies_below.nd rfl (by first | exact Or.inl rfl | exact Or.inr rfl) (pmeth M_size hr (pv 0) (pa_cons (pv 1) pa_nil))) (pss_one (ps_ret (pe_and (pe_cmpR op_eq (pe_op op_mod (pv 2) (pv 4)) pe_int (nomark _)) (pe_one (pe_cmpR op_le (pe_op op_add (pv 2) (pv 4)) (pv 3) (nomark _))))))), ?_⟩)
  · obtain ⟨p, ns, i, x, a, e, rfl, _⟩ := h
    rfl
  · obtain ⟨p, ns, i, x, a, e, rfl, hz, hx, x1, q⟩ := h
    obtain ⟨dx, l, h1, h2⟩ := id hz
    refine ⟨_, rfl, p, dx, _, rfl, h1, szF_no l (by decide +kernel), _, rfl, p, ns, i, x, rfl, hz, hx, ?_⟩
    refine ⟨_, rfl, _, rfl, _, _, rfl, rfl, (by show (0 : Int) < x; omega), rfl, _, rfl, ?_⟩
    by_cases hm : a % x = 0
    · refine ifT (vT hm) ⟨_, rfl, _, rfl, _, _, rfl, rfl, _, rfl, _, _, rfl, rfl, ?_⟩
      have e2 : decide (a % x = 0 ∧ a + x ≤ e) = decide (a + x ≤ e) := by
        by_cases z : a + x ≤ e
        · rw [decide_eq_true z, decide_eq_true ⟨hm, z⟩]
        · rw [decide_eq_false z, decide_eq_false fun y => z y.2]
      rw [e2] at q
      exact q
    · have e2 : decide (a % x = 0 ∧ a + x ≤ e) = false := decide_eq_false fun y => hm y.1
      rw [e2] at q
      exact ifF (vF hm) q
/-- a right region -/
def spRegion (K : PySem.W.Frag) : Sp := fun vs H Q _ => ∃ (p : Addr) (ns : List Int) (i : Nat) (n a : Int), vs = [.ref p, .int n, .int i, .int a] ∧ SzAt (He.ga K "Sizes") H p ns ∧ Good ns ∧ i < ns.length ∧ 1 ≤ n ∧ n ≤ 1000000000000 ∧ 0 ≤ a ∧ a % sz ns i = 0 ∧ a + sz ns i ≤ n ∧ Q (.bl true) H
theorem sc_is_region : FnScope ["sizes", "length", "level", "address"] ["sizes", "length", "level", "address"] (defScope (top 25)) := ⟨rfl, rfl, rfl, by decide +kernel, rfl, by decide +kernel, by decide +kernel⟩
theorem ok_is_region (T : Tx K mg) (D_check_cells : Df P w K mg base 3 "check_cells" ["value"] spCellsC) (M_has_level : Mf P w K mg base 3 "Sizes" "has_level" ["self", "level"] (spHas K)) (D_is_address : Df P w K mg base 2 "is_address" ["value"] spAddr)
    (D_lies_below : Df P w K mg base 6 "lies_below" ["sizes", "level", "address", "end"] (spBelow K)) (F : FnP K "is_region" "is_region" (top 25) f fd) : FnOk P w K mg base CX0 7 f fd ["sizes", "length", "level", "address"] (spRegion K) := by
  refine F.ok sc_is_region (fun vs H Q E h => ?_) (fun cdv A outer s H vs Q E hr h => ⟨_, PSs.nox (pss_cons (ps_expr (pcall D_check_cells hr (pa_cons (pv 1) pa_nil))) (pss_one (ps_ret (pe_and (pmeth M_has_level hr (pv 0) (pa_cons (pv 2) pa_nil)) (pe_and (pcall D_is_address hr (pa_cons (pv 3) pa_nil)) (pe_one (pcall D_lies_below hr (pa_cons (pv 0) (pa_cons (pv 2) (pa_cons (pv 3) (pa_cons (pv 1) pa_nil))))))))))), ?_⟩)
  · obtain ⟨p, ns, i, n, a, rfl, _⟩ := h
    rfl
  · obtain ⟨p, ns, i, n, a, rfl, hz, g, hi, n1, n2, a0, a1, a2, q⟩ := h
    obtain ⟨dx, l, h1, h2⟩ := id hz
    refine ⟨_, rfl, n, rfl, n1, n2, ?_⟩
    refine ⟨_, rfl, p, dx, _, rfl, h1, szF_no l (by decide +kernel), _, rfl, p, ns, i, rfl, hz, hi, true, rfl, iteT ⟨_, rfl, a, rfl, a0, true, rfl, iteT ?_⟩⟩
    refine ⟨_, rfl, _, rfl, _, rfl, _, rfl, p, ns, i, _, a, n, rfl, hz, sz_at hi, (chain g).pos i hi, ?_⟩
    rw [decide_eq_true (show a % sz ns i = 0 ∧ a + sz ns i ≤ n from ⟨a1, a2⟩)]
    exact q
end
end K28

set_option Elab.async false
set_option linter.all false
set_option maxRecDepth 100000
set_option maxHeartbeats 4000000
namespace K28
open PySem PySem.Spec PyProof.Rows L2 Gu Ex
def layF (zp : Addr) (n fr : Int) (bl : Addr) : List (Str × V) := [("size_table", .ref zp), ("cell_count", .int n), ("free_count", .int fr), ("block_list", .ref bl)]
section
variable (zp bl : Addr) (n fr : Int)
theorem lay_st : (layF zp n fr bl).lookup ("size_table" : Str) = some (.ref zp) := by simp [layF, List.lookup]
theorem lay_cc : (layF zp n fr bl).lookup ("cell_count" : Str) = some (.int n) := by
  have e : (("cell_count" : Str) == ("size_table" : Str)) = false := by decide +kernel
  simp [layF, List.lookup, e]
theorem lay_fc : (layF zp n fr bl).lookup ("free_count" : Str) = some (.int fr) := by
  have e : (("free_count" : Str) == ("size_table" : Str)) = false := by decide +kernel
  have e2 : (("free_count" : Str) == ("cell_count" : Str)) = false := by decide +kernel
  simp [layF, List.lookup, e, e2]
theorem lay_bl : (layF zp n fr bl).lookup ("block_list" : Str) = some (.ref bl) := by
  have e : (("block_list" : Str) == ("size_table" : Str)) = false := by decide +kernel
  have e2 : (("block_list" : Str) == ("cell_count" : Str)) = false := by decide +kernel
  have e3 : (("block_list" : Str) == ("free_count" : Str)) = false := by decide +kernel
  simp [layF, List.lookup, e, e2, e3]
theorem lay_no {m : Str} (h1 : (m == ("size_table" : Str)) = false) (h2 : (m == ("cell_count" : Str)) = false) (h3 : (m == ("free_count" : Str)) = false) (h4 : (m == ("block_list" : Str)) = false) : (layF zp n fr bl).lookup m = none := by
  simp [layF, List.lookup, h1, h2, h3, h4]
theorem lay_put (z : Int) : putF "free_count" (.int z) (layF zp n fr bl) = layF zp n z bl := by
  have e : (("size_table" : Str) = ("free_count" : Str)) = False := by
    simp only [eq_iff_iff, iff_false]
    decide +kernel
  have e2 : (("cell_count" : Str) = ("free_count" : Str)) = False := by
    simp only [eq_iff_iff, iff_false]
    decide +kernel
  simp [layF, putF, e, e2]
end
/-- a block: address, level, is it pinned -/
abbrev Blk : Type := Int × Nat × Bool
def blkV (b : Blk) : List V := [.int b.1, .int (b.2.1 : Nat), .bl b.2.2]
def bEnd (ns : List Int) (b : Blk) : Int := b.1 + sz ns b.2.1
structure Wf (ns : List Int) (n : Int) (bs : List Blk) : Prop where
  ok : ∀ b ∈ bs, b.2.1 < ns.length ∧ 0 ≤ b.1 ∧ sz ns b.2.1 ∣ b.1 ∧ bEnd ns b ≤ n
  so : bs.Pairwise fun b c => bEnd ns b ≤ c.1
def tot (ns : List Int) (bs : List Blk) : Int := (bs.map fun b => sz ns b.2.1).sum
structure Ly (K : PySem.W.Frag) (H : Hp) (y zp bl dx : Addr) (ps : List Addr) (ns : List Int) (n : Int) (bs : List Blk) : Prop where
  at_ : H y = some (.ins (He.ga K "Layout") dx (layF zp n (n - tot ns bs) bl))
  szs : SzAt (He.ga K "Sizes") H zp ns
  lst : H bl = some (.lst (ps.map V.ref))
  rf : Refs blkV H ps bs
  wf : Wf ns n bs
  gd : Good ns
  n1 : 1 ≤ n
  n2 : n ≤ 1000000000000
  ln : bs.length ≤ 1000
  ap : ∃ dz l, H zp = some (.ins (He.ga K "Sizes") dz (szF l)) ∧ H l = some (.lst (ns.map V.int)) ∧ l ≠ bl
section
variable {K : PySem.W.Frag} {H H' : Hp} {y zp bl dx : Addr} {ps : List Addr} {ns : List Int} {n : Int} {bs : List Blk}
theorem Ly.same (h : Ly K H y zp bl dx ps ns n bs) (s : Same H H') : Ly K H' y zp bl dx ps ns n bs := ⟨s _ _ h.at_, h.szs.same s, s _ _ h.lst, h.rf.same s, h.wf, h.gd, h.n1, h.n2, h.ln, h.ap.elim fun dz z => z.elim fun l z => ⟨dz, l, s _ _ z.1, s _ _ z.2.1, z.2.2⟩⟩
theorem Wf.pos (w : Wf ns n bs) (g : Good ns) {b : Blk} (h : b ∈ bs) : 1 ≤ sz ns b.2.1 := (chain g).pos _ (w.ok b h).1
/-- the addresses rise -/
theorem Wf.lt (w : Wf ns n bs) (g : Good ns) {i j : Nat} {b c : Blk} (hi : bs[i]? = some b) (hj : bs[j]? = some c) (h : i < j) : bEnd ns b ≤ c.1 ∧ b.1 < c.1 := by
  obtain ⟨h1, e1⟩ := List.getElem?_eq_some_iff.mp hi
  obtain ⟨h2, e2⟩ := List.getElem?_eq_some_iff.mp hj
  have p := List.pairwise_iff_getElem.mp w.so i j h1 h2 h
  rw [e1, e2] at p
  have z := w.pos g (List.mem_of_getElem? hi)
  unfold bEnd at p
  exact ⟨p, by omega⟩
/-- the layout's own objects lie apart from the sizes -/
theorem Ly.far (L : Ly K H y zp bl dx ps ns n bs) : ∃ dz l, H zp = some (.ins (He.ga K "Sizes") dz (szF l)) ∧ H l = some (.lst (ns.map V.int)) ∧ zp ≠ y ∧ zp ≠ bl ∧ l ≠ bl ∧ l ≠ y ∧ y ≠ bl := by
  obtain ⟨dz, l, z1, z2, nb⟩ := L.ap
  refine ⟨dz, l, z1, z2, fun e => ?_, fun e => ?_, nb, fun e => ?_, fun e => ?_⟩
  · rw [e, L.at_] at z1
    have z3 := congrArg List.length (HO.ins.inj (Option.some.inj z1)).2.2
    cases z3
  · rw [e, L.lst] at z1
    cases z1
  · rw [e, L.at_] at z2
    cases z2
  · have a := L.at_
    rw [e, L.lst] at a
    cases a
/-- how many blocks start below a -/
def Below (bs : List Blk) (a : Int) (i : Nat) : Prop := i ≤ bs.length ∧ ∀ j b, bs[j]? = some b → (j < i ↔ b.1 < a)
end
section
variable {P : Program} {w : World} {K : PySem.W.Frag} {mg : Str → Option Value} {base : Heap} {f : Addr} {fd : FuncData}
def spNew (K : PySem.W.Frag) : Sp := fun vs H Q _ => ∃ (y zp dx : Addr) (ns : List Int) (n : Int), vs = [.ref y, .ref zp, .int n] ∧ H y = some (.ins (He.ga K "Layout") dx []) ∧ SzAt (He.ga K "Sizes") H zp ns ∧ Good ns ∧ 1 ≤ n ∧ n ≤ 1000000000000 ∧
  ∀ bl H', H bl = none → (∀ c o, c ≠ y → H c = some o → H' c = some o) → Ly K H' y zp bl dx [] ns n [] → Q .non H'
theorem sc_Layout_init : FnScope ["self", "sizes", "length"] ["self", "sizes", "length"] (defScope (inClass (top 32) 0)) := ⟨rfl, rfl, rfl, by decide +kernel, rfl, by decide +kernel, by decide +kernel⟩
theorem ok_new (T : Tx K mg) (D_check_cells : Df P w K mg base 3 "check_cells" ["value"] spCellsC) (F : FnP K "__init__" "Layout.__init__" (inClass (top 32) 0) f fd) : FnOk P w K mg base CX0 4 f fd ["self", "sizes", "length"] (spNew K) := by
  refine F.ok sc_Layout_init (fun vs H Q E h => ?_) (fun cdv A outer s H vs Q E hr h => ⟨_, PSs.nox (pss_cons (ps_expr (pcall D_check_cells hr (pa_cons (pv 2) pa_nil))) (pss_cons (ps_fld (pv 0) (pv 1) rfl) (pss_cons (ps_fld (pv 0) (pv 2) rfl) (pss_cons (ps_fld (pv 0) (pv 2) rfl) (pss_one (ps_fld (pv 0) (pe_lst pa_nil) rfl)))))), ?_⟩)
  · obtain ⟨y, zp, dx, ns, n, rfl, _⟩ := h
    rfl
  · obtain ⟨y, zp, dx, ns, n, rfl, hy, hz, g, n1, n2, q⟩ := h
    have few : ∀ k, k < 10 → k < 1000 := fun k h => by omega
    refine ⟨_, rfl, n, rfl, n1, n2, ?_⟩
    refine ⟨_, rfl, _, rfl, y, _, dx, _, rfl, hy, T.ly, T.nST, (by show 0 < 1000; decide), ?_⟩
    refine ⟨_, rfl, _, rfl, y, _, dx, _, rfl, upd_same, T.ly, T.nCC, (by show 1 < 1000; decide), ?_⟩
    refine ⟨_, rfl, _, rfl, y, _, dx, _, rfl, upd_same, T.ly, T.nFC, (by show 2 < 1000; decide), ?_⟩
    refine ⟨Nat.zero_le _, fun bl hbl => ⟨_, rfl, y, _, dx, _, rfl, (by rw [upd_ne (ne_of_none (o := .ins (He.ga K "Layout") dx (putF "free_count" (.int n) (putF "cell_count" (.int n) (putF "size_table" (.ref zp) []))))  upd_same hbl)]; exact upd_same), T.ly, T.nBL, (by show 3 < 1000; decide), ?_⟩⟩
    have nyb : y ≠ bl := ne_of_none (o := .ins (He.ga K "Layout") dx (putF "free_count" (.int n) (putF "cell_count" (.int n) (putF "size_table" (.ref zp) [])))) upd_same hbl
    have nb : H bl = none := by
      rw [upd_ne nyb.symm, upd_ne nyb.symm, upd_ne nyb.symm] at hbl
      exact hbl
    have keep : ∀ {c : Addr} {o : HO}, c ≠ y → H c = some o → (upd (upd (upd (upd (upd H y (.ins (He.ga K "Layout") dx (putF "size_table" (.ref zp) []))) y (.ins (He.ga K "Layout") dx (putF "cell_count" (.int n) (putF "size_table" (.ref zp) [])))) y (.ins (He.ga K "Layout") dx (putF "free_count" (.int n) (putF "cell_count" (.int n) (putF "size_table" (.ref zp) []))))) bl (.lst [])) y (.ins (He.ga K "Layout") dx (putF "block_list" (.ref bl) (putF "free_count" (.int n) (putF "cell_count" (.int n) (putF "size_table" (.ref zp) [])))))) c = some o := fun {c o} hc e => by
      rw [upd_ne hc, upd_ne (ne_of_none e nb), upd_ne hc, upd_ne hc, upd_ne hc]
      exact e
    obtain ⟨dz, l, z1, z2⟩ := id hz
    have ny1 : zp ≠ y := fun e => by
      rw [e, hy] at z1
      have z3 := (HO.ins.inj (Option.some.inj z1)).2.2
      cases z3
    have ny2 : l ≠ y := fun e => by
      rw [e, hy] at z2
      cases z2
    refine q bl _ nb (fun c o hc e => keep hc e) ⟨?_, ⟨dz, l, keep ny1 z1, keep ny2 z2⟩, ?_, .nil, ⟨fun b hb => absurd hb List.not_mem_nil, .nil⟩, g, n1, n2, Nat.zero_le _, ⟨dz, l, keep ny1 z1, keep ny2 z2, ne_of_none z2 nb⟩⟩
    · rw [upd_same]
      have e : n - tot ns [] = n := by simp [tot]
      rw [e]
      rfl
    · rw [upd_ne nyb.symm, upd_same]
      rfl
def spCB (K : PySem.W.Frag) : Sp := fun vs H Q _ => ∃ (y zp bl dx : Addr) (ps : List Addr) (ns : List Int) (n a : Int) (bs : List Blk), vs = [.ref y, .int a] ∧ Ly K H y zp bl dx ps ns n bs ∧ ∀ i : Nat, Below bs a i → Q (.int i) H
theorem sc_count_below : FnScope ["self", "address", "low", "high", "middle"] ["self", "address"] (defScope (inClass (top 32) 9)) := ⟨rfl, rfl, rfl, by decide +kernel, rfl, by decide +kernel, by decide +kernel⟩
theorem ok_cb (T : Tx K mg) (F : FnP K "count_below" "Layout.count_below" (inClass (top 32) 9) f fd) : FnOk P w K mg base CX0 1 f fd ["self", "address"] (spCB K) := by
  refine F.ok sc_count_below (fun vs H Q E h => ?_) (fun cdv A outer s H vs Q E hr h => ⟨_, PSs.nox (pss_cons (ps_set (i := 2) sc_count_below.nd rfl (by first | exact Or.inl rfl | exact Or.inr rfl) pe_int) (pss_cons (ps_set (i := 3) sc_count_below.nd rfl (by first | exact Or.inl rfl | exact Or.inr rfl) (pe_callB call_len_seq (by rfl) T.n_len (by decide +kernel) (pa_cons (pe_fld (pv 0) rfl) pa_nil))) (pss_cons (ps_while PassesOwn.never (pt_cmpR op_lt (pv 2) (pv 3) (nomark _)) (pss_cons (ps_set (i := 4) sc_count_below.nd rfl (by first | exact Or.inl rfl | exact Or.inr rfl) (pe_op op_fdivW (pe_op op_add (pv 2) (pv 3)) pe_int)) (pss_one (ps_if (pt_cmpR op_lt (pe_ix ix_tup (pe_ix ix_list (pe_fld (pv 0) rfl) (pv 4) (fun _ _ => rfl)) pe_int (fun _ _ => rfl)) (pv 1) (nomark _)) (pss_one (ps_set (i := 2) sc_count_below.nd rfl (by first | exact Or.inl rfl | exact Or.inr rfl) (pe_op op_add (pv 4) pe_int))) (pss_one (ps_set (i := 3) sc_count_below.nd rfl (by first | exact Or.inl rfl | exact Or.inr rfl) (pv 4))))))) (pss_one (ps_ret (pv 2)))))), ?_⟩)
  · obtain ⟨y, zp, bl, dx, ps, ns, n, a, bs, rfl, _⟩ := h
    rfl
  · obtain ⟨y, zp, bl, dx, ps, ns, n, a, bs, rfl, L, q⟩ := h
    have pl := L.rf.len
    have sl : sizeLine = 16777216 := sizeLine_eq
    refine ⟨_, rfl, y, _, dx, _, _, rfl, L.at_, T.ly, T.nBL, lay_bl .., bl, _, rfl, .inl (SqL.of L.lst), ?_⟩
    refine ⟨fun m σ G => ∃ (lo hi : Nat) (x : Option V), m = hi - lo ∧ G = H ∧ σ = [some (.ref y), some (.int a), some (.int (lo : Nat)), some (.int (hi : Nat)), x] ∧ lo ≤ hi ∧ hi ≤ bs.length ∧ (∀ j b, bs[j]? = some b → j < lo → b.1 < a) ∧ (∀ j b, bs[j]? = some b → hi ≤ j → a ≤ b.1),
      ⟨_, 0, bs.length, none, rfl, rfl, (by rw [List.length_map, pl]; rfl), Nat.zero_le _, Nat.le_refl _, fun j b _ h => absurd h (Nat.not_lt_zero _), fun j b hb h => by
        have := (List.getElem?_eq_some_iff.mp hb).1
        omega⟩, ?_⟩
    rintro m σ G ⟨lo, hi, x, rfl, rfl, rfl, h1, h2, h3, h4⟩
    refine ⟨_, rfl, _, rfl, _, _, rfl, rfl, _, rfl, ?_⟩
    by_cases hc : (lo : Int) < (hi : Int)
    · refine ifT (decide_eq_true hc) ?_
      have em : ((lo : Int) + (hi : Int)) / 2 = (((lo + hi) / 2 : Nat) : Int) := by omega
      have mlt : (lo + hi) / 2 < bs.length := by omega
      obtain ⟨b, hb⟩ : ∃ b, bs[(lo + hi) / 2]? = some b := ⟨_, List.getElem?_eq_getElem mlt⟩
      obtain ⟨p, hp, hT⟩ := L.rf.at_ hb
      refine ⟨fun σ' G' => ∃ (lo' hi' : Nat) (x : Option V), hi' - lo' < hi - lo ∧ G' = G ∧ σ' = [some (.ref y), some (.int a), some (.int (lo' : Nat)), some (.int (hi' : Nat)), x] ∧ lo' ≤ hi' ∧ hi' ≤ bs.length ∧ (∀ j b, bs[j]? = some b → j < lo' → b.1 < a) ∧ (∀ j b, bs[j]? = some b → hi' ≤ j → a ≤ b.1),
        fun σ' G' ⟨lo', hi', x, hl, r⟩ => ⟨hi' - lo', hl, lo', hi', x, rfl, r⟩, ?_⟩
      refine ⟨_, rfl, _, rfl, _, _, rfl, rfl, _, _, rfl, rfl, wide_div (b := 64) (by decide) (by decide) (by decide) (by decide), ?_⟩
      refine ⟨_, rfl, y, _, dx, _, _, rfl, L.at_, T.ly, T.nBL, lay_bl .., _, rfl, bl, _, _, _, rfl, rfl, SqL.of L.lst, (by rw [em]; exact Refs.map_at hp), p, _, _, _, rfl, rfl, SqT.of hT, rfl, _, rfl, _, _, rfl, rfl, _, rfl, ?_⟩
      by_cases hb2 : b.1 < a
      · refine ifT (decide_eq_true hb2) ⟨_, rfl, _, _, rfl, rfl, (lo + hi) / 2 + 1, hi, some (.int (((lo : Int) + (hi : Int)) / 2)), by omega, rfl, ?_, by omega, h2, fun j c hj hlt => ?_, h4⟩
        · show [some (V.ref y), some (V.int a), some (V.int (((lo : Int) + (hi : Int)) / 2 + 1)), some (V.int hi), some (V.int (((lo : Int) + (hi : Int)) / 2))] = _
          rw [em]
          rfl
        · by_cases e : j = (lo + hi) / 2
          · rw [e, hb] at hj
            cases hj
            exact hb2
          · have := (L.wf.lt L.gd hj hb (by omega)).2
            omega
      · refine ifF (decide_eq_false hb2) ⟨_, rfl, lo, (lo + hi) / 2, some (.int (((lo : Int) + (hi : Int)) / 2)), by omega, rfl, ?_, by omega, by omega, h3, fun j c hj hle => ?_⟩
        · show [some (V.ref y), some (V.int a), some (V.int lo), some (V.int (((lo : Int) + (hi : Int)) / 2)), some (V.int (((lo : Int) + (hi : Int)) / 2))] = _
          rw [em]
        · by_cases e : j = (lo + hi) / 2
          · rw [e, hb] at hj
            cases hj
            omega
          · have := (L.wf.lt L.gd hb hj (by omega)).2
            omega
    · refine ifF (decide_eq_false hc) ⟨_, rfl, q lo ⟨by omega, fun j b hb => ⟨h3 j b hb, fun hlt => ?_⟩⟩⟩
      have := h4 j b hb
      omega
end
end K28

set_option Elab.async false
set_option linter.all false
set_option maxRecDepth 100000
set_option maxHeartbeats 4000000
namespace K28
open PySem PySem.Spec PyProof.Rows L2 Gu Ex
theorem lay_nm {zp bl : Addr} {n fr : Int} {m : Str} (h : (m == ("size_table" : Str) || (m == ("cell_count" : Str) || (m == ("free_count" : Str) || m == ("block_list" : Str)))) = false) : (layF zp n fr bl).lookup m = none := by
  obtain ⟨h1, h⟩ := Bool.or_eq_false_iff.mp h
  obtain ⟨h2, h⟩ := Bool.or_eq_false_iff.mp h
  obtain ⟨h3, h4⟩ := Bool.or_eq_false_iff.mp h
  exact lay_no zp bl n fr h1 h2 h3 h4
section
variable {ns : List Int} {n : Int} {bs : List Blk}
/-- the place of a block that starts at a -/
theorem Below.at_ {a : Int} {i j : Nat} {b : Blk} (w : Wf ns n bs) (g : Good ns) (h : Below bs a i) (hj : bs[j]? = some b) (e : b.1 = a) : i = j := by
  have h1 := (h.2 j b hj)
  by_cases hij : i < j
  · have hi : i < bs.length := by
      have := (List.getElem?_eq_some_iff.mp hj).1
      omega
    have h2 := h.2 i _ (List.getElem?_eq_getElem hi)
    have h3 := (w.lt g (List.getElem?_eq_getElem hi) hj hij).2
    omega
  · omega
/-- the block that may contain a -/
theorem Below.holds {a : Int} {i : Nat} {c : Blk} (w : Wf ns n bs) (g : Good ns) (h : Below bs (a + 1) i) (hc : c ∈ bs) (h1 : c.1 ≤ a) (h2 : a < bEnd ns c) : 0 < i ∧ bs[i - 1]? = some c := by
  obtain ⟨j, hj, rfl⟩ := List.getElem_of_mem hc
  have ej := List.getElem?_eq_getElem hj
  have k := (h.2 j _ ej).mpr (by omega)
  refine ⟨by omega, ?_⟩
  have l := h.1
  by_cases e : j = i - 1
  · rw [← e]
    exact ej
  · have hi : i - 1 < bs.length := by omega
    have p := (w.lt g ej (List.getElem?_eq_getElem hi) (by omega)).1
    have k2 := (h.2 (i - 1) _ (List.getElem?_eq_getElem hi)).mp (by omega)
    omega
end
section
variable {P : Program} {w : World} {K : PySem.W.Frag} {mg : Str → Option Value} {base : Heap} {f : Addr} {fd : FuncData}
def spIx (K : PySem.W.Frag) : Sp := fun vs H Q _ => ∃ (y zp bl dx : Addr) (ps : List Addr) (ns : List Int) (n a : Int) (bs : List Blk) (j : Nat) (b : Blk), vs = [.ref y, .int a] ∧ Ly K H y zp bl dx ps ns n bs ∧ bs[j]? = some b ∧ b.1 = a ∧ Q (.int j) H
theorem sc_index_of : FnScope ["self", "address", "index"] ["self", "address"] (defScope (inClass (top 32) 10)) := ⟨rfl, rfl, rfl, by decide +kernel, rfl, by decide +kernel, by decide +kernel⟩
theorem ok_ix (T : Tx K mg) (D_is_integer : Df P w K mg base 1 "is_integer" ["value"] spInt) (M_count_below : Mf P w K mg base 1 "Layout" "count_below" ["self", "address"] (spCB K)) (F : FnP K "index_of" "Layout.index_of" (inClass (top 32) 10) f fd) :
    FnOk P w K mg base CX0 2 f fd ["self", "address"] (spIx K) := by
  refine F.ok sc_index_of (fun vs H Q E h => ?_) (fun cdv A outer s H vs Q E hr h => ⟨_, PSs.nox (pss_cons (ps_if (pt_val (pcall D_is_integer hr (pa_cons (pv 1) pa_nil))) (pss_cons (ps_set (i := 2) sc_index_of.nd rfl (by first | exact Or.inl rfl | exact Or.inr rfl) (pmeth M_count_below hr (pv 0) (pa_cons (pv 1) pa_nil))) (pss_one (ps_if (PW.pt (pw_and (pt_cmpR op_lt (pv 2) (pe_callB call_len_seq (by rfl) T.n_len (by decide +kernel) (pa_cons (pe_fld (pv 0) rfl) pa_nil)) (nomark _)) (pw_and1 (pt_cmpR op_eq (pe_ix ix_tup (pe_ix ix_list (pe_fld (pv 0) rfl) (pv 2) (fun _ _ => rfl)) pe_int (fun _ _ => rfl)) (pv 1) (nomark _))))) (pss_one (ps_ret (pv 2))) pss_nil))) pss_nil) (pss_one ps_never)), ?_⟩)
  · obtain ⟨y, zp, bl, dx, ps, ns, n, a, bs, j, b, rfl, _⟩ := h
    rfl
  · obtain ⟨y, zp, bl, dx, ps, ns, n, a, bs, j, b, rfl, L, hj, hb, q⟩ := h
    refine ⟨_, rfl, a, rfl, true, rfl, iteT ?_⟩
    refine ⟨_, rfl, y, dx, _, rfl, L.at_, lay_nm (by decide +kernel), _, rfl, y, zp, bl, dx, ps, ns, n, a, bs, rfl, L, fun i hi => ?_⟩
    obtain rfl := hi.at_ L.wf L.gd hj hb
    obtain ⟨p, hp, hT⟩ := L.rf.at_ hj
    have jl := (List.getElem?_eq_some_iff.mp hj).1
    have pl := L.rf.len
    refine ⟨_, rfl, _, rfl, y, _, dx, _, _, rfl, L.at_, T.ly, T.nBL, lay_bl .., bl, _, rfl, .inl (SqL.of L.lst), _, _, rfl, rfl, _, rfl, ifT (decide_eq_true (by rw [List.length_map]; omega)) ?_⟩
    exact ⟨_, rfl, y, _, dx, _, _, rfl, L.at_, T.ly, T.nBL, lay_bl .., _, rfl, bl, _, _, _, rfl, rfl, SqL.of L.lst, Refs.map_at hp, p, _, _, _, rfl, rfl, SqT.of hT, rfl, _, rfl, rfl, _, rfl, ifT (vT hb) ⟨_, rfl, q⟩⟩
def spAt (K : PySem.W.Frag) : Sp := fun vs H Q _ => ∃ (y zp bl dx : Addr) (ps : List Addr) (ns : List Int) (n a : Int) (bs : List Blk), vs = [.ref y, .int a] ∧ Ly K H y zp bl dx ps ns n bs ∧ 0 ≤ a ∧ a < n ∧
  ((∀ b ∈ bs, ¬ (b.1 ≤ a ∧ a < bEnd ns b)) → Q .non H) ∧ (∀ b ∈ bs, b.1 ≤ a → a < bEnd ns b → ∀ t, H t = none → Q (.ref t) (upd H t (.tup (blkV b))))
theorem sc_block_at : FnScope ["self", "address", "index", "start", "level", "is_pinned"] ["self", "address"] (defScope (inClass (top 32) 11)) := ⟨rfl, rfl, rfl, by decide +kernel, rfl, by decide +kernel, by decide +kernel⟩
theorem ok_at (T : Tx K mg) (D_is_address : Df P w K mg base 2 "is_address" ["value"] spAddr) (M_count_below : Mf P w K mg base 1 "Layout" "count_below" ["self", "address"] (spCB K)) (M_size : Mf P w K mg base 5 "Sizes" "size" ["self", "level"] (spSize K))
    (F : FnP K "block_at" "Layout.block_at" (inClass (top 32) 11) f fd) : FnOk P w K mg base CX0 6 f fd ["self", "address"] (spAt K) := by
  refine F.ok sc_block_at (fun vs H Q E h => ?_) (fun cdv A outer s H vs Q E hr h => ⟨_, PSs.nox (pss_cons (ps_if (PW.pt (pw_or (pt_not (pt_val (pcall D_is_address hr (pa_cons (pv 1) pa_nil)))) (pw_or1 (pt_cmpR op_ge (pv 1) (pe_fld (pv 0) rfl) (nomark _))))) (pss_one ps_never) pss_nil) (pss_cons (ps_set (i := 2) sc_block_at.nd rfl (by first | exact Or.inl rfl | exact Or.inr rfl) (pe_op op_sub (pmeth M_count_below hr (pv 0) (pa_cons (pe_op op_add (pv 1) pe_int) pa_nil)) pe_int)) (pss_cons (ps_if (pt_cmpR op_lt (pv 2) pe_int (nomark _)) (pss_one (ps_ret pe_non)) pss_nil) (pss_cons (ps_asg (pe_ix ix_list (pe_fld (pv 0) rfl) (pv 2) (fun _ _ => rfl)) (pg_tup (by rfl) (pgs_cons (pg_name (i := 3) sc_block_at.nd rfl (by first | exact Or.inl rfl | exact Or.inr rfl)) (pgs_cons (pg_name (i := 4) sc_block_at.nd rfl (by first | exact Or.inl rfl | exact Or.inr rfl)) (pgs_cons (pg_name (i := 5) sc_block_at.nd rfl (by first | exact Or.inl rfl | exact Or.inr rfl)) pgs_nil))))) (pss_one (ps_ret (pe_ifExp (pt_cmpR op_lt (pv 1) (pe_op op_add (pv 3) (pmeth M_size hr (pe_fld (pv 0) rfl) (pa_cons (pv 4) pa_nil))) (nomark _)) (pe_tup (pa_cons (pv 3) (pa_cons (pv 4) (pa_cons (pv 5) pa_nil)))) pe_non))))))), ?_⟩)
  · obtain ⟨y, zp, bl, dx, ps, ns, n, a, bs, rfl, _⟩ := h
    rfl
  · obtain ⟨y, zp, bl, dx, ps, ns, n, a, bs, rfl, L, a0, a1, q1, q2⟩ := h
    refine ⟨_, rfl, a, rfl, a0, true, rfl, iteF ⟨_, rfl, _, rfl, y, _, dx, _, _, rfl, L.at_, T.ly, T.nCC, lay_cc .., _, _, rfl, rfl, _, rfl, ifF (decide_eq_false (by omega)) ?_⟩⟩
    refine ⟨_, rfl, y, dx, _, rfl, L.at_, lay_nm (by decide +kernel), _, rfl, _, _, rfl, rfl, y, zp, bl, dx, ps, ns, n, a + 1, bs, rfl, L, fun i hi => ⟨_, _, rfl, rfl, ?_⟩⟩
    refine ⟨_, rfl, _, _, rfl, rfl, _, rfl, ?_⟩
    by_cases h0 : ((i : Int) - 1) < 0
    · refine ifT (decide_eq_true h0) (q1 fun b hb hh => ?_)
      have := (hi.holds L.wf L.gd hb hh.1 hh.2).1
      omega
    · refine ifF (decide_eq_false h0) ?_
      have e : ((i : Int) - 1) = ((i - 1 : Nat) : Int) := by omega
      have il : i - 1 < bs.length := by have := hi.1; omega
      obtain ⟨b, hb⟩ : ∃ b, bs[i - 1]? = some b := ⟨_, List.getElem?_eq_getElem il⟩
      have bm := List.mem_of_getElem? hb
      obtain ⟨p, hp, hT⟩ := L.rf.at_ hb
      have b1 := (hi.2 _ _ hb).mp (by omega)
      have bk := (L.wf.ok b bm).1
      obtain ⟨dz, l, z1, z2⟩ := id L.szs
      have hT' : H p = some (.tup [.int b.1, .int (b.2.1 : Nat), .bl b.2.2]) := hT
      refine ⟨_, rfl, y, _, dx, _, _, rfl, L.at_, T.ly, T.nBL, lay_bl .., _, rfl, bl, _, _, _, rfl, rfl, SqL.of L.lst, (by rw [e]; exact Refs.map_at hp), p, _, rfl, .inl (.inl hT'), rfl, _, _, rfl, _, _, rfl, _, _, rfl, rfl, ?_⟩
      refine ⟨_, rfl, _, rfl, _, rfl, y, _, dx, _, _, rfl, L.at_, T.ly, T.nST, lay_st .., zp, dz, _, rfl, z1, szF_no l (by decide +kernel), _, rfl, zp, ns, b.2.1, _, rfl, L.szs, sz_at bk, _, _, rfl, rfl, _, _, rfl, rfl, _, rfl, ?_⟩
      by_cases hc : a < b.1 + sz ns b.2.1
      · exact ifT (decide_eq_true hc) ⟨_, rfl, _, rfl, _, rfl, (by show 3 ≤ sizeLine; decide), fun t ht => q2 b bm (by omega) hc t ht⟩
      · refine ifF (decide_eq_false hc) (q1 fun c hcm hh => ?_)
        have e2 := (hi.holds L.wf L.gd hcm hh.1 hh.2).2
        rw [hb] at e2
        cases e2
        exact hc hh.2
/-- a range without a block -/
def FreeR (ns : List Int) (bs : List Blk) (lo hi : Int) : Prop := ∀ b ∈ bs, bEnd ns b ≤ lo ∨ hi ≤ b.1
def spFirst (K : PySem.W.Frag) : Sp := fun vs H Q _ => ∃ (y zp bl dx : Addr) (ps : List Addr) (ns : List Int) (n lo hi : Int) (bs : List Blk), vs = [.ref y, .int lo, .int hi] ∧ Ly K H y zp bl dx ps ns n bs ∧ 0 ≤ lo ∧ lo < hi ∧ hi ≤ n ∧ FreeR ns bs lo hi ∧ Q .non H
theorem sc_first_taken : FnScope ["self", "low", "high", "index"] ["self", "low", "high"] (defScope (inClass (top 32) 12)) := ⟨rfl, rfl, rfl, by decide +kernel, rfl, by decide +kernel, by decide +kernel⟩
theorem ok_first (T : Tx K mg) (M_block_at : Mf P w K mg base 6 "Layout" "block_at" ["self", "address"] (spAt K)) (M_count_below : Mf P w K mg base 1 "Layout" "count_below" ["self", "address"] (spCB K)) (F : FnP K "first_taken" "Layout.first_taken" (inClass (top 32) 12) f fd) :
    FnOk P w K mg base CX0 7 f fd ["self", "low", "high"] (spFirst K) := by
  refine F.ok sc_first_taken (fun vs H Q E h => ?_) (fun cdv A outer s H vs Q E hr h => ⟨_, PSs.nox (pss_cons (ps_if (pt_cmpR op_notN (pmeth M_block_at hr (pv 0) (pa_cons (pv 1) pa_nil)) pe_non (nomark _)) (pss_one (ps_ret (pv 1))) pss_nil) (pss_cons (ps_set (i := 3) sc_first_taken.nd rfl (by first | exact Or.inl rfl | exact Or.inr rfl) (pmeth M_count_below hr (pv 0) (pa_cons (pv 1) pa_nil))) (pss_cons (ps_if (PW.pt (pw_and (pt_cmpR op_lt (pv 3) (pe_callB call_len_seq (by rfl) T.n_len (by decide +kernel) (pa_cons (pe_fld (pv 0) rfl) pa_nil)) (nomark _)) (pw_and1 (pt_cmpR op_lt (pe_ix ix_tup (pe_ix ix_list (pe_fld (pv 0) rfl) (pv 3) (fun _ _ => rfl)) pe_int (fun _ _ => rfl)) (pv 2) (nomark _))))) (pss_one (ps_ret (pe_ix ix_tup (pe_ix ix_list (pe_fld (pv 0) rfl) (pv 3) (fun _ _ => rfl)) pe_int (fun _ _ => rfl)))) pss_nil) (pss_one (ps_ret pe_non))))), ?_⟩)
  · obtain ⟨y, zp, bl, dx, ps, ns, n, lo, hi, bs, rfl, _⟩ := h
    rfl
  · obtain ⟨y, zp, bl, dx, ps, ns, n, lo, hi, bs, rfl, L, l0, l1, l2, fr, q⟩ := h
    refine ⟨_, rfl, y, dx, _, rfl, L.at_, lay_nm (by decide +kernel), _, rfl, y, zp, bl, dx, ps, ns, n, lo, bs, rfl, L, l0, by omega, fun _ => ?_, fun b hb h1 h2 => ?_⟩
    · refine ⟨rfl, _, rfl, iteF ?_⟩
      refine ⟨_, rfl, y, dx, _, rfl, L.at_, lay_nm (by decide +kernel), _, rfl, y, zp, bl, dx, ps, ns, n, lo, bs, rfl, L, fun i hb0 => ?_⟩
      have pl := L.rf.len
      refine ⟨_, rfl, _, rfl, y, _, dx, _, _, rfl, L.at_, T.ly, T.nBL, lay_bl .., bl, _, rfl, .inl (SqL.of L.lst), _, _, rfl, rfl, _, rfl, ?_⟩
      by_cases hc : ((i : Nat) : Int) < (((ps.map V.ref).length : Nat) : Int)
      · have il : i < bs.length := by rw [List.length_map] at hc; omega
        obtain ⟨b, hb⟩ : ∃ b, bs[i]? = some b := ⟨_, List.getElem?_eq_getElem il⟩
        obtain ⟨p, hp, hT⟩ := L.rf.at_ hb
        have bm := List.mem_of_getElem? hb
        have z := L.wf.pos L.gd bm
        have nb : ¬ b.1 < hi := by
          have k := (hb0.2 i b hb)
          have r := fr b bm
          unfold bEnd at r
          omega
        refine ifT (decide_eq_true hc) ⟨_, rfl, y, _, dx, _, _, rfl, L.at_, T.ly, T.nBL, lay_bl .., _, rfl, bl, _, _, _, rfl, rfl, SqL.of L.lst, Refs.map_at hp, p, _, _, _, rfl, rfl, SqT.of hT, rfl, _, rfl, _, _, rfl, rfl, _, rfl, ifF (decide_eq_false nb) q⟩
      · exact ifF (decide_eq_false hc) q
    · exact absurd (fr b hb) (by unfold bEnd at *; omega)
end
end K28

set_option Elab.async false
set_option linter.all false
set_option maxRecDepth 100000
set_option maxHeartbeats 4000000
namespace K28
open PySem PySem.Spec PyProof.Rows L2 Gu Ex
abbrev FnK (K : PySem.W.Frag) (x qual : Str) (st : Stmt) (kws : List (Str × V)) (f : Addr) (fd : FuncData) : Prop := FunD K x qual (defArgs st) (defBody st) (defScope st) [] kws f fd
section
variable {ns : List Int} {n : Int} {bs : List Blk}
theorem mem_take_at {i : Nat} {c : Blk} (h : c ∈ bs.take i) : ∃ j, j < i ∧ bs[j]? = some c := by
  obtain ⟨j, hj, e⟩ := List.getElem_of_mem h
  rw [List.length_take] at hj
  refine ⟨j, by omega, ?_⟩
  rw [List.getElem_take] at e
  rw [← e]
  exact List.getElem?_eq_getElem (by omega)
theorem mem_drop_at {i : Nat} {c : Blk} (h : c ∈ bs.drop i) : ∃ j, i ≤ j ∧ bs[j]? = some c := by
  obtain ⟨j, hj, e⟩ := List.getElem_of_mem h
  rw [List.length_drop] at hj
  refine ⟨i + j, by omega, ?_⟩
  rw [List.getElem_drop] at e
  rw [← e]
  exact List.getElem?_eq_getElem (by omega)
/-- a block put in at its place -/
def insB (bs : List Blk) (i : Nat) (b : Blk) : List Blk := bs.take i ++ [b] ++ bs.drop i
theorem ins_wf {i : Nat} {b : Blk} (w : Wf ns n bs) (g : Good ns) (h : Below bs b.1 i) (k : b.2.1 < ns.length) (h0 : 0 ≤ b.1) (hd : sz ns b.2.1 ∣ b.1) (he : bEnd ns b ≤ n) (fr : FreeR ns bs b.1 (bEnd ns b)) : Wf ns n (insB bs i b) := by
  have z := (chain g).pos _ k
  have left : ∀ c ∈ bs.take i, bEnd ns c ≤ b.1 := fun c hc => by
    obtain ⟨j, hj, e⟩ := mem_take_at hc
    have h1 := (h.2 j c e).mp hj
    have r := fr c (List.mem_of_getElem? e)
    unfold bEnd at *
    omega
  have right : ∀ c ∈ bs.drop i, bEnd ns b ≤ c.1 := fun c hc => by
    obtain ⟨j, hj, e⟩ := mem_drop_at hc
    have h1 := h.2 j c e
    have r := fr c (List.mem_of_getElem? e)
    have zc := w.pos g (List.mem_of_getElem? e)
    unfold bEnd at *
    omega
  refine ⟨fun c hc => ?_, ?_⟩
  · unfold insB at hc
    rcases List.mem_append.mp hc with hc | hc
    · rcases List.mem_append.mp hc with hc | hc
      · exact w.ok c (List.mem_of_mem_take hc)
      · rw [List.mem_singleton.mp hc]
        exact ⟨k, h0, hd, he⟩
    · exact w.ok c (List.mem_of_mem_drop hc)
  · unfold insB
    rw [List.append_assoc]
    refine List.pairwise_append.mpr ⟨w.so.sublist (List.take_sublist _ _), ?_, fun c hc d hd => ?_⟩
    · refine List.pairwise_append.mpr ⟨List.pairwise_singleton _ _, w.so.sublist (List.drop_sublist _ _), fun c hc d hd => ?_⟩
      rw [List.mem_singleton.mp hc]
      exact right d hd
    · rcases List.mem_append.mp hd with hd | hd
      · rw [List.mem_singleton.mp hd]
        exact left c hc
      · have a1 := left c hc
        have a2 := right d hd
        unfold bEnd at *
        omega
theorem tot_app (xs ys : List Blk) : tot ns (xs ++ ys) = tot ns xs + tot ns ys := by
  unfold tot
  rw [List.map_append, List.sum_append]
theorem tot_one (b : Blk) : tot ns [b] = sz ns b.2.1 := by simp [tot]
theorem tot_ins (bs : List Blk) (i : Nat) (b : Blk) : tot ns (insB bs i b) = tot ns bs + sz ns b.2.1 := by
  unfold insB
  have e := congrArg (tot ns) (List.take_append_drop i bs)
  rw [tot_app] at e
  rw [tot_app, tot_app, tot_one]
  omega
theorem tot_era {j : Nat} {b : Blk} (h : bs[j]? = some b) : tot ns (bs.eraseIdx j) = tot ns bs - sz ns b.2.1 := by
  have e := congrArg (tot ns) (List.take_append_drop j bs)
  obtain ⟨hj, eb⟩ := List.getElem?_eq_some_iff.mp h
  rw [List.eraseIdx_eq_take_drop_succ, tot_app]
  rw [List.drop_eq_getElem_cons hj, tot_app, ← List.singleton_append, tot_app, tot_one, eb] at e
  omega
theorem era_wf {j : Nat} (w : Wf ns n bs) : Wf ns n (bs.eraseIdx j) := ⟨fun b hb => w.ok b (List.mem_of_mem_eraseIdx hb), w.so.sublist (List.eraseIdx_sublist _ _)⟩
/-- a block with another pin -/
def pinB (bs : List Blk) (j : Nat) (b : Blk) (p : Bool) : List Blk := bs.set j (b.1, b.2.1, p)
theorem pin_wf {j : Nat} {b : Blk} {p : Bool} (w : Wf ns n bs) (h : bs[j]? = some b) : Wf ns n (pinB bs j b p) := by
  obtain ⟨hj, eb⟩ := List.getElem?_eq_some_iff.mp h
  refine ⟨fun c hc => ?_, ?_⟩
  · rcases List.mem_or_eq_of_mem_set hc with z | z
    · exact w.ok c z
    · rw [z]
      exact w.ok b (List.mem_of_getElem? h)
  · refine List.pairwise_iff_getElem.mpr fun i k hi hk hik => ?_
    unfold pinB at hi hk ⊢
    rw [List.length_set] at hi hk
    have p0 := List.pairwise_iff_getElem.mp w.so i k hi hk hik
    rw [List.getElem_set, List.getElem_set]
    split
    · rename_i e
      subst e
      rw [if_neg (by omega)]
      rw [eb] at p0
      exact p0
    · split
      · rename_i e
        subst e
        rw [eb] at p0
        exact p0
      · exact p0
theorem tot_pin {j : Nat} {b : Blk} {p : Bool} (h : bs[j]? = some b) : tot ns (pinB bs j b p) = tot ns bs := by
  obtain ⟨hj, eb⟩ := List.getElem?_eq_some_iff.mp h
  unfold pinB tot
  rw [List.map_set]
  congr 1
  have e : sz ns b.2.1 = (bs.map fun b => sz ns b.2.1)[j]'(by rw [List.length_map]; exact hj) := by rw [List.getElem_map, eb]
  show (bs.map fun b => sz ns b.2.1).set j (sz ns b.2.1) = _
  rw [e, List.set_getElem_self]
end
/-- all but the layout's own two objects stay -/
def But2 (y bl : Addr) (H H' : Hp) : Prop := ∀ c o, c ≠ y → c ≠ bl → H c = some o → H' c = some o
theorem Refs.ins {α : Type} {f : α → List V} {H : Hp} {ps : List Addr} {ts : List α} {p : Addr} {t : α} (h : Refs f H ps ts) (i : Nat) (hp : H p = some (.tup (f t))) : Refs f H (ps.take i ++ [p] ++ ps.drop i) (ts.take i ++ [t] ++ ts.drop i) := ((h.take i).app (.one hp)).app (h.drop i)
theorem Refs.era {α : Type} {f : α → List V} {H : Hp} {ps : List Addr} {ts : List α} (h : Refs f H ps ts) (j : Nat) : Refs f H (ps.eraseIdx j) (ts.eraseIdx j) := by
  rw [List.eraseIdx_eq_take_drop_succ, List.eraseIdx_eq_take_drop_succ]
  exact (h.take j).app (h.drop (j + 1))
theorem Refs.set {α : Type} {f : α → List V} {H : Hp} {p : Addr} {t : α} (hp : H p = some (.tup (f t))) : ∀ {ps : List Addr} {ts : List α}, Refs f H ps ts → ∀ j, Refs f H (ps.set j p) (ts.set j t)
  | _, _, .nil, _ => .nil
  | _, _, .cons a b, 0 => .cons hp b
  | _, _, .cons a b, j + 1 => .cons a (Refs.set hp b j)
section
variable {P : Program} {w : World} {K : PySem.W.Frag} {mg : Str → Option Value} {base : Heap} {f : Addr} {fd : FuncData}
def spPut (K : PySem.W.Frag) : Sp := fun vs H Q _ => ∃ (y zp bl dx : Addr) (ps : List Addr) (ns : List Int) (n a : Int) (bs : List Blk) (k : Nat) (p : Bool), vs = [.ref y, .int k, .int a, .bl p] ∧ Ly K H y zp bl dx ps ns n bs ∧ bs.length < 900 ∧ k < ns.length ∧ 0 ≤ a ∧ a % sz ns k = 0 ∧ a + sz ns k ≤ n ∧ FreeR ns bs a (a + sz ns k) ∧
  ∀ i ps' H', Below bs a i → Ly K H' y zp bl dx ps' ns n (insB bs i (a, k, p)) → But2 y bl H H' → Q .non H'
theorem sc_put : FnScope ["self", "level", "address", "pinned", "size", "taken"] ["self", "level", "address", "pinned"] (defScope (inClass (top 32) 13)) := ⟨rfl, rfl, rfl, by decide +kernel, rfl, by decide +kernel, by decide +kernel⟩
theorem ok_put (T : Tx K mg) (M_size : Mf P w K mg base 5 "Sizes" "size" ["self", "level"] (spSize K)) (D_is_region : Df P w K mg base 7 "is_region" ["sizes", "length", "level", "address"] (spRegion K)) (M_first_taken : Mf P w K mg base 7 "Layout" "first_taken" ["self", "low", "high"] (spFirst K))
    (M_count_below : Mf P w K mg base 1 "Layout" "count_below" ["self", "address"] (spCB K)) (F : FnK K "put" "Layout.put" (inClass (top 32) 13) [("pinned", .bl false)] f fd) : FnOk P w K mg base CX0 8 f fd ["self", "level", "address", "pinned"] (spPut K) := by
  refine F.ok sc_put (fun vs H Q E h => ?_) (fun cdv A outer s H vs Q E hr h => ⟨_, PSs.nox (pss_cons (ps_set (i := 4) sc_put.nd rfl (by first | exact Or.inl rfl | exact Or.inr rfl) (pmeth M_size hr (pe_fld (pv 0) rfl) (pa_cons (pv 1) pa_nil))) (pss_cons (ps_if (pt_not (pt_val (pcall D_is_region hr (pa_cons (pe_fld (pv 0) rfl) (pa_cons (pe_fld (pv 0) rfl) (pa_cons (pv 1) (pa_cons (pv 2) pa_nil))))))) (pss_one ps_never) pss_nil) (pss_cons (ps_set (i := 5) sc_put.nd rfl (by first | exact Or.inl rfl | exact Or.inr rfl) (pmeth M_first_taken hr (pv 0) (pa_cons (pv 2) (pa_cons (pe_op op_add (pv 2) (pv 4)) pa_nil)))) (pss_cons (ps_if (pt_cmpR op_notN (pv 5) pe_non (nomark _)) (pss_one ps_never) pss_nil) (pss_cons (ps_expr (pe_bm PySem.F.plainAttrs_list PySem.F.slot_list_insert PySem.F.type_list_insert mt_insert (pe_fld (pv 0) rfl) (pa_cons (pmeth M_count_below hr (pv 0) (pa_cons (pv 2) pa_nil)) (pa_cons (pe_tup (pa_cons (pv 2) (pa_cons (pv 1) (pa_cons (pv 3) pa_nil)))) pa_nil)))) (pss_one (ps_fldaug (pv 0) (pv 4) in_sub))))))), ?_⟩)
  · obtain ⟨y, zp, bl, dx, ps, ns, n, a, bs, k, p, rfl, _⟩ := h
    rfl
  · obtain ⟨y, zp, bl, dx, ps, ns, n, a, bs, k, p, rfl, L, l900, hk, a0, a1, a2, fr, q⟩ := h
    obtain ⟨dz, l, zz, zl, zy, zb, lb, ly, nyb⟩ := L.far
    have z := (chain L.gd).pos _ hk
    have pl := L.rf.len
    have sl : sizeLine = 16777216 := sizeLine_eq
    refine ⟨_, rfl, y, _, dx, _, _, rfl, L.at_, T.ly, T.nST, lay_st .., zp, dz, _, rfl, zz, szF_no l (by decide +kernel), _, rfl, zp, ns, k, _, rfl, L.szs, sz_at hk, ?_⟩
    refine ⟨_, rfl, y, _, dx, _, _, rfl, L.at_, T.ly, T.nST, lay_st .., _, rfl, y, _, dx, _, _, rfl, L.at_, T.ly, T.nCC, lay_cc .., _, rfl, _, rfl, zp, ns, k, n, a, rfl, L.szs, L.gd, hk, L.n1, L.n2, a0, a1, a2, true, rfl, iteF ?_⟩
    refine ⟨_, rfl, y, dx, _, rfl, L.at_, lay_nm (by decide +kernel), _, rfl, _, rfl, _, rfl, _, _, rfl, rfl, y, zp, bl, dx, ps, ns, n, a, a + sz ns k, bs, rfl, L, a0, by omega, a2, fr, ?_⟩
    refine ⟨_, rfl, rfl, _, rfl, iteF ?_⟩
    refine ⟨_, rfl, y, _, dx, _, _, rfl, L.at_, T.ly, T.nBL, lay_bl .., .inl ⟨rfl, _, SqL.of L.lst⟩, _, rfl, y, dx, _, rfl, L.at_, lay_nm (by decide +kernel), _, rfl, y, zp, bl, dx, ps, ns, n, a, bs, rfl, L, fun i hi => ?_⟩
    refine ⟨_, rfl, _, rfl, _, rfl, (by show 3 ≤ sizeLine; decide), fun t ht => ?_⟩
    have ntb : bl ≠ t := ne_of_none L.lst ht
    have nty : y ≠ t := ne_of_none L.at_ ht
    refine ⟨bl, _, i, _, rfl, rfl, (by rw [upd_ne ntb]; exact L.lst), (by rw [List.length_map]; omega), by omega, (by have := hi.1; have := L.ln; omega), ?_⟩
    have keep : ∀ {c : Addr} {o : HO} {u v : HO}, c ≠ y → c ≠ bl → H c = some o → (upd (upd (upd H t (.tup (blkV (a, k, p)))) bl u) y v) c = some o := fun {c o u v} c1 c2 e => by
      rw [upd_ne c1, upd_ne c2, upd_ne (ne_of_none e ht)]
      exact e
    refine ⟨_, rfl, y, _, dx, _, _, rfl, (by rw [upd_ne nyb, upd_ne nty]; exact L.at_), T.ly, T.nFC, lay_fc .., _, rfl, _, _, rfl, rfl, dx, _, (by rw [upd_ne nyb, upd_ne nty]; exact L.at_), (by show 4 < 1000; decide), ?_⟩
    refine q i (ps.take i ++ [t] ++ ps.drop i) _ hi ⟨?_, ?_, ?_, ?_, ins_wf L.wf L.gd hi hk a0 (M16.dvd0 a1) a2 fr, L.gd, L.n1, L.n2, ?_, ⟨dz, l, keep zy zb zz, keep ly lb zl, lb⟩⟩ fun c o c1 c2 e => keep c1 c2 e
    · rw [upd_same, lay_put, tot_ins]
      have e : n - tot ns bs - sz ns k = n - (tot ns bs + sz ns k) := by omega
      exact congrArg (fun z => some (HO.ins (He.ga K "Layout") dx (layF zp n z bl))) e
    · exact ⟨dz, l, keep zy zb zz, keep ly lb zl⟩
    · rw [upd_ne nyb.symm, upd_same, List.map_append, List.map_append, List.map_take, List.map_drop]
      rfl
    · refine Refs.ins (L.rf.mono fun c xs e => ?_) i ?_
      · exact keep (fun z => by rw [z, L.at_] at e; cases e) (fun z => by rw [z, L.lst] at e; cases e) e
      · rw [upd_ne nty.symm, upd_ne ntb.symm, upd_same]
        rfl
    · unfold insB
      rw [List.length_append, List.length_append, List.length_take, List.length_drop, List.length_singleton]
      omega
theorem era_map (ps : List Addr) (j : Nat) : (ps.map V.ref).eraseIdx j = (ps.eraseIdx j).map V.ref := by
  rw [List.eraseIdx_eq_take_drop_succ, List.eraseIdx_eq_take_drop_succ, List.map_append, List.map_take, List.map_drop]
theorem ix_nat {k n : Nat} (h : k < n) : ixN n (k : Int) = some k := by
  unfold ixN
  rw [if_pos (by omega), if_pos (by omega), Int.toNat_natCast]
def spTake (K : PySem.W.Frag) : Sp := fun vs H Q _ => ∃ (y zp bl dx : Addr) (ps : List Addr) (ns : List Int) (n a : Int) (bs : List Blk) (j : Nat) (b : Blk), vs = [.ref y, .int a] ∧ Ly K H y zp bl dx ps ns n bs ∧ bs[j]? = some b ∧ b.1 = a ∧
  ∀ t ps' H', H t = none → Ly K H' y zp bl dx ps' ns n (bs.eraseIdx j) → H' t = some (.tup [.int (b.2.1 : Nat), .bl b.2.2]) → But2 y bl H H' → Q (.ref t) H'
theorem sc_take_out : FnScope ["self", "address", "start", "level", "is_pinned"] ["self", "address"] (defScope (inClass (top 32) 14)) := ⟨rfl, rfl, rfl, by decide +kernel, rfl, by decide +kernel, by decide +kernel⟩
theorem ok_take (T : Tx K mg) (M_index_of : Mf P w K mg base 2 "Layout" "index_of" ["self", "address"] (spIx K)) (M_size : Mf P w K mg base 5 "Sizes" "size" ["self", "level"] (spSize K)) (F : FnP K "take_out" "Layout.take_out" (inClass (top 32) 14) f fd) :
    FnOk P w K mg base CX0 6 f fd ["self", "address"] (spTake K) := by
  refine F.ok sc_take_out (fun vs H Q E h => ?_) (fun cdv A outer s H vs Q E hr h => ⟨_, PSs.nox (pss_cons (ps_asg (pe_bm PySem.F.plainAttrs_list PySem.F.slot_list_pop PySem.F.type_list_pop mt_popAt (pe_fld (pv 0) rfl) (pa_cons (pmeth M_index_of hr (pv 0) (pa_cons (pv 1) pa_nil)) pa_nil)) (pg_tup (by rfl) (pgs_cons (pg_name (i := 2) sc_take_out.nd rfl (by first | exact Or.inl rfl | exact Or.inr rfl)) (pgs_cons (pg_name (i := 3) sc_take_out.nd rfl (by first | exact Or.inl rfl | exact Or.inr rfl)) (pgs_cons (pg_name (i := 4) sc_take_out.nd rfl (by first | exact Or.inl rfl | exact Or.inr rfl)) pgs_nil))))) (pss_cons (ps_fldaug (pv 0) (pmeth M_size hr (pe_fld (pv 0) rfl) (pa_cons (pv 3) pa_nil)) in_add) (pss_one (ps_ret (pe_tup (pa_cons (pv 3) (pa_cons (pv 4) pa_nil))))))), ?_⟩)
  · obtain ⟨y, zp, bl, dx, ps, ns, n, a, bs, j, b, rfl, _⟩ := h
    rfl
  · obtain ⟨y, zp, bl, dx, ps, ns, n, a, bs, j, b, rfl, L, hj, hb, q⟩ := h
    obtain ⟨dz, l, zz, zl, zy, zb, lb, ly, nyb⟩ := L.far
    have pl := L.rf.len
    have bn := L.ln
    have jl := (List.getElem?_eq_some_iff.mp hj).1
    have hk := (L.wf.ok b (List.mem_of_getElem? hj)).1
    obtain ⟨p, hp, hT⟩ := L.rf.at_ hj
    have hT' : H p = some (.tup [.int b.1, .int (b.2.1 : Nat), .bl b.2.2]) := hT
    refine ⟨_, rfl, y, _, dx, _, _, rfl, L.at_, T.ly, T.nBL, lay_bl .., .inl ⟨rfl, _, SqL.of L.lst⟩, _, rfl, y, dx, _, rfl, L.at_, lay_nm (by decide +kernel), _, rfl, y, zp, bl, dx, ps, ns, n, a, bs, j, b, rfl, L, hj, hb, ?_⟩
    refine ⟨bl, _, j, j, .ref p, rfl, rfl, L.lst, by omega, by omega, (by rw [List.length_map]; exact (seqIndex_at (by omega) (by omega)).trans (by rw [Int.toNat_natCast])), (by rw [List.getElem?_map, hp]; rfl), ?_⟩
    have keep0 : ∀ {c : Addr} {o : HO} {u : HO}, c ≠ bl → H c = some o → (upd H bl u) c = some o := fun {c o u} c2 e => by
      rw [upd_ne c2]
      exact e
    have pb : p ≠ bl := fun z => by rw [z, L.lst] at hT'; cases hT'
    have py : p ≠ y := fun z => by rw [z, L.at_] at hT'; cases hT'
    refine ⟨p, _, rfl, .inl (.inl (keep0 pb hT')), rfl, _, _, rfl, _, _, rfl, _, _, rfl, rfl, ?_⟩
    refine ⟨_, rfl, y, _, dx, _, _, rfl, keep0 nyb L.at_, T.ly, T.nFC, lay_fc .., _, rfl, y, _, dx, _, _, rfl, keep0 nyb L.at_, T.ly, T.nST, lay_st .., zp, dz, _, rfl, keep0 zb zz, szF_no l (by decide +kernel), _, rfl, zp, ns, b.2.1, _, rfl, ⟨dz, l, keep0 zb zz, keep0 lb zl⟩, sz_at hk, _, _, rfl, rfl, dx, _, keep0 nyb L.at_, (by show 4 < 1000; decide), ?_⟩
    refine ⟨_, rfl, _, rfl, (by show 2 ≤ sizeLine; decide), fun t ht => ?_⟩
    have keep : ∀ {c : Addr} {o : HO} {u v v' : HO}, c ≠ y → c ≠ bl → H c = some o → (upd (upd (upd H bl u) y v) t v') c = some o ∨ c = t := fun {c o u v v'} c1 c2 e => by
      by_cases ct : c = t
      · exact .inr ct
      · rw [upd_ne ct, upd_ne c1, upd_ne c2]
        exact .inl e
    have ty : t ≠ y := fun z => by
      rw [z, upd_same] at ht
      cases ht
    have tb : t ≠ bl := fun z => by
      rw [z, upd_ne nyb.symm, upd_same] at ht
      cases ht
    have tn : H t = none := by
      rw [upd_ne ty, upd_ne tb] at ht
      exact ht
    have kp : ∀ {c : Addr} {o : HO} {u v v' : HO}, c ≠ y → c ≠ bl → H c = some o → (upd (upd (upd H bl u) y v) t v') c = some o := fun {c o u v v'} c1 c2 e => by
      rw [upd_ne (ne_of_none e tn), upd_ne c1, upd_ne c2]
      exact e
    refine q t (ps.eraseIdx j) _ tn ⟨?_, ⟨dz, l, kp zy zb zz, kp ly lb zl⟩, ?_, (L.rf.mono fun c xs e => ?_).era j, era_wf L.wf, L.gd, L.n1, L.n2, ?_, ⟨dz, l, kp zy zb zz, kp ly lb zl, lb⟩⟩ upd_same fun c o c1 c2 e => kp c1 c2 e
    · rw [upd_ne ty.symm, upd_same, lay_put, tot_era hj]
      have e : n - tot ns bs + sz ns b.2.1 = n - (tot ns bs - sz ns b.2.1) := by omega
      exact congrArg (fun z => some (HO.ins (He.ga K "Layout") dx (layF zp n z bl))) e
    · rw [upd_ne tb.symm, upd_ne nyb.symm, upd_same, era_map]
    · exact kp (fun z => by rw [z, L.at_] at e; cases e) (fun z => by rw [z, L.lst] at e; cases e) e
    · have := List.length_eraseIdx_le bs j
      omega
def spPin (K : PySem.W.Frag) : Sp := fun vs H Q _ => ∃ (y zp bl dx : Addr) (ps : List Addr) (ns : List Int) (n a : Int) (bs : List Blk) (j : Nat) (b : Blk) (p : Bool), vs = [.ref y, .int a, .bl p] ∧ Ly K H y zp bl dx ps ns n bs ∧ bs[j]? = some b ∧ b.1 = a ∧
  ∀ ps' H', Ly K H' y zp bl dx ps' ns n (pinB bs j b p) → But2 y bl H H' → Q .non H'
theorem sc_set_pinned : FnScope ["self", "address", "pinned", "index", "start", "level", "was_pinned"] ["self", "address", "pinned"] (defScope (inClass (top 32) 15)) := ⟨rfl, rfl, rfl, by decide +kernel, rfl, by decide +kernel, by decide +kernel⟩
theorem ok_pin (T : Tx K mg) (M_index_of : Mf P w K mg base 2 "Layout" "index_of" ["self", "address"] (spIx K)) (F : FnP K "set_pinned" "Layout.set_pinned" (inClass (top 32) 15) f fd) :
    FnOk P w K mg base CX0 3 f fd ["self", "address", "pinned"] (spPin K) := by
  refine F.ok sc_set_pinned (fun vs H Q E h => ?_) (fun cdv A outer s H vs Q E hr h => ⟨_, PSs.nox (pss_cons (ps_set (i := 3) sc_set_pinned.nd rfl (by first | exact Or.inl rfl | exact Or.inr rfl) (pmeth M_index_of hr (pv 0) (pa_cons (pv 1) pa_nil))) (pss_cons (ps_asg (pe_ix ix_list (pe_fld (pv 0) rfl) (pv 3) (fun _ _ => rfl)) (pg_tup (by rfl) (pgs_cons (pg_name (i := 4) sc_set_pinned.nd rfl (by first | exact Or.inl rfl | exact Or.inr rfl)) (pgs_cons (pg_name (i := 5) sc_set_pinned.nd rfl (by first | exact Or.inl rfl | exact Or.inr rfl)) (pgs_cons (pg_name (i := 6) sc_set_pinned.nd rfl (by first | exact Or.inl rfl | exact Or.inr rfl)) pgs_nil))))) (pss_one (ps_asg (pe_tup (pa_cons (pv 4) (pa_cons (pv 5) (pa_cons (pv 2) pa_nil)))) (pg_sub (pe_fld (pv 0) rfl) (pv 3) set_list))))), ?_⟩)
  · obtain ⟨y, zp, bl, dx, ps, ns, n, a, bs, j, b, p, rfl, _⟩ := h
    rfl
  · obtain ⟨y, zp, bl, dx, ps, ns, n, a, bs, j, b, pp, rfl, L, hj, hb, q⟩ := h
    obtain ⟨dz, l, zz, zl, zy, zb, lb, ly, nyb⟩ := L.far
    have pl := L.rf.len
    have bn := L.ln
    have jl := (List.getElem?_eq_some_iff.mp hj).1
    obtain ⟨p, hp, hT⟩ := L.rf.at_ hj
    have hT' : H p = some (.tup [.int b.1, .int (b.2.1 : Nat), .bl b.2.2]) := hT
    refine ⟨_, rfl, y, dx, _, rfl, L.at_, lay_nm (by decide +kernel), _, rfl, y, zp, bl, dx, ps, ns, n, a, bs, j, b, rfl, L, hj, hb, ?_⟩
    refine ⟨_, rfl, y, _, dx, _, _, rfl, L.at_, T.ly, T.nBL, lay_bl .., _, rfl, bl, _, _, _, rfl, rfl, SqL.of L.lst, Refs.map_at hp, p, _, rfl, .inl (.inl hT'), rfl, _, _, rfl, _, _, rfl, _, _, rfl, rfl, ?_⟩
    refine ⟨_, rfl, _, rfl, _, rfl, (by show 3 ≤ sizeLine; decide), fun t ht => ?_⟩
    have sm := same_upd (o := .tup [.int b.1, .int (b.2.1 : Nat), .bl pp]) ht
    have ntb : bl ≠ t := ne_of_none L.lst ht
    have kp : ∀ {c : Addr} {o : HO} {u : HO}, c ≠ bl → H c = some o → (upd (upd H t (.tup [.int b.1, .int (b.2.1 : Nat), .bl pp])) bl u) c = some o := fun {c o u} c2 e => by
      rw [upd_ne c2]
      exact sm _ _ e
    refine ⟨_, rfl, y, _, dx, _, _, rfl, sm _ _ L.at_, T.ly, T.nBL, lay_bl .., _, rfl, bl, _, _, j, rfl, rfl, sm _ _ L.lst, ?_, ?_⟩
    · rw [List.length_map]
      exact ix_nat (by omega)
    · refine q (ps.set j t) _ ⟨?_, ⟨dz, l, kp zb zz, kp lb zl⟩, ?_, Refs.set (t := (b.1, b.2.1, pp)) ?_ (L.rf.mono fun c xs e => ?_) j, pin_wf L.wf hj, L.gd, L.n1, L.n2, ?_, ⟨dz, l, kp zb zz, kp lb zl, lb⟩⟩ fun c o _ c2 e => kp c2 e
      · rw [tot_pin hj]
        exact kp nyb L.at_
      · rw [upd_same, List.map_set]
      · rw [upd_ne ntb.symm, upd_same]
        rfl
      · exact kp (fun z => by rw [z, L.lst] at e; cases e) e
      · unfold pinB
        rw [List.length_set]
        exact bn
end
end K28

set_option Elab.async false
set_option linter.all false
set_option maxRecDepth 100000
set_option maxHeartbeats 4000000
/-! Own layer: fields and methods within a comprehension's block; methods called with keywords; a dict's comprehension over a list. -/
namespace Ex
open PySem PySem.Spec PySem.Calls PyProof.Rows L2 Gu
section
variable {X : Cx} {k j : Nat} {c m : Str} {ps ks : List Str} {sp : Sp} {p pos apos : Pos} {e o : Expr} {es : List Expr} {kws : List Keyword} {t tk : TA} {ta : TE} {f : Str}
theorem pfldB (K : PySem.W.Frag) (he : PE X o ta) (hK : X.K = K := by rfl) (hb : attributeBase o f X.env (eval o X.env) = eval o X.env := by rfl) : PE X (.Attribute o f pos) (tFld K ta f) := by
  subst hK
  exact pe_fld he hb
theorem pmethB {pl : Sem Bool} (K : PySem.W.Frag) (D : Mf X.prog X.w X.K X.mg X.base k c m ps sp) (hr : Room j X.A) (he : PE X o ta) (ha : PA X (e :: es) t) (hj : k ≤ j := by decide) (hK : X.K = K := by rfl)
    (hst : starEach (e :: es) X.env = (false, eval e X.env) :: starEach es X.env := by rfl) (hpl : (backTo pos (starEach es X.env)).any (·.1) = false := by rfl)
    (ht : eval (.Call (.Attribute o m apos) (e :: es) [] pos) X.env = (do
      let ov ← eval o X.env
      standAt apos.atName
      let (f, first) ← holding [ov] (getMethod ov m pl)
      callWith pos f first (backTo pos (starEach (e :: es) X.env)) (backToKw pos (keywordEach [] X.env))) := by rfl) :
    PE X (.Call (.Attribute o m apos) (e :: es) [] pos) (tMeth (He.ga K c) m sp [] E0 ta t) := by
  subst hK
  exact pmeth D hr he ha hj hst hpl ht
/-- a method that is called with n values by position (self among them) and the keywords ks behind them -/
structure MfK (P : Program) (w : World) (K : PySem.W.Frag) (mg : Str → Option Value) (base : Heap) (k : Nat) (c m : Str) (ps : List Str) (n : Nat) (ks : List Str) (sp : Sp) : Prop where
  ex : ∃ fd, FnOk P w K mg base CX0 k (He.ma K (He.ga K c) m) fd ps sp ∧ ∀ (s : Shared) (us ws : List Value), us.length = n → ws.length = ks.length → K.In s.heap → BindsTo s fd ⟨us, ks.zip ws⟩ (ps.zip (us ++ ws))
  cl : Cls K (He.ga K c)
  me : Meth K (He.ga K c) m (He.ma K (He.ga K c) m)
def tMethK (C : Addr) (m : Str) (sp : Sp) (n q : Nat) (ta : TE) (t tk : TA) : TE := fun σ H Q => ta σ H fun x H1 => ∃ a dx fs, x = .ref a ∧ H1 a = some (.ins C dx fs) ∧ fs.lookup m = none ∧
  t σ H1 fun vs H2 => tk σ H2 fun zs H3 => vs.length + 1 = n ∧ zs.length = q ∧ sp (x :: vs ++ zs) H3 Q E0
theorem pmethK {pl : Sem Bool} {n : Nat} (D : MfK X.prog X.w X.K X.mg X.base k c m ps n ks sp) (hr : Room j X.A) (he : PE X o ta) (ha : PA X (e :: es) t) (hkw : PK X kws tk) (hj : k ≤ j := by decide)
    (hst : starEach (e :: es) X.env = (false, eval e X.env) :: starEach es X.env := by rfl)
    (hall : (backToKw pos (keywordEach kws X.env)).all (·.1.isSome) = true := by rfl) (hks : (backToKw pos (keywordEach kws X.env)).filterMap (·.1) = ks := by rfl)
    (hpl : ((backTo pos (starEach (e :: es) X.env)).any (·.1) || (backToKw pos (keywordEach kws X.env)).any (·.1.isNone)) = false := by rfl)
    (ht : eval (.Call (.Attribute o m apos) (e :: es) kws pos) X.env = (do
      let ov ← eval o X.env
      standAt apos.atName
      let (f, first) ← holding [ov] (getMethod ov m pl)
      callWith pos f first (backTo pos (starEach (e :: es) X.env)) (backToKw pos (keywordEach kws X.env))) := by rfl) :
    PE X (.Call (.Attribute o m apos) (e :: es) kws pos) (tMethK (He.ga X.K c) m sp n ks.length ta t tk) := by
  obtain ⟨fd, F, b⟩ := D.ex
  refine ⟨fun pins s σ H Q I h => ?_⟩
  refine PySem.W.methodCall_KW (pl := pl) (thn (he.run pins s σ H _ I h) fun u s1 ⟨x, H1, I1, rx, a, dx, fs, ex, ea, l, q⟩ => ?_) ht
  subst ex
  obtain rfl : u = Value.ref a := rx
  refine getmeth_ok I1 ea D.cl D.me l ?_
  refine PySem.W.callWith_KW (first := [.ref a]) (h₀ := X.base) I.ok.mod.kin D.me.kp hall (thn (ha.run pos pins s1 σ H1 _ I1 q) fun us s2 ⟨vs, H2, I2, r, q2⟩ => thn (hkw.run pos pins s2 σ H2 _ I2 q2) fun ws s3 ⟨zs, H3, I3, rz, hn, hz, q3⟩ => ⟨I3.kIn, ?_⟩) hpl hst
  rw [hks]
  have r2 : Vals (V.ref a :: vs) (Value.ref a :: us) := .cons rfl r
  have r3 : Vals (V.ref a :: vs ++ zs) (Value.ref a :: us ++ ws) := r2.append rz
  have l1 : (Value.ref a :: us).length = n := by
    rw [← r2.length]
    exact hn
  have l2 : ws.length = ks.length := by
    rw [← rz.length]
    exact hz
  refine wpAny_call (codeAny_mono (F.run X.A X.stack s3 H3 ⟨Value.ref a :: us, ks.zip ws⟩ _ _ Q E0 (hr.mono hj) I3.env0 (b s3 (Value.ref a :: us) ws l1 l2 I3.kIn) r3 q3) fun r s' hq => ?_)
  match r, hq with
  | .ok (.ret u), hq => exact I3.after hq
end
/-- a dict's comprehension over a list that stays -/
theorem dc_list {K : PySem.W.Frag} {a : Addr} {xs : List V} {g : TG} {tt : TT} {tk tv : TE} {vs : List Nat} {σ : L2.St} {H1 : Hp} {D : Addr} {Qd : Hp → Prop} (Pv : Nat → Hp → Prop) (h0 : Pv 0 (upd H1 D (.dK []))) (hl : ∀ i H, i ≤ xs.length → Pv i H → SqL K H a xs)
    (hs : ∀ i x H, xs[i]? = some x → Pv i H → g x (wipe σ vs) H fun σ2 H2 => wipe σ2 vs = wipe σ vs ∧ tt σ2 H2 fun b H3 =>
      if b = true then tk σ2 H3 fun y H4 => tv σ2 H4 fun z H5 => ∃ kvs k, y = kV k ∧ H5 D = some (.dK kvs) ∧ kvs.length < sizeLine ∧ Pv (i + 1) (upd H5 D (.dK (putK kvs k z))) else Pv (i + 1) H3) (hd : ∀ H, Pv xs.length H → Qd H) :
    ∃ W : Nat → Nat → Hp → Prop, (∃ m, W 0 m (upd H1 D (.dK []))) ∧ ∀ i m H, W i m H →
      ((Itl K a).stop i H ∧ Qd H) ∨ ((Itl K a).go i H ∧ ∃ Nx : Hp → Prop, (∀ H', Nx H' → ∃ m', m' < m ∧ W (i + 1) m' H') ∧ ∀ x H', (Itl K a).yld i H x H' → g x (wipe σ vs) H' fun σ2 H2 => wipe σ2 vs = wipe σ vs ∧ tt σ2 H2 fun b H3 =>
        if b = true then tk σ2 H3 fun y H4 => tv σ2 H4 fun z H5 => ∃ kvs k, y = kV k ∧ H5 D = some (.dK kvs) ∧ kvs.length < sizeLine ∧ Nx (upd H5 D (.dK (putK kvs k z))) else Nx H3) := by
  refine ⟨fun i m H => m = xs.length - i ∧ i ≤ xs.length ∧ Pv i H, ⟨xs.length, by simp, Nat.zero_le _, h0⟩, ?_⟩
  rintro i m H ⟨rfl, hi, p⟩
  have q := hl i H hi p
  by_cases hlt : i < xs.length
  · refine .inr ⟨⟨xs, xs[i], q, by simp [hlt]⟩, Pv (i + 1), fun H' p' => ⟨xs.length - (i + 1), by omega, rfl, hlt, p'⟩, fun x H' y => ?_⟩
    obtain ⟨e, y⟩ := y
    subst e
    exact hs i x _ (y xs q) p
  · have e : i = xs.length := by omega
    subst e
    exact .inl ⟨⟨xs, q, Nat.le_refl _⟩, hd H p⟩
end Ex

set_option Elab.async false
set_option linter.all false
set_option maxRecDepth 100000
set_option maxHeartbeats 4000000
namespace K28
open PySem PySem.Spec PyProof.Rows L2 Gu Ex
def prV (p : Int × Int) : List V := [.int p.1, .int p.2]
def gapsI (n : Int) : Int → List (Int × Int) → List (Int × Int)
  | low, [] => if low < n then [(low, n)] else []
  | low, (s, e) :: r => (if low < s then [(low, s)] else []) ++ gapsI n e r
def rngB (ns : List Int) (b : Blk) : Int × Int := (b.1, bEnd ns b)
theorem drop_at {α : Type} {rs : List α} {i : Nat} {t : α} (h : rs[i]? = some t) : rs.drop i = t :: rs.drop (i + 1) := by
  obtain ⟨hi, e⟩ := List.getElem?_eq_some_iff.mp h
  rw [List.drop_eq_getElem_cons hi, e]
theorem take_at {α : Type} {rs : List α} {i : Nat} {t : α} (h : rs[i]? = some t) : rs.take (i + 1) = rs.take i ++ [t] := by
  rw [List.take_add_one, h]
  rfl
/-- appending a new tuple to a new list -/
theorem Refs.more {α : Type} {f : α → List V} {H : Hp} {ps : List Addr} {ts : List α} {M t : Addr} {u : α} {xs : List V} (h : Refs f H ps ts) (hM : H M = some (.lst xs)) (ht : H t = none) : Refs f (upd (upd H t (.tup (f u))) M (.lst (xs ++ [.ref t]))) (ps ++ [t]) (ts ++ [u]) := by
  have nM : M ≠ t := ne_of_none hM ht
  refine (h.mono fun b ys e => ?_).app (.one ?_)
  · rw [upd_ne (fun z => by rw [z, hM] at e; cases e), upd_ne (ne_of_none e ht)]
    exact e
  · rw [upd_ne nM.symm, upd_same]
theorem ref_of {ps : List Addr} {i : Nat} {x : V} (h : (ps.map V.ref)[i]? = some x) : ∃ p, ps[i]? = some p ∧ x = .ref p := by
  rw [List.getElem?_map] at h
  cases e : ps[i]? with
  | none => rw [e] at h; cases h
  | some p => rw [e] at h; exact ⟨p, rfl, (Option.some.inj h).symm⟩
section
variable {P : Program} {w : World} {K : PySem.W.Frag} {mg : Str → Option Value} {base : Heap} {f : Addr} {fd : FuncData}
def spGaps : Sp := fun vs H Q _ => ∃ (L : Addr) (n : Int) (ps : List Addr) (rs : List (Int × Int)), vs = [.ref L, .int n] ∧ H L = some (.lst (ps.map V.ref)) ∧ Refs prV H ps rs ∧ rs.length ≤ 1000 ∧
  ∀ M qs H', H M = none → Same H H' → H' M = some (.lst (qs.map V.ref)) → Refs prV H' qs (gapsI n 0 rs) → Q (.ref M) H'
theorem sc_gaps_between : FnScope ["ranges", "length", "gaps", "low", "start", "end"] ["ranges", "length"] (defScope (top 23)) := ⟨rfl, rfl, rfl, by decide +kernel, rfl, by decide +kernel, by decide +kernel⟩
theorem ok_gaps (T : Tx K mg) (F : FnP K "gaps_between" "gaps_between" (top 23) f fd) : FnOk P w K mg base CX0 1 f fd ["ranges", "length"] spGaps := by
  refine F.ok sc_gaps_between (fun vs H Q E h => ?_) (fun cdv A outer s H vs Q E hr h => ⟨_, PSs.nox (pss_cons (ps_set (i := 2) sc_gaps_between.nd rfl (by first | exact Or.inl rfl | exact Or.inr rfl) (pe_lst pa_nil)) (pss_cons (ps_set (i := 3) sc_gaps_between.nd rfl (by first | exact Or.inl rfl | exact Or.inr rfl) pe_int) (pss_cons (ps_for PassesOwn.never rfl (pi_list (pv 0)) (pg_tup (by rfl) (pgs_cons (pg_name (i := 4) sc_gaps_between.nd rfl (by first | exact Or.inl rfl | exact Or.inr rfl)) (pgs_cons (pg_name (i := 5) sc_gaps_between.nd rfl (by first | exact Or.inl rfl | exact Or.inr rfl)) pgs_nil))) (pss_cons (ps_if (pt_cmpR op_lt (pv 3) (pv 4) (nomark _)) (pss_one (ps_expr (pe_bm PySem.F.plainAttrs_list PySem.F.slot_list_append PySem.F.type_list_append mt_append (pv 2) (pa_cons (pe_tup (pa_cons (pv 3) (pa_cons (pv 4) pa_nil))) pa_nil)))) pss_nil) (pss_one (ps_set (i := 3) sc_gaps_between.nd rfl (by first | exact Or.inl rfl | exact Or.inr rfl) (pv 5))))) (pss_cons (ps_if (pt_cmpR op_lt (pv 3) (pv 1) (nomark _)) (pss_one (ps_expr (pe_bm PySem.F.plainAttrs_list PySem.F.slot_list_append PySem.F.type_list_append mt_append (pv 2) (pa_cons (pe_tup (pa_cons (pv 3) (pa_cons (pv 1) pa_nil))) pa_nil)))) pss_nil) (pss_one (ps_ret (pv 2))))))), ?_⟩)
  · obtain ⟨L, n, ps, rs, rfl, _⟩ := h
    rfl
  · obtain ⟨L, n, ps, rs, rfl, hL, rf, r1000, q⟩ := h
    have sl : sizeLine = 16777216 := sizeLine_eq
    have two : 2 ≤ sizeLine := by decide
    refine ⟨Nat.zero_le _, fun M hM => ?_⟩
    refine ⟨_, rfl, L, rfl, ⟨_, SqL.of (same_upd hM _ _ hL)⟩, ?_⟩
    have pl := rf.len
    refine for_list (K := K) (a := L) (xs := ps.map V.ref) (fun i σ G => ∃ (low : Int) (acc : List (Int × Int)) (qs : List Addr) (y4 y5 : Option V), σ = [some (.ref L), some (.int n), some (.ref M), some (.int low), y4, y5] ∧ Same H G ∧ G M = some (.lst (qs.map V.ref)) ∧ Refs prV G qs acc ∧ acc.length ≤ i ∧ gapsI n 0 rs = acc ++ gapsI n low (rs.drop i))
      ⟨0, [], [], none, none, rfl, same_upd hM, upd_same, .nil, Nat.le_refl _, rfl⟩ (fun i σ G _ ⟨_, _, _, _, _, _, sm, _⟩ => SqL.of (sm _ _ hL)) ?_ ?_
    · rintro i x σ G hx ⟨low, acc, qs, y4, y5, rfl, sm, hG, ra, al, eq⟩
      obtain ⟨p, hp, rfl⟩ := ref_of hx
      obtain ⟨t, ht, hT⟩ := (rf.same sm).get hp
      have hT' : G p = some (.tup [.int t.1, .int t.2]) := hT
      have il : i < rs.length := (List.getElem?_eq_some_iff.mp ht).1
      rw [drop_at ht] at eq
      have eq2 : gapsI n 0 rs = acc ++ ((if low < t.1 then [(low, t.1)] else []) ++ gapsI n t.2 (rs.drop (i + 1))) := eq
      have ql := ra.len
      refine ⟨p, _, rfl, .inl (.inl hT'), rfl, _, _, rfl, _, _, rfl, rfl, ?_⟩
      refine ⟨_, rfl, _, rfl, _, _, rfl, rfl, _, rfl, ?_⟩
      by_cases hc : low < t.1
      · rw [if_pos hc] at eq2
        refine ifT (decide_eq_true hc) ⟨_, rfl, .inl ⟨rfl, _, SqL.of hG⟩, _, rfl, _, rfl, two, fun u hu => ?_⟩
        have nM : M ≠ u := ne_of_none hG hu
        refine ⟨M, _, _, rfl, rfl, (by rw [upd_ne nM]; exact hG), (by rw [List.length_map]; omega), _, rfl, t.2, acc ++ [(low, t.1)], qs ++ [u], _, _, rfl, fun b o e => ?_, ?_, Refs.more (u := (low, t.1)) ra hG hu, ?_, ?_⟩
        · rw [upd_ne (ne_of_none e hM), upd_ne (ne_of_none (sm b o e) hu)]
          exact sm b o e
        · rw [upd_same, List.map_append]
          rfl
        · rw [List.length_append, List.length_singleton]
          omega
        · rw [eq2, List.append_assoc]
      · rw [if_neg hc] at eq2
        exact ifF (decide_eq_false hc) ⟨_, rfl, t.2, acc, qs, _, _, rfl, sm, hG, ra, by omega, eq2⟩
    · rintro σ G ⟨low, acc, qs, y4, y5, rfl, sm, hG, ra, al, eq⟩
      rw [List.length_map, pl, List.drop_length] at eq
      have eq2 : gapsI n 0 rs = acc ++ (if low < n then [(low, n)] else []) := eq
      have ql := ra.len
      rw [List.length_map] at al
      refine ⟨_, rfl, _, rfl, _, _, rfl, rfl, _, rfl, ?_⟩
      by_cases hc : low < n
      · rw [if_pos hc] at eq2
        refine ifT (decide_eq_true hc) ⟨_, rfl, .inl ⟨rfl, _, SqL.of hG⟩, _, rfl, _, rfl, two, fun u hu => ?_⟩
        have nM : M ≠ u := ne_of_none hG hu
        refine ⟨M, _, _, rfl, rfl, (by rw [upd_ne nM]; exact hG), (by rw [List.length_map]; omega), _, rfl, q M (qs ++ [u]) _ hM (fun b o e => ?_) ?_ ?_⟩
        · rw [upd_ne (ne_of_none e hM), upd_ne (ne_of_none (sm b o e) hu)]
          exact sm b o e
        · rw [upd_same, List.map_append]
          rfl
        · rw [eq2]
          exact Refs.more (u := (low, n)) ra hG hu
      · rw [if_neg hc, List.append_nil] at eq2
        refine ifF (decide_eq_false hc) ⟨_, rfl, q M qs G hM sm hG ?_⟩
        rw [eq2]
        exact ra
def spRanges (K : PySem.W.Frag) : Sp := fun vs H Q _ => ∃ (y zp bl dx : Addr) (ps : List Addr) (ns : List Int) (n : Int) (bs : List Blk) (M : Addr) (qs : List Addr) (cs : List Blk), vs = [.ref y, .ref M] ∧ Ly K H y zp bl dx ps ns n bs ∧ H M = some (.lst (qs.map V.ref)) ∧ Refs blkV H qs cs ∧ cs.length ≤ 1000 ∧ (∀ b ∈ cs, b.2.1 < ns.length) ∧
  ∀ D rs H', H D = none → Same H H' → H' D = some (.lst (rs.map V.ref)) → Refs prV H' rs (cs.map (rngB ns)) → Q (.ref D) H'
theorem sc_ranges_of : FnScope ["self", "blocks", "address", "level", "is_pinned"] ["self", "blocks"] (defScope (inClass (top 32) 16)) := ⟨rfl, rfl, rfl, by decide +kernel, rfl, by decide +kernel, by decide +kernel⟩
theorem ok_ranges (T : Tx K mg) (M_size : Mf P w K mg base 5 "Sizes" "size" ["self", "level"] (spSize K)) (F : FnP K "ranges_of" "Layout.ranges_of" (inClass (top 32) 16) f fd) : FnOk P w K mg base CX0 6 f fd ["self", "blocks"] (spRanges K) := by
  refine F.ok sc_ranges_of (fun vs H Q E h => ?_) (fun cdv A outer s H vs Q E hr h => ⟨_, PSs.nox (pss_one (ps_ret (pe_lc (own := [("address", 2), ("level", 3), ("is_pinned", 4)]) (g := gTup K 3 (gCons (gName 2) (gCons (gName 3) (gCons (gName 4) gNil)))) rfl sc_ranges_of.nd (pi_list (pv 1)) (blkOk_by (own := [("address", 2), ("level", 3), ("is_pinned", 4)]) (N := ["self", "blocks", "address", "level", "is_pinned"]) (sc := defScope (inClass (top 32) 16)) (by decide +kernel)) (fun _ _ _ _ _ => pg_tup rfl (pgs_cons (pg_name (i := 2) sc_ranges_of.nd rfl (Or.inl rfl)) (pgs_cons (pg_name (i := 3) sc_ranges_of.nd rfl (Or.inl rfl)) (pgs_cons (pg_name (i := 4) sc_ranges_of.nd rfl (Or.inl rfl)) pgs_nil)))) (fun _ _ _ _ _ => pts_nil) (fun _ _ _ _ _ => (pe_tup (pa_cons (pv 2) (pa_cons (pe_op op_add (pv 2) (pmethB K M_size hr (pfldB K (pv 0)) (pa_cons (pv 3) pa_nil))) pa_nil))))))), ?_⟩)
  · obtain ⟨y, zp, bl, dx, ps, ns, n, bs, M, qs, cs, rfl, _⟩ := h
    rfl
  · obtain ⟨y, zp, bl, dx, ps, ns, n, bs, M, qs, cs, rfl, L, hM, rf, c1000, hc, q⟩ := h
    have sl : sizeLine = 16777216 := sizeLine_eq
    have two : 2 ≤ sizeLine := by decide
    have ql := rf.len
    refine ⟨_, rfl, M, rfl, ⟨_, SqL.of hM⟩, fun D hD => ?_⟩
    refine lc_list (K := K) (a := M) (xs := qs.map V.ref) (fun i G => ∃ rs, G D = some (.lst (rs.map V.ref)) ∧ Refs prV G rs ((cs.take i).map (rngB ns)) ∧ Same H G) ⟨[], upd_same, .nil, same_upd hD⟩ (fun i G _ ⟨_, _, _, sm⟩ => SqL.of (sm _ _ hM)) ?_ ?_
    · rintro i x G hx ⟨rs, hG, rr, sm⟩
      obtain ⟨p, hp, rfl⟩ := ref_of hx
      obtain ⟨b, hb, hT⟩ := (rf.same sm).get hp
      have hT' : G p = some (.tup [.int b.1, .int (b.2.1 : Nat), .bl b.2.2]) := hT
      have il : i < cs.length := (List.getElem?_eq_some_iff.mp hb).1
      have bk := hc b (List.mem_of_getElem? hb)
      have LG := L.same sm
      obtain ⟨dz, l, z1, z2⟩ := id LG.szs
      have rl := rr.len
      rw [List.length_map, List.length_take] at rl
      refine ⟨p, _, rfl, .inl (.inl hT'), rfl, _, _, rfl, _, _, rfl, _, _, rfl, rfl, rfl, ?_⟩
      refine ⟨_, rfl, _, rfl, _, rfl, y, _, dx, _, _, rfl, LG.at_, T.ly, T.nST, lay_st .., zp, dz, _, rfl, z1, szF_no l (by decide +kernel), _, rfl, zp, ns, b.2.1, _, rfl, LG.szs, sz_at bk, _, _, rfl, rfl, two, fun t ht => ?_⟩
      have nD : D ≠ t := ne_of_none hG ht
      refine ⟨_, (by rw [upd_ne nD]; exact hG), (by rw [List.length_map]; omega), rs ++ [t], ?_, ?_, fun c o e => ?_⟩
      · rw [upd_same, List.map_append]
        rfl
      · rw [take_at hb, List.map_append]
        exact Refs.more (u := rngB ns b) rr hG ht
      · rw [upd_ne (ne_of_none e hD), upd_ne (ne_of_none (sm c o e) ht)]
        exact sm c o e
    · rintro G ⟨rs, hG, rr, sm⟩
      rw [List.length_map, ql, List.take_length] at rr
      exact q D rs G hD sm hG rr
end
end K28

set_option Elab.async false
set_option linter.all false
set_option maxRecDepth 100000
set_option maxHeartbeats 4000000
namespace K28
open PySem PySem.Spec PyProof.Rows L2 Gu Ex
theorem filter_at {bs : List Blk} {i : Nat} {b : Blk} (p : Blk → Bool) (h : bs[i]? = some b) : (bs.take (i + 1)).filter p = (bs.take i).filter p ++ (if p b = true then [b] else []) := by
  rw [take_at h, List.filter_append, List.filter_cons, List.filter_nil]
/-- the gaps are right ranges -/
theorem gaps_ok {n : Int} : ∀ {rs : List (Int × Int)} {low : Int}, 0 ≤ low → (∀ r ∈ rs, 0 ≤ r.2) → ∀ g ∈ gapsI n low rs, 0 ≤ g.1 ∧ g.1 ≤ g.2
  | [], low, h, _, g, hg => by
    have hg2 : g ∈ (if low < n then [(low, n)] else []) := hg
    split at hg2
    · rw [List.mem_singleton.mp hg2]
      exact ⟨h, by show low ≤ n; omega⟩
    · cases hg2
  | (s, e) :: r, low, h, hr, g, hg => by
    rcases List.mem_append.mp (show g ∈ (if low < s then [(low, s)] else []) ++ gapsI n e r from hg) with z | z
    · split at z
      · rw [List.mem_singleton.mp z]
        exact ⟨h, by show low ≤ s; omega⟩
      · cases z
    · exact gaps_ok (hr (s, e) List.mem_cons_self) (fun x hx => hr x (List.mem_cons_of_mem _ hx)) g z
/-- the clear cells, as reckoned -/
def pinR (ns : List Int) (bs : List Blk) : List (Int × Int) := (bs.filter fun b => b.2.2).map (rngB ns)
def regI (ns : List Int) (k : Nat) (gs : List (Int × Int)) : Int := (gs.map fun g => cntI (sz ns k) g.1 g.2).sum
def clrI (ns : List Int) (n : Int) (bs : List Blk) (k : Nat) : Int := regI ns k (gapsI n 0 (pinR ns bs)) * sz ns k
theorem gaps_len {n : Int} : ∀ (rs : List (Int × Int)) (low : Int), (gapsI n low rs).length ≤ rs.length + 1
  | [], low => by
    show (if low < n then [(low, n)] else []).length ≤ 1
    split <;> simp
  | (s, e) :: r, low => by
    show ((if low < s then [(low, s)] else []) ++ gapsI n e r).length ≤ r.length + 1 + 1
    have := gaps_len (n := n) r e
    rw [List.length_append]
    split
    · rw [List.length_singleton]
      omega
    · rw [List.length_nil]
      omega
section
variable {P : Program} {w : World} {K : PySem.W.Frag} {mg : Str → Option Value} {base : Heap} {f : Addr} {fd : FuncData}
def spPinned (K : PySem.W.Frag) : Sp := fun vs H Q _ => ∃ (y zp bl dx : Addr) (ps : List Addr) (ns : List Int) (n : Int) (bs : List Blk), vs = [.ref y] ∧ Ly K H y zp bl dx ps ns n bs ∧
  ∀ D rs H', H D = none → Same H H' → H' D = some (.lst (rs.map V.ref)) → Refs prV H' rs (pinR ns bs) → Q (.ref D) H'
theorem sc_pinned_ranges : FnScope ["self", "block"] ["self"] (defScope (inClass (top 32) 18)) := ⟨rfl, rfl, rfl, by decide +kernel, rfl, by decide +kernel, by decide +kernel⟩
theorem ok_pinned (T : Tx K mg) (M_ranges_of : Mf P w K mg base 6 "Layout" "ranges_of" ["self", "blocks"] (spRanges K)) (F : FnP K "pinned_ranges" "Layout.pinned_ranges" (inClass (top 32) 18) f fd) : FnOk P w K mg base CX0 7 f fd ["self"] (spPinned K) := by
  refine F.ok sc_pinned_ranges (fun vs H Q E h => ?_) (fun cdv A outer s H vs Q E hr h => ⟨_, PSs.nox (pss_one (ps_ret (pmeth M_ranges_of hr (pv 0) (pa_cons (pe_lc (own := [("block", 1)]) (g := gName 1) rfl sc_pinned_ranges.nd (pi_list (pe_fld (pv 0) rfl)) (blkOk_by (own := [("block", 1)]) (N := ["self", "block"]) (sc := defScope (inClass (top 32) 18)) (by decide +kernel)) (fun _ _ _ _ _ => pg_name (i := 1) sc_pinned_ranges.nd rfl (Or.inl rfl)) (fun _ _ _ _ _ => (pts_one (pt_val (pe_ix (r := rIxT K) ix_tup (pv 1) pe_int (fun _ _ => rfl))))) (fun _ _ _ _ _ => (pv 1))) pa_nil)))), ?_⟩)
  · obtain ⟨y, zp, bl, dx, ps, ns, n, bs, rfl, _⟩ := h
    rfl
  · obtain ⟨y, zp, bl, dx, ps, ns, n, bs, rfl, L, q⟩ := h
    have sl : sizeLine = 16777216 := sizeLine_eq
    have pl := L.rf.len
    have bn := L.ln
    refine ⟨_, rfl, y, dx, _, rfl, L.at_, lay_nm (by decide +kernel), _, rfl, y, _, dx, _, _, rfl, L.at_, T.ly, T.nBL, lay_bl .., bl, rfl, ⟨_, SqL.of L.lst⟩, fun D hD => ?_⟩
    refine lc_list (K := K) (a := bl) (xs := ps.map V.ref) (fun i G => ∃ qs, G D = some (.lst (qs.map V.ref)) ∧ Refs blkV G qs ((bs.take i).filter fun b => b.2.2) ∧ Same H G) ⟨[], upd_same, .nil, same_upd hD⟩ (fun i G _ ⟨_, _, _, sm⟩ => SqL.of (sm _ _ L.lst)) ?_ ?_
    · rintro i x G hx ⟨qs, hG, rr, sm⟩
      obtain ⟨p, hp, rfl⟩ := ref_of hx
      obtain ⟨b, hb, hT⟩ := (L.rf.same sm).get hp
      have il : i < bs.length := (List.getElem?_eq_some_iff.mp hb).1
      have rl := rr.len
      have fl := List.length_filter_le (fun b : Blk => b.2.2) (bs.take i)
      rw [List.length_take] at fl
      have hT' : G p = some (.tup [.int b.1, .int (b.2.1 : Nat), .bl b.2.2]) := hT
      refine ⟨rfl, _, rfl, p, _, _, _, rfl, rfl, SqT.of hT', rfl, _, rfl, ?_⟩
      have fa := filter_at (fun b => b.2.2) hb
      cases hq : b.2.2 with
      | true =>
        rw [hq] at fa
        refine iteT ⟨_, rfl, _, hG, (by rw [List.length_map]; omega), qs ++ [p], ?_, ?_, fun c o e => ?_⟩
        · rw [upd_same, List.map_append]
          rfl
        · rw [fa]
          refine (rr.mono fun c xs e => ?_).app (.one ?_)
          · rw [upd_ne (fun z => by rw [z, hG] at e; cases e)]
            exact e
          · rw [upd_ne (fun z => by rw [z, hG] at hT; cases hT)]
            exact hT
        · rw [upd_ne (ne_of_none e hD)]
          exact sm c o e
      | false =>
        rw [hq] at fa
        refine iteF ⟨qs, hG, ?_, sm⟩
        rw [fa]
        simpa using rr
    · rintro G ⟨qs, hG, rr, sm⟩
      rw [List.length_map, pl, List.take_length] at rr
      refine ⟨y, zp, bl, dx, ps, ns, n, bs, D, qs, _, rfl, L.same sm, hG, rr, Nat.le_trans (List.length_filter_le _ _) bn, fun b hb => (L.wf.ok b ((List.mem_filter.mp hb).1)).1, fun D2 rs H' hD2 sm2 h2 r2 => q D2 rs H' (sm.free hD2) (sm.trans sm2) h2 r2⟩
def spRegIn (K : PySem.W.Frag) : Sp := fun vs H Q _ => ∃ (y zp bl dx : Addr) (ps : List Addr) (ns : List Int) (n : Int) (bs : List Blk) (M : Addr) (qs : List Addr) (gs : List (Int × Int)) (k : Nat), vs = [.ref y, .ref M, .int k] ∧ Ly K H y zp bl dx ps ns n bs ∧ H M = some (.lst (qs.map V.ref)) ∧ Refs prV H qs gs ∧ gs.length ≤ 2000 ∧ (∀ g ∈ gs, 0 ≤ g.1 ∧ g.1 ≤ g.2) ∧ k < ns.length ∧
  ∀ H', Same H H' → Q (.int (regI ns k gs)) H'
theorem sc_regions_in : FnScope ["self", "gaps", "level", "low", "high"] ["self", "gaps", "level"] (defScope (inClass (top 32) 21)) := ⟨rfl, rfl, rfl, by decide +kernel, rfl, by decide +kernel, by decide +kernel⟩
theorem ok_regin (T : Tx K mg) (M_check_level : Mf P w K mg base 4 "Sizes" "check_level" ["self", "level"] (spCheckL K)) (D_count_regions : Df P w K mg base 7 "count_regions" ["sizes", "level", "low", "high"] (spCount K)) (F : FnP K "regions_in" "Layout.regions_in" (inClass (top 32) 21) f fd) :
    FnOk P w K mg base CX0 8 f fd ["self", "gaps", "level"] (spRegIn K) := by
  refine F.ok sc_regions_in (fun vs H Q E h => ?_) (fun cdv A outer s H vs Q E hr h => ⟨_, PSs.nox (pss_cons (ps_expr (pmeth M_check_level hr (pe_fld (pv 0) rfl) (pa_cons (pv 2) pa_nil))) (pss_one (ps_ret (pe_callB (cr_sum rfl) (by rfl) T.n_sum (by decide +kernel) (pa_cons (pe_lc (own := [("low", 3), ("high", 4)]) (g := gTup K 2 (gCons (gName 3) (gCons (gName 4) gNil))) rfl sc_regions_in.nd (pi_list (pv 1)) (blkOk_by (own := [("low", 3), ("high", 4)]) (N := ["self", "gaps", "level", "low", "high"]) (sc := defScope (inClass (top 32) 21)) (by decide +kernel)) (fun _ _ _ _ _ => pg_tup rfl (pgs_cons (pg_name (i := 3) sc_regions_in.nd rfl (Or.inl rfl)) (pgs_cons (pg_name (i := 4) sc_regions_in.nd rfl (Or.inl rfl)) pgs_nil))) (fun _ _ _ _ _ => pts_nil) (fun _ _ _ _ _ => (pcall D_count_regions hr (pa_cons (pfldB K (pv 0)) (pa_cons (pv 2) (pa_cons (pv 3) (pa_cons (pv 4) pa_nil))))))) pa_nil))))), ?_⟩)
  · obtain ⟨y, zp, bl, dx, ps, ns, n, bs, M, qs, gs, k, rfl, _⟩ := h
    rfl
  · obtain ⟨y, zp, bl, dx, ps, ns, n, bs, M, qs, gs, k, rfl, L, hM, rf, g2000, gk, hk, q⟩ := h
    have sl : sizeLine = 16777216 := sizeLine_eq
    have ql := rf.len
    obtain ⟨dz, l, z1, z2⟩ := id L.szs
    refine ⟨_, rfl, y, _, dx, _, _, rfl, L.at_, T.ly, T.nST, lay_st .., zp, dz, _, rfl, z1, szF_no l (by decide +kernel), _, rfl, zp, ns, k, rfl, L.szs, hk, ?_⟩
    refine ⟨_, rfl, M, rfl, ⟨_, SqL.of hM⟩, fun D hD => ?_⟩
    refine lc_list (K := K) (a := M) (xs := qs.map V.ref) (fun i G => G D = some (.lst (((gs.take i).map fun g => cntI (sz ns k) g.1 g.2).map V.int)) ∧ Same H G) ⟨upd_same, same_upd hD⟩ (fun i G _ ⟨_, sm⟩ => SqL.of (sm _ _ hM)) ?_ ?_
    · rintro i x G hx ⟨hG, sm⟩
      obtain ⟨p, hp, rfl⟩ := ref_of hx
      obtain ⟨g, hg, hT⟩ := (rf.same sm).get hp
      have hT' : G p = some (.tup [.int g.1, .int g.2]) := hT
      have il : i < gs.length := (List.getElem?_eq_some_iff.mp hg).1
      have LG := L.same sm
      obtain ⟨g1, g2⟩ := gk g (List.mem_of_getElem? hg)
      refine ⟨p, _, rfl, .inl (.inl hT'), rfl, _, _, rfl, _, _, rfl, rfl, rfl, ?_⟩
      refine ⟨_, rfl, y, _, dx, _, _, rfl, LG.at_, T.ly, T.nST, lay_st .., _, rfl, _, rfl, _, rfl, zp, ns, k, _, g.1, g.2, rfl, LG.szs, sz_at hk, (chain L.gd).pos _ hk, sz_le L.gd hk, g1, g2, ?_⟩
      refine ⟨_, hG, (by rw [List.length_map, List.length_map, List.length_take]; omega), ?_, fun c o e => ?_⟩
      · rw [upd_same, take_at hg, List.map_append, List.map_append]
        rfl
      · rw [upd_ne (ne_of_none e hD)]
        exact sm c o e
    · rintro G ⟨hG, sm⟩
      rw [List.length_map, ql, List.take_length] at hG
      exact ⟨D, _, rfl, SqL.of hG, q G sm⟩
def spClear (K : PySem.W.Frag) : Sp := fun vs H Q _ => ∃ (y zp bl dx : Addr) (ps : List Addr) (ns : List Int) (n : Int) (bs : List Blk) (k : Nat), vs = [.ref y, .int k] ∧ Ly K H y zp bl dx ps ns n bs ∧ k < ns.length ∧ ∀ H', Same H H' → Q (.int (clrI ns n bs k)) H'
theorem sc_clear_cells : FnScope ["self", "level", "gaps"] ["self", "level"] (defScope (inClass (top 32) 24)) := ⟨rfl, rfl, rfl, by decide +kernel, rfl, by decide +kernel, by decide +kernel⟩
theorem ok_clear (T : Tx K mg) (M_pinned_ranges : Mf P w K mg base 7 "Layout" "pinned_ranges" ["self"] (spPinned K)) (D_gaps_between : Df P w K mg base 1 "gaps_between" ["ranges", "length"] spGaps) (M_regions_in : Mf P w K mg base 8 "Layout" "regions_in" ["self", "gaps", "level"] (spRegIn K))
    (M_size : Mf P w K mg base 5 "Sizes" "size" ["self", "level"] (spSize K)) (F : FnP K "clear_cells" "Layout.clear_cells" (inClass (top 32) 24) f fd) : FnOk P w K mg base CX0 9 f fd ["self", "level"] (spClear K) := by
  refine F.ok sc_clear_cells (fun vs H Q E h => ?_) (fun cdv A outer s H vs Q E hr h => ⟨_, PSs.nox (pss_cons (ps_set (i := 2) sc_clear_cells.nd rfl (by first | exact Or.inl rfl | exact Or.inr rfl) (pcall D_gaps_between hr (pa_cons (pmeth0 M_pinned_ranges hr (pv 0)) (pa_cons (pe_fld (pv 0) rfl) pa_nil)))) (pss_one (ps_ret (pe_op op_mul (pmeth M_regions_in hr (pv 0) (pa_cons (pv 2) (pa_cons (pv 1) pa_nil))) (pmeth M_size hr (pe_fld (pv 0) rfl) (pa_cons (pv 1) pa_nil)))))), ?_⟩)
  · obtain ⟨y, zp, bl, dx, ps, ns, n, bs, k, rfl, _⟩ := h
    rfl
  · obtain ⟨y, zp, bl, dx, ps, ns, n, bs, k, rfl, L, hk, q⟩ := h
    have bn := L.ln
    have pr : (pinR ns bs).length ≤ 1000 := by
      unfold pinR
      rw [List.length_map]
      exact Nat.le_trans (List.length_filter_le _ _) bn
    refine ⟨_, rfl, y, dx, _, rfl, L.at_, lay_nm (by decide +kernel), y, zp, bl, dx, ps, ns, n, bs, rfl, L, fun D rs H1 hD s1 h1 r1 => ?_⟩
    have L1 := L.same s1
    refine ⟨_, rfl, y, _, dx, _, _, rfl, L1.at_, T.ly, T.nCC, lay_cc .., D, n, rs, _, rfl, h1, r1, pr, fun M qs H2 hM s2 h2 r2 => ?_⟩
    have L2 := L1.same s2
    refine ⟨_, rfl, y, dx, _, rfl, L2.at_, lay_nm (by decide +kernel), _, rfl, _, rfl, y, zp, bl, dx, ps, ns, n, bs, M, qs, _, k, rfl, L2, h2, r2, (by have := gaps_len (n := n) (pinR ns bs) 0; omega), gaps_ok (Int.le_refl 0) (fun r hr => ?_), hk, fun H3 s3 => ?_⟩
    · unfold pinR at hr
      obtain ⟨b, hb, rfl⟩ := List.mem_map.mp hr
      have bm := (List.mem_filter.mp hb).1
      have := (L.wf.ok b bm).2.1
      have := L.wf.pos L.gd bm
      show 0 ≤ b.1 + sz ns b.2.1
      omega
    · have L3 := L2.same s3
      obtain ⟨dz, l, z1, z2⟩ := id L3.szs
      have z := (chain L.gd).pos _ hk
      have zz := sz_le L.gd hk
      have w3 : -(2 ^ 64) < sz ns k := by omega
      have w4 : sz ns k < 2 ^ 64 := by omega
      exact ⟨_, rfl, y, _, dx, _, _, rfl, L3.at_, T.ly, T.nST, lay_st .., zp, dz, _, rfl, z1, szF_no l (by decide +kernel), _, rfl, zp, ns, k, _, rfl, L3.szs, sz_at hk, _, _, rfl, rfl, .inr ⟨w3, w4⟩, q H3 ((s1.trans s2).trans s3)⟩
end
end K28

set_option Elab.async false
set_option linter.all false
set_option maxRecDepth 100000
set_option maxHeartbeats 4000000
namespace K28
open PySem PySem.Spec PyProof.Rows L2 Gu Ex
def unpB (bs : List Blk) : List Blk := bs.filter fun b => !b.2.2
def lvK (cs : List Blk) : List (Key × V) := cs.map fun b => (Sum.inl b.1, V.int (b.2.1 : Nat))
theorem lvK_none {a : Int} : ∀ {cs : List Blk}, (∀ c ∈ cs, c.1 ≠ a) → valV (lvK cs) (Sum.inl a) = none
  | [], _ => rfl
  | c :: cs, h => by
    show valV ((Sum.inl c.1, V.int (c.2.1 : Nat)) :: lvK cs) (Sum.inl a) = none
    rw [valV_neg (fun e => h c List.mem_cons_self (Sum.inl.inj e))]
    exact lvK_none fun d hd => h d (List.mem_cons_of_mem _ hd)
theorem lvK_get : ∀ {cs : List Blk} {b : Blk}, cs.Pairwise (fun b c => b.1 < c.1) → b ∈ cs → valV (lvK cs) (Sum.inl b.1) = some (.int (b.2.1 : Nat))
  | c :: cs, b, hp, hb => by
    show valV ((Sum.inl c.1, V.int (c.2.1 : Nat)) :: lvK cs) (Sum.inl b.1) = _
    have hp2 := List.pairwise_cons.mp hp
    rcases List.mem_cons.mp hb with e | e
    · subst e
      exact valV_pos rfl
    · rw [valV_neg (fun z => by
        have h1 := hp2.1 b e
        have h2 : c.1 = b.1 := Sum.inl.inj z
        omega)]
      exact lvK_get hp2.2 e
theorem Wf.rise {ns : List Int} {n : Int} {bs : List Blk} (w : Wf ns n bs) (g : Good ns) : bs.Pairwise (fun b c => b.1 < c.1) := by
  refine List.pairwise_iff_getElem.mpr fun i j hi hj hij => ?_
  exact (w.lt g (List.getElem?_eq_getElem hi) (List.getElem?_eq_getElem hj) hij).2
/-- the cells of the unpinned blocks of level k or higher -/
def lseI (ns : List Int) (bs : List Blk) (k : Nat) : Int := (((unpB bs).filter fun b => decide (k ≤ b.2.1)).map fun b => sz ns b.2.1).sum
section
variable {P : Program} {w : World} {K : PySem.W.Frag} {mg : Str → Option Value} {base : Heap} {f : Addr} {fd : FuncData}
def spLevels (K : PySem.W.Frag) : Sp := fun vs H Q _ => ∃ (y zp bl dx : Addr) (ps : List Addr) (ns : List Int) (n : Int) (bs : List Blk), vs = [.ref y] ∧ Ly K H y zp bl dx ps ns n bs ∧ ∀ D H', H D = none → Same H H' → H' D = some (.dK (lvK (unpB bs))) → Q (.ref D) H'
theorem sc_unpinned_levels : FnScope ["self", "address", "level", "is_pinned"] ["self"] (defScope (inClass (top 32) 19)) := ⟨rfl, rfl, rfl, by decide +kernel, rfl, by decide +kernel, by decide +kernel⟩
theorem ok_levels (T : Tx K mg) (F : FnP K "unpinned_levels" "Layout.unpinned_levels" (inClass (top 32) 19) f fd) : FnOk P w K mg base CX0 1 f fd ["self"] (spLevels K) := by
  refine F.ok sc_unpinned_levels (fun vs H Q E h => ?_) (fun cdv A outer s H vs Q E hr h => ⟨_, PSs.nox (pss_one (ps_ret (pe_dc (own := [("address", 1), ("level", 2), ("is_pinned", 3)]) (g := gTup K 3 (gCons (gName 1) (gCons (gName 2) (gCons (gName 3) gNil)))) rfl sc_unpinned_levels.nd (pi_list (pe_fld (pv 0) rfl)) (blkOk_by (own := [("address", 1), ("level", 2), ("is_pinned", 3)]) (N := ["self", "address", "level", "is_pinned"]) (sc := defScope (inClass (top 32) 19)) (by decide +kernel)) (fun _ _ _ _ _ => pg_tup rfl (pgs_cons (pg_name (i := 1) sc_unpinned_levels.nd rfl (Or.inl rfl)) (pgs_cons (pg_name (i := 2) sc_unpinned_levels.nd rfl (Or.inl rfl)) (pgs_cons (pg_name (i := 3) sc_unpinned_levels.nd rfl (Or.inl rfl)) pgs_nil)))) (fun _ _ _ _ _ => (pts_one (pt_not (pt_val (pv 3))))) (fun _ _ _ _ _ => (pv 1)) (fun _ _ _ _ _ => (pv 2))))), ?_⟩)
  · obtain ⟨y, zp, bl, dx, ps, ns, n, bs, rfl, _⟩ := h
    rfl
  · obtain ⟨y, zp, bl, dx, ps, ns, n, bs, rfl, L, q⟩ := h
    have sl : sizeLine = 16777216 := sizeLine_eq
    have pl := L.rf.len
    have bn := L.ln
    refine ⟨_, rfl, y, _, dx, _, _, rfl, L.at_, T.ly, T.nBL, lay_bl .., bl, rfl, ⟨_, SqL.of L.lst⟩, fun D hD => ?_⟩
    refine dc_list (K := K) (a := bl) (xs := ps.map V.ref) (fun i G => G D = some (.dK (lvK ((bs.take i).filter fun b => !b.2.2))) ∧ Same H G) ⟨upd_same, same_upd hD⟩ (fun i G _ ⟨_, sm⟩ => SqL.of (sm _ _ L.lst)) ?_ ?_
    · rintro i x G hx ⟨hG, sm⟩
      obtain ⟨p, hp, rfl⟩ := ref_of hx
      obtain ⟨b, hb, hT⟩ := (L.rf.same sm).get hp
      have il : i < bs.length := (List.getElem?_eq_some_iff.mp hb).1
      have hT' : G p = some (.tup [.int b.1, .int (b.2.1 : Nat), .bl b.2.2]) := hT
      have fa := filter_at (fun b => !b.2.2) hb
      have fl := List.length_filter_le (fun b : Blk => !b.2.2) (bs.take i)
      rw [List.length_take] at fl
      refine ⟨p, _, rfl, .inl (.inl hT'), rfl, _, _, rfl, _, _, rfl, _, _, rfl, rfl, rfl, ?_⟩
      refine ⟨_, rfl, _, rfl, ?_⟩
      cases hq : b.2.2 with
      | true =>
        rw [hq] at fa
        refine iteF ⟨?_, sm⟩
        rw [fa]
        simpa using hG
      | false =>
        rw [hq] at fa
        have no : valV (lvK ((bs.take i).filter fun b => !b.2.2)) (Sum.inl b.1) = none := lvK_none fun c hc => by
          obtain ⟨j, hj, ej⟩ := mem_take_at (List.mem_filter.mp hc).1
          have := (L.wf.lt L.gd ej hb hj).2
          omega
        refine iteT ⟨_, rfl, _, rfl, _, Sum.inl b.1, rfl, hG, (by unfold lvK; rw [List.length_map]; omega), ?_, fun c o e => ?_⟩
        · rw [upd_same, putK_new _ no, fa]
          show _ = some (HO.dK (lvK (((bs.take i).filter fun b => !b.2.2) ++ [b])))
          unfold lvK
          rw [List.map_append]
          rfl
        · rw [upd_ne (ne_of_none e hD)]
          exact sm c o e
    · rintro G ⟨hG, sm⟩
      rw [List.length_map, pl, List.take_length] at hG
      exact q D G hD sm hG
def spLoose (K : PySem.W.Frag) : Sp := fun vs H Q _ => ∃ (y zp bl dx : Addr) (ps : List Addr) (ns : List Int) (n : Int) (bs : List Blk) (k : Nat), vs = [.ref y, .int k] ∧ Ly K H y zp bl dx ps ns n bs ∧ k < ns.length ∧ ∀ H', Same H H' → Q (.int (lseI ns bs k)) H'
theorem sc_unpinned_cells : FnScope ["self", "level", "levels", "address"] ["self", "level"] (defScope (inClass (top 32) 25)) := ⟨rfl, rfl, rfl, by decide +kernel, rfl, by decide +kernel, by decide +kernel⟩
theorem ok_loose (T : Tx K mg) (M_check_level : Mf P w K mg base 4 "Sizes" "check_level" ["self", "level"] (spCheckL K)) (M_unpinned_levels : Mf P w K mg base 1 "Layout" "unpinned_levels" ["self"] (spLevels K)) (M_size : Mf P w K mg base 5 "Sizes" "size" ["self", "level"] (spSize K))
    (F : FnP K "unpinned_cells" "Layout.unpinned_cells" (inClass (top 32) 25) f fd) : FnOk P w K mg base CX0 6 f fd ["self", "level"] (spLoose K) := by
  refine F.ok sc_unpinned_cells (fun vs H Q E h => ?_) (fun cdv A outer s H vs Q E hr h => ⟨_, PSs.nox (pss_cons (ps_expr (pmeth M_check_level hr (pe_fld (pv 0) rfl) (pa_cons (pv 1) pa_nil))) (pss_cons (ps_set (i := 2) sc_unpinned_cells.nd rfl (by first | exact Or.inl rfl | exact Or.inr rfl) (pmeth0 M_unpinned_levels hr (pv 0))) (pss_one (ps_ret (pe_callB (cr_sum rfl) (by rfl) T.n_sum (by decide +kernel) (pa_cons (pe_lock (pe_lc (own := [("address", 3)]) (g := gName 3) rfl sc_unpinned_cells.nd (pi_keys (pv 2)) (blkOk_by (own := [("address", 3)]) (N := ["self", "level", "levels", "address"]) (sc := defScope (inClass (top 32) 25)) (by decide +kernel)) (fun _ _ _ _ _ => pg_name (i := 3) sc_unpinned_cells.nd rfl (Or.inl rfl)) (fun _ _ _ _ _ => (pts_one (pt_cmpR op_ge (pe_dget (hu_of hr) (pv 2) (pv 3) (fun _ _ => rfl)) (pv 1) (nomark _)))) (fun _ _ _ _ _ => (pmethB K M_size hr (pfldB K (pv 0)) (pa_cons (pe_dget (hu_of hr) (pv 2) (pv 3) (fun _ _ => rfl)) pa_nil))))) pa_nil)))))), ?_⟩)
  · obtain ⟨y, zp, bl, dx, ps, ns, n, bs, k, rfl, _⟩ := h
    rfl
  · obtain ⟨y, zp, bl, dx, ps, ns, n, bs, k, rfl, L, hk, q⟩ := h
    have sl : sizeLine = 16777216 := sizeLine_eq
    have bn := L.ln
    obtain ⟨dz, l, z1, z2⟩ := id L.szs
    refine ⟨_, rfl, y, _, dx, _, _, rfl, L.at_, T.ly, T.nST, lay_st .., zp, dz, _, rfl, z1, szF_no l (by decide +kernel), _, rfl, zp, ns, k, rfl, L.szs, hk, ?_⟩
    refine ⟨_, rfl, y, dx, _, rfl, L.at_, lay_nm (by decide +kernel), y, zp, bl, dx, ps, ns, n, bs, rfl, L, fun d H1 hd s1 h1 => ?_⟩
    have pw : (unpB bs).Pairwise (fun b c => b.1 < c.1) := (L.wf.rise L.gd).sublist List.filter_sublist
    have ul : (unpB bs).length ≤ 1000 := Nat.le_trans (List.length_filter_le _ _) bn
    refine ⟨d, _, h1, trivial, fun od => ?_⟩
    refine ⟨_, rfl, d, od, rfl, .inl ⟨_, upd_same, fun D hD => ?_⟩⟩
    have nDd : D ≠ d := fun z => by
      rw [z, upd_same] at hD
      cases hD
    have hD1 : H1 D = none := by
      rw [upd_ne nDd] at hD
      exact hD
    have nDH : H D = none := s1.free hD1
    refine lc_it (walk_keys (kvs := lvK (unpB bs))) (fun i G => G D = some (.lst (((((unpB bs).take i).filter fun b => decide (k ≤ b.2.1)).map fun b => sz ns b.2.1).map V.int)) ∧ G d = some (.frz od (.dK (lvK (unpB bs)))) ∧ Same H G)
      ⟨upd_same, (by rw [upd_ne nDd.symm, upd_same]), fun c o e => by rw [upd_ne (ne_of_none e nDH), upd_ne (ne_of_none e hd)]; exact s1 c o e⟩ (fun i G _ hh => hh.2.1) ?_ ?_
    · rintro i x G G' hi ⟨hG, hfz, sm⟩ ⟨rfl, ky, v, hkv, rfl⟩
      have il : i < (unpB bs).length := by
        unfold lvK at hi
        rw [List.length_map] at hi
        exact hi
      obtain ⟨b, hb⟩ : ∃ b, (unpB bs)[i]? = some b := ⟨_, List.getElem?_eq_getElem il⟩
      have ek : ky = Sum.inl b.1 := by
        unfold lvK at hkv
        rw [List.getElem?_map, hb] at hkv
        exact (Prod.mk.inj (Option.some.inj hkv)).1.symm
      subst ek
      have bm := List.mem_of_getElem? hb
      have bk := (L.wf.ok b (List.mem_filter.mp bm).1).1
      have dg : DGet G' d (kV (Sum.inl b.1)) (some (.int (b.2.1 : Nat))) := .inl ⟨_, Sum.inl b.1, .inr ⟨od, hfz⟩, rfl, (lvK_get pw bm).symm⟩
      have LG := L.same sm
      obtain ⟨dz, l, z1, z2⟩ := id LG.szs
      have fa : ((unpB bs).take (i + 1)).filter (fun b => decide (k ≤ b.2.1)) = ((unpB bs).take i).filter (fun b => decide (k ≤ b.2.1)) ++ (if decide (k ≤ b.2.1) = true then [b] else []) := filter_at (fun b => decide (k ≤ b.2.1)) hb
      have fl := List.length_filter_le (fun b : Blk => decide (k ≤ b.2.1)) ((unpB bs).take i)
      rw [List.length_take] at fl
      refine ⟨rfl, _, rfl, _, rfl, d, _, rfl, dg, _, rfl, _, _, rfl, rfl, _, rfl, ?_⟩
      by_cases hc : k ≤ b.2.1
      · rw [if_pos (decide_eq_true hc)] at fa
        refine ifT (decide_eq_true (by omega)) ?_
        refine ⟨_, rfl, y, _, dx, _, _, rfl, LG.at_, T.ly, T.nST, lay_st .., zp, dz, _, rfl, z1, szF_no l (by decide +kernel), _, rfl, _, rfl, d, _, rfl, dg, zp, ns, b.2.1, _, rfl, LG.szs, sz_at bk, ?_⟩
        refine ⟨_, hG, (by rw [List.length_map, List.length_map]; omega), ?_, (by rw [upd_ne nDd.symm]; exact hfz), fun c o e => ?_⟩
        · rw [upd_same, fa, List.map_append, List.map_append]
          rfl
        · rw [upd_ne (ne_of_none e nDH)]
          exact sm c o e
      · rw [if_neg (fun z => hc (of_decide_eq_true z)), List.append_nil] at fa
        refine ifF (decide_eq_false (by omega)) ⟨?_, hfz, sm⟩
        rw [fa]
        exact hG
    · rintro G ⟨hG, hfz, sm⟩
      have e : (lvK (unpB bs)).length = (unpB bs).length := by
        unfold lvK
        rw [List.length_map]
      rw [e, List.take_length] at hG
      refine ⟨hfz, D, _, rfl, SqL.of (show (upd G d (.dK (lvK (unpB bs)))) D = _ by rw [upd_ne nDd]; exact hG), q _ fun c o ec => ?_⟩
      rw [upd_ne (ne_of_none ec hd)]
      exact sm c o ec
end
end K28

set_option Elab.async false
set_option linter.all false
set_option maxRecDepth 100000
set_option maxHeartbeats 4000000
namespace K28
open PySem PySem.Spec PyProof.Rows L2 Gu Ex
/-- a list of blocks at a -/
structure Bl (ns : List Int) (H : Hp) (a : Addr) (ps : List Addr) (bs : List Blk) : Prop where
  at_ : H a = some (.lst (ps.map V.ref))
  rf : Refs blkV H ps bs
  lv : ∀ b ∈ bs, b.2.1 < ns.length
  ln : bs.length ≤ 1000
theorem Bl.same {ns : List Int} {H H' : Hp} {a : Addr} {ps : List Addr} {bs : List Blk} (h : Bl ns H a ps bs) (s : Same H H') : Bl ns H' a ps bs := ⟨s _ _ h.at_, h.rf.same s, h.lv, h.ln⟩
def hitB (ns : List Int) (lo hi : Int) (b : Blk) : Bool := b.2.2 && (decide (b.1 < hi) && decide (lo < bEnd ns b))
def clearB (ns : List Int) (bs : List Blk) (lo hi : Int) : Bool := bs.all fun b => !hitB ns lo hi b
theorem all_at {bs : List Blk} {p : Blk → Bool} {i : Nat} {b : Blk} (h : bs[i]? = some b) (k : (bs.take i).all p = true) (hp : p b = true) : (bs.take (i + 1)).all p = true := by
  rw [take_at h, List.all_append, k]
  simp [hp]
theorem all_no {bs : List Blk} {p : Blk → Bool} {b : Blk} (h : b ∈ bs) (hp : p b = false) : bs.all p = false := by
  cases e : bs.all p with
  | false => rfl
  | true =>
    have := List.all_eq_true.mp e b h
    rw [hp] at this
    cases this
end K28

set_option Elab.async false
set_option linter.all false
set_option maxRecDepth 100000
set_option maxHeartbeats 4000000
namespace K28
open PySem PySem.Spec PyProof.Rows L2 Gu Ex
def offB (ns : List Int) (lo hi : Int) (b : Blk) : Bool := decide (hi ≤ b.1) || decide (bEnd ns b ≤ lo)
def spaceB (ns : List Int) (n : Int) (bs : List Blk) (k : Nat) (a : Int) : Bool := decide (sz ns k ∣ a) && (decide (a + sz ns k ≤ n) && bs.all (offB ns a (a + sz ns k)))
section
variable {P : Program} {w : World} {K : PySem.W.Frag} {mg : Str → Option Value} {base : Heap} {f : Addr} {fd : FuncData}
def spSpace : Sp := fun vs H Q _ => ∃ (s a : Addr) (ns : List Int) (n : Int) (ps : List Addr) (bs : List Blk) (k : Nat) (ad : Int), vs = [.ref s, .int n, .ref a, .int k, .int ad] ∧ H s = some (.lst (ns.map V.int)) ∧ Bl ns H a ps bs ∧ Good ns ∧ k < ns.length ∧ 0 ≤ ad ∧ ad ≤ 1000000 ∧ ∀ H', Same H H' → Q (.bl (spaceB ns n bs k ad)) H'
theorem sc__law_has_space : FnScope ["_law_sizes_here", "_law_length", "_law_blocks_here", "_law_level", "_law_address", "_law_end", "_law_one"] ["_law_sizes_here", "_law_length", "_law_blocks_here", "_law_level", "_law_address"] (defScope (top 39)) := ⟨rfl, rfl, rfl, by decide +kernel, rfl, by decide +kernel, by decide +kernel⟩
theorem ok_space (T : Tx K mg) (F : FnP K "_law_has_space" "_law_has_space" (top 39) f fd) : FnOk P w K mg base CX0 1 f fd ["_law_sizes_here", "_law_length", "_law_blocks_here", "_law_level", "_law_address"] spSpace := by
  refine F.ok sc__law_has_space (fun vs H Q E h => ?_) (fun cdv A outer s H vs Q E hr h => ⟨_, PSs.nox (pss_cons (ps_set (i := 5) sc__law_has_space.nd rfl (by first | exact Or.inl rfl | exact Or.inr rfl) (pe_op op_add (pv 4) (pe_ix ix_list (pv 0) (pv 3) (fun _ _ => rfl)))) (pss_cons (ps_if (PW.pt (pw_or (pt_cmpR op_ne (pe_op op_mod (pv 4) (pe_ix ix_list (pv 0) (pv 3) (fun _ _ => rfl))) pe_int (nomark _)) (pw_or1 (pt_cmpR op_gt (pv 5) (pv 1) (nomark _))))) (pss_one (ps_ret pe_bl)) pss_nil) (pss_one (ps_ret (pe_callB (cr_all rfl) (by rfl) T.n_all (by decide +kernel) (pa_cons (pe_lc (own := [("_law_one", 6)]) (g := gName 6) rfl sc__law_has_space.nd (pi_list (pv 2)) (blkOk_by (own := [("_law_one", 6)]) (N := ["_law_sizes_here", "_law_length", "_law_blocks_here", "_law_level", "_law_address", "_law_end", "_law_one"]) (sc := defScope (top 39)) (by decide +kernel)) (fun _ _ _ _ _ => pg_name (i := 6) sc__law_has_space.nd rfl (Or.inl rfl)) (fun _ _ _ _ _ => pts_nil) (fun _ _ _ _ _ => (pe_or (pe_cmpR op_ge (pe_ix (r := rIxT K) ix_tup (pv 6) pe_int (fun _ _ => rfl)) (pv 5) (nomark _)) (pe_one (pe_cmpR op_le (pe_op op_add (pe_ix (r := rIxT K) ix_tup (pv 6) pe_int (fun _ _ => rfl)) (pe_ix (r := rIxL K) ix_list (pv 0) (pe_ix (r := rIxT K) ix_tup (pv 6) pe_int (fun _ _ => rfl)) (fun _ _ => rfl))) (pv 4) (nomark _)))))) pa_nil)))))), ?_⟩)
  · obtain ⟨s, a, ns, n, ps, bs, k, ad, rfl, _⟩ := h
    rfl
  · obtain ⟨s, a, ns, n, ps, bs, k, ad, rfl, hs, B, g, hk, a0, a1, q⟩ := h
    have pl := B.rf.len
    have bn := B.ln
    have sl : sizeLine = 16777216 := sizeLine_eq
    have z1 := (chain g).pos k hk
    refine ⟨_, rfl, _, rfl, _, rfl, s, _, _, _, rfl, rfl, SqL.of hs, at_sz hk, _, _, rfl, rfl, ?_⟩
    refine ⟨_, rfl, _, rfl, _, rfl, s, _, _, _, rfl, rfl, SqL.of hs, at_sz hk, _, _, rfl, rfl, by omega, ?_⟩
    by_cases hd : ad % sz ns k = 0
    case neg =>
      refine ⟨rfl, _, rfl, ifT (by rw [vF hd]; rfl) ?_⟩
      have e : spaceB ns n bs k ad = false := by
        unfold spaceB
        rw [decide_eq_false (fun z => hd (Int.emod_eq_zero_of_dvd z))]
        rfl
      have q' := q H (fun _ _ e => e)
      rw [e] at q'
      exact q'
    refine ⟨rfl, _, rfl, ifF (by rw [vT hd]; rfl) ?_⟩
    refine ⟨_, rfl, _, rfl, _, _, rfl, rfl, _, rfl, ?_⟩
    by_cases hl : n < ad + sz ns k
    · refine ifT (decide_eq_true hl) ?_
      have e : spaceB ns n bs k ad = false := by
        unfold spaceB
        rw [decide_eq_false (show ¬ ad + sz ns k ≤ n by omega), Bool.false_and, Bool.and_false]
      have q' := q H (fun _ _ e => e)
      rw [e] at q'
      exact q'
    refine ifF (decide_eq_false hl) ?_
    have e : spaceB ns n bs k ad = bs.all (offB ns ad (ad + sz ns k)) := by
      unfold spaceB
      rw [decide_eq_true (show ad + sz ns k ≤ n by omega), decide_eq_true (Int.dvd_of_emod_eq_zero hd)]
      rfl
    rw [e] at q
    refine ⟨_, rfl, a, rfl, ⟨_, SqL.of B.at_⟩, fun D hD => ?_⟩
    refine lc_list (K := K) (a := a) (xs := ps.map V.ref) (fun i G => G D = some (.lst (((bs.take i).map (offB ns ad (ad + sz ns k))).map V.bl)) ∧ Same H G) ⟨upd_same, same_upd hD⟩ (fun i G _ ⟨_, sm⟩ => SqL.of (sm _ _ B.at_)) ?_ ?_
    · rintro i x G hx ⟨hG, sm⟩
      obtain ⟨p, hp, rfl⟩ := ref_of hx
      obtain ⟨b, hb, hT⟩ := (B.rf.same sm).get hp
      have hT' : G p = some (.tup [.int b.1, .int (b.2.1 : Nat), .bl b.2.2]) := hT
      have bk := B.lv b (List.mem_of_getElem? hb)
      have il : i < bs.length := (List.getElem?_eq_some_iff.mp hb).1
      have fin : ∀ v : Bool, v = offB ns ad (ad + sz ns k) b → ∃ xs, G D = some (.lst xs) ∧ xs.length < sizeLine ∧ (upd G D (.lst (xs ++ [.bl v]))) D = some (.lst (((bs.take (i + 1)).map (offB ns ad (ad + sz ns k))).map V.bl)) ∧ Same H (upd G D (.lst (xs ++ [.bl v]))) := by
        rintro v rfl
        refine ⟨_, hG, (by rw [List.length_map, List.length_map, List.length_take]; omega), ?_, fun c o e => ?_⟩
        · rw [upd_same, take_at hb, List.map_append, List.map_append]
          rfl
        · rw [upd_ne (ne_of_none e hD)]
          exact sm c o e
      refine ⟨rfl, _, rfl, p, _, _, _, rfl, rfl, .inl (.inl hT'), rfl, _, rfl, _, _, rfl, rfl, _, rfl, ?_⟩
      by_cases h1 : ad + sz ns k ≤ b.1
      · refine ifT (decide_eq_true h1) ?_
        exact fin true (by unfold offB; rw [decide_eq_true h1]; rfl)
      · refine ifF (decide_eq_false h1) ?_
        refine ⟨_, rfl, p, _, _, _, rfl, rfl, .inl (.inl hT'), rfl, _, rfl, _, rfl, p, _, _, _, rfl, rfl, .inl (.inl hT'), rfl, s, _, _, _, rfl, rfl, SqL.of (sm _ _ hs), at_sz bk, _, _, rfl, rfl, _, rfl, _, _, rfl, rfl, ?_⟩
        exact fin _ (by unfold offB; rw [decide_eq_false h1]; rfl)
    · rintro G ⟨hG, sm⟩
      rw [List.length_map, pl, List.take_length] at hG
      refine ⟨D, _, rfl, SqL.of hG, ?_⟩
      rw [List.all_map]
      exact q G sm
end
end K28

set_option Elab.async false
set_option linter.all false
set_option maxRecDepth 100000
set_option maxHeartbeats 4000000
namespace K28
open PySem PySem.Spec PyProof.Rows L2 Gu Ex
def clearAt (ns : List Int) (bs : List Blk) (k : Nat) (i : Nat) : Bool := clearB ns bs ((i : Int) * sz ns k) ((i : Int) * sz ns k + sz ns k)
def cntC (ns : List Int) (bs : List Blk) (k : Nat) (m : Nat) : Nat := ((List.range m).filter (clearAt ns bs k)).length
def dueI (ns : List Int) (n : Int) (bs : List Blk) (k : Nat) : Int := sz ns k * (cntC ns bs k (n / sz ns k).toNat : Nat)
theorem cntC_succ (ns : List Int) (bs : List Blk) (k m : Nat) : cntC ns bs k (m + 1) = cntC ns bs k m + (if clearAt ns bs k m = true then 1 else 0) := by
  unfold cntC
  rw [List.range_succ, List.filter_append, List.length_append]
  cases h : clearAt ns bs k m <;> simp [List.filter, h]
theorem cntC_le (ns : List Int) (bs : List Blk) (k m : Nat) : cntC ns bs k m ≤ m := by
  unfold cntC
  exact Nat.le_trans (List.length_filter_le _ _) (by simp)
end K28

set_option Elab.async false
set_option linter.all false
set_option maxRecDepth 100000
set_option maxHeartbeats 4000000
namespace K28
open PySem PySem.Spec PyProof.Rows L2 Gu Ex
theorem sz_lt {ns : List Int} (g : Good ns) {j : Nat} : ∀ {k : Nat}, j < k → k < ns.length → sz ns j < sz ns k
  | 0, h, _ => absurd h (Nat.not_lt_zero _)
  | k + 1, h, hk => by
    have u := (g.up k _ _ (sz_at (by omega)) (sz_at hk)).1
    by_cases e : j = k
    · rw [e]
      exact u
    · have := sz_lt g (j := j) (k := k) (by omega) (by omega)
      omega
end K28

set_option Elab.async false
set_option linter.all false
set_option maxRecDepth 100000
set_option maxHeartbeats 4000000
/-! enumerate over a tuple -/
namespace PySem
open Sem (wp)
open AutoSeq1 (wpAny_loadPart')
theorem meets_enumerate_newT (l : Addr) (items : Array Value) (n : Nat) (dct : Option Addr) (sl : Array (Option Value)) :
    Meets (Builtin.«enumerate.__new__» ⟨[.type "enumerate", .ref l], []⟩) (fun _ R s => s.heap.get? l = some { cls := .type "tuple", dict := dct, data := .seq items n, slots := sl } ∧
      R (.ok (.ret (.ref (s.heap.push { cls := .type "tuple_iterator", data := .fields #[.ref l, .int 0 0] }).objs.size)))
        { s with heap := (s.heap.push { cls := .type "tuple_iterator", data := .fields #[.ref l, .int 0 0] }).push { cls := .type "enumerate", data := .fields #[.none, .bool false, .ref s.heap.objs.size, rawInt 0, .none, .none] } }) :=
  .of_wp fun prog w A R s h => by
    obtain ⟨hp, g, d, tk, os⟩ := s; obtain ⟨hl, h⟩ := h
    have hsub := sub_enumerate
    have hL : Heap.IsTuple (Shared.heap ⟨hp, g, d, tk, os⟩) l items := ⟨_, hl, rfl, n, rfl⟩
    wp_walk using wpAny_loadPart' hl
    refine wpAny_stack_any fun st => wpAny_pure ?_
    split
    · rename_i c _ _ _ _ _
      cases (c == Value.type "enumerate")
      · wp_walk using wpAny_loadPart' hl, wpAny_pyIter_tuple hL
        exact ⟨_, rfl, h⟩
      · wp_walk using wpAny_loadPart' hl, wpAny_pyIter_tuple hL
        exact ⟨_, rfl, h⟩
    · wp_walk using wpAny_loadPart' hl, wpAny_pyIter_tuple hL
      exact ⟨_, rfl, h⟩
section
variable {prog : Program} {w : World} {A : Around} {E : Value → Shared → Prop} {s : Shared}
theorem call_enumerate_tuple {l : Addr} {items : Array Value} {Q : Value → Shared → Prop} (hL : s.heap.IsTuple l items)
    (h : ∀ h', IsEnum h' (s.heap.objs.size + 1) s.heap.objs.size 0 .none → h'.IsTupleIter s.heap.objs.size l 0 → h'.objs.size = s.heap.objs.size + 2 →
      (∀ b o, s.heap.get? b = some o → h'.get? b = some o) → Q (.ref (s.heap.objs.size + 1)) { s with heap := h' }) :
    wpAny (model prog w) A (call (.type "enumerate") [.ref l]) Q E s := by
  obtain ⟨⟨c, dct, dt, sl⟩, hl, hc, n, hd⟩ := hL
  replace hc : c = .type "tuple" := hc
  replace hd : dt = .seq items n := hd
  subst hc hd
  refine callType_new F.called_enumerate (by decide) (F.typeCall_enumerate_1 _) (F.newCall_enumerate_1 _) (fun obj => F.args_object_init_2 obj _) F.entry_enumerate_new
    (meets_enumerate_newT l items n dct sl) ⟨hl, ?_⟩
  have hz : (s.heap.push { cls := .type "tuple_iterator", data := .fields #[.ref l, .int 0 0] }).objs.size = s.heap.objs.size + 1 := Heap.size_push ..
  show _ ∧ _
  rw [hz]
  have he : IsEnum ((s.heap.push { cls := .type "tuple_iterator", data := .fields #[.ref l, .int 0 0] }).push
      { cls := .type "enumerate", data := .fields #[.none, .bool false, .ref s.heap.objs.size, rawInt 0, .none, .none] }) (s.heap.objs.size + 1) s.heap.objs.size 0 .none := by
    have := Heap.get?_push_size (s.heap.push { cls := .type "tuple_iterator", data := .fields #[.ref l, .int 0 0] })
      (o := { cls := .type "enumerate", data := .fields #[.none, .bool false, .ref s.heap.objs.size, rawInt 0, .none, .none] }) rfl
    rw [hz] at this; exact this
  refine ⟨⟨_, he, rfl⟩, h _ he ⟨_, Heap.get?_push_of_some _ (Heap.get?_push_size _ rfl), rfl, rfl⟩ (by rw [Heap.size_push, hz]) fun b o x => Heap.get?_push_of_some _ (Heap.get?_push_of_some _ x)⟩
end
theorem Draws.tuple {prog : Program} {w : World} {A : Around} (hh : A.handled = none) (it l : Addr) (hne : l ≠ it) (items : Array Value) :
    Draws prog w A it [it, l] items.size (fun i v => items[i]? = some v) (fun i h => h.IsTupleIter it l i ∧ h.IsTuple l items) where
  live := fun _ _ st => let ⟨o, ho, _⟩ := st.1; ⟨o, ho⟩
  frame := fun _ _ _ st hk => ⟨st.1.at fun o e => hk it (by simp) o e, st.2.at fun o e => hk l (by simp) o e⟩
  item := fun i s Q E hi st hQ => by
    unfold Builtin.SmallTypes.nextOf
    refine wpAny_bind (L2.special_tup_item st.1 st.2 (x := items[i]) (by simp [hi]) fun h' hit' hs' => ?_)
    exact wpAny_pure (hQ _ h' s.toks (by simp [hi]) ⟨hit', st.2.extBut hs'.extBut hne⟩ hs')
  done := fun s Q E st hE => by
    unfold Builtin.SmallTypes.nextOf
    refine wpAny_bind (L2.special_tup_end hh st.1 st.2 (by simp) fun e h' hx hk => ?_)
    obtain ⟨a, o, vs, rfl, ho, hc, _⟩ := hx
    exact hE h' a hk ⟨o, ho, hc⟩
theorem enum_endT {prog : Program} {w : World} {A : Around} {E : Value → Shared → Prop} {s : Shared} {e it l : Addr} {i : Nat} {items : Array Value} {old : Value} {Q : Option Value → Shared → Prop} (hh : A.handled = none)
    (he : IsEnum s.heap e it i old) (hit : s.heap.IsTupleIter it l i) (hl : s.heap.IsTuple l items) (hx : items[i]? = none)
    (hQ : ∀ h', Heap.ExtBut it s.heap h' → Q none { s with heap := h' }) : wpAny (model prog w) A (pyNext (.ref e)) Q E s := by
  have hT : s.TypeIs (.ref e) "enumerate" := ⟨_, he, rfl⟩
  unfold pyNext
  refine wpAny_bind (wpAny_attempt (wpAny_callSpecial?_slot (name := Str.ofString "__next__") hT F.slot_enumerate_next
    (wpAny_call_entry F.slot_enumerate_next hT F.entry_enumerate_next ?_ (F.args_enumerate_next_1 _))))
  show wpAny _ _ (field (.ref e) 2 >>= _) _ _ _
  refine wpAny_bind (wpAny_field he rfl (x := .ref it) rfl ?_)
  refine wpAny_bind ?_
  unfold Builtin.SmallTypes.nextOf
  refine wpAny_bind (L2.special_tup_end (A := A.in1) hh hit hl hx fun x h' hx' hk => ?_)
  obtain ⟨a, o, vs, rfl, ho, hc, _⟩ := hx'
  refine wpAny_bind (wpAny_isInstance (T := "StopIteration") (b := true) ⟨o, ho, hc⟩ isSubtype_stop ?_)
  exact wpAny_pure (hQ _ hk)
end PySem

set_option Elab.async false
set_option linter.all false
set_option maxRecDepth 100000
set_option maxHeartbeats 4000000
namespace L2
open PySem PySem.Spec PyProof.Rows
/-- the tuple at a, each item in a new pair -/
def IteT (K : PySem.W.Frag) (a : Addr) : It :=
  ⟨fun i H => ∃ (xs : List V) (x : V), SqT K H a xs ∧ xs[i]? = some x, fun i H v H' => ∃ T x, v = .ref T ∧ H T = none ∧ H' = upd H T (.tup [.int (i : Nat), x]) ∧ ∀ xs, SqT K H a xs → xs[i]? = some x, fun i H => ∃ xs : List V, SqT K H a xs ∧ xs.length ≤ i⟩
theorem turn_enumT {P : Program} {w : World} {K : PySem.W.Frag} {elts : List Expr} {kk : Nat} {tpos : Pos} (a e it : Addr) :
    Turn P w K (.Tuple elts kk tpos) (IteT K a) [e, it] e (fun i h => (∃ old, IsEnum h e it ((i : Nat) : Int) old) ∧ h.IsTupleIter it a i ∧ e ≠ it) where
  mem := by simp
  obj := fun i h st b hb => by
    obtain ⟨⟨old, he⟩, ⟨o, ho, hc, hd⟩, _⟩ := st
    have e' : b = e ∨ b = it := by simpa using hb
    rcases e' with z | z
    · rw [z]; exact ⟨_, he, fun v q => nomatch q⟩
    · rw [z]; exact ⟨o, ho, fun v q => by rw [hd] at q; cases q⟩
  keep := fun i h h' st k => let ⟨⟨old, he⟩, hi, hne⟩ := st; ⟨⟨old, k e (by simp) _ he⟩, hi.at fun o q => k it (by simp) o q, hne⟩
  item := by
    intro X hP hw hK hc i pins s σ H E I hf st hg
    subst hP hw hK
    obtain ⟨⟨old, he⟩, hit, hne⟩ := st
    obtain ⟨xs, x, hq, hx⟩ := hg
    obtain ⟨its, rv, p, hz⟩ := I.tuple hq
    obtain ⟨u, hu, ru⟩ := rv.get hx
    have hel : e < s.heap.objs.size := Heap.lt_size he
    have hil : it < s.heap.objs.size := by obtain ⟨_, q, _⟩ := hit; exact Heap.lt_size q
    have hT' : s.heap.IsTuple a its.toArray := p
    have nae : e ≠ a := fun z => by
      obtain ⟨o, ho, hc', _⟩ := hT'
      rw [← z] at ho
      have := Option.some.inj (he.symm.trans ho)
      rw [← this] at hc'
      exact absurd (Value.type.inj hc') (by decide)
    have nai : a ≠ it := fun z => by
      obtain ⟨o, ho, hc', _⟩ := hT'
      obtain ⟨o2, ho2, hc2, _⟩ := hit
      rw [z] at ho
      have := Option.some.inj (ho.symm.trans ho2)
      rw [this, hc2] at hc'
      exact absurd (Value.type.inj hc') (by decide)
    have D := Draws.tuple (prog := X.prog) (w := X.w) (A := X.A.in1) (I.ok.hd hc) it a nai its.toArray
    have hul : its.toArray[i]? = some u := by simpa using hu
    have hlt : i < its.toArray.size := (Array.getElem?_eq_some_iff.mp hul).1
    refine wpAny_pyNext_enum_itemD D he ⟨hit, hT'⟩ hlt hne (by simp [hne, nae]) fun y h' tk hy ho hst hT hsz hk => ?_
    have ey : y = u := Option.some.inj (hy.symm.trans hul)
    subst ey
    refine ⟨_, rfl, wpAny_letOwnedTupleGo_enum (s := { s with heap := h', toks := tk + 1 }) ho fun h'' he' sb => ?_⟩
    have hT2 : h''.get? s.heap.objs.size = some { cls := .type "tuple", data := .seq #[.int i tk, y] } := (sb.2 _ (Nat.ne_of_gt hel)).trans hT
    have new : ObjOk X.prog X.w (upd H s.heap.objs.size (.tup [.int (i : Nat), x])) h'' s.heap.objs.size (.tup [.int (i : Nat), x]) :=
      ⟨by show 2 ≤ sizeLine; decide, [.int i tk, y], .cons ⟨_, rfl⟩ (.cons ru .nil), ⟨_, hT2, rfl, _, rfl⟩⟩
    have I1 : Inv X pins σ (upd H s.heap.objs.size (.tup [.int (i : Nat), x])) { s with heap := h'', toks := tk + 1 } :=
      I.turnedNew (ch := [e, it]) (fun b ob hb q => (sb.2 b (fun z => hb (by simp [z]))).trans (hk b ob (fun z => hb (by simp [z])) (fun z => hb (by simp [z])) q)) hf (Nat.le_refl _) new
    refine ⟨.ref s.heap.objs.size, _, I1, rfl, ⟨_, x, rfl, I.hok.fresh (Nat.le_refl _), rfl, fun ys hy => by rw [I.tuple_inj hy hq]; exact hx⟩, ⟨⟨y, ?_⟩, hst.1.at fun o q => (sb.2 it (Ne.symm hne)).trans q, hne⟩, fun b hb => ?_⟩
    · have e1 : ((i + 1 : Nat) : Int) = (i : Int) + 1 := by omega
      rw [e1]; exact he'
    · have hb' : b < s.heap.objs.size := by
        have e' : b = e ∨ b = it := by simpa using hb
        rcases e' with z | z
        · rw [z]; exact hel
        · rw [z]; exact hil
      rw [upd_ne (Nat.ne_of_lt hb')]
      exact (hf b hb).1
  done := by
    intro X hP hw hK hc i pins s σ H E I hf st hg
    subst hP hw hK
    obtain ⟨⟨old, he⟩, hit, hne⟩ := st
    obtain ⟨xs, hq, hx⟩ := hg
    obtain ⟨its, rv, p, hz⟩ := I.tuple hq
    obtain ⟨f0, f1, f2, f3, f4, f5⟩ := hf it (by simp)
    have hl := rv.length
    have hT' : s.heap.IsTuple a its.toArray := p
    have nai : a ≠ it := fun z => by
      obtain ⟨o, ho, hc', _⟩ := hT'
      obtain ⟨o2, ho2, hc2, _⟩ := hit
      rw [z] at ho
      have := Option.some.inj (ho.symm.trans ho2)
      rw [this, hc2] at hc'
      exact absurd (Value.type.inj hc') (by decide)
    have hTn : its.toArray[i]? = none := by simp; omega
    exact enum_endT (I.ok.hd hc) he hit hT' hTn fun h' eb => ⟨rfl, I.turned (t' := s.toks) (fun b o hb q => eb b o hb q) f0 f1 f3 f4 f5⟩
  self := fun A i s Q E st h => let ⟨⟨_, he⟩, _⟩ := st; wpAny_pyIter_enum he h
def iEnumT (K : PySem.W.Frag) (ta : TA) : TI := fun σ H R => ta σ H fun vs H1 => ∃ a xs, vs = [.ref a] ∧ SqT K H1 a xs ∧ R (IteT K a) H1
theorem pi_enumT {X : Cx} {e : Expr} {ta : TA} {p pos tpos : Pos} {elts : List Expr} {kk : Nat} (hg : Gl X "enumerate") (hm : X.mg "enumerate" = none) (ha : PA X [e] ta) (hs : starEach [e] X.env = [(false, eval e X.env)] := by rfl) :
    PI X (.Tuple elts kk tpos) (.Call (.Name "enumerate" p) [e] [] pos) (iEnumT X.K ta) := by
  refine ⟨fun pins s σ H R I h => ?_⟩
  refine Call_ (ld_blt I hg hm boot_enumerate (PyProof.Rows.callWith_type1 (thn (ha.run pos pins s σ H _ I h) fun us s1 ⟨vs, H1, I1, r1, q1⟩ => ?_) hs rfl))
  obtain ⟨a, xs, ex, hq, q⟩ := q1
  subst ex
  cases r1 with
  | cons r rr =>
    cases rr
    cases r
    obtain ⟨its, rv, p', hz⟩ := I1.tuple hq
    refine call_enumerate_tuple (show s1.heap.IsTuple a its.toArray from p') fun h' he hit hsz hk => wpAny_pyIter_enum he ?_
    have I2 : Inv X pins σ H1 { s1 with heap := h' } := I1.kept (t' := s1.toks) hk
    refine ⟨s1.heap.objs.size + 1, [s1.heap.objs.size + 1, s1.heap.objs.size], _, _, H1, rfl, I2, turn_enumT a (s1.heap.objs.size + 1) s1.heap.objs.size, ⟨⟨.none, he⟩, hit, Nat.succ_ne_self _⟩, fun b hb => ?_, q⟩
    have e' : b = s1.heap.objs.size + 1 ∨ b = s1.heap.objs.size := by simpa using hb
    have hle : s1.heap.objs.size ≤ b := by
      rcases e' with z | z
      · rw [z]; exact Nat.le_add_right _ _
      · rw [z]; exact Nat.le_refl _
    exact I1.fpOk hle (I1.hok.fresh hle)
theorem walk_enumT {K : PySem.W.Frag} {a : Addr} {xs : List V} : Walk (IteT K a) xs.length (fun H => SqT K H a xs) (YPair (fun i => some (.int (i : Nat))) (fun i => xs[i]?)) := by
  refine ⟨fun i _ hi q => ⟨xs, xs[i], q, by simp [hi]⟩, fun _ q => ⟨xs, q, Nat.le_refl _⟩, fun i H v H' _ q y => ?_⟩
  obtain ⟨T, x, h1, h2, h3, h4⟩ := y
  exact ⟨T, .int (i : Nat), x, h1, h2, h3, rfl, h4 xs q⟩
/-- the one way or the other -/
def iOr (t1 t2 : TI) : TI := fun σ H R => t1 σ H R ∨ t2 σ H R
theorem pi_or {X : Cx} {tg e : Expr} {t1 t2 : TI} (h1 : PI X tg e t1) (h2 : PI X tg e t2) : PI X tg e (iOr t1 t2) := ⟨fun pins s σ H R I h => h.elim (h1.run pins s σ H R I) (h2.run pins s σ H R I)⟩
end L2

set_option Elab.async false
set_option linter.all false
set_option maxRecDepth 100000
set_option maxHeartbeats 4000000
namespace K28
open PySem PySem.Spec PyProof.Rows L2 Gu Ex
/-- a list or a tuple of whole numbers, also the default () -/
inductive Kept (K : PySem.W.Frag) (H : Hp) (a : Addr) (cs : List Int) : Prop
  | lst (h : H a = some (.lst (cs.map V.int)))
  | tup (h : H a = some (.tup (cs.map V.int)))
  | dft (o : Obj) (n : Nat) (e : cs = []) (h : K.lookup a = some o) (c : o.cls = .type "tuple") (d : o.data = .seq #[] n)
section
variable {K : PySem.W.Frag} {H H' : Hp} {a : Addr} {cs : List Int}
theorem sqT_same {xs : List V} (s : Same H H') (h : SqT K H a xs) : SqT K H' a xs := by
  rcases h with (h | ⟨o, h⟩) | h
  · exact .inl (.inl (s _ _ h))
  · exact .inl (.inr ⟨o, s _ _ h⟩)
  · exact .inr h
theorem Kept.same (h : Kept K H a cs) (s : Same H H') : Kept K H' a cs := by
  cases h with
  | lst h => exact .lst (s _ _ h)
  | tup h => exact .tup (s _ _ h)
  | dft o n e h c d => exact .dft o n e h c d
theorem Kept.seq (h : Kept K H a cs) : SqL K H a (cs.map V.int) ∧ TyX K H (.ref a) (.type "list") ∨ SqT K H a (cs.map V.int) ∧ TyX K H (.ref a) (.type "tuple") := by
  cases h with
  | lst h => exact .inl ⟨SqL.of h, .base (.lst h)⟩
  | tup h => exact .inr ⟨SqT.of h, .base (.tup h)⟩
  | dft o n e h c d =>
    subst e
    exact .inr ⟨.inr ⟨o, #[], n, h, c, d, Nat.zero_le _, .nil⟩, .kTuple h c⟩
end
section
variable {P : Program} {w : World} {K : PySem.W.Frag} {mg : Str → Option Value} {base : Heap} {f : Addr} {fd : FuncData}
def spNums (K : PySem.W.Frag) : Sp := fun vs H Q _ => ∃ (a : Addr) (cs : List Int), vs = [.ref a] ∧ Kept K H a cs ∧ (∀ c ∈ cs, 1 ≤ c ∧ c ≤ 1000000000000) ∧ ∀ H', Same H H' → Q .non H'
theorem sc_check_numbers : FnScope ["value", "position", "cells"] ["value"] (defScope (top 15)) := ⟨rfl, rfl, rfl, by decide +kernel, rfl, by decide +kernel, by decide +kernel⟩
theorem ok_nums (T : Tx K mg) (D_is_cells : Df P w K mg base 2 "is_cells" ["value"] spCells) (F : FnP K "check_numbers" "check_numbers" (top 15) f fd) : FnOk P w K mg base CX0 3 f fd ["value"] (spNums K) := by
  refine F.ok sc_check_numbers (fun vs H Q E h => ?_) (fun cdv A outer s H vs Q E hr h => ⟨_, PSs.nox (pss_cons (ps_if (pt_not (pt_val (pe_callB call_isiT (by rfl) T.n_isinstance (by decide +kernel) (pa_cons (pv 0) (pa_cons (pe_tup (pa_cons (pe_bltn (v := .ty "list") (by rfl) T.n_list (by decide +kernel) rfl) (pa_cons (pe_bltn (v := .ty "tuple") (by rfl) T.n_tuple (by decide +kernel) rfl) pa_nil))) pa_nil))))) (pss_one ps_never) pss_nil) (pss_one (ps_for PassesOwn.never rfl (pi_or (pi_enum rfl T.n_enumerate (pa_cons (pv 0) pa_nil)) (pi_enumT rfl T.n_enumerate (pa_cons (pv 0) pa_nil))) (pg_tup (by rfl) (pgs_cons (pg_name (i := 1) sc_check_numbers.nd rfl (by first | exact Or.inl rfl | exact Or.inr rfl)) (pgs_cons (pg_name (i := 2) sc_check_numbers.nd rfl (by first | exact Or.inl rfl | exact Or.inr rfl)) pgs_nil))) (pss_one (ps_if (pt_not (pt_val (pcall D_is_cells hr (pa_cons (pv 2) pa_nil)))) (pss_one ps_never) pss_nil))))), ?_⟩)
  · obtain ⟨a, cs, rfl, _⟩ := h
    rfl
  · obtain ⟨a, cs, rfl, kp, rg, q⟩ := h
    refine ⟨_, rfl, by show 2 ≤ sizeLine; decide, fun t ht => ?_⟩
    have sm0 : Same H (upd H t (.tup [.ty "list", .ty "tuple"])) := same_upd ht
    have kp0 := kp.same sm0
    have tt : (upd H t (.tup [.ty "list", .ty "tuple"])) t = some (.tup [.ty "list", .ty "tuple"]) := upd_same
    generalize upd H t (.tup [.ty "list", .ty "tuple"]) = H0 at sm0 kp0 tt
    have turn : ∀ (i : Nat) (x1 x2 : Option V) (G : Hp) (T' : Addr) (y2 : V), Same H G → G T' = none → (cs.map V.int)[i]? = some y2 → ∃ c : Int, y2 = .int c ∧ 1 ≤ c ∧ c ≤ 1000000000000 ∧ Same H (upd G T' (.tup [.int (i : Nat), y2])) := by
      intro i x1 x2 G T' y2 sm hT e2
      rw [List.getElem?_map] at e2
      cases e3 : cs[i]? with
      | none => rw [e3] at e2; cases e2
      | some c =>
        rw [e3] at e2
        have r := rg c (List.mem_of_getElem? e3)
        exact ⟨c, (Option.some.inj e2).symm, r.1, r.2, sm.trans (same_upd hT)⟩
    rcases kp0.seq with ⟨sq, ty⟩ | ⟨sq, ty⟩
    · refine ⟨_, t, _, _, [.type "list", .type "tuple"], true, rfl, tt, .cons (.ty "list") (.cons (.ty "tuple") .nil), ty, by rfl, _, rfl, iteF ?_⟩
      refine .inl ⟨_, rfl, a, _, rfl, sq, ?_⟩
      refine for_it (walk_enum (xs := cs.map V.int)) (fun i σ G => Same H0 G ∧ Same H G ∧ (∃ x y, σ = [some (.ref a), x, y])) ⟨Same.refl H0, sm0, none, none, rfl⟩ (fun i σ G _ hh => hh.1.seq sq) ?_ ?_
      · rintro i x σ G G2 hi ⟨s0, sm, ⟨x1, x2, rfl⟩⟩ ⟨T', y1, y2, rfl, hT, rfl, e1, e2⟩
        cases e1
        obtain ⟨c, rfl, c1, c2, sm2⟩ := turn i x1 x2 G T' y2 sm hT e2
        refine ⟨T', _, rfl, .inl (.inl upd_same), rfl, _, _, rfl, _, _, rfl, rfl, ?_⟩
        exact ⟨_, rfl, c, rfl, c1, c2, _, rfl, iteF ⟨s0.trans (same_upd hT), sm2, _, _, rfl⟩⟩
      · rintro σ G ⟨s0, sm, ⟨x1, x2, rfl⟩⟩
        exact q G sm
    · refine ⟨_, t, _, _, [.type "list", .type "tuple"], true, rfl, tt, .cons (.ty "list") (.cons (.ty "tuple") .nil), ty, by rfl, _, rfl, iteF ?_⟩
      refine .inr ⟨_, rfl, a, _, rfl, sq, ?_⟩
      refine for_it (walk_enumT (xs := cs.map V.int)) (fun i σ G => Same H0 G ∧ Same H G ∧ (∃ x y, σ = [some (.ref a), x, y])) ⟨Same.refl H0, sm0, none, none, rfl⟩ (fun i σ G _ hh => ?_) ?_ ?_
      · exact sqT_same hh.1 sq
      · rintro i x σ G G2 hi ⟨s0, sm, ⟨x1, x2, rfl⟩⟩ ⟨T', y1, y2, rfl, hT, rfl, e1, e2⟩
        cases e1
        obtain ⟨c, rfl, c1, c2, sm2⟩ := turn i x1 x2 G T' y2 sm hT e2
        refine ⟨T', _, rfl, .inl (.inl upd_same), rfl, _, _, rfl, _, _, rfl, rfl, ?_⟩
        exact ⟨_, rfl, c, rfl, c1, c2, _, rfl, iteF ⟨s0.trans (same_upd hT), sm2, _, _, rfl⟩⟩
      · rintro σ G ⟨s0, sm, ⟨x1, x2, rfl⟩⟩
        exact q G sm
end
end K28

set_option Elab.async false
set_option linter.all false
set_option maxRecDepth 100000
set_option maxHeartbeats 4000000
namespace Ex
open PySem PySem.Spec PySem.Calls PyProof.Rows L2 Gu
section
variable {X : Cx} {k j : Nat} {c m : Str} {ps : List Str} {dvs : List V} {sp : Sp} {pos apos : Pos} {e o : Expr} {es : List Expr} {t : TA} {ta : TE}
/-- a method called with its defaults -/
structure MfD (P : Program) (w : World) (K : PySem.W.Frag) (mg : Str → Option Value) (base : Heap) (k : Nat) (c m : Str) (ps : List Str) (dvs : List V) (sp : Sp) : Prop where
  ex : ∃ fd ds, FnOk P w K mg base CX0 k (He.ma K (He.ga K c) m) fd ps sp ∧ Vals dvs ds ∧ Binds K fd ps ds
  cl : Cls K (He.ga K c)
  me : Meth K (He.ga K c) m (He.ma K (He.ga K c) m)
theorem pmethD {pl : Sem Bool} (D : MfD X.prog X.w X.K X.mg X.base k c m ps dvs sp) (hr : Room j X.A) (he : PE X o ta) (ha : PA X (e :: es) t) (hj : k ≤ j := by decide)
    (hst : starEach (e :: es) X.env = (false, eval e X.env) :: starEach es X.env := by rfl) (hpl : (backTo pos (starEach es X.env)).any (·.1) = false := by rfl)
    (ht : eval (.Call (.Attribute o m apos) (e :: es) [] pos) X.env = (do
      let ov ← eval o X.env
      standAt apos.atName
      let (f, first) ← holding [ov] (getMethod ov m pl)
      callWith pos f first (backTo pos (starEach (e :: es) X.env)) (backToKw pos (keywordEach [] X.env))) := by rfl) :
    PE X (.Call (.Attribute o m apos) (e :: es) [] pos) (tMeth (He.ga X.K c) m sp dvs E0 ta t) := by
  obtain ⟨fd, ds, F, v, b⟩ := D.ex
  exact pe_meth he D.cl D.me F (hr.mono hj) b v pass0 ha hst hpl ht
end
end Ex
namespace K28
open PySem PySem.Spec PyProof.Rows L2 Gu Ex
def whlI (ns : List Int) (k : Nat) (cs : List Int) : List Int := cs.map fun c => c - c % sz ns k
def slkI (ns : List Int) (n : Int) (bs : List Blk) (k : Nat) (cs : List Int) : Int := clrI ns n bs k - lseI ns bs k - (whlI ns k cs).sum
section
variable {P : Program} {w : World} {K : PySem.W.Frag} {mg : Str → Option Value} {base : Heap} {f : Addr} {fd : FuncData}
def spSlack (K : PySem.W.Frag) : Sp := fun vs H Q _ => ∃ (y zp bl dx : Addr) (ps : List Addr) (ns : List Int) (n : Int) (bs : List Blk) (k : Nat) (a : Addr) (cs : List Int), vs = [.ref y, .int k, .ref a] ∧ Ly K H y zp bl dx ps ns n bs ∧ k < ns.length ∧ Kept K H a cs ∧ (∀ c ∈ cs, 1 ≤ c ∧ c ≤ 1000000000000) ∧ cs.length ≤ 1000 ∧ ∀ H', Same H H' → Q (.int (slkI ns n bs k cs)) H'
theorem sc_slack : FnScope ["self", "level", "kept", "cells", "number"] ["self", "level", "kept"] (defScope (inClass (top 32) 26)) := ⟨rfl, rfl, rfl, by decide +kernel, rfl, by decide +kernel, by decide +kernel⟩
theorem ok_slack {z0 : Addr} (T : Tx K mg) (M_clear_cells : Mf P w K mg base 9 "Layout" "clear_cells" ["self", "level"] (spClear K)) (M_unpinned_cells : Mf P w K mg base 6 "Layout" "unpinned_cells" ["self", "level"] (spLoose K)) (D_check_numbers : Df P w K mg base 3 "check_numbers" ["value"] (spNums K))
    (M_whole : Mf P w K mg base 6 "Sizes" "whole" ["self", "cells", "level"] (spWhole K)) (F : FnK K "slack" "Layout.slack" (inClass (top 32) 26) [("kept", .ref z0)] f fd) : FnOk P w K mg base CX0 10 f fd ["self", "level", "kept"] (spSlack K) := by
  refine F.ok sc_slack (fun vs H Q E h => ?_) (fun cdv A outer s H vs Q E hr h => ⟨_, PSs.nox (pss_cons (ps_set (i := 3) sc_slack.nd rfl (by first | exact Or.inl rfl | exact Or.inr rfl) (pe_op op_sub (pmeth M_clear_cells hr (pv 0) (pa_cons (pv 1) pa_nil)) (pmeth M_unpinned_cells hr (pv 0) (pa_cons (pv 1) pa_nil)))) (pss_cons (ps_expr (pcall D_check_numbers hr (pa_cons (pv 2) pa_nil))) (pss_one (ps_ret (pe_op op_sub (pv 3) (pe_callB (cr_sum rfl) (by rfl) T.n_sum (by decide +kernel) (pa_cons (pe_lc (own := [("number", 4)]) (g := gName 4) rfl sc_slack.nd (pi_or (pi_list (pv 2)) (pi_tup (pv 2))) (blkOk_by (own := [("number", 4)]) (N := ["self", "level", "kept", "cells", "number"]) (sc := defScope (inClass (top 32) 26)) (by decide +kernel)) (fun _ _ _ _ _ => pg_name (i := 4) sc_slack.nd rfl (Or.inl rfl)) (fun _ _ _ _ _ => pts_nil) (fun _ _ _ _ _ => (pmethB K M_whole hr (pfldB K (pv 0)) (pa_cons (pv 4) (pa_cons (pv 1) pa_nil))))) pa_nil))))))), ?_⟩)
  · obtain ⟨y, zp, bl, dx, ps, ns, n, bs, k, a, cs, rfl, _⟩ := h
    rfl
  · obtain ⟨y, zp, bl, dx, ps, ns, n, bs, k, a, cs, rfl, L, hk, kp, rg, cl, q⟩ := h
    have sl : sizeLine = 16777216 := sizeLine_eq
    refine ⟨_, rfl, y, dx, _, rfl, L.at_, lay_nm (by decide +kernel), _, rfl, y, zp, bl, dx, ps, ns, n, bs, k, rfl, L, hk, fun H1 s1 => ?_⟩
    have L1 := L.same s1
    refine ⟨_, rfl, y, dx, _, rfl, L1.at_, lay_nm (by decide +kernel), _, rfl, y, zp, bl, dx, ps, ns, n, bs, k, rfl, L1, hk, fun H2 s2 => ?_⟩
    refine ⟨_, _, rfl, rfl, ?_⟩
    have kp2 := kp.same (s1.trans s2)
    refine ⟨_, rfl, a, cs, rfl, kp2, rg, fun H3 s3 => ?_⟩
    have sH := (s1.trans s2).trans s3
    have kp3 := kp2.same s3
    refine ⟨_, rfl, ?_⟩
    have turn : ∀ (D : Addr) (hD : H3 D = none) (i : Nat) (x : V) (G : Hp), (cs.map V.int)[i]? = some x → (G D = some (.lst ((whlI ns k (cs.take i)).map V.int)) ∧ Same H3 G) → ∃ c, x = .int c ∧ 1 ≤ c ∧ c ≤ 1000000000000 ∧ ∃ acc, G D = some (.lst acc) ∧ acc.length < sizeLine ∧ (upd G D (.lst (acc ++ [.int (c - c % sz ns k)]))) D = some (.lst ((whlI ns k (cs.take (i + 1))).map V.int)) ∧ Same H3 (upd G D (.lst (acc ++ [.int (c - c % sz ns k)]))) := by
      rintro D hD i x G hx ⟨hG, sm⟩
      rw [List.getElem?_map] at hx
      cases e3 : cs[i]? with
      | none => rw [e3] at hx; cases hx
      | some c =>
        rw [e3] at hx
        have r := rg c (List.mem_of_getElem? e3)
        have il := (List.getElem?_eq_some_iff.mp e3).1
        refine ⟨c, (Option.some.inj hx).symm, r.1, r.2, _, hG, (by unfold whlI; rw [List.length_map, List.length_map, List.length_take]; omega), ?_, fun c o e => ?_⟩
        · rw [upd_same, take_at e3]
          unfold whlI
          rw [List.map_append, List.map_append]
          rfl
        · rw [upd_ne (ne_of_none e hD)]
          exact sm c o e
    have z1 := (chain L.gd).pos _ hk
    rcases kp3.seq with ⟨sq, _⟩ | ⟨sq, _⟩
    · refine .inl ⟨_, rfl, a, rfl, ⟨_, sq⟩, fun D hD => ?_⟩
      refine lc_list (K := K) (a := a) (xs := cs.map V.int) (fun i G => G D = some (.lst ((whlI ns k (cs.take i)).map V.int)) ∧ Same H3 G) ⟨upd_same, same_upd hD⟩ (fun i G _ ⟨_, sm⟩ => sm.seq sq) ?_ ?_
      · rintro i x G hx hh
        obtain ⟨c, rfl, c1, c2, fin⟩ := turn D hD i x G hx hh
        have LG := L.same (sH.trans hh.2)
        obtain ⟨dz, l, z3, z4⟩ := id LG.szs
        refine ⟨rfl, _, rfl, y, _, dx, _, _, rfl, LG.at_, T.ly, T.nST, lay_st .., zp, dz, _, rfl, z3, szF_no l (by decide +kernel), _, rfl, _, rfl, zp, ns, k, _, c, rfl, LG.szs, sz_at hk, z1, c1, c2, fin⟩
      · rintro G ⟨hG, sm⟩
        rw [List.length_map, List.take_length] at hG
        exact ⟨D, _, rfl, SqL.of hG, _, _, rfl, rfl, q G (sH.trans sm)⟩
    · refine .inr ⟨_, rfl, a, rfl, ⟨_, sq⟩, fun D hD => ?_⟩
      refine lc_tup (K := K) (a := a) (xs := cs.map V.int) (fun i G => G D = some (.lst ((whlI ns k (cs.take i)).map V.int)) ∧ Same H3 G) ⟨upd_same, same_upd hD⟩ (fun i G _ ⟨_, sm⟩ => sqT_same sm sq) ?_ ?_
      · rintro i x G hx hh
        obtain ⟨c, rfl, c1, c2, fin⟩ := turn D hD i x G hx hh
        have LG := L.same (sH.trans hh.2)
        obtain ⟨dz, l, z3, z4⟩ := id LG.szs
        refine ⟨rfl, _, rfl, y, _, dx, _, _, rfl, LG.at_, T.ly, T.nST, lay_st .., zp, dz, _, rfl, z3, szF_no l (by decide +kernel), _, rfl, _, rfl, zp, ns, k, _, c, rfl, LG.szs, sz_at hk, z1, c1, c2, fin⟩
      · rintro G ⟨hG, sm⟩
        rw [List.length_map, List.take_length] at hG
        exact ⟨D, _, rfl, SqL.of hG, _, _, rfl, rfl, q G (sH.trans sm)⟩
end
end K28

set_option Elab.async false
set_option linter.all false
set_option maxRecDepth 100000
set_option maxHeartbeats 4000000
namespace K28
open PySem PySem.Spec PyProof.Rows L2 Gu Ex
/-- the run at a, the level and where it ends -/
abbrev lv (ns : List Int) (hi a : Int) : Nat := M16.L (sz ns) ns.length hi a
abbrev eN (ns : List Int) (hi a : Int) : Int := M16.en (sz ns) ns.length hi a
section
variable {P : Program} {w : World} {K : PySem.W.Frag} {mg : Str → Option Value} {base : Heap} {f : Addr} {fd : FuncData}
def spHigh (K : PySem.W.Frag) : Sp := fun vs H Q _ => ∃ (p : Addr) (ns : List Int) (a e : Int), vs = [.ref p, .int a, .int e] ∧ SzAt (He.ga K "Sizes") H p ns ∧ Good ns ∧ a < e ∧ Q (.int (lv ns e a)) H
theorem sc_highest_level_at : FnScope ["sizes", "low", "high", "level"] ["sizes", "low", "high"] (defScope (top 28)) := ⟨rfl, rfl, rfl, by decide +kernel, rfl, by decide +kernel, by decide +kernel⟩
theorem ok_high (T : Tx K mg) (P_top : Pf P w K mg base 1 "Sizes" "top" (spTop K)) (D_lies_below : Df P w K mg base 6 "lies_below" ["sizes", "level", "address", "end"] (spBelow K)) (F : FnP K "highest_level_at" "highest_level_at" (top 28) f fd) :
    FnOk P w K mg base CX0 7 f fd ["sizes", "low", "high"] (spHigh K) := by
  refine F.ok sc_highest_level_at (fun vs H Q E h => ?_) (fun cdv A outer s H vs Q E hr h => ⟨_, PSs.nox (pss_cons (ps_set (i := 3) sc_highest_level_at.nd rfl (by first | exact Or.inl rfl | exact Or.inr rfl) (pprop P_top hr (pv 0))) (pss_cons (ps_while PassesOwn.never (pt_not (pt_val (pcall D_lies_below hr (pa_cons (pv 0) (pa_cons (pv 3) (pa_cons (pv 1) (pa_cons (pv 2) pa_nil))))))) (pss_one (ps_aug (i := 3) sc_highest_level_at.nd rfl (by first | exact Or.inl rfl | exact Or.inr rfl) pe_int ip_sub))) (pss_one (ps_ret (pv 3))))), ?_⟩)
  · obtain ⟨p, ns, a, e, rfl, _⟩ := h
    rfl
  · obtain ⟨p, ns, a, e, rfl, hz, g, hlt, q⟩ := h
    obtain ⟨dx, l, h1, h2⟩ := id hz
    have c := chain g
    have l1 := g.len.1
    refine ⟨_, rfl, p, dx, _, rfl, h1, p, ns, rfl, hz, ?_⟩
    refine ⟨fun m σ G => ∃ n : Nat, m = n ∧ n < ns.length ∧ G = H ∧ σ = [some (.ref p), some (.int a), some (.int e), some (.int (n : Nat))] ∧ lv ns e a = M16.lev (sz ns) e a n, ⟨ns.length - 1, ns.length - 1, rfl, by omega, rfl, ?_, rfl⟩, ?_⟩
    · rw [show ((ns.length : Int) - 1) = ((ns.length - 1 : Nat) : Int) by omega]
      rfl
    · rintro m σ G ⟨n, rfl, hn, rfl, rfl, hl⟩
      refine ⟨_, rfl, _, rfl, _, rfl, _, rfl, p, ns, m, _, a, e, rfl, hz, sz_at hn, c.pos _ hn, _, rfl, ?_⟩
      by_cases hs : a % sz ns m = 0 ∧ a + sz ns m ≤ e
      · refine ifF (by rw [decide_eq_true hs]; rfl) ⟨_, rfl, ?_⟩
        have e1 : M16.lev (sz ns) e a m = m := by
          cases m with
          | zero => rfl
          | succ k => exact if_pos hs
        rw [hl, e1] at q
        exact q
      · refine ifT (by rw [decide_eq_false hs]; rfl) ?_
        cases m with
        | zero => exact absurd (M16.lies0 c hlt) hs
        | succ k =>
          refine ⟨fun σ' G' => ∃ n : Nat, n = k ∧ n < ns.length ∧ G' = G ∧ σ' = [some (.ref p), some (.int a), some (.int e), some (.int (n : Nat))] ∧ lv ns e a = M16.lev (sz ns) e a n, fun σ' G' ⟨n, e0, r⟩ => ⟨n, by omega, n, rfl, r⟩, ?_⟩
          refine ⟨_, rfl, _, _, rfl, rfl, k, rfl, by omega, rfl, ?_, ?_⟩
          · show [some (V.ref p), some (V.int a), some (V.int e), some (V.int (((k + 1 : Nat) : Int) - 1))] = _
            rw [show (((k + 1 : Nat) : Int) - 1) = ((k : Nat) : Int) by omega]
          · rw [hl]
            exact if_neg hs
def spFRun (K : PySem.W.Frag) : Sp := fun vs H Q _ => ∃ (p : Addr) (ns : List Int) (a e : Int), vs = [.ref p, .int a, .int e] ∧ SzAt (He.ga K "Sizes") H p ns ∧ Good ns ∧ 0 ≤ a ∧ a < e ∧ ∀ t, H t = none → Q (.ref t) (upd H t (.tup [.int (lv ns e a), .int (eN ns e a)]))
theorem cntI_pos {z a b : Int} (hz : 1 ≤ z) : 0 < cntI z a b ↔ M16.nx z a + z ≤ b := by
  have h := M16.cnt_pos (z := z) (a := a) (b := b) hz
  have e : cntI z a b = if ((b - b % z) - M16.nx z a) / z > 0 then ((b - b % z) - M16.nx z a) / z else 0 := rfl
  rw [e, ← h]
  split <;> omega
theorem sc_first_run : FnScope ["sizes", "low", "high", "level"] ["sizes", "low", "high"] (defScope (top 29)) := ⟨rfl, rfl, rfl, by decide +kernel, rfl, by decide +kernel, by decide +kernel⟩
theorem ok_frun (T : Tx K mg) (P_top : Pf P w K mg base 1 "Sizes" "top" (spTop K)) (M_size : Mf P w K mg base 5 "Sizes" "size" ["self", "level"] (spSize K)) (D_highest_level_at : Df P w K mg base 7 "highest_level_at" ["sizes", "low", "high"] (spHigh K))
    (D_count_regions : Df P w K mg base 7 "count_regions" ["sizes", "level", "low", "high"] (spCount K)) (D_next_start : Df P w K mg base 1 "next_start" ["size", "address"] spNext) (D_region_start : Df P w K mg base 6 "region_start" ["sizes", "level", "address"] (spStart K))
    (F : FnP K "first_run" "first_run" (top 29) f fd) : FnOk P w K mg base CX0 8 f fd ["sizes", "low", "high"] (spFRun K) := by
  refine F.ok sc_first_run (fun vs H Q E h => ?_) (fun cdv A outer s H vs Q E hr h => ⟨_, PSs.nox (pss_cons (ps_set (i := 3) sc_first_run.nd rfl (by first | exact Or.inl rfl | exact Or.inr rfl) (pcall D_highest_level_at hr (pa_cons (pv 0) (pa_cons (pv 1) (pa_cons (pv 2) pa_nil))))) (pss_cons (ps_if (PW.pt (pw_and (pt_cmpR op_lt (pv 3) (pprop P_top hr (pv 0)) (nomark _)) (pw_and1 (pt_cmpR op_gt (pcall D_count_regions hr (pa_cons (pv 0) (pa_cons (pe_op op_add (pv 3) pe_int) (pa_cons (pv 1) (pa_cons (pv 2) pa_nil))))) pe_int (nomark _))))) (pss_one (ps_ret (pe_tup (pa_cons (pv 3) (pa_cons (pcall D_next_start hr (pa_cons (pmeth M_size hr (pv 0) (pa_cons (pe_op op_add (pv 3) pe_int) pa_nil)) (pa_cons (pv 1) pa_nil))) pa_nil))))) pss_nil) (pss_one (ps_ret (pe_tup (pa_cons (pv 3) (pa_cons (pcall D_region_start hr (pa_cons (pv 0) (pa_cons (pv 3) (pa_cons (pv 2) pa_nil)))) pa_nil))))))), ?_⟩)
  · obtain ⟨p, ns, a, e, rfl, _⟩ := h
    rfl
  · obtain ⟨p, ns, a, e, rfl, hz, g, a0, hlt, q⟩ := h
    obtain ⟨dx, l, h1, h2⟩ := id hz
    have c := chain g
    have two : 2 ≤ sizeLine := by decide
    have lm : lv ns e a < ns.length := M16.L_lt c
    refine ⟨_, rfl, _, rfl, _, rfl, p, ns, a, e, rfl, hz, g, hlt, ?_⟩
    refine ⟨_, rfl, _, rfl, p, dx, _, rfl, h1, p, ns, rfl, hz, _, _, rfl, rfl, _, rfl, ?_⟩
    have last : ¬ (lv ns e a + 1 < ns.length ∧ M16.nx (sz ns (lv ns e a + 1)) a + sz ns (lv ns e a + 1) ≤ e) → eN ns e a = e - e % sz ns (lv ns e a) := M16.en2
    by_cases hk : ((lv ns e a : Nat) : Int) < (ns.length : Int) - 1
    · have k1 : lv ns e a + 1 < ns.length := by omega
      have z1 := c.pos _ k1
      have z2 := sz_le g k1
      refine ifT (decide_eq_true hk) ⟨_, rfl, _, rfl, _, _, rfl, rfl, _, rfl, _, rfl, p, ns, lv ns e a + 1, _, a, e, rfl, hz, sz_at k1, z1, z2, a0, by omega, _, _, rfl, rfl, _, rfl, ?_⟩
      by_cases hc : 0 < cntI (sz ns (lv ns e a + 1)) a e
      · refine ifT (decide_eq_true hc) ⟨_, rfl, _, rfl, p, dx, _, rfl, h1, szF_no l (by decide +kernel), _, rfl, _, _, rfl, rfl, p, ns, lv ns e a + 1, _, rfl, hz, sz_at k1, _, rfl, _, a, rfl, z1, z2, two, fun t ht => ?_⟩
        have e1 : eN ns e a = M16.nx (sz ns (lv ns e a + 1)) a := M16.en1 ⟨k1, (cntI_pos z1).mp hc⟩
        have r := q t ht
        rw [e1] at r
        exact r
      · refine ifF (decide_eq_false hc) ⟨_, rfl, _, rfl, _, rfl, _, rfl, p, ns, lv ns e a, _, e, rfl, hz, sz_at lm, c.pos _ lm, by omega, two, fun t ht => ?_⟩
        have r := q t ht
        rw [last fun y => hc ((cntI_pos z1).mpr y.2)] at r
        exact r
    · refine ifF (decide_eq_false hk) (iteF ⟨_, rfl, _, rfl, _, rfl, _, rfl, p, ns, lv ns e a, _, e, rfl, hz, sz_at lm, c.pos _ lm, by omega, two, fun t ht => ?_⟩)
      have r := q t ht
      rw [last fun y => hk (by omega)] at r
      exact r
end
/-- a run as a tuple -/
def runV (t : M16.Run) : List V := [.int (t.1 : Nat), .int t.2.1, .int t.2.2]
def runD (t : M16.Run) : PyData := .tuple [.int (t.1 : Nat), .int t.2.1, .int t.2.2]
/-- the tuples of runs at these addresses -/
inductive Tups (H : Hp) : List Addr → List M16.Run → Prop
  | nil : Tups H [] []
  | cons {p : Addr} {ps : List Addr} {t : M16.Run} {ts : List M16.Run} : H p = some (.tup (runV t)) → Tups H ps ts → Tups H (p :: ps) (t :: ts)
section
variable {H H' : Hp} {ps : List Addr} {ts : List M16.Run}
theorem Tups.mono (h : Tups H ps ts) (k : ∀ p xs, H p = some (.tup xs) → H' p = some (.tup xs)) : Tups H' ps ts := by
  induction h with
  | nil => exact .nil
  | cons a _ ih => exact .cons (k _ _ a) ih
theorem Tups.same (h : Tups H ps ts) (k : Same H H') : Tups H' ps ts := h.mono fun p xs e => k p _ e
theorem Tups.snoc {p : Addr} {t : M16.Run} (h : Tups H ps ts) (a : H p = some (.tup (runV t))) : Tups H (ps ++ [p]) (ts ++ [t]) := by
  induction h with
  | nil => exact .cons a .nil
  | cons b _ ih => exact .cons b ih
theorem Tups.len (h : Tups H ps ts) : ps.length = ts.length := by
  induction h with
  | nil => rfl
  | cons _ _ ih => rw [List.length_cons, List.length_cons, ih]
theorem Tups.get (h : Tups H ps ts) : ∀ {i : Nat} {p : Addr}, ps[i]? = some p → ∃ t, ts[i]? = some t ∧ H p = some (.tup (runV t)) := by
  induction h with
  | nil => intro i p e; cases e
  | cons a _ ih =>
    intro i p e
    cases i with
    | zero =>
      cases e
      exact ⟨_, rfl, a⟩
    | succ i => exact ih e
end
section
variable {P : Program} {w : World} {K : PySem.W.Frag} {mg : Str → Option Value} {base : Heap} {f : Addr} {fd : FuncData}
abbrev Rs (ns : List Int) (hi a : Int) : List M16.Run := M16.R (sz ns) ns.length hi a
def spMax (K : PySem.W.Frag) : Sp := fun vs H Q _ => ∃ (p : Addr) (ns : List Int) (lo hi : Int), vs = [.ref p, .int lo, .int hi] ∧ SzAt (He.ga K "Sizes") H p ns ∧ Good ns ∧ 0 ≤ lo ∧ lo ≤ hi ∧
  ∀ L ps H', H L = none → Same H H' → H' L = some (.lst (ps.map V.ref)) → Tups H' ps (Rs ns hi lo) → Q (.ref L) H'
theorem sc_maximal_runs : FnScope ["sizes", "low", "high", "runs", "address", "level", "end"] ["sizes", "low", "high"] (defScope (top 30)) := ⟨rfl, rfl, rfl, by decide +kernel, rfl, by decide +kernel, by decide +kernel⟩
theorem ok_max (T : Tx K mg) (D_check_range : Df P w K mg base 3 "check_range" ["low", "high"] spRange) (M_size : Mf P w K mg base 5 "Sizes" "size" ["self", "level"] (spSize K)) (D_first_run : Df P w K mg base 8 "first_run" ["sizes", "low", "high"] (spFRun K))
    (F : FnP K "maximal_runs" "maximal_runs" (top 30) f fd) : FnOk P w K mg base CX0 9 f fd ["sizes", "low", "high"] (spMax K) := by
  refine F.ok sc_maximal_runs (fun vs H Q E h => ?_) (fun cdv A outer s H vs Q E hr h => ⟨_, PSs.nox (pss_cons (ps_expr (pcall D_check_range hr (pa_cons (pv 1) (pa_cons (pv 2) pa_nil)))) (pss_cons (ps_set (i := 3) sc_maximal_runs.nd rfl (by first | exact Or.inl rfl | exact Or.inr rfl) (pe_lst pa_nil)) (pss_cons (ps_set (i := 4) sc_maximal_runs.nd rfl (by first | exact Or.inl rfl | exact Or.inr rfl) (pv 1)) (pss_cons (ps_while PassesOwn.never (pt_cmpR op_lt (pv 4) (pv 2) (nomark _)) (pss_cons (ps_asg (pcall D_first_run hr (pa_cons (pv 0) (pa_cons (pv 4) (pa_cons (pv 2) pa_nil)))) (pg_tup (by rfl) (pgs_cons (pg_name (i := 5) sc_maximal_runs.nd rfl (by first | exact Or.inl rfl | exact Or.inr rfl)) (pgs_cons (pg_name (i := 6) sc_maximal_runs.nd rfl (by first | exact Or.inl rfl | exact Or.inr rfl)) pgs_nil)))) (pss_cons (ps_expr (pe_bm PySem.F.plainAttrs_list PySem.F.slot_list_append PySem.F.type_list_append mt_append (pv 3) (pa_cons (pe_tup (pa_cons (pv 5) (pa_cons (pv 4) (pa_cons (pe_op op_fdivW (pe_op op_sub (pv 6) (pv 4)) (pmeth M_size hr (pv 0) (pa_cons (pv 5) pa_nil))) pa_nil)))) pa_nil))) (pss_one (ps_set (i := 4) sc_maximal_runs.nd rfl (by first | exact Or.inl rfl | exact Or.inr rfl) (pv 6)))))) (pss_one (ps_ret (pv 3))))))), ?_⟩)
  · obtain ⟨p, ns, a, e, rfl, _⟩ := h
    rfl
  · obtain ⟨p, ns, lo, hi, rfl, hz, g, a0, hlt, q⟩ := h
    have c := chain g
    have sl : sizeLine = 16777216 := sizeLine_eq
    refine ⟨_, rfl, _, rfl, lo, hi, rfl, a0, hlt, ?_⟩
    refine ⟨Nat.zero_le _, fun L hL => ⟨_, rfl, ?_⟩⟩
    have short : ∀ {done : List M16.Run} {a : Int}, Rs ns hi lo = done ++ Rs ns hi a → done.length ≤ 16 := fun {done a} e => by
      have l := M16.R_short (s := sz ns) (a := lo) (hi := hi) c g.len.2
      have l2 := congrArg List.length e
      rw [List.length_append] at l2
      have : (Rs ns hi lo).length ≤ 16 := l
      omega
    refine ⟨fun m σ G => ∃ (a : Int) (ps : List Addr) (done : List M16.Run) (x y : Option V), m = (hi - a).toNat ∧ σ = [some (.ref p), some (.int lo), some (.int hi), some (.ref L), some (.int a), x, y] ∧ Same H G ∧ G L = some (.lst (ps.map V.ref)) ∧ Tups G ps done ∧ M16.Mid (sz ns) ns.length hi lo a done,
      ⟨_, lo, [], [], none, none, rfl, rfl, same_upd hL, upd_same, .nil, M16.mid0 c hlt⟩, ?_⟩
    rintro m σ G ⟨a, ps, done, x, y, rfl, rfl, sm, hG, tp, M⟩
    refine ⟨_, rfl, _, rfl, _, _, rfl, rfl, _, rfl, ?_⟩
    by_cases hc : a < hi
    · refine ifT (decide_eq_true hc) ?_
      have la := M.lo_le
      have zG := hz.same sm
      refine ⟨fun σ' G' => ∃ (ps : List Addr) (done : List M16.Run) (x y : Option V), σ' = [some (.ref p), some (.int lo), some (.int hi), some (.ref L), some (.int (eN ns hi a)), x, y] ∧ Same H G' ∧ G' L = some (.lst (ps.map V.ref)) ∧ Tups G' ps done ∧ M16.Mid (sz ns) ns.length hi lo (eN ns hi a) done,
        fun σ' G' ⟨ps, done, x, y, r⟩ => ⟨_, (by have gg : a < eN ns hi a := M16.en_gt c hc; show (hi - eN ns hi a).toNat < _; omega), eN ns hi a, ps, done, x, y, rfl, r⟩, ?_⟩
      refine ⟨_, rfl, _, rfl, _, rfl, p, ns, a, hi, rfl, zG, g, by omega, hc, fun t ht => ?_⟩
      refine ⟨t, _, rfl, .inl (.inl upd_same), rfl, _, _, rfl, _, _, rfl, rfl, ?_⟩
      have sm1 := same_upd (o := .tup [.int (lv ns hi a), .int (eN ns hi a)]) ht
      have hG1 := sm1 _ _ hG
      have zG1 := zG.same sm1
      generalize (upd G t (.tup [.int (lv ns hi a), .int (eN ns hi a)])) = G1 at sm1 hG1 zG1 ⊢
      obtain ⟨dx, l, h1, h2⟩ := id zG1
      have lm : lv ns hi a < ns.length := M16.L_lt c
      refine ⟨_, rfl, .inl ⟨rfl, _, SqL.of hG1⟩, ?_⟩
      refine ⟨_, rfl, _, rfl, _, rfl, _, rfl, _, _, rfl, rfl, _, rfl, p, dx, _, rfl, h1, szF_no l (by decide +kernel), _, rfl, p, ns, lv ns hi a, _, rfl, zG1, sz_at lm, _, _, rfl, rfl, div_ok (c.pos _ lm) (sz_le g lm), (by show 3 ≤ sizeLine; decide), fun t2 ht2 => ?_⟩
      have nL : L ≠ t2 := ne_of_none hG1 ht2
      have hl := short M.eq
      refine ⟨L, _, _, rfl, rfl, (by rw [upd_ne nL]; exact hG1), (by rw [List.length_map, tp.len]; omega), ?_⟩
      have tp2 : Tups (upd (upd G1 t2 (.tup (runV (M16.run (sz ns) ns.length hi a)))) L (.lst (ps.map V.ref ++ [.ref t2]))) (ps ++ [t2]) (done ++ [M16.run (sz ns) ns.length hi a]) := by
        refine Tups.snoc ((tp.same sm1).mono fun b xs e => ?_) ?_
        · rw [upd_ne (fun z => by rw [z, hG1] at e; cases e), upd_ne (ne_of_none e ht2)]
          exact e
        · rw [upd_ne nL.symm, upd_same]
      refine ⟨_, rfl, ps ++ [t2], _, _, _, rfl, fun b o e => ?_, ?_, tp2, M.next c hc⟩
      · rw [upd_ne (ne_of_none e hL), upd_ne (ne_of_none (sm1 _ _ (sm b o e)) ht2)]
        exact sm1 _ _ (sm b o e)
      · rw [upd_same, List.map_append]
        rfl
    · refine ifF (decide_eq_false hc) ⟨_, rfl, q L ps G hL sm hG ?_⟩
      have e := M.eq
      rw [M16.R_end hc, List.append_nil] at e
      show Tups G ps (M16.R (sz ns) ns.length hi lo)
      rw [e]
      exact tp
end
end K28

set_option Elab.async false
set_option linter.all false
set_option maxRecDepth 100000
set_option maxHeartbeats 4000000
namespace K28
open PySem PySem.Spec PyProof.Rows L2 Gu Ex
def cn (p : Nat → Bool) : Nat → Nat
  | 0 => 0
  | m + 1 => cn p m + (if p m = true then 1 else 0)
theorem cn_congr {p q : Nat → Bool} : ∀ {m : Nat}, (∀ i, i < m → p i = q i) → cn p m = cn q m
  | 0, _ => rfl
  | m + 1, h => by
    show cn p m + _ = cn q m + _
    rw [cn_congr (m := m) fun i hi => h i (by omega), h m (by omega)]
theorem cn_or {p q r : Nat → Bool} : ∀ {m : Nat}, (∀ i, i < m → p i = (q i || r i)) → (∀ i, i < m → q i = true → r i = false) → cn p m = cn q m + cn r m
  | 0, _, _ => rfl
  | m + 1, h, h2 => by
    show cn p m + _ = (cn q m + _) + (cn r m + _)
    rw [cn_or (m := m) (fun i hi => h i (by omega)) (fun i hi => h2 i (by omega)), h m (by omega)]
    have h3 := h2 m (by omega)
    cases e : q m with
    | true =>
      rw [h3 e]
      simp
      omega
    | false =>
      simp
      omega
theorem cn_le {p q : Nat → Bool} : ∀ {m : Nat}, (∀ i, i < m → p i = true → q i = true) → cn p m ≤ cn q m
  | 0, _ => Nat.le_refl _
  | m + 1, h => by
    show cn p m + _ ≤ cn q m + _
    have ih := cn_le (m := m) fun i hi => h i (by omega)
    have h3 := h m (by omega)
    cases e : p m with
    | true =>
      rw [h3 e]
      simp
      omega
    | false =>
      simp
      omega
theorem cn_zero {p : Nat → Bool} : ∀ {m : Nat}, (∀ i, i < m → p i = false) → cn p m = 0
  | 0, _ => rfl
  | m + 1, h => by
    show cn p m + _ = 0
    rw [cn_zero (m := m) fun i hi => h i (by omega), h m (by omega)]
    rfl
theorem cn_seg {A B : Int} (hA : 0 ≤ A) : ∀ m : Nat, ((cn (fun i => decide (A ≤ (i : Int)) && decide ((i : Int) < B)) m : Nat) : Int) = if min B (m : Int) - A > 0 then min B (m : Int) - A else 0
  | 0 => by
    show (0 : Int) = _
    rw [if_neg (by omega)]
  | m + 1 => by
    show ((cn _ m + _ : Nat) : Int) = _
    rw [Int.natCast_add, cn_seg hA m]
    by_cases h1 : A ≤ (m : Int)
    · by_cases h2 : (m : Int) < B
      · rw [if_pos (show (decide (A ≤ (m : Int)) && decide ((m : Int) < B)) = true by rw [decide_eq_true h1, decide_eq_true h2]; rfl)]
        split <;> split <;> omega
      · rw [if_neg (show ¬ (decide (A ≤ (m : Int)) && decide ((m : Int) < B)) = true by rw [decide_eq_false h2, Bool.and_false]; exact Bool.false_ne_true)]
        split <;> split <;> omega
    · rw [if_neg (show ¬ (decide (A ≤ (m : Int)) && decide ((m : Int) < B)) = true by rw [decide_eq_false h1, Bool.false_and]; exact Bool.false_ne_true)]
      split <;> split <;> omega
theorem up_iff {s b i : Int} (hs : 1 ≤ s) : M15.C s b ≤ i ↔ b ≤ i * s := by
  unfold M15.C
  have h : (b + s - 1) / s < i + 1 ↔ b + s - 1 < (i + 1) * s := Int.ediv_lt_iff_lt_mul (by omega)
  rw [Int.add_mul, Int.one_mul] at h
  omega
theorem dn_iff {s e i : Int} (hs : 1 ≤ s) : i < e / s ↔ i * s + s ≤ e := by
  have h : i + 1 ≤ e / s ↔ (i + 1) * s ≤ e := Int.le_ediv_iff_mul_le (by omega)
  rw [Int.add_mul, Int.one_mul] at h
  omega
def inG (s lo hi : Int) (i : Nat) : Bool := decide (lo ≤ (i : Int) * s) && decide ((i : Int) * s + s ≤ hi)
theorem cntI_is {s a b : Int} (hs : 1 ≤ s) : cntI s a b = M15.cntM s a b := by
  unfold cntI M15.cntM nextI
  rw [M15.quot_is hs]
theorem inG_cn {s lo hi : Int} {m : Nat} (hs : 1 ≤ s) (h0 : 0 ≤ lo) (hm : hi / s ≤ (m : Int)) : ((cn (inG s lo hi) m : Nat) : Int) = cntI s lo hi := by
  have e : cn (inG s lo hi) m = cn (fun i => decide (M15.C s lo ≤ (i : Int)) && decide ((i : Int) < hi / s)) m := cn_congr fun i _ => by
    unfold inG
    rw [decide_eq_decide.mpr (up_iff (b := lo) (i := (i : Int)) hs), decide_eq_decide.mpr (dn_iff (e := hi) (i := (i : Int)) hs)]
  have c0 : 0 ≤ M15.C s lo := by
    unfold M15.C
    exact Int.ediv_nonneg (by omega) (by omega)
  rw [e, cn_seg c0, cntI_is hs, show min (hi / s) (m : Int) = hi / s by omega]
  rfl
def Ord (n : Int) : Int → List (Int × Int) → Prop
  | low, [] => low ≤ n
  | low, r :: rs => low ≤ r.1 ∧ r.1 ≤ r.2 ∧ Ord n r.2 rs
theorem Ord.le {n : Int} : ∀ {rs : List (Int × Int)} {low : Int}, Ord n low rs → low ≤ n ∧ ∀ r ∈ rs, low ≤ r.1
  | [], low, h => ⟨h, fun _ m => nomatch m⟩
  | r :: rs, low, ⟨h1, h2, h3⟩ => by
    obtain ⟨i1, i2⟩ := Ord.le h3
    refine ⟨by omega, fun x hx => ?_⟩
    rcases List.mem_cons.mp hx with e | e
    · rw [e]; exact h1
    · have := i2 x e
      omega
def offR (s : Int) (i : Nat) (r : Int × Int) : Bool := decide ((i : Int) * s + s ≤ r.1) || decide (r.2 ≤ (i : Int) * s)
theorem gaps_cn {n s : Int} {m : Nat} (hs : 1 ≤ s) (hm : n / s ≤ (m : Int)) : ∀ {rs : List (Int × Int)} {low : Int}, 0 ≤ low → Ord n low rs → ((gapsI n low rs).map fun g => cntI s g.1 g.2).sum = ((cn (fun i => inG s low n i && rs.all (offR s i)) m : Nat) : Int)
  | [], low, h0, ho => by
    have e : cn (fun i => inG s low n i && ([] : List (Int × Int)).all (offR s i)) m = cn (inG s low n) m := cn_congr fun i _ => by simp
    rw [e]
    show ((if low < n then [(low, n)] else []).map fun g => cntI s g.1 g.2).sum = _
    by_cases hc : low < n
    · rw [if_pos hc, inG_cn hs h0 hm]
      simp
    · rw [if_neg hc, cn_zero fun i _ => ?_]
      · rfl
      · unfold inG
        by_cases h1 : low ≤ (i : Int) * s
        · rw [decide_eq_false (show ¬ (i : Int) * s + s ≤ n by have : low ≤ n := ho; omega), Bool.and_false]
        · rw [decide_eq_false h1, Bool.false_and]
  | r :: rs, low, h0, ⟨h1, h2, h3⟩ => by
    obtain ⟨o1, o2⟩ := Ord.le h3
    have ih := gaps_cn hs hm (rs := rs) (low := r.2) (by omega) h3
    have dv : r.1 / s ≤ (m : Int) := Int.le_trans (Int.ediv_le_ediv (by omega) (by omega)) hm
    have spl : cn (fun i => inG s low n i && (r :: rs).all (offR s i)) m = cn (inG s low r.1) m + cn (fun i => inG s r.2 n i && rs.all (offR s i)) m := by
      refine cn_or (fun i _ => ?_) (fun i _ hq => ?_)
      · by_cases ha : (i : Int) * s + s ≤ r.1
        · have al : rs.all (offR s i) = true := List.all_eq_true.mpr fun x hx => by
            have := o2 x hx
            unfold offR
            rw [decide_eq_true (show (i : Int) * s + s ≤ x.1 by omega)]
            rfl
          rw [List.all_cons, al]
          unfold inG offR
          rw [decide_eq_true ha, decide_eq_true (show (i : Int) * s + s ≤ n by omega), decide_eq_false (show ¬ r.2 ≤ (i : Int) * s by omega)]
          simp
        · rw [List.all_cons]
          unfold inG offR
          rw [decide_eq_false ha]
          by_cases hb : r.2 ≤ (i : Int) * s
          · rw [decide_eq_true hb, decide_eq_true (show low ≤ (i : Int) * s by omega)]
            simp
          · rw [decide_eq_false hb]
            simp
      · unfold inG at hq ⊢
        have : (i : Int) * s + s ≤ r.1 := by
          have := (Bool.and_eq_true _ _ ▸ hq : _ ∧ _).2
          exact of_decide_eq_true this
        rw [decide_eq_false (show ¬ r.2 ≤ (i : Int) * s by omega)]
        simp
    rw [spl, Int.natCast_add, inG_cn hs h0 dv, ← ih]
    show (((if low < r.1 then [(low, r.1)] else []) ++ gapsI n r.2 rs).map fun g => cntI s g.1 g.2).sum = _
    rw [List.map_append, List.sum_append_int]
    by_cases hc : low < r.1
    · rw [if_pos hc]
      simp
    · rw [if_neg hc]
      have z : cntI s low r.1 = 0 := by
        rw [← inG_cn (m := m) hs h0 dv, cn_zero fun i _ => ?_]
        · rfl
        · unfold inG
          by_cases h4 : low ≤ (i : Int) * s
          · rw [decide_eq_false (show ¬ (i : Int) * s + s ≤ r.1 by omega), Bool.and_false]
          · rw [decide_eq_false h4, Bool.false_and]
      rw [z]
      rfl
end K28

set_option Elab.async false
set_option linter.all false
set_option maxRecDepth 100000
set_option maxHeartbeats 4000000
namespace K28
open PySem PySem.Spec PyProof.Rows L2 Gu Ex
theorem cntC_cn (ns : List Int) (bs : List Blk) (k : Nat) : ∀ m, cntC ns bs k m = cn (clearAt ns bs k) m
  | 0 => rfl
  | m + 1 => by
    rw [cntC_succ, cntC_cn ns bs k m]
    rfl
theorem ord_pin {ns : List Int} {n : Int} : ∀ {bs : List Blk} {low : Int}, (∀ b ∈ bs, low ≤ b.1 ∧ b.1 ≤ bEnd ns b ∧ bEnd ns b ≤ n) → bs.Pairwise (fun b c => bEnd ns b ≤ c.1) → low ≤ n → Ord n low (pinR ns bs)
  | [], low, _, _, h => h
  | b :: bs, low, h1, h2, h3 => by
    have p := List.pairwise_cons.mp h2
    have hb := h1 b List.mem_cons_self
    have rest := fun lo (hl : ∀ c ∈ bs, lo ≤ c.1) (hn : lo ≤ n) => ord_pin (ns := ns) (n := n) (bs := bs) (low := lo) (fun c hc => ⟨hl c hc, (h1 c (List.mem_cons_of_mem _ hc)).2⟩) p.2 hn
    unfold pinR
    cases e : b.2.2 with
    | true =>
      rw [List.filter_cons_of_pos (p := fun b : Blk => b.2.2) (a := b) e, List.map_cons]
      exact ⟨hb.1, hb.2.1, rest _ (fun c hc => p.1 c hc) hb.2.2⟩
    | false =>
      rw [List.filter_cons_of_neg (p := fun b : Blk => b.2.2) (a := b) (by rw [e]; exact Bool.false_ne_true)]
      exact rest _ (fun c hc => (h1 c (List.mem_cons_of_mem _ hc)).1) h3
theorem clear_pin {ns : List Int} {s : Int} {i : Nat} : ∀ bs : List Blk, clearB ns bs ((i : Int) * s) ((i : Int) * s + s) = (pinR ns bs).all (offR s i)
  | [] => rfl
  | b :: bs => by
    have ih := clear_pin (ns := ns) (s := s) (i := i) bs
    unfold clearB at ih ⊢
    unfold pinR at ih ⊢
    rw [List.all_cons, ih]
    cases e : b.2.2 with
    | true =>
      rw [List.filter_cons_of_pos (p := fun b : Blk => b.2.2) (a := b) e, List.map_cons, List.all_cons]
      congr 1
      unfold hitB offR rngB
      rw [e]
      by_cases h1 : b.1 < (i : Int) * s + s
      · by_cases h2 : (i : Int) * s < bEnd ns b
        · rw [decide_eq_true h1, decide_eq_true h2, decide_eq_false (show ¬ (i : Int) * s + s ≤ b.1 by omega), decide_eq_false (show ¬ bEnd ns b ≤ (i : Int) * s by omega)]
          rfl
        · rw [decide_eq_true h1, decide_eq_false h2, decide_eq_true (show bEnd ns b ≤ (i : Int) * s by omega), Bool.or_true]
          rfl
      · rw [decide_eq_false h1, decide_eq_true (show (i : Int) * s + s ≤ b.1 by omega)]
        rfl
    | false =>
      rw [List.filter_cons_of_neg (by rw [e]; exact Bool.false_ne_true)]
      unfold hitB
      rw [e]
      simp
section
variable {ns : List Int} {n : Int} {bs : List Blk} {k : Nat}
theorem clr_due (w : Wf ns n bs) (g : Good ns) (hk : k < ns.length) (n1 : 0 ≤ n) : clrI ns n bs k = dueI ns n bs k := by
  have hs := (chain g).pos k hk
  have q0 : 0 ≤ n / sz ns k := Int.ediv_nonneg n1 (by omega)
  have hm : n / sz ns k ≤ (((n / sz ns k).toNat : Nat) : Int) := by omega
  have od : Ord n 0 (pinR ns bs) := ord_pin (fun b hb => ⟨(w.ok b hb).2.1, (by
    have := w.pos g hb
    unfold bEnd
    omega), (w.ok b hb).2.2.2⟩) w.so n1
  unfold clrI regI dueI
  rw [gaps_cn hs hm (Int.le_refl _) od, Int.mul_comm, cntC_cn]
  congr 2
  refine cn_congr fun i hi => ?_
  unfold clearAt
  rw [clear_pin bs]
  have h1 : (i : Int) * sz ns k + sz ns k ≤ n := (dn_iff hs).mp (by omega)
  have h2 : 0 ≤ (i : Int) * sz ns k := Int.mul_nonneg (by omega) (by omega)
  unfold inG
  rw [decide_eq_true h1, decide_eq_true h2]
  rfl
def inB (ns : List Int) (k i : Nat) (b : Blk) : Bool := (!b.2.2 && decide (k ≤ b.2.1)) && inG (sz ns k) b.1 (bEnd ns b) i
theorem one_cn {b : Blk} {m : Nat} (g : Good ns) (hk : k ≤ b.2.1) (hb : b.2.1 < ns.length) (h0 : 0 ≤ b.1) (hd : sz ns b.2.1 ∣ b.1) (hm : bEnd ns b / sz ns k ≤ (m : Int)) : sz ns k * ((cn (inG (sz ns k) b.1 (bEnd ns b)) m : Nat) : Int) = sz ns b.2.1 := by
  have hs := (chain g).pos k (by omega)
  have hz := (chain g).pos b.2.1 hb
  have dz := (chain g).dvd hk hb
  obtain ⟨q, hq⟩ := Int.dvd_trans dz hd
  obtain ⟨t, ht⟩ := dz
  have eC : M15.C (sz ns k) b.1 = q := by
    have := M15.C_of (s := sz ns k) (x := b.1) (q := q) (r := 0) hs (by omega) (by omega) (by omega)
    rw [this, if_pos rfl]
  have eE : bEnd ns b / sz ns k = q + t := M15.div_is (r := 0) (by unfold bEnd; rw [hq, ht, Int.mul_add]; omega) (by omega) (by omega)
  have t1 : 0 < t := by
    rcases Int.lt_or_le 0 t with h | h
    · exact h
    · have := Int.mul_le_mul_of_nonneg_left h (show 0 ≤ sz ns k by omega)
      rw [Int.mul_zero] at this
      omega
  rw [inG_cn hs h0 hm, cntI_is hs]
  unfold M15.cntM
  rw [eC, eE, show q + t - q = t by omega, if_pos t1, ht]
theorem lse_cn {m : Nat} (g : Good ns) (hk : k < ns.length) (hm : n / sz ns k ≤ (m : Int)) : ∀ {bs : List Blk}, (∀ b ∈ bs, b.2.1 < ns.length ∧ 0 ≤ b.1 ∧ sz ns b.2.1 ∣ b.1 ∧ bEnd ns b ≤ n) → bs.Pairwise (fun b c => bEnd ns b ≤ c.1) → lseI ns bs k = sz ns k * ((cn (fun i => bs.any (inB ns k i)) m : Nat) : Int)
  | [], _, _ => by
    rw [cn_zero (p := fun i => ([] : List Blk).any (inB ns k i)) fun i _ => rfl]
    simp [lseI, unpB]
  | b :: bs, h, hp => by
    have hs := (chain g).pos k hk
    have p := List.pairwise_cons.mp hp
    have hb := h b List.mem_cons_self
    have ih := lse_cn g hk hm (bs := bs) (fun c hc => h c (List.mem_cons_of_mem _ hc)) p.2
    have spl : cn (fun i => (b :: bs).any (inB ns k i)) m = cn (fun i => inB ns k i b) m + cn (fun i => bs.any (inB ns k i)) m := by
      refine cn_or (fun i _ => List.any_cons) (fun i _ hq => ?_)
      have h1 : (i : Int) * sz ns k + sz ns k ≤ bEnd ns b := by
        unfold inB inG at hq
        simp at hq
        exact hq.2.2
      cases e : bs.any (inB ns k i) with
      | false => rfl
      | true =>
        obtain ⟨c, hc, hi⟩ := List.any_eq_true.mp e
        have := p.1 c hc
        unfold inB inG at hi
        simp at hi
        have h2 : c.1 ≤ (i : Int) * sz ns k := hi.2.1
        omega
    rw [spl, Int.natCast_add, Int.mul_add, ← ih]
    by_cases hc : b.2.2 = false ∧ k ≤ b.2.1
    · have e1 : cn (fun i => inB ns k i b) m = cn (inG (sz ns k) b.1 (bEnd ns b)) m := cn_congr fun i _ => by
        unfold inB
        rw [hc.1, decide_eq_true hc.2]
        rfl
      have dv : bEnd ns b / sz ns k ≤ (m : Int) := Int.le_trans (Int.ediv_le_ediv (by omega) hb.2.2.2) hm
      rw [e1, one_cn g hc.2 hb.1 hb.2.1 hb.2.2.1 dv]
      unfold lseI unpB
      rw [List.filter_cons_of_pos (by rw [hc.1]; rfl), List.filter_cons_of_pos (p := fun b : Blk => decide (k ≤ b.2.1)) (a := b) (decide_eq_true hc.2), List.map_cons, List.sum_cons]
    · have e1 : cn (fun i => inB ns k i b) m = 0 := cn_zero fun i _ => by
        unfold inB
        cases e : b.2.2 with
        | true => rfl
        | false =>
          rw [decide_eq_false (fun z => hc ⟨e, z⟩)]
          rfl
      rw [e1]
      unfold lseI unpB
      cases e : b.2.2 with
      | true =>
        rw [List.filter_cons_of_neg (by rw [e]; exact Bool.false_ne_true)]
        simp
      | false =>
        rw [List.filter_cons_of_pos (by rw [e]; rfl), List.filter_cons_of_neg (by rw [decide_eq_false (fun z => hc ⟨e, z⟩)]; exact Bool.false_ne_true)]
        simp
theorem lse_le (w : Wf ns n bs) (g : Good ns) (hk : k < ns.length) (n1 : 0 ≤ n) : lseI ns bs k ≤ dueI ns n bs k ∧ (dueI ns n bs k - lseI ns bs k) % sz ns k = 0 := by
  have hs := (chain g).pos k hk
  have q0 : 0 ≤ n / sz ns k := Int.ediv_nonneg n1 (by omega)
  have hm : n / sz ns k ≤ (((n / sz ns k).toNat : Nat) : Int) := by omega
  rw [lse_cn g hk hm w.ok w.so]
  unfold dueI
  rw [cntC_cn]
  refine ⟨?_, ?_⟩
  · refine Int.mul_le_mul_of_nonneg_left (Int.ofNat_le.mpr (cn_le fun i _ hq => ?_)) (by omega)
    obtain ⟨b, hb, hi⟩ := List.any_eq_true.mp hq
    unfold inB inG at hi
    simp at hi
    obtain ⟨⟨hu, _⟩, hi1, hi2⟩ := hi
    unfold clearAt clearB
    refine List.all_eq_true.mpr fun c hc => ?_
    unfold hitB
    cases ec : c.2.2 with
    | false => rfl
    | true =>
      obtain ⟨x, hx, ex⟩ := List.mem_iff_getElem.mp hb
      obtain ⟨y, hy, ey⟩ := List.mem_iff_getElem.mp hc
      have ne : x ≠ y := fun z => by
        subst z
        rw [ex] at ey
        rw [← ey, hu] at ec
        cases ec
      have pw := List.pairwise_iff_getElem.mp w.so
      rcases Nat.lt_or_gt_of_ne ne with hlt | hlt
      · have := pw x y hx hy hlt
        rw [ex, ey] at this
        rw [decide_eq_false (show ¬ c.1 < (i : Int) * sz ns k + sz ns k by omega)]
        rfl
      · have := pw y x hy hx hlt
        rw [ex, ey] at this
        rw [decide_eq_false (show ¬ (i : Int) * sz ns k < bEnd ns c by omega), Bool.and_false]
        rfl
  · rw [← Int.mul_sub]
    exact Int.mul_emod_right _ _
end
end K28

set_option Elab.async false
set_option linter.all false
set_option maxRecDepth 100000
set_option maxHeartbeats 4000000
/-! sorted of tuples (int, int, bool) with distinct first parts -/
namespace SrtO
open PySem PyProof.Rows Srt
section
variable {prog : Program} {w : World} {A : Around} {E : Value → Shared → Prop} {s : Shared}
def IsTrip (h : Heap) (v : Value) (x : Int) : Prop := ∃ a o t y u b n, v = .ref a ∧ h.get? a = some o ∧ o.cls = .type "tuple" ∧ o.data = .seq #[.int x t, .int y u, .bool b] n
theorem IsTrip.keeps {h h' : Heap} {v : Value} {x : Int} (p : IsTrip h v x) (k : ∀ b o, h.get? b = some o → o.cls = .type "tuple" → h'.get? b = some o) : IsTrip h' v x := by
  obtain ⟨a, o, t, y, u, b, n, e, ho, hc, hd⟩ := p
  exact ⟨a, o, t, y, u, b, n, e, k _ _ ho hc, hc, hd⟩
abbrev ltI (k : Value → Int) (v u : Value) : Bool := decide (k v < k u)
theorem swo_int {α : Type} (k : α → Int) : Swo (fun v u => decide (k v < k u)) := by
  refine ⟨fun x y h => ?_, fun x y z h1 h2 => ?_⟩
  · have a := of_decide_eq_true h
    exact decide_eq_false (by omega)
  · have a := of_decide_eq_false h1
    have b := of_decide_eq_false h2
    exact decide_eq_false (by omega)
theorem trip_cmp {vs : List Value} {k : Value → Int} (hp : ∀ v ∈ vs, IsTrip s.heap v (k v)) (hd : ∀ v ∈ vs, ∀ u ∈ vs, k v = k u → v = u) : Cmp prog w A s (tuples' true) (fun p => p.1 ∈ vs) (lt2 (ltI k)) := by
  intro p q hm hm'
  show wpAny (model prog w) A (keyLt' (tuples' true) p.1 q.1) (fun r s' => s' = s ∧ r = decide (k p.1 < k q.1)) (fun _ _ => False) s
  have h1 := hp _ hm
  have h2 := hp _ hm'
  by_cases ek : k p.1 = k q.1
  · have ev := hd _ hm _ hm' ek
    rw [← ev]
    rw [decide_eq_false (Int.lt_irrefl _)]
    generalize k p.1 = x at h1
    obtain ⟨a, o, t, y, u, b, n, e, ho, hc, hdd⟩ := h1
    rw [e]
    refine PySem.W.kat_lt ho hdd ho hdd ?_
    show PySem.W.KatLex prog w A true (decide (3 < 3)) _ [(.int x t, .int x t), (.int y u, .int y u), (.bool b, .bool b)] 0 s
    refine PySem.W.kat_cons (SeqAt.EqAt.int_int x t x t prog w _ _ ?_)
    refine PySem.W.kat_go (fun _ => ?_) (fun e1 => absurd e1 (by simp))
    refine PySem.W.kat_yes (PySem.W.kat_cons (SeqAt.EqAt.int_int y u y u prog w _ _ ?_))
    refine PySem.W.kat_go (fun _ => ?_) (fun e1 => absurd e1 (by simp))
    refine PySem.W.kat_yes (PySem.W.kat_cons (SeqAt.EqAt.bool_bool b b prog w _ _ ?_))
    refine PySem.W.kat_go (fun _ => ?_) (fun e1 => absurd e1 (by simp))
    exact PySem.W.kat_yes (PySem.W.kat_nil ⟨rfl, rfl⟩)
  · generalize k p.1 = x at h1 ek
    generalize k q.1 = x' at h2 ek
    obtain ⟨a, o, t, y, u, b, n, e, ho, hc, hdd⟩ := h1
    obtain ⟨a', o', t', y', u', b', n', e', ho', hc', hdd'⟩ := h2
    rw [e, e']
    refine PySem.W.kat_lt ho hdd ho' hdd' ?_
    show PySem.W.KatLex prog w A true (decide (3 < 3)) _ [(.int x t, .int x' t'), (.int y u, .int y' u'), (.bool b, .bool b')] 0 s
    refine PySem.W.kat_cons (SeqAt.EqAt.int_int x t x' t' prog w _ _ ?_)
    refine PySem.W.kat_go (fun e1 => absurd (by simpa using e1) ek) (fun e1 => ?_)
    exact PySem.W.kat_no (oneLt_int ⟨rfl, rfl⟩)
theorem firsts3 {h : Heap} : ∀ {vs : List Value}, (∀ v ∈ vs, ∃ x, IsTrip h v x) → ∃ fs : List Value, PySem.W.KatTups h vs fs ∧ fs.length = vs.length ∧ ∀ f ∈ fs, ∃ x t, f = Value.int x t
  | [], _ => ⟨[], PySem.W.KatTups.nil, rfl, fun _ hm => by simp at hm⟩
  | v :: vs, hp => by
    obtain ⟨fs, h1, h2, h3⟩ := firsts3 (vs := vs) fun v' hm => hp v' (List.mem_cons_of_mem _ hm)
    obtain ⟨x, a, o, t, y, u, b, n, e, ho, hc, hd⟩ := hp v (List.mem_cons_self ..)
    subst e
    refine ⟨.int x t :: fs, PySem.W.KatTups.cons ho hc hd rfl h1, by rw [List.length_cons, List.length_cons, h2], fun f hm => ?_⟩
    rcases List.mem_cons.mp hm with rfl | hm
    · exact ⟨x, t, rfl⟩
    · exact h3 f hm
theorem trips_sortable {a : Addr} {vs : List Value} {k : Value → Int} (h0 : 0 < vs.length) (hp : ∀ v ∈ vs, IsTrip s.heap v (k v)) (hd : ∀ v ∈ vs, ∀ u ∈ vs, k v = k u → v = u) (ha : ∀ o, s.heap.get? a = some o → o.cls ≠ .type "tuple") : SortableO prog w A s a vs (ltI k) := by
  intro h' keep
  have hp' : ∀ v ∈ vs, IsTrip h' v (k v) := fun v hm => (hp v hm).keeps fun b o e c => keep b o (fun z => by subst z; exact ha o e c) e
  obtain ⟨fs, h1, h2, h3⟩ := firsts3 fun v hm => ⟨_, hp' v hm⟩
  refine ⟨tuples' true, fun Q E hq => ?_, trip_cmp hp' hd⟩
  refine PySem.W.kat_kind (T := .type "int") h1 (by omega) (fun f hm => ?_) (by rfl) ?_
  · obtain ⟨x, t, rfl⟩ := h3 f hm
    exact PySem.W.Looks.now
  · have e : (Value.type "int" != Value.type "tuple") = true := by first | decide +kernel | rfl | decide
    rw [e]
    exact hq
theorem sorted_trips {l : Addr} {vs : List Value} {k : Value → Int} {Q : Value → Shared → Prop} (hl : s.heap.IsList l vs.toArray) (hz : vs.length ≤ sizeLine) (hp : ∀ v ∈ vs, IsTrip s.heap v (k v)) (hdi : ∀ v ∈ vs, ∀ u ∈ vs, k v = k u → v = u)
    (h : ∀ (h' : Heap) (d : Addr) (out : List Value), Srtd (ltI k) out → Stb (ltI k) out vs → (∀ b o, s.heap.get? b = some o → h'.get? b = some o) → s.heap.objs.size ≤ d → (∃ n, h'.get? d = some (seqObj "list" out.toArray n)) → Q (.ref d) { s with heap := h' }) :
    wpAny (model prog w) A (call (.builtin "sorted") [.ref l]) Q E s := by
  refine sorted_ord (swo_int k) hl hz (fun h2 h₁ a ha kk => ?_) fun out hs hb => ?_
  · refine trips_sortable (s := { s with heap := h₁ }) (by omega) (fun v hm => (hp v hm).keeps fun b o e _ => (kk b o e).2) hdi fun o e => ?_
    have e' : some o = some (seqObj "list" vs.toArray 0) := e.symm.trans ha
    cases e'
    intro c
    exact absurd (Value.type.inj c) (by decide)
  · exact h _ _ out hs hb (fun b o e => sortedAll_old e) (Nat.le_succ _) (sortedAll_at s.heap vs out.toArray)
end
end SrtO
namespace L2
open PySem PySem.Spec PyProof.Rows
theorem vals3S {a b c : V} {us : List Value} (r : Vals [a, b, c] us) : ∃ u v w, us = [u, v, w] ∧ RelV a u ∧ RelV b v ∧ RelV c w := by
  cases r with
  | cons h1 r => cases r with
    | cons h2 r => cases r with
      | cons h3 r => cases r with
        | nil => exact ⟨_, _, _, rfl, h1, h2, h3⟩
def rSortedB (K : PySem.W.Frag) : List V → Hp → VK → Prop := fun vs H Q => ∃ (a : Addr) (xs : List V) (k : V → Int), vs = [V.ref a] ∧ SqL K H a xs ∧ (∀ x ∈ xs, ∃ t j b, x = V.ref t ∧ H t = some (.tup [.int (k x), .int j, .bl b])) ∧ (∀ x ∈ xs, ∀ y ∈ xs, k x = k y → x = y) ∧
  ∀ ys p, ys.Pairwise (fun x y => k x ≤ k y) → ys.Perm xs → H p = none → Q (.ref p) (upd H p (.lst ys))
section
variable {X : Cx}
theorem cr_sortedB : CallR X (.builtin "sorted") (rSortedB X.K) := by
  intro pins s σ H vs us Q I r h
  obtain ⟨a, xs, k, rfl, hs, hx, hdi, q⟩ := h
  obtain ⟨its, rv, hl, hz⟩ := I.list hs
  obtain ⟨u, rfl, ru⟩ := vals1 r
  obtain rfl : u = Value.ref a := ru
  obtain ⟨e1, e2⟩ := refs_back rv fun x m => by
    obtain ⟨t, _, _, e, _⟩ := hx x m
    exact ⟨t, e⟩
  have mem : ∀ v ∈ its, backV v ∈ xs := fun v hv => by rw [e1]; exact List.mem_map.mpr ⟨_, hv, rfl⟩
  refine SrtO.sorted_trips (k := fun u => k (backV u)) hl.isList (by rw [← rv.length]; exact hz) (fun v hv => ?_) (fun v hv u hu e => ?_) fun h' d out h1 h2 kp hd hn => ?_
  · obtain ⟨t, rfl⟩ := e2 v hv
    have hm : V.ref t ∈ xs := mem _ hv
    obtain ⟨t', j, b, e, ht⟩ := hx _ hm
    cases e
    obtain ⟨_, its2, r2, o, ho, hc, n, hd⟩ := I.hok _ _ ht
    obtain ⟨u1, u2, u3, rfl, ri, rj, rb⟩ := vals3S r2
    obtain ⟨t1, rfl⟩ := ri
    obtain ⟨t2, rfl⟩ := rj
    have e3 : u3 = .bool b := rb
    subst e3
    exact ⟨t, o, t1, j, t2, b, n, rfl, ho, hc, hd⟩
  · have z := hdi _ (mem v hv) _ (mem u hu) e
    obtain ⟨t, rfl⟩ := e2 v hv
    obtain ⟨t', rfl⟩ := e2 u hu
    have z2 : V.ref t = V.ref t' := z
    rw [V.ref.inj z2]
  · have h3 : ∀ u ∈ out, ∃ a, u = Value.ref a := fun u hu => e2 u (h2.perm.mem_iff.mp hu)
    obtain ⟨n, hn⟩ := hn
    have hb : (out.map backV).Perm xs := by
      rw [e1]
      exact h2.perm.map backV
    refine ⟨.ref d, upd H d (.lst (out.map backV)), I.laid (t' := s.toks) kp hd ⟨?_, out, n, vals_back h3, hn⟩, rfl, q _ d (List.pairwise_map.mpr (h1.imp fun {x y} e => ?_)) hb (I.hok.fresh hd)⟩
    · rw [hb.length_eq]
      exact hz
    · have z := of_decide_eq_false e
      exact Int.not_lt.mp z
end
end L2

set_option Elab.async false
set_option linter.all false
set_option maxRecDepth 100000
set_option maxHeartbeats 4000000
namespace K28
open PySem PySem.Spec PyProof.Rows L2 Gu Ex
/-- the block at an address -/
def bkA (G : Hp) (t : Addr) : Blk := match G t with
  | some (.tup [.int a, .int l, .bl p]) => (a, l.toNat, p)
  | _ => (0, 0, false)
def keyV (G : Hp) : V → Int
  | .ref t => (bkA G t).1
  | _ => 0
theorem bkA_of {G : Hp} {t : Addr} {b : Blk} (h : G t = some (.tup (blkV b))) : bkA G t = b := by
  unfold bkA
  rw [h]
  obtain ⟨a, l, p⟩ := b
  show (a, ((l : Nat) : Int).toNat, p) = (a, l, p)
  rw [Int.toNat_natCast]
theorem Refs.bk {G : Hp} {qs : List Addr} {bs : List Blk} (h : Refs blkV G qs bs) : bs = qs.map (bkA G) ∧ ∀ t ∈ qs, G t = some (.tup (blkV (bkA G t))) := by
  induction h with
  | nil => exact ⟨rfl, fun _ m => nomatch m⟩
  | cons e _ ih =>
    have e2 := bkA_of e
    refine ⟨by rw [List.map_cons, e2, ih.1], fun t ht => ?_⟩
    rcases List.mem_cons.mp ht with z | z
    · rw [z, e2]; exact e
    · exact ih.2 t z
theorem Refs.of_bk {G : Hp} : ∀ {qs : List Addr}, (∀ t ∈ qs, G t = some (.tup (blkV (bkA G t)))) → Refs blkV G qs (qs.map (bkA G))
  | [], _ => .nil
  | t :: qs, h => .cons (h t List.mem_cons_self) (Refs.of_bk fun u hu => h u (List.mem_cons_of_mem _ hu))
def Dj (ns : List Int) (b c : Blk) : Prop := bEnd ns b ≤ c.1 ∨ bEnd ns c ≤ b.1
/-- blocks as they are put, in any order -/
structure Un (ns : List Int) (n : Int) (bs : List Blk) : Prop where
  ok : ∀ b ∈ bs, b.2.1 < ns.length ∧ 0 ≤ b.1 ∧ sz ns b.2.1 ∣ b.1 ∧ bEnd ns b ≤ n
  dj : bs.Pairwise (Dj ns)
theorem Wf.un {ns : List Int} {n : Int} {bs : List Blk} (w : Wf ns n bs) : Un ns n bs := ⟨w.ok, w.so.imp fun h => .inl h⟩
theorem Un.snoc {ns : List Int} {n : Int} {bs : List Blk} {k : Nat} {a : Int} {p : Bool} (u : Un ns n bs) (hk : k < ns.length) (a0 : 0 ≤ a) (h : spaceB ns n bs k a = true) : Un ns n (bs ++ [(a, k, p)]) := by
  unfold spaceB at h
  rw [Bool.and_eq_true, Bool.and_eq_true] at h
  obtain ⟨h1, h2, h3⟩ := h
  have d1 := of_decide_eq_true h1
  have d2 := of_decide_eq_true h2
  refine ⟨fun b hb => ?_, List.pairwise_append.mpr ⟨u.dj, List.pairwise_singleton _ _, fun b hb c hc => ?_⟩⟩
  · rcases List.mem_append.mp hb with e | e
    · exact u.ok b e
    · rw [List.mem_singleton.mp e]
      exact ⟨hk, a0, d1, d2⟩
  · rw [List.mem_singleton.mp hc]
    have := List.all_eq_true.mp h3 b hb
    unfold offB at this
    rw [Bool.or_eq_true] at this
    rcases this with z | z
    · exact .inr (of_decide_eq_true z)
    · exact .inl (of_decide_eq_true z)
section
variable {ns : List Int} {n : Int} {bs : List Blk} {G : Hp} {qs : List Addr}
theorem Un.perm {cs : List Blk} (u : Un ns n bs) (p : cs.Perm bs) : Un ns n cs := ⟨fun b hb => u.ok b (p.mem_iff.mp hb), (p.pairwise_iff (fun h => h.symm)).mpr u.dj⟩
theorem Un.wf (u : Un ns n bs) (g : Good ns) (s : bs.Pairwise (fun b c => b.1 ≤ c.1)) : Wf ns n bs := by
  refine ⟨u.ok, List.pairwise_iff_getElem.mpr fun i j hi hj hij => ?_⟩
  have h1 := List.pairwise_iff_getElem.mp u.dj i j hi hj hij
  have h2 := List.pairwise_iff_getElem.mp s i j hi hj hij
  have h3 := (chain g).pos _ (u.ok _ (List.getElem_mem hj)).1
  rcases h1 with h | h
  · exact h
  · unfold bEnd at h
    omega
/-- what sorted wants -/
theorem Un.keys (u : Un ns n bs) (g : Good ns) (rf : Refs blkV G qs bs) : (∀ x ∈ qs.map V.ref, ∃ t j b, x = V.ref t ∧ G t = some (.tup [.int (keyV G x), .int j, .bl b])) ∧ ∀ x ∈ qs.map V.ref, ∀ y ∈ qs.map V.ref, keyV G x = keyV G y → x = y := by
  obtain ⟨e, h⟩ := rf.bk
  refine ⟨fun x hx => ?_, fun x hx y hy hk => ?_⟩
  · obtain ⟨t, ht, rfl⟩ := List.mem_map.mp hx
    exact ⟨t, _, _, rfl, h t ht⟩
  · obtain ⟨t, ht, rfl⟩ := List.mem_map.mp hx
    obtain ⟨t2, ht2, rfl⟩ := List.mem_map.mp hy
    obtain ⟨i, hi, ei⟩ := List.mem_iff_getElem.mp ht
    obtain ⟨j, hj, ej⟩ := List.mem_iff_getElem.mp ht2
    by_cases ij : i = j
    · subst ij
      rw [ei] at ej
      rw [ej]
    · exfalso
      have hk2 : (bkA G t).1 = (bkA G t2).1 := hk
      have pw := List.pairwise_iff_getElem.mp u.dj
      have li : i < bs.length := by rw [e, List.length_map]; exact hi
      have lj : j < bs.length := by rw [e, List.length_map]; exact hj
      have bi : bs[i] = bkA G t := by
        have : bs[i]? = some (bkA G t) := by rw [e, List.getElem?_map, List.getElem?_eq_getElem hi, ei]; rfl
        rw [List.getElem?_eq_getElem li] at this
        exact Option.some.inj this
      have bj : bs[j] = bkA G t2 := by
        have : bs[j]? = some (bkA G t2) := by rw [e, List.getElem?_map, List.getElem?_eq_getElem hj, ej]; rfl
        rw [List.getElem?_eq_getElem lj] at this
        exact Option.some.inj this
      have p1 := (chain g).pos _ (u.ok _ (List.getElem_mem li)).1
      have p2 := (chain g).pos _ (u.ok _ (List.getElem_mem lj)).1
      have dd : Dj ns bs[i] bs[j] := by
        rcases Nat.lt_or_gt_of_ne ij with l | l
        · exact pw i j li lj l
        · exact (pw j i lj li l).symm
      have hk3 : bs[i].1 = bs[j].1 := by rw [bi, bj]; exact hk2
      unfold Dj bEnd at dd
      omega
def unR : V → Addr
  | .ref t => t
  | _ => 0
theorem map_unR (qs : List Addr) : (qs.map V.ref).map unR = qs := by
  induction qs with
  | nil => rfl
  | cons t qs ih => rw [List.map_cons, List.map_cons, ih]; rfl
theorem refs_of : ∀ {zs : List V}, (∀ v ∈ zs, ∃ t, v = V.ref t) → ∃ qs : List Addr, zs = qs.map V.ref
  | [], _ => ⟨[], rfl⟩
  | v :: zs, h => by
    obtain ⟨t, rfl⟩ := h v List.mem_cons_self
    obtain ⟨qs, rfl⟩ := refs_of (zs := zs) fun u hu => h u (List.mem_cons_of_mem _ hu)
    exact ⟨t :: qs, rfl⟩
theorem Un.sorted (u : Un ns n bs) (g : Good ns) (rf : Refs blkV G qs bs) {zs : List V} (hs : zs.Pairwise (fun x y => keyV G x ≤ keyV G y)) (hp : zs.Perm (qs.map V.ref)) : ∃ qs' bs', zs = qs'.map V.ref ∧ Refs blkV G qs' bs' ∧ bs'.Perm bs ∧ Wf ns n bs' := by
  obtain ⟨e, h⟩ := rf.bk
  obtain ⟨qs', hq, hz⟩ : ∃ qs' : List Addr, qs'.Perm qs ∧ zs = qs'.map V.ref := by
    obtain ⟨qs', rfl⟩ := refs_of (zs := zs) fun v hv => by
      obtain ⟨t, _, rfl⟩ := List.mem_map.mp (hp.mem_iff.mp hv)
      exact ⟨t, rfl⟩
    have := hp.map unR
    rw [map_unR, map_unR] at this
    exact ⟨qs', this, rfl⟩
  subst hz
  have rf' := Refs.of_bk (G := G) (qs := qs') fun t ht => h t (hq.mem_iff.mp ht)
  have pm : (qs'.map (bkA G)).Perm bs := by rw [e]; exact hq.map _
  refine ⟨qs', _, rfl, rf', pm, (u.perm pm).wf g ?_⟩
  have hs' : qs'.Pairwise (fun x y => (bkA G x).1 ≤ (bkA G y).1) := (List.pairwise_map (f := V.ref) (R := fun x y => keyV G x ≤ keyV G y)).mp hs
  exact List.pairwise_map.mpr hs'
/-- sorted lists of the same blocks are one -/
theorem uniqB : ∀ {l m : List Blk}, l.Pairwise (fun b c => b.1 < c.1) → m.Pairwise (fun b c => b.1 < c.1) → l.Perm m → l = m
  | [], m, _, _, h => (List.Perm.eq_nil h.symm).symm
  | x :: l, [], _, _, h => absurd h.length_eq (by simp)
  | x :: l, y :: m, hl, hm, h => by
    have pl := List.pairwise_cons.mp hl
    have pm := List.pairwise_cons.mp hm
    have e : x = y := by
      rcases List.mem_cons.mp (h.mem_iff.mp (List.mem_cons_self (a := x) (l := l))) with e | e
      · exact e
      · rcases List.mem_cons.mp (h.mem_iff.mpr (List.mem_cons_self (a := y) (l := m))) with e2 | e2
        · exact e2.symm
        · have := pm.1 x e
          have := pl.1 y e2
          omega
    subst e
    rw [uniqB pl.2 pm.2 (List.Perm.cons_inv h)]
end
section
variable {P : Program} {w : World} {K : PySem.W.Frag} {mg : Str → Option Value} {base : Heap} {f : Addr} {fd : FuncData}
def spBlocks : Sp := fun vs H Q _ => ∃ (r s : Addr) (ns : List Int) (n many one : Int), vs = [.ref r, .ref s, .int n, .int many, .int one] ∧ Rng H r ∧ H s = some (.lst (ns.map V.int)) ∧ s ≠ r ∧ Good ns ∧ 1 ≤ n ∧ n ≤ 1000 ∧ 0 ≤ many ∧ many ≤ 100 ∧ 1 ≤ one ∧ one ≤ 100 ∧
  ∀ a qs bs H', H a = none → Stp r H H' → H' a = some (.lst (qs.map V.ref)) → Refs blkV H' qs bs → Wf ns n bs → (bs.length : Int) ≤ many → Q (.ref a) H'
theorem sc__law_blocks : FnScope ["_law_rng_here", "_law_sizes_here", "_law_length", "_law_many", "_law_one_in", "_law_result", "_law_k", "_law_level", "_law_address", "_law_is_pinned"] ["_law_rng_here", "_law_sizes_here", "_law_length", "_law_many", "_law_one_in"] (defScope (top 40)) := ⟨rfl, rfl, rfl, by decide +kernel, rfl, by decide +kernel, by decide +kernel⟩
theorem ok_blocks (T : Tx K mg) (D__law_draw : Df P w K mg base 1 "_law_draw" ["_law_rng_here", "_law_many"] spDraw) (D__law_has_space : Df P w K mg base 1 "_law_has_space" ["_law_sizes_here", "_law_length", "_law_blocks_here", "_law_level", "_law_address"] spSpace)
    (F : FnP K "_law_blocks" "_law_blocks" (top 40) f fd) : FnOk P w K mg base CX0 2 f fd ["_law_rng_here", "_law_sizes_here", "_law_length", "_law_many", "_law_one_in"] spBlocks := by
  refine F.ok sc__law_blocks (fun vs H Q E h => ?_) (fun cdv A outer s H vs Q E hr h => ⟨_, PSs.nox (pss_cons (ps_set (i := 5) sc__law_blocks.nd rfl (by first | exact Or.inl rfl | exact Or.inr rfl) (pe_lst pa_nil)) (pss_cons (ps_for PassesOwn.never rfl (pi_range1 rfl T.n_range (pa_cons (pcall D__law_draw hr (pa_cons (pv 0) (pa_cons (pe_op op_add (pv 3) pe_int) pa_nil))) pa_nil)) (pg_name (i := 6) sc__law_blocks.nd rfl (by first | exact Or.inl rfl | exact Or.inr rfl)) (pss_cons (ps_set (i := 7) sc__law_blocks.nd rfl (by first | exact Or.inl rfl | exact Or.inr rfl) (pcall D__law_draw hr (pa_cons (pv 0) (pa_cons (pe_callB call_len_seq (by rfl) T.n_len (by decide +kernel) (pa_cons (pv 1) pa_nil)) pa_nil)))) (pss_one (ps_if (pt_cmpR op_le (pe_ix ix_list (pv 1) (pv 7) (fun _ _ => rfl)) (pv 2) (nomark _)) (pss_cons (ps_set (i := 8) sc__law_blocks.nd rfl (by first | exact Or.inl rfl | exact Or.inr rfl) (pe_op op_mul (pcall D__law_draw hr (pa_cons (pv 0) (pa_cons (pe_op op_fdivW (pv 2) (pe_ix ix_list (pv 1) (pv 7) (fun _ _ => rfl))) pa_nil))) (pe_ix ix_list (pv 1) (pv 7) (fun _ _ => rfl)))) (pss_cons (ps_set (i := 9) sc__law_blocks.nd rfl (by first | exact Or.inl rfl | exact Or.inr rfl) (pe_and (pe_cmpR op_gt (pv 4) pe_int (nomark _)) (pe_one (pe_cmpR op_eq (pcall D__law_draw hr (pa_cons (pv 0) (pa_cons (pe_callB (call_max2 rfl) (by rfl) T.n_max (by decide +kernel) (pa_cons pe_int (pa_cons (pv 4) pa_nil))) pa_nil))) pe_int (nomark _))))) (pss_one (ps_if (pt_val (pcall D__law_has_space hr (pa_cons (pv 1) (pa_cons (pv 2) (pa_cons (pv 5) (pa_cons (pv 7) (pa_cons (pv 8) pa_nil))))))) (pss_one (ps_expr (pe_bm PySem.F.plainAttrs_list PySem.F.slot_list_append PySem.F.type_list_append mt_append (pv 5) (pa_cons (pe_tup (pa_cons (pv 8) (pa_cons (pv 7) (pa_cons (pv 9) pa_nil)))) pa_nil)))) pss_nil)))) pss_nil)))) (pss_one (ps_ret (pe_callB cr_sortedB (by rfl) T.n_sorted (by decide +kernel) (pa_cons (pv 5) pa_nil)))))), ?_⟩)
  · obtain ⟨r, s, ns, n, many, one, rfl, _⟩ := h
    rfl
  · obtain ⟨r, s, ns, n, many, one, rfl, hR, hs, nsr, g, n1, n2, m1, m2, o1, o2, q⟩ := h
    have sl : sizeLine = 16777216 := sizeLine_eq
    have big : (10 : Int) ^ 40 = 10000000000000000000000000000000000000000 := by decide
    have g8 := g.len
    refine ⟨Nat.zero_le _, fun R hRn => ?_⟩
    have nrR : R ≠ r := (hR.ne hRn).symm
    have s0 : Stp r H (upd H R (.lst [])) := (Stp.refl hR).new hRn
    have hR0 : (upd H R (.lst [])) R = some (.lst []) := upd_same
    generalize upd H R (.lst []) = H0 at s0 hR0
    refine ⟨_, rfl, _, rfl, _, _, rfl, rfl, r, many + 1, rfl, s0.1, by omega, by omega, fun d H1 d0 d1 s1 => ?_⟩
    refine ⟨d, rfl, by omega, by omega, ?_⟩
    have two : 3 ≤ sizeLine := by decide
    refine for_range (fun i σ G => ∃ (x6 x7 x8 x9 : Option V) (qs : List Addr) (bs : List Blk), σ = [some (.ref r), some (.ref s), some (.int n), some (.int many), some (.int one), some (.ref R), x6, x7, x8, x9] ∧ Stp r H G ∧ G R = some (.lst (qs.map V.ref)) ∧ Refs blkV G qs bs ∧ Un ns n bs ∧ bs.length ≤ i)
      ⟨none, none, none, none, [], [], rfl, s0.trans s1, s1.2 _ _ nrR hR0, .nil, ⟨fun _ m => (nomatch m), .nil⟩, Nat.le_refl _⟩ ?_ ?_
    · rintro i σ G hi ⟨x6, x7, x8, x9, qs, bs, rfl, st, hG, rf, un, bl⟩
      have hi2 : i < 101 := by omega
      have hsG : G s = some (.lst (ns.map V.int)) := st.2 _ _ nsr hs
      refine ⟨_, rfl, _, rfl, s, _, rfl, .inl (SqL.of hsG), r, _, rfl, st.1, (by rw [List.length_map]; omega), (by rw [List.length_map]; omega), fun d7 G1 a0 a1 t1 => ?_⟩
      rw [List.length_map] at a1
      obtain ⟨k, rfl⟩ : ∃ k : Nat, d7 = (k : Int) := ⟨d7.toNat, by omega⟩
      have hk : k < ns.length := by omega
      have st1 := st.trans t1
      have mv : ∀ {G G' : Hp}, Stp r G G' → Refs blkV G qs bs → Rng G r → Refs blkV G' qs bs := fun {G G'} t rf rg => rf.mono fun p xs e => t.2 p _ (fun z => by
        obtain ⟨_, _, e2, _⟩ := rg
        rw [z, e2] at e
        cases e) e
      have rf1 := mv t1 rf st.1
      have hG1 := t1.2 _ _ nrR hG
      have hs1 := st1.2 _ _ nsr hs
      have z1 := (chain g).pos k hk
      have z2 := sz_le g hk
      refine ⟨_, rfl, _, rfl, s, _, _, _, rfl, rfl, SqL.of hs1, at_sz hk, _, rfl, _, _, rfl, rfl, _, rfl, ?_⟩
      by_cases hc : sz ns k ≤ n
      case neg =>
        exact ifF (decide_eq_false hc) ⟨_, _, _, _, qs, bs, rfl, st1, hG1, rf1, un, by omega⟩
      refine ifT (decide_eq_true hc) ?_
      have j1 : 1 ≤ n / sz ns k := (Int.le_ediv_iff_mul_le (by omega)).mpr (by omega)
      have j2 : n / sz ns k ≤ 1000 := Int.le_trans (Int.ediv_le_self _ (by omega)) n2
      refine ⟨_, rfl, _, rfl, _, rfl, _, rfl, s, _, _, _, rfl, rfl, SqL.of hs1, at_sz hk, _, _, rfl, rfl, wide_div (b := 30) (by omega) (by omega) (by decide) (by decide), r, _, rfl, st1.1, j1, by omega, fun d8 G2 b0 b1 t2 => ?_⟩
      have st2 := st1.trans t2
      have hs2 := st2.2 _ _ nsr hs
      refine ⟨_, rfl, _, rfl, s, _, _, _, rfl, rfl, SqL.of hs2, at_sz hk, _, _, rfl, rfl, .inr ⟨by omega, by omega⟩, ?_⟩
      have ad0 : 0 ≤ d8 * sz ns k := Int.mul_nonneg b0 (by omega)
      have ad1 : d8 * sz ns k ≤ 1000 := by
        have h1 := (dn_iff (s := sz ns k) (e := n) (i := d8) z1).mp b1
        omega
      have rf2 := mv t2 rf1 st1.1
      have hG2 := t2.2 _ _ nrR hG1
      refine ⟨_, rfl, _, _, rfl, rfl, true, bT (by omega), iteT ?_⟩
      have mx : 1 ≤ (if one > 1 then one else 1) ∧ (if one > 1 then one else 1) ≤ 100 := by
        split <;> omega
      refine ⟨_, rfl, _, rfl, _, _, rfl, r, _, rfl, st2.1, mx.1, by omega, fun d9 G3 c0 c1 t3 => ?_⟩
      have st3 := st2.trans t3
      have hs3 := st3.2 _ _ nsr hs
      have rf3 := mv t3 rf2 st2.1
      have hG3 := t3.2 _ _ nrR hG2
      refine ⟨rfl, ?_⟩
      refine ⟨_, rfl, _, rfl, _, rfl, _, rfl, _, rfl, s, R, ns, n, qs, bs, k, _, rfl, hs3, ⟨hG3, rf3, fun b hb => (un.ok b hb).1, by omega⟩, g, hk, ad0, by omega, fun G4 s4 => ?_⟩
      have st4 : Stp r H G4 := ⟨by
        obtain ⟨x, y, e, z⟩ := st3.1
        exact ⟨x, y, s4 _ _ e, z⟩, fun b o nb e => s4 _ _ (st3.2 b o nb e)⟩
      have rf4 := rf3.same s4
      have hG4 := s4 _ _ hG3
      refine ⟨_, rfl, ?_⟩
      cases hsp : spaceB ns n bs k (d8 * sz ns k) with
      | false => exact iteF ⟨_, _, _, _, qs, bs, rfl, st4, hG4, rf4, un, by omega⟩
      | true =>
        have ql := rf.len
        refine iteT ⟨_, rfl, .inl ⟨rfl, _, SqL.of hG4⟩, _, rfl, _, rfl, _, rfl, two, fun u hu => ?_⟩
        have nM : R ≠ u := ne_of_none hG4 hu
        refine ⟨R, _, _, rfl, rfl, (by rw [upd_ne nM]; exact hG4), (by rw [List.length_map]; omega), ?_⟩
        refine ⟨_, _, _, _, qs ++ [u], bs ++ [(d8 * sz ns k, k, _)], rfl, ?_, ?_, Refs.more (u := (d8 * sz ns k, k, _)) rf4 hG4 hu, un.snoc hk ad0 hsp, (by rw [List.length_append, List.length_singleton]; omega)⟩
        · refine ⟨?_, fun b o nb e => ?_⟩
          · obtain ⟨x, y, e, z⟩ := st4.1
            exact ⟨x, y, by rw [upd_ne nrR.symm, upd_ne (ne_of_none e hu)]; exact e, z⟩
          · rw [upd_ne (ne_of_none e hRn), upd_ne (ne_of_none (st4.2 b o nb e) hu)]
            exact st4.2 b o nb e
        · rw [upd_same, List.map_append]
          rfl
    · rintro σ G ⟨x6, x7, x8, x9, qs, bs, rfl, st, hG, rf, un, bl⟩
      obtain ⟨k1, k2⟩ := un.keys g rf
      refine ⟨_, rfl, R, _, keyV G, rfl, SqL.of hG, k1, k2, fun zs p hs' hp hpn => ?_⟩
      obtain ⟨qs', bs', rfl, rf', pm, wf⟩ := un.sorted g rf hs' hp
      refine q p qs' bs' _ (st.free hpn) (st.new hpn) upd_same (rf'.same (same_upd hpn)) wf ?_
      rw [pm.length_eq]
      omega
end
end K28

set_option Elab.async false
set_option linter.all false
set_option maxRecDepth 100000
set_option maxHeartbeats 4000000
namespace K28
open PySem PySem.Spec PyProof.Rows L2 Gu Ex
theorem ins_last {ns : List Int} {n : Int} {bs : List Blk} {i j : Nat} {b : Blk} (w : Wf ns n bs) (g : Good ns) (hb : bs[i]? = some b) (h : Below (bs.take i) b.1 j) : insB (bs.take i) j b = bs.take (i + 1) := by
  have il := (List.getElem?_eq_some_iff.mp hb).1
  have tl : (bs.take i).length = i := by rw [List.length_take]; omega
  have ej : j = (bs.take i).length := by
    refine Nat.le_antisymm h.1 ?_
    rcases Nat.lt_or_ge j (bs.take i).length with hl | hl
    · have e := List.getElem?_eq_getElem hl
      have e2 := e
      rw [List.getElem?_take_of_lt (by omega)] at e2
      have lt := (w.lt g e2 hb (by omega)).2
      exact absurd ((h.2 j _ e).mpr lt) (Nat.lt_irrefl _)
    · exact hl
  unfold insB
  rw [ej, List.take_length, List.drop_length, List.append_nil, take_at hb]
section
variable {P : Program} {w : World} {K : PySem.W.Frag} {mg : Str → Option Value} {base : Heap} {f : Addr} {fd : FuncData}
def spLayout (K : PySem.W.Frag) : Sp := fun vs H Q _ => ∃ (s a : Addr) (ns : List Int) (n : Int) (qs : List Addr) (bs : List Blk), vs = [.ref s, .int n, .ref a] ∧ H s = some (.lst (ns.map V.int)) ∧ Good ns ∧ H a = some (.lst (qs.map V.ref)) ∧ Refs blkV H qs bs ∧ Wf ns n bs ∧ bs.length ≤ 100 ∧ 1 ≤ n ∧ n ≤ 1000 ∧
  ∀ y zp bl dx dz l ps H', Same H H' → Ly K H' y zp bl dx ps ns n bs → H y = none → H bl = none → H' zp = some (.ins (He.ga K "Sizes") dz (szF l)) → H l = none → Q (.ref y) H'
theorem sc__law_layout : FnScope ["_law_sizes_here", "_law_length", "_law_blocks_here", "_law_layout_here", "_law_address", "_law_level", "_law_is_pinned"] ["_law_sizes_here", "_law_length", "_law_blocks_here"] (defScope (top 46)) := ⟨rfl, rfl, rfl, by decide +kernel, rfl, by decide +kernel, by decide +kernel⟩
theorem ok_layout (T : Tx K mg) (D_Sizes : Kf P w K mg base 4 "Sizes" ["self", "values"] (spMade K)) (D_Layout : Kf P w K mg base 4 "Layout" ["self", "sizes", "length"] (spNew K)) (M_put_kw : MfK P w K mg base 8 "Layout" "put" ["self", "level", "address", "pinned"] 3 ["pinned"] (spPut K))
    (F : FnP K "_law_layout" "_law_layout" (top 46) f fd) : FnOk P w K mg base CX0 9 f fd ["_law_sizes_here", "_law_length", "_law_blocks_here"] (spLayout K) := by
  refine F.ok sc__law_layout (fun vs H Q E h => ?_) (fun cdv A outer s H vs Q E hr h => ⟨_, PSs.nox (pss_cons (ps_set (i := 3) sc__law_layout.nd rfl (by first | exact Or.inl rfl | exact Or.inr rfl) (pmake D_Layout hr (pa_cons (pmake D_Sizes hr (pa_cons (pv 0) pa_nil)) (pa_cons (pv 1) pa_nil)))) (pss_cons (ps_for PassesOwn.never rfl (pi_list (pv 2)) (pg_tup (by rfl) (pgs_cons (pg_name (i := 4) sc__law_layout.nd rfl (by first | exact Or.inl rfl | exact Or.inr rfl)) (pgs_cons (pg_name (i := 5) sc__law_layout.nd rfl (by first | exact Or.inl rfl | exact Or.inr rfl)) (pgs_cons (pg_name (i := 6) sc__law_layout.nd rfl (by first | exact Or.inl rfl | exact Or.inr rfl)) pgs_nil)))) (pss_one (ps_expr (pmethK M_put_kw hr (pv 3) (pa_cons (pv 5) (pa_cons (pv 4) pa_nil)) (pk_cons (pv 6) pk_nil))))) (pss_one (ps_ret (pv 3))))), ?_⟩)
  · obtain ⟨s, a, ns, n, qs, bs, rfl, _⟩ := h
    rfl
  · obtain ⟨s, a, ns, n, qs, bs, rfl, hs, g, ha, rf, wf, b100, n1, n2, q⟩ := h
    have ql := rf.len
    refine ⟨_, rfl, ?_⟩
    intro x dz hx hdz ndz
    have e1 : (upd (upd H dz (.own x)) x (.ins (He.ga K "Sizes") dz [])) s = some (.lst (ns.map V.int)) := by
      rw [upd_ne (ne_of_none hs hx), upd_ne (ne_of_none hs hdz)]
      exact hs
    refine ⟨x, dz, s, ns, rfl, upd_same, SqL.of e1, .base (.lst e1), g, fun l hl => ⟨rfl, ?_⟩⟩
    have nxl : x ≠ l := ne_of_none upd_same hl
    have ndl : dz ≠ l := fun z => by
      rw [← z, upd_ne ndz, upd_same] at hl
      cases hl
    have l0 : H l = none := by
      rw [upd_ne nxl.symm, upd_ne ndl.symm] at hl
      exact hl
    refine ⟨_, rfl, ?_⟩
    intro y dx hy hdx ndx
    have kp1 : ∀ {c : Addr} {o : HO}, H c = some o → (upd (upd (upd (upd H dz (.own x)) x (.ins (He.ga K "Sizes") dz [])) l (.lst (ns.map V.int))) x (.ins (He.ga K "Sizes") dz (szF l))) c = some o := fun {c o} e => by
      rw [upd_ne (ne_of_none e hx), upd_ne (ne_of_none e l0), upd_ne (ne_of_none e hx), upd_ne (ne_of_none e hdz)]
      exact e
    have hx1 : (upd (upd (upd (upd H dz (.own x)) x (.ins (He.ga K "Sizes") dz [])) l (.lst (ns.map V.int))) x (.ins (He.ga K "Sizes") dz (szF l))) x = some (.ins (He.ga K "Sizes") dz (szF l)) := upd_same
    have hl1 : (upd (upd (upd (upd H dz (.own x)) x (.ins (He.ga K "Sizes") dz [])) l (.lst (ns.map V.int))) x (.ins (He.ga K "Sizes") dz (szF l))) l = some (.lst (ns.map V.int)) := by rw [upd_ne nxl.symm, upd_same]
    have kp2 : ∀ {c : Addr} {o : HO}, (upd (upd (upd (upd H dz (.own x)) x (.ins (He.ga K "Sizes") dz [])) l (.lst (ns.map V.int))) x (.ins (He.ga K "Sizes") dz (szF l))) c = some o → (upd (upd (upd (upd (upd (upd H dz (.own x)) x (.ins (He.ga K "Sizes") dz [])) l (.lst (ns.map V.int))) x (.ins (He.ga K "Sizes") dz (szF l))) dx (.own y)) y (.ins (He.ga K "Layout") dx [])) c = some o := fun {c o} e => by
      rw [upd_ne (ne_of_none e hy), upd_ne (ne_of_none e hdx)]
      exact e
    have free : ∀ {c : Addr}, (upd (upd (upd (upd (upd (upd H dz (.own x)) x (.ins (He.ga K "Sizes") dz [])) l (.lst (ns.map V.int))) x (.ins (He.ga K "Sizes") dz (szF l))) dx (.own y)) y (.ins (He.ga K "Layout") dx [])) c = none → H c = none := fun {c} e => by
      cases e2 : H c with
      | none => rfl
      | some o =>
        exact nomatch (kp2 (kp1 e2)).symm.trans e
    have y0 : H y = none := by
      cases e2 : H y with
      | none => rfl
      | some o =>
        exact nomatch (kp1 e2).symm.trans hy
    refine ⟨y, x, dx, ns, n, rfl, upd_same, ⟨dz, l, kp2 hx1, kp2 hl1⟩, g, n1, by omega, fun bl H' hbl keep L => ⟨rfl, ?_⟩⟩
    have bl0 := free hbl
    have sm : Same H H' := fun c o e => keep c o (ne_of_none e y0) (kp2 (kp1 e))
    have hx' : H' x = some (.ins (He.ga K "Sizes") dz (szF l)) := keep x _ (ne_of_none hx1 hy) (kp2 hx1)
    refine ⟨_, rfl, a, rfl, ⟨_, SqL.of (sm _ _ ha)⟩, ?_⟩
    refine for_list (K := K) (a := a) (xs := qs.map V.ref) (fun i σ G => ∃ (ps : List Addr) (x4 x5 x6 : Option V), σ = [some (.ref s), some (.int n), some (.ref a), some (.ref y), x4, x5, x6] ∧ Same H G ∧ Ly K G y x bl dx ps ns n (bs.take i) ∧ G x = some (.ins (He.ga K "Sizes") dz (szF l))) ⟨[], none, none, none, rfl, sm, L, hx'⟩ (fun i σ G _ ⟨_, _, _, _, _, sm, _⟩ => SqL.of (sm _ _ ha)) ?_ ?_
    · rintro i v σ G hv ⟨ps, x4, x5, x6, rfl, sm, L, hxG⟩
      obtain ⟨p, hp, rfl⟩ := ref_of hv
      obtain ⟨b, hb, hT⟩ := (rf.same sm).get hp
      have hT' : G p = some (.tup [.int b.1, .int (b.2.1 : Nat), .bl b.2.2]) := hT
      have bm := List.mem_of_getElem? hb
      have bo := wf.ok b bm
      have z1 := (chain g).pos _ bo.1
      refine ⟨p, _, rfl, .inl (.inl hT'), rfl, _, _, rfl, _, _, rfl, _, _, rfl, rfl, ?_⟩
      refine ⟨_, rfl, y, dx, _, rfl, L.at_, lay_nm (by decide +kernel), _, rfl, _, rfl, _, rfl, rfl, rfl, y, x, bl, dx, ps, ns, n, b.1, bs.take i, b.2.1, b.2.2, rfl, L, (by rw [List.length_take]; omega), bo.1, bo.2.1, Int.emod_eq_zero_of_dvd bo.2.2.1, bo.2.2.2, fun c hc => ?_, fun j ps' G' hbw L' bt => ?_⟩
      · obtain ⟨jj, hj, ej⟩ := mem_take_at hc
        exact .inl (wf.lt g ej hb hj).1
      · rw [show (b.1, b.2.1, b.2.2) = b from rfl, ins_last wf g hb hbw] at L'
        obtain ⟨_, _, _, _, zy, zb, _, _, _⟩ := L.far
        exact ⟨ps', _, _, _, rfl, fun c o e => bt c o (ne_of_none e y0) (ne_of_none e bl0) (sm c o e), L', bt _ _ zy zb hxG⟩
    · rintro σ G ⟨ps, x4, x5, x6, rfl, sm, L, hxG⟩
      rw [List.length_map, ql, List.take_length] at L
      exact ⟨_, rfl, q y x bl dx dz l ps G sm L y0 bl0 hxG l0⟩
end
end K28

set_option Elab.async false
set_option linter.all false
set_option maxRecDepth 100000
set_option maxHeartbeats 0
namespace Ex
open PySem PySem.Spec PyProof.Rows L2 Gu
/-! ### facts of a class beyond those by names: constants, a property -/
def cvB (K : PySem.W.Frag) (C : Addr) (f : Str) (i : Int) : Bool := match PySem.W.findCls K (.ref C) (.type "type") f with
  | some (.val (.int j _)) => decide (j = i)
  | _ => false
theorem cvB_ok {K : PySem.W.Frag} {C : Addr} {f : Str} {i : Int} (h : cvB K C f i = true) : ∃ u, ClX.CVal K C (.type "type") f (.int i) u := by
  unfold cvB at h
  split at h
  · rename_i j t e
    have ej : j = i := of_decide_eq_true h
    exact ⟨_, e, t, by rw [ej]⟩
  · cases h
def rdB (K : PySem.W.Frag) (C : Addr) : Bool := PySem.W.readsIn K C (.type "type") && He.eqO (PySem.W.specialIn K (.ref C) "__getattribute__") (some (some (.builtin "type.__getattribute__")))
theorem rdB_ok {K : PySem.W.Frag} {C : Addr} (h : rdB K C = true) : ClX.CRead K C (.type "type") := by
  obtain ⟨h1, h2⟩ := He.ba h
  exact ⟨h1, He.eqO_ok h2⟩
def prA (K : PySem.W.Frag) (C : Addr) (f : Str) : Addr := match PySem.W.findIn K (.ref C) f with
  | some (some (.ref p)) => p
  | _ => 0
def pgA (K : PySem.W.Frag) (C : Addr) (f : Str) : Addr := match PySem.W.recIn K (prA K C f) "property" with
  | some (.ref g :: _) => g
  | _ => 0
def prB (K : PySem.W.Frag) (C : Addr) (f : Str) : Bool := He.eqO (PySem.W.findIn K (.ref C) f) (some (some (.ref (prA K C f)))) &&
  (He.eqO (PySem.W.specialIn K (.ref (prA K C f)) "__get__") (some (some (.builtin "property.__get__"))) && (decide (PySem.W.takesIn K (.ref (prA K C f)) = some true) &&
    (match PySem.W.recIn K (prA K C f) "property" with
    | some (.ref _ :: _) => true
    | _ => false)))
theorem prB_ok {K : PySem.W.Frag} {C : Addr} {f : Str} (h : prB K C f = true) : PropOf K C f (prA K C f) (pgA K C f) := by
  obtain ⟨h1, h⟩ := He.ba h
  obtain ⟨h2, h⟩ := He.ba h
  obtain ⟨h3, h4⟩ := He.ba h
  refine ⟨He.eqO_ok h1, He.eqO_ok h2, of_decide_eq_true h3, ?_⟩
  unfold pgA
  split at h4
  · rename_i g r e
    rw [e]
    exact ⟨r, rfl⟩
  · cases h4
/-- the def at an address -/
def fnAt (K : PySem.W.Frag) (a : Addr) : He.FnW := match K.lookup a with
  | some ⟨_, _, .func fd, _⟩ => some (fd.name, fd.qualname, fd.params, fd.body, fd.scope, fd.globals, fd.closure, fd.builtins)
  | _ => none
def okAt (K : PySem.W.Frag) (a : Addr) (qual : Str) : Bool := PySem.W.keepIn K (.ref a) && (match K.lookup a with
  | some ⟨_, _, .func fd, _⟩ => PySem.W.codeIn K fd.code qual && (He.dflB K fd.defaults [] && He.kwdB K fd.kwdefaults [])
  | _ => false)
theorem fun_at {K : PySem.W.Frag} {a : Addr} {name qual : Str} {params : Arguments} {body : List Stmt} {scope : Scope} (e : fnAt K a = some (name, qual, params, .stmts body, scope, mainGlobals, [], builtinsNs)) (c : okAt K a qual = true) :
    ∃ fd, FunD K name qual params body scope [] [] a fd := by
  obtain ⟨kp, c2⟩ := He.ba c
  unfold fnAt at e
  split at e
  · rename_i oc od fd sl q
    rw [q] at c2
    obtain ⟨k1, k2⟩ := He.ba c2
    obtain ⟨k3, k4⟩ := He.ba k2
    obtain ⟨n1, n2, n3, n4, n5, n6, n7, n8, n9, n10, n11, n12, n13, n14, n15⟩ := fd
    simp only [Option.some.injEq, Prod.mk.injEq] at e
    obtain ⟨rfl, rfl, rfl, rfl, rfl, rfl, rfl, rfl⟩ := e
    exact ⟨_, ⟨oc, od, n8, n9, n10, n11, n12, n13, n14, sl, rfl, q, k1, He.dflB_ok k3, He.kwdB_ok k4⟩, kp⟩
  · cases e
def sysB (K : PySem.W.Frag) : Bool := match K.lookup sysModules with
  | some o => decide (o.cls ≠ .type "list")
  | none => false
end Ex

set_option Elab.async false
set_option linter.all false
set_option maxRecDepth 100000
set_option maxHeartbeats 4000000
namespace Ex
open PySem PySem.Spec PyProof.Rows L2 Gu
/-! ### facts of an error's class -/
def oexB (K : PySem.W.Frag) (C : Addr) : Bool := match K.lookup C with
  | some ⟨.type "type", _, .cls cd, sl⟩ => (match cd.mro, sl.toList with
    | .ref c :: bm, [_, _, _, _, some (.builtin n), _] => (c == C && n == "ValueError.__new__") && ((!cd.hasDel && cd.hasDict) && PySem.HandSPX.refsVE bm)
    | _, _ => false)
  | _ => false
theorem oexB_ok {K : PySem.W.Frag} {C : Addr} (h : oexB K C = true) :
    ∃ nm q N bs bm sn sub ab col dd k0 k1 k2 k3 k5, K.lookup C = some (excClassObj nm q C N bs bm true sn sub ab col dd k0 k1 k2 k3 k5 "ValueError.__new__") ∧ PySem.HandSPX.refsVE bm = true := by
  unfold oexB at h
  split at h
  · rename_i dd cd sl ho
    split at h
    · rename_i c bm k0 k1 k2 k3 n k5 hm hs
      obtain ⟨⟨h1, h2⟩, h3⟩ := (He.ba h).imp_left He.ba
      obtain ⟨h4, h5⟩ := He.ba h3
      obtain ⟨h6, h7⟩ := He.ba h4
      have e1 : c = C := beq_iff_eq.mp h1
      have e2 : n = "ValueError.__new__" := beq_iff_eq.mp h2
      have e3 : cd.hasDel = false := by simpa using h6
      subst e1 e2
      obtain ⟨nm, bs, mro, ns, qn, hd, sn, sub, ab, col, del⟩ := cd
      dsimp only at hm e3 h7
      subst hm e3 h7
      have e4 : sl = #[k0, k1, k2, k3, some (.builtin "ValueError.__new__"), k5] := by
        obtain ⟨l⟩ := sl
        simp only at hs
        rw [hs]
      subst e4
      exact ⟨nm, qn, ns, bs, bm, sn, sub, ab, col, dd, k0, k1, k2, k3, k5, ho, h5⟩
    · cases h
  · cases h
def bOf (a : Option Bool) (b : Bool) : Bool := decide (a = some b)
/-- what the rules ask of an error's class at C with the one field f -/
def errB (K : PySem.W.Frag) (C : Addr) (n : Str) : Bool := oexB K C && (He.eqO (PySem.W.findIn K (.ref C) "__setattr__") (some (some (.builtin "object.__setattr__"))) && (bOf (PySem.W.subIn K (.ref C) (.type "BaseException")) true &&
  (decide (PySem.W.typeIn K (.ref C) = some (.type "type")) && (PySem.W.keepIn K (.ref C) && (xfB K C && (He.eqO (PySem.W.findIn K (.ref C) "__class__") (some (some (.builtin "object.__class__"))) &&
  (He.eqO (PySem.W.specialIn K (.builtin "object.__class__") "__get__") (some (some (.builtin "getset_descriptor.__get__"))) && (bOf (PySem.W.takesIn K (.builtin "object.__class__")) true && (bOf (PySem.W.mroIn K C (.type "object")) true &&
  (He.eqO (PySem.W.findIn K (.ref C) n) (some none) && (He.eqO (PySem.W.findIn K (.ref C) "__init__") (some (some (.ref (He.ma K C "__init__")))) && (decide (PySem.W.typeIn K (.ref (He.ma K C "__init__")) = some (.type "function")) && bOf (PySem.W.exmOne K (.ref C) (.ref C)) true))))))))))))
structure ErrOk (K : PySem.W.Frag) (C : Addr) (n : Str) : Prop where
  ox : OexC K C
  xf : XfC K C
  ec : ExcC K C
  no : PySem.W.findIn K (.ref C) n = some none
  ii : PySem.W.findIn K (.ref C) "__init__" = some (some (.ref (He.ma K C "__init__")))
  ti : PySem.W.typeIn K (.ref (He.ma K C "__init__")) = some (.type "function")
  em : PySem.W.exmOne K (.ref C) (.ref C) = some true
theorem bOf_ok {a : Option Bool} {b : Bool} (h : bOf a b = true) : a = some b := of_decide_eq_true h
theorem errB_ok {K : PySem.W.Frag} {C : Addr} {n : Str} (h : errB K C n = true) : ErrOk K C n := by
  obtain ⟨a1, h⟩ := He.ba h
  obtain ⟨a2, h⟩ := He.ba h
  obtain ⟨a3, h⟩ := He.ba h
  obtain ⟨a4, h⟩ := He.ba h
  obtain ⟨a5, h⟩ := He.ba h
  obtain ⟨a6, h⟩ := He.ba h
  obtain ⟨a7, h⟩ := He.ba h
  obtain ⟨a8, h⟩ := He.ba h
  obtain ⟨a9, h⟩ := He.ba h
  obtain ⟨a10, h⟩ := He.ba h
  obtain ⟨a11, h⟩ := He.ba h
  obtain ⟨a12, h⟩ := He.ba h
  obtain ⟨a13, a14⟩ := He.ba h
  have x := xfB_ok a6
  exact ⟨⟨oexB_ok a1, He.eqO_ok a2, bOf_ok a3, of_decide_eq_true a4, a5⟩, x, ⟨x.ga, x.gg, x.exC, x.hdC, He.eqO_ok a7, He.eqO_ok a8, bOf_ok a9, bOf_ok a10⟩, He.eqO_ok a11, He.eqO_ok a12, of_decide_eq_true a13, bOf_ok a14⟩
end Ex

set_option Elab.async false
set_option linter.all false
set_option maxRecDepth 100000
set_option maxHeartbeats 4000000
/-! Own layer: a keyword-only default that is the empty tuple; a call with the keyword given. -/
namespace Ex
open PySem PySem.Spec PyProof.Rows L2 Gu
def tup0 (K : PySem.W.Frag) (z : Addr) : Bool := match K.lookup z with
  | some ⟨.type c, _, .seq its _, _⟩ => decide (c = "tuple") && decide (its.size = 0)
  | _ => false
theorem tup0_ok {K : PySem.W.Frag} {z : Addr} (h : tup0 K z = true) : ∃ (o : Obj) (n : Nat), K.lookup z = some o ∧ o.cls = .type "tuple" ∧ o.data = .seq #[] n := by
  unfold tup0 at h
  split at h
  · rename_i c d its n sl e
    obtain ⟨h1, h2⟩ := He.ba h
    have e1 := of_decide_eq_true h1
    have e2 := of_decide_eq_true h2
    have e3 : its = #[] := Array.eq_empty_of_size_eq_zero e2
    subst e1
    subst e3
    exact ⟨_, n, e, rfl, rfl⟩
  · cases h
def kwV (K : PySem.W.Frag) (k : Str) : Value → Bool
  | .ref D => (match PySem.W.nsIn K D k with
    | some (some (.ref z)) => tup0 K z
    | _ => false)
  | _ => false
def kwB (K : PySem.W.Frag) (f : Addr) (k : Str) : Bool := match K.lookup f with
  | some ⟨_, _, .func fd, _⟩ => kwV K k fd.kwdefaults
  | _ => false
section
variable {K : PySem.W.Frag} {x qual : Str} {params : Arguments} {body : List Stmt} {scope : Scope} {kws : List (Str × V)} {f : Addr} {fd : FuncData} {ps ks : List Str} {k : Str}
theorem kwB_ok (F : FunD K x qual params body scope [] [] f fd) (h : kwB K f k = true) : ∃ (z : Addr) (o : Obj) (n : Nat), FunD K x qual params body scope [] [(k, .ref z)] f fd ∧ K.lookup z = some o ∧ o.cls = .type "tuple" ∧ o.data = .seq #[] n := by
  obtain ⟨⟨oc, od, dV, kV, doc, pm, an, cdv, ct, osl, rfl, lk, hcd, hD, hK⟩, kp⟩ := F
  unfold kwB at h
  rw [lk] at h
  have h1 : kwV K k kV = true := h
  cases kV with
  | ref D =>
    have h2 : (match PySem.W.nsIn K D k with
      | some (some (.ref z)) => tup0 K z
      | _ => false) = true := h1
    split at h2
    · rename_i z e
      obtain ⟨o, n, a, b, c⟩ := tup0_ok h2
      refine ⟨z, o, n, ⟨⟨oc, od, dV, _, doc, pm, an, cdv, ct, osl, rfl, lk, hcd, hD, .inr ⟨D, rfl, fun q hq => ?_⟩⟩, kp⟩, a, b, c⟩
      cases List.mem_singleton.mp hq
      exact ⟨_, e, rfl⟩
    · cases h2
  | _ => cases h1
theorem bindsK {n : Nat} (F : FunD K x qual params body scope [] kws f fd)
    (h : ∀ (kV doc pm : Value) (an : Option Addr) (cdv ct : Value) (us ws : List Value), us.length = n → ws.length = ks.length → bindArgs (PySem.W.fnOf x qual params body scope .none kV doc pm an cdv ct) ⟨us, ks.zip ws⟩ = pure (ps.zip (us ++ ws)))
    (s : Shared) (us ws : List Value) (hu : us.length = n) (hw : ws.length = ks.length) (_ : K.In s.heap) : BindsTo s fd ⟨us, ks.zip ws⟩ (ps.zip (us ++ ws)) := by
  obtain ⟨oc, od, dV, kV, doc, pm, an, cdv, ct, osl, rfl, lk, hcd, hD, hK⟩ := F.ex
  rcases hD with ⟨_, rfl⟩ | ⟨e, _⟩
  · exact .of_eq (h kV doc pm an cdv ct us ws hu hw)
  · exact absurd rfl e
end
end Ex

set_option Elab.async false
set_option linter.all false
set_option maxRecDepth 100000
set_option maxHeartbeats 4000000
namespace K28
open PySem PySem.Spec PyProof.Rows L2 Gu Ex
def blkD (b : Blk) : PyData := .tuple [.int b.1, .int (b.2.1 : Nat), .bool b.2.2]
theorem Refs.dp {K : PySem.W.Frag} {H : Hp} {qs : List Addr} {bs : List Blk} (h : Refs blkV H qs bs) : DpAll K H (qs.map V.ref) (bs.map blkD) := by
  induction h with
  | nil => exact .nil
  | cons e _ ih => exact .cons (.tup (SqT.of e) (.cons (.int _) (.cons (.int _) (.cons (.bl _) .nil)))) ih
theorem lay_blk : ∀ bs : List Blk, PyData.canLayAll0 (bs.map blkD) = true
  | [] => rfl
  | b :: r => by
    have e : (blkD b).canLay0 = true := rfl
    simp only [List.map_cons, PyData.canLayAll0, e, lay_blk r, Bool.and_self]
theorem dep_blk : ∀ bs : List Blk, PyData.depthAll (bs.map blkD) ≤ 1
  | [] => Nat.zero_le _
  | b :: r => by
    have e : (blkD b).depth = 1 := rfl
    simp only [List.map_cons, PyData.depthAll, e]
    have := dep_blk r
    omega
theorem shaped_blk (bs : List Blk) : SeqAt.shaped (.list (bs.map blkD)) = true := by
  have c : (PyData.list (bs.map blkD)).canLay0 = true := lay_blk bs
  have e : (PyData.list (bs.map blkD)).depth ≤ 2 := by
    show PyData.depthAll (bs.map blkD) + 1 ≤ 2
    have := dep_blk bs
    omega
  unfold SeqAt.shaped
  rw [c]
  simp
  omega
theorem trues_len (i : Nat) : (List.map V.bl (List.replicate i true)).length = i := by simp
theorem trues_more (i : Nat) : List.map V.bl (List.replicate i true) ++ [V.bl true] = List.map V.bl (List.replicate (i + 1) true) := by
  rw [List.replicate_succ', List.map_append]
  rfl
theorem all_trues (i : Nat) : (List.replicate i true).all id = true := by
  rw [List.all_replicate]
  split <;> rfl

theorem eqv_ints : ∀ ns ms : List Int, PyData.eqvAll (ns.map PyData.int) (ms.map PyData.int) = decide (ns = ms)
  | [], [] => rfl
  | [], _ :: _ => rfl
  | _ :: _, [] => rfl
  | n :: ns, m :: ms => by
    show ((n == m) && PyData.eqvAll (ns.map PyData.int) (ms.map PyData.int)) = _
    rw [eqv_ints ns ms]
    by_cases h : n = m
    · subst h
      simp
    · simp [h]
theorem eqv_blk (b c : Blk) : PyData.eqv (blkD b) (blkD c) = decide (b = c) := by
  obtain ⟨a, k, p⟩ := b
  obtain ⟨a2, k2, p2⟩ := c
  show ((a == a2) && (((k : Int) == (k2 : Int)) && ((p == p2) && true))) = _
  by_cases h1 : a = a2
  · by_cases h2 : k = k2
    · by_cases h3 : p = p2
      · subst h1 h2 h3
        simp
      · simp [h1, h2, h3]
    · have h2' : ¬ (k : Int) = (k2 : Int) := by omega
      simp [h1, h2, h2']
  · simp [h1]
theorem eqv_blks : ∀ bs cs : List Blk, PyData.eqvAll (bs.map blkD) (cs.map blkD) = decide (bs = cs)
  | [], [] => rfl
  | [], _ :: _ => rfl
  | _ :: _, [] => rfl
  | b :: bs, c :: cs => by
    show (PyData.eqv (blkD b) (blkD c) && PyData.eqvAll (bs.map blkD) (cs.map blkD)) = _
    rw [eqv_blks bs cs, eqv_blk]
    by_cases h : b = c
    · subst h
      simp
    · simp [h]
theorem dp_ints {K : PySem.W.Frag} {H : Hp} : ∀ ns : List Int, DpAll K H (ns.map V.int) (ns.map PyData.int)
  | [] => .nil
  | n :: r => .cons (.int n) (dp_ints r)
theorem flat : ∀ ns : List Int, PyData.depthAll (ns.map PyData.int) = 0
  | [] => rfl
  | n :: r => by
    show max 0 (PyData.depthAll (r.map PyData.int)) = 0
    rw [flat r]
    rfl
theorem can_lay : ∀ ns : List Int, PyData.canLayAll0 (ns.map PyData.int) = true
  | [] => rfl
  | n :: r => by simp only [List.map_cons, PyData.canLayAll0, PyData.canLay0, can_lay r, Bool.and_self]
theorem shaped_ints (ns : List Int) : SeqAt.shaped (.list (ns.map PyData.int)) = true := by
  have e : (PyData.list (ns.map PyData.int)).depth = 1 := by
    show PyData.depthAll (ns.map PyData.int) + 1 = 1
    rw [flat]
  have c : (PyData.list (ns.map PyData.int)).canLay0 = true := can_lay ns
  unfold SeqAt.shaped
  rw [c, e]
  rfl
section
variable {P : Program} {w : World} {K : PySem.W.Frag} {mg : Str → Option Value} {base : Heap} {f : Addr} {fd : FuncData}
def spBlk (K : PySem.W.Frag) : Sp := fun vs H Q _ => ∃ (y zp bl dx : Addr) (ps : List Addr) (ns : List Int) (n : Int) (bs : List Blk), vs = [.ref y] ∧ Ly K H y zp bl dx ps ns n bs ∧ ∀ l, H l = none → Q (.ref l) (upd H l (.lst (ps.map V.ref)))
theorem sc_blocks : FnScope ["self"] ["self"] (defScope (inClass (top 32) 7)) := ⟨rfl, rfl, rfl, by decide +kernel, rfl, by decide +kernel, by decide +kernel⟩
theorem ok_blk (T : Tx K mg) (F : FnP K "blocks" "Layout.blocks" (inClass (top 32) 7) f fd) : FnOk P w K mg base CX0 1 f fd ["self"] (spBlk K) := by
  refine F.ok sc_blocks (fun vs H Q E h => ?_) (fun cdv A outer s H vs Q E hr h => ⟨_, PSs.nox (pss_one (ps_ret (pe_callTy call_list_of (by rfl) T.n_list (by decide +kernel) (pa_cons (pe_fld (pv 0) rfl) pa_nil)))), ?_⟩)
  · obtain ⟨y, zp, bl, dx, ps, ns, n, bs, rfl, _⟩ := h
    rfl
  · obtain ⟨y, zp, bl, dx, ps, ns, n, bs, rfl, L, q⟩ := h
    exact ⟨_, rfl, y, _, dx, _, _, rfl, L.at_, T.ly, T.nBL, lay_bl .., bl, _, rfl, .inl (SqL.of L.lst), q⟩
def spSEq (K : PySem.W.Frag) : Sp := fun vs H Q _ => ∃ (p q : Addr) (ns ms : List Int), vs = [.ref p, .ref q] ∧ SzAt (He.ga K "Sizes") H p ns ∧ SzAt (He.ga K "Sizes") H q ms ∧ Q (.bl (decide (ns = ms))) H
theorem sc_Sizes_eq : FnScope ["self", "other"] ["self", "other"] (defScope (inClass (top 18) 5)) := ⟨rfl, rfl, rfl, by decide +kernel, rfl, by decide +kernel, by decide +kernel⟩
theorem ok_seq (T : Tx K mg) (F : FnP K "__eq__" "Sizes.__eq__" (inClass (top 18) 5) f fd) : FnOk P w K mg base CX0 1 f fd ["self", "other"] (spSEq K) := by
  refine F.ok sc_Sizes_eq (fun vs H Q E h => ?_) (fun cdv A outer s H vs Q E hr h => ⟨_, PSs.nox (pss_one (ps_ret (pe_and (pe_callB call_isi (by rfl) T.n_isinstance (by decide +kernel) (pa_cons (pv 1) (pa_cons (pe_glob (v := .ref _) rfl T.g_Sizes rfl) pa_nil))) (pe_one (pe_cmpR (op_eqD hr.units) (pe_fld (pv 0) rfl) (pe_fld (pv 1) rfl) (nomark _)))))), ?_⟩)
  · obtain ⟨p, q, ns, ms, rfl, _⟩ := h
    rfl
  · obtain ⟨p, r, ns, ms, rfl, ⟨dx, l, h1, h2⟩, ⟨dy, m, k1, k2⟩, q⟩ := h
    refine ⟨_, rfl, _, _, _, _, true, rfl, .own _, T.iS.ty k1, T.iS.ki, _, rfl, iteT ?_⟩
    refine ⟨_, rfl, p, _, dx, _, _, rfl, h1, T.cl, T.nSL, szF_get l, _, rfl, r, _, dy, _, _, rfl, k1, T.cl, T.nSL, szF_get m, _, _, .lst (SqL.of h2) (dp_ints ns), .lst (SqL.of k2) (dp_ints ms), shaped_ints _, shaped_ints _, ?_⟩
    show Q (.bl (PyData.eqvAll (ns.map PyData.int) (ms.map PyData.int))) H
    rw [eqv_ints]
    exact q
def spLen (K : PySem.W.Frag) : Sp := fun vs H Q _ => ∃ (p : Addr) (ns : List Int), vs = [.ref p] ∧ SzAt (He.ga K "Sizes") H p ns ∧ Q (.int (ns.length : Nat)) H
theorem sc_Sizes_len : FnScope ["self"] ["self"] (defScope (inClass (top 18) 6)) := ⟨rfl, rfl, rfl, by decide +kernel, rfl, by decide +kernel, by decide +kernel⟩
theorem ok_len (T : Tx K mg) (F : FnP K "__len__" "Sizes.__len__" (inClass (top 18) 6) f fd) : FnOk P w K mg base CX0 1 f fd ["self"] (spLen K) := by
  refine F.ok sc_Sizes_len (fun vs H Q E h => ?_) (fun cdv A outer s H vs Q E hr h => ⟨_, PSs.nox (pss_one (ps_ret (pe_callB call_len_seq (by rfl) T.n_len (by decide +kernel) (pa_cons (pe_fld (pv 0) rfl) pa_nil)))), ?_⟩)
  · obtain ⟨p, ns, rfl, _⟩ := h
    rfl
  · obtain ⟨p, ns, rfl, ⟨dx, l, h1, h2⟩, q⟩ := h
    refine ⟨_, rfl, p, _, dx, _, _, rfl, h1, T.cl, T.nSL, szF_get l, l, _, rfl, .inl (SqL.of h2), ?_⟩
    rw [List.length_map]
    exact q
def spLEq (K : PySem.W.Frag) : Sp := fun vs H Q _ => ∃ (y zp bl dx y2 zp2 bl2 dx2 : Addr) (ps ps2 : List Addr) (ns ns2 : List Int) (n n2 : Int) (bs bs2 : List Blk), vs = [.ref y, .ref y2] ∧ Ly K H y zp bl dx ps ns n bs ∧ Ly K H y2 zp2 bl2 dx2 ps2 ns2 n2 bs2 ∧
  ns = ns2 ∧ n = n2 ∧ Q (.bl (decide (bs = bs2))) H
theorem sc_Layout_eq : FnScope ["self", "other"] ["self", "other"] (defScope (inClass (top 32) 1)) := ⟨rfl, rfl, rfl, by decide +kernel, rfl, by decide +kernel, by decide +kernel⟩
theorem ok_leq (T : Tx K mg) (E_Sizes : EqOf P w K mg base 1 "Sizes" (spSEq K)) (F : FnP K "__eq__" "Layout.__eq__" (inClass (top 32) 1) f fd) : FnOk P w K mg base CX0 2 f fd ["self", "other"] (spLEq K) := by
  refine F.ok sc_Layout_eq (fun vs H Q E h => ?_) (fun cdv A outer s H vs Q E hr h => ⟨_, PSs.nox (pss_one (ps_ret (pe_and (pe_callB call_isi (by rfl) T.n_isinstance (by decide +kernel) (pa_cons (pv 1) (pa_cons (pe_glob (v := .ref _) rfl T.g_Layout rfl) pa_nil))) (pe_and (pe_cmpR (op_own E_Sizes hr) (pe_fld (pv 0) rfl) (pe_fld (pv 1) rfl) (nomark _)) (pe_and (pe_cmpR op_eq (pe_fld (pv 0) rfl) (pe_fld (pv 1) rfl) (nomark _)) (pe_one (pe_cmpR (op_eqD hr.units) (pe_fld (pv 0) rfl) (pe_fld (pv 1) rfl) (nomark _)))))))), ?_⟩)
  · obtain ⟨y, zp, bl, dx, y2, zp2, bl2, dx2, ps, ps2, ns, ns2, n, n2, bs, bs2, rfl, _⟩ := h
    rfl
  · obtain ⟨y, zp, bl, dx, y2, zp2, bl2, dx2, ps, ps2, ns, ns2, n, n2, bs, bs2, rfl, L, L2, rfl, rfl, q⟩ := h
    obtain ⟨dz, l, z1, z2⟩ := id L.szs
    obtain ⟨dz2, l2, z3, z4⟩ := id L2.szs
    refine ⟨_, rfl, _, _, _, _, true, rfl, .own _, T.iL.ty L2.at_, T.iL.ki, _, rfl, iteT ?_⟩
    refine ⟨_, rfl, y, _, dx, _, _, rfl, L.at_, T.ly, T.nST, lay_st .., _, rfl, y2, _, dx2, _, _, rfl, L2.at_, T.ly, T.nST, lay_st .., zp, zp2, dz, dz2, _, _, rfl, rfl, z1, z3, zp, zp2, ns, ns, rfl, L.szs, L2.szs, ⟨_, rfl⟩, _, rfl, ifT (decide_eq_true rfl) ?_⟩
    refine ⟨_, rfl, y, _, dx, _, _, rfl, L.at_, T.ly, T.nCC, lay_cc .., _, rfl, y2, _, dx2, _, _, rfl, L2.at_, T.ly, T.nCC, lay_cc .., rfl, _, rfl, ifT (decide_eq_true rfl) ?_⟩
    refine ⟨_, rfl, y, _, dx, _, _, rfl, L.at_, T.ly, T.nBL, lay_bl .., _, rfl, y2, _, dx2, _, _, rfl, L2.at_, T.ly, T.nBL, lay_bl .., _, _, .lst (SqL.of L.lst) L.rf.dp, .lst (SqL.of L2.lst) L2.rf.dp, shaped_blk _, shaped_blk _, ?_⟩
    show Q (.bl (PyData.eqvAll (bs.map blkD) (bs2.map blkD))) H
    rw [eqv_blks]
    exact q
def spFree (K : PySem.W.Frag) : Sp := fun vs H Q _ => ∃ (y zp bl dx : Addr) (ps : List Addr) (ns : List Int) (n : Int) (bs : List Blk), vs = [.ref y] ∧ Ly K H y zp bl dx ps ns n bs ∧ Q (.int (n - tot ns bs)) H
theorem sc_free : FnScope ["self"] ["self"] (defScope (inClass (top 32) 6)) := ⟨rfl, rfl, rfl, by decide +kernel, rfl, by decide +kernel, by decide +kernel⟩
theorem ok_free (T : Tx K mg) (F : FnP K "free" "Layout.free" (inClass (top 32) 6) f fd) : FnOk P w K mg base CX0 1 f fd ["self"] (spFree K) := by
  refine F.ok sc_free (fun vs H Q E h => ?_) (fun cdv A outer s H vs Q E hr h => ⟨_, PSs.nox (pss_one (ps_ret (pe_fld (pv 0) rfl))), ?_⟩)
  · obtain ⟨y, zp, bl, dx, ps, ns, n, bs, rfl, _⟩ := h
    rfl
  · obtain ⟨y, zp, bl, dx, ps, ns, n, bs, rfl, L, q⟩ := h
    exact ⟨_, rfl, y, _, dx, _, _, rfl, L.at_, T.ly, T.nFC, lay_fc .., q⟩
/-- the free gaps -/
def fgI (ns : List Int) (n : Int) (bs : List Blk) : List (Int × Int) := gapsI n 0 (bs.map (rngB ns))
def spFg (K : PySem.W.Frag) : Sp := fun vs H Q _ => ∃ (y zp bl dx : Addr) (ps : List Addr) (ns : List Int) (n : Int) (bs : List Blk), vs = [.ref y] ∧ Ly K H y zp bl dx ps ns n bs ∧
  ∀ M qs H', H M = none → Same H H' → H' M = some (.lst (qs.map V.ref)) → Refs prV H' qs (fgI ns n bs) → Q (.ref M) H'
theorem sc_free_gaps : FnScope ["self"] ["self"] (defScope (inClass (top 32) 17)) := ⟨rfl, rfl, rfl, by decide +kernel, rfl, by decide +kernel, by decide +kernel⟩
theorem ok_fg (T : Tx K mg) (M_ranges_of : Mf P w K mg base 6 "Layout" "ranges_of" ["self", "blocks"] (spRanges K)) (D_gaps_between : Df P w K mg base 1 "gaps_between" ["ranges", "length"] spGaps) (F : FnP K "free_gaps" "Layout.free_gaps" (inClass (top 32) 17) f fd) :
    FnOk P w K mg base CX0 7 f fd ["self"] (spFg K) := by
  refine F.ok sc_free_gaps (fun vs H Q E h => ?_) (fun cdv A outer s H vs Q E hr h => ⟨_, PSs.nox (pss_one (ps_ret (pcall D_gaps_between hr (pa_cons (pmeth M_ranges_of hr (pv 0) (pa_cons (pe_fld (pv 0) rfl) pa_nil)) (pa_cons (pe_fld (pv 0) rfl) pa_nil))))), ?_⟩)
  · obtain ⟨y, zp, bl, dx, ps, ns, n, bs, rfl, _⟩ := h
    rfl
  · obtain ⟨y, zp, bl, dx, ps, ns, n, bs, rfl, L, q⟩ := h
    refine ⟨_, rfl, y, dx, _, rfl, L.at_, lay_nm (by decide +kernel), _, rfl, y, _, dx, _, _, rfl, L.at_, T.ly, T.nBL, lay_bl .., y, zp, bl, dx, ps, ns, n, bs, bl, ps, bs, rfl, L, L.lst, L.rf, L.ln, (fun b hb => (L.wf.ok b hb).1), fun D rs H1 hD s1 hD1 r1 => ?_⟩
    have L1 := L.same s1
    refine ⟨_, rfl, y, _, dx, _, _, rfl, L1.at_, T.ly, T.nCC, lay_cc .., D, n, rs, _, rfl, hD1, r1, (by rw [List.length_map]; exact L.ln), fun M qs H2 hM s2 h2 r2 => ?_⟩
    exact q M qs H2 (s1.free hM) (s1.trans s2) h2 r2
def spFr (K : PySem.W.Frag) : Sp := fun vs H Q _ => ∃ (y zp bl dx : Addr) (ps : List Addr) (ns : List Int) (n : Int) (bs : List Blk) (k : Nat), vs = [.ref y, .int k] ∧ Ly K H y zp bl dx ps ns n bs ∧ k < ns.length ∧ ∀ H', Same H H' → Q (.int (regI ns k (fgI ns n bs))) H'
theorem fg_ok {ns : List Int} {n : Int} {bs : List Blk} (w : Wf ns n bs) (g : Good ns) : (∀ x ∈ fgI ns n bs, 0 ≤ x.1 ∧ x.1 ≤ x.2) ∧ (fgI ns n bs).length ≤ bs.length + 1 := by
  refine ⟨gaps_ok (Int.le_refl _) fun r hr => ?_, ?_⟩
  · obtain ⟨b, hb, rfl⟩ := List.mem_map.mp hr
    have p := w.pos g hb
    have o := (w.ok b hb).2.1
    show 0 ≤ b.1 + sz ns b.2.1
    omega
  · have h := gaps_len (n := n) (bs.map (rngB ns)) 0
    rw [List.length_map] at h
    exact h
theorem sc_free_regions : FnScope ["self", "level"] ["self", "level"] (defScope (inClass (top 32) 22)) := ⟨rfl, rfl, rfl, by decide +kernel, rfl, by decide +kernel, by decide +kernel⟩
theorem ok_fr (T : Tx K mg) (M_free_gaps : Mf P w K mg base 7 "Layout" "free_gaps" ["self"] (spFg K)) (M_regions_in : Mf P w K mg base 8 "Layout" "regions_in" ["self", "gaps", "level"] (spRegIn K)) (F : FnP K "free_regions" "Layout.free_regions" (inClass (top 32) 22) f fd) :
    FnOk P w K mg base CX0 9 f fd ["self", "level"] (spFr K) := by
  refine F.ok sc_free_regions (fun vs H Q E h => ?_) (fun cdv A outer s H vs Q E hr h => ⟨_, PSs.nox (pss_one (ps_ret (pmeth M_regions_in hr (pv 0) (pa_cons (pmeth0 M_free_gaps hr (pv 0)) (pa_cons (pv 1) pa_nil))))), ?_⟩)
  · obtain ⟨y, zp, bl, dx, ps, ns, n, bs, k, rfl, _⟩ := h
    rfl
  · obtain ⟨y, zp, bl, dx, ps, ns, n, bs, k, rfl, L, hk, q⟩ := h
    obtain ⟨f1, f2⟩ := fg_ok L.wf L.gd
    have bn := L.ln
    refine ⟨_, rfl, y, dx, _, rfl, L.at_, lay_nm (by decide +kernel), _, rfl, y, dx, _, rfl, L.at_, lay_nm (by decide +kernel), y, zp, bl, dx, ps, ns, n, bs, rfl, L, fun M qs H1 hM s1 h1 r1 => ?_⟩
    exact ⟨_, rfl, y, zp, bl, dx, ps, ns, n, bs, M, qs, fgI ns n bs, k, rfl, L.same s1, h1, r1, by omega, f1, hk, fun H2 s2 => q H2 (s1.trans s2)⟩
end
end K28

set_option Elab.async false
set_option linter.all false
set_option maxRecDepth 100000
set_option maxHeartbeats 4000000
/-! Own layer: methods with keywords or defaults within a comprehension's block, or with no argument at all. -/
namespace Ex
open PySem PySem.Spec PySem.Calls PyProof.Rows L2 Gu
section
variable {X : Cx} {k j : Nat} {c m : Str} {ps ks : List Str} {dvs : List V} {sp : Sp} {p pos apos : Pos} {e o : Expr} {es : List Expr} {kws : List Keyword} {t tk : TA} {ta : TE} {f : Str}
theorem pmethKB {pl : Sem Bool} {n : Nat} (K : PySem.W.Frag) (D : MfK X.prog X.w X.K X.mg X.base k c m ps n ks sp) (hr : Room j X.A) (he : PE X o ta) (ha : PA X (e :: es) t) (hkw : PK X kws tk) (hj : k ≤ j := by decide) (hK : X.K = K := by rfl)
    (hst : starEach (e :: es) X.env = (false, eval e X.env) :: starEach es X.env := by rfl)
    (hall : (backToKw pos (keywordEach kws X.env)).all (·.1.isSome) = true := by rfl) (hks : (backToKw pos (keywordEach kws X.env)).filterMap (·.1) = ks := by rfl)
    (hpl : ((backTo pos (starEach (e :: es) X.env)).any (·.1) || (backToKw pos (keywordEach kws X.env)).any (·.1.isNone)) = false := by rfl)
    (ht : eval (.Call (.Attribute o m apos) (e :: es) kws pos) X.env = (do
      let ov ← eval o X.env
      standAt apos.atName
      let (f, first) ← holding [ov] (getMethod ov m pl)
      callWith pos f first (backTo pos (starEach (e :: es) X.env)) (backToKw pos (keywordEach kws X.env))) := by rfl) :
    PE X (.Call (.Attribute o m apos) (e :: es) kws pos) (tMethK (He.ga K c) m sp n ks.length ta t tk) := by
  subst hK
  exact pmethK D hr he ha hkw hj hst hall hks hpl ht
theorem pmethDB {pl : Sem Bool} (K : PySem.W.Frag) (D : MfD X.prog X.w X.K X.mg X.base k c m ps dvs sp) (hr : Room j X.A) (he : PE X o ta) (ha : PA X (e :: es) t) (hj : k ≤ j := by decide) (hK : X.K = K := by rfl)
    (hst : starEach (e :: es) X.env = (false, eval e X.env) :: starEach es X.env := by rfl) (hpl : (backTo pos (starEach es X.env)).any (·.1) = false := by rfl)
    (ht : eval (.Call (.Attribute o m apos) (e :: es) [] pos) X.env = (do
      let ov ← eval o X.env
      standAt apos.atName
      let (f, first) ← holding [ov] (getMethod ov m pl)
      callWith pos f first (backTo pos (starEach (e :: es) X.env)) (backToKw pos (keywordEach [] X.env))) := by rfl) :
    PE X (.Call (.Attribute o m apos) (e :: es) [] pos) (tMeth (He.ga K c) m sp dvs E0 ta t) := by
  subst hK
  exact pmethD D hr he ha hj hst hpl ht
theorem pmethD0 {pl : Sem Bool} (D : MfD X.prog X.w X.K X.mg X.base k c m ps dvs sp) (hr : Room j X.A) (he : PE X o ta) (hj : k ≤ j := by decide)
    (ht : eval (.Call (.Attribute o m apos) [] [] pos) X.env = (do
      let ov ← eval o X.env
      standAt apos.atName
      let (f, first) ← holding [ov] (getMethod ov m pl)
      callWith pos f first (backTo pos (starEach [] X.env)) (backToKw pos (keywordEach [] X.env))) := by rfl) :
    PE X (.Call (.Attribute o m apos) [] [] pos) (tMeth (He.ga X.K c) m sp dvs E0 ta tNil) := by
  obtain ⟨fd, ds, F, v, b⟩ := D.ex
  exact pe_meth0 he D.cl D.me F (hr.mono hj) b v pass0 ht
end
/-- the least of a list -/
def mnL : List Int → Int
  | [] => 0
  | [x] => x
  | x :: y :: r => min x (mnL (y :: r))
theorem mnL_ok : ∀ l : List Int, 0 < l.length → mnL l ∈ l ∧ ∀ y ∈ l, mnL l ≤ y
  | [x], _ => ⟨List.mem_singleton.mpr rfl, fun y h => by rw [List.mem_singleton.mp h]; exact Int.le_refl _⟩
  | x :: y :: r, _ => by
    obtain ⟨h1, h2⟩ := mnL_ok (y :: r) (by simp)
    show min x (mnL (y :: r)) ∈ _ ∧ _
    refine ⟨?_, fun z hz => ?_⟩
    · rcases Int.le_total x (mnL (y :: r)) with h | h
      · rw [Int.min_eq_left h]
        exact List.mem_cons_self
      · rw [Int.min_eq_right h]
        exact List.mem_cons_of_mem _ h1
    · show min x (mnL (y :: r)) ≤ z
      rcases List.mem_cons.mp hz with e | e
      · rw [e]
        exact Int.min_le_left _ _
      · exact Int.le_trans (Int.min_le_right _ _) (h2 z e)
theorem mnL_is {l : List Int} {m : Int} (h : m ∈ l) (k : ∀ y ∈ l, m ≤ y) : m = mnL l := by
  obtain ⟨h1, h2⟩ := mnL_ok l (List.length_pos_of_mem h)
  have := k _ h1
  have := h2 _ h
  omega
end Ex

set_option Elab.async false
set_option linter.all false
set_option maxRecDepth 100000
set_option maxHeartbeats 4000000
namespace K28
open PySem PySem.Spec PyProof.Rows L2 Gu Ex
theorem lay_putB (zp bl : Addr) (n fr : Int) (z : Addr) : putF "block_list" (.ref z) (layF zp n fr bl) = layF zp n fr z := by
  have e : (("size_table" : Str) = ("block_list" : Str)) = False := by
    simp only [eq_iff_iff, iff_false]
    decide +kernel
  have e2 : (("cell_count" : Str) = ("block_list" : Str)) = False := by
    simp only [eq_iff_iff, iff_false]
    decide +kernel
  have e3 : (("free_count" : Str) = ("block_list" : Str)) = False := by
    simp only [eq_iff_iff, iff_false]
    decide +kernel
  simp [layF, putF, e, e2, e3]
section
variable {P : Program} {w : World} {K : PySem.W.Frag} {mg : Str → Option Value} {base : Heap} {f : Addr} {fd : FuncData}
def spClone (K : PySem.W.Frag) : Sp := fun vs H Q _ => ∃ (y zp bl dx : Addr) (ps : List Addr) (ns : List Int) (n : Int) (bs : List Blk), vs = [.ref y] ∧ Ly K H y zp bl dx ps ns n bs ∧
  ∀ y2 bl2 dx2 H', H y2 = none → H bl2 = none → Same H H' → Ly K H' y2 zp bl2 dx2 ps ns n bs → Q (.ref y2) H'
theorem sc_clone : FnScope ["self", "twin"] ["self"] (defScope (inClass (top 32) 8)) := ⟨rfl, rfl, rfl, by decide +kernel, rfl, by decide +kernel, by decide +kernel⟩
theorem ok_clone (T : Tx K mg) (D_Layout : Kf P w K mg base 4 "Layout" ["self", "sizes", "length"] (spNew K)) (F : FnP K "clone" "Layout.clone" (inClass (top 32) 8) f fd) : FnOk P w K mg base CX0 6 f fd ["self"] (spClone K) := by
  refine F.ok sc_clone (fun vs H Q E h => ?_) (fun cdv A outer s H vs Q E hr h => ⟨_, PSs.nox (pss_cons (ps_set (i := 1) sc_clone.nd rfl (by first | exact Or.inl rfl | exact Or.inr rfl) (pmake D_Layout hr (pa_cons (pe_fld (pv 0) rfl) (pa_cons (pe_fld (pv 0) rfl) pa_nil)))) (pss_cons (ps_fld (pv 1) (pe_callTy call_list_of (by rfl) T.n_list (by decide +kernel) (pa_cons (pe_fld (pv 0) rfl) pa_nil)) rfl) (pss_cons (ps_fld (pv 1) (pe_fld (pv 0) rfl) rfl) (pss_one (ps_ret (pv 1)))))), ?_⟩)
  · obtain ⟨y, zp, bl, dx, ps, ns, n, bs, rfl, _⟩ := h
    rfl
  · obtain ⟨y, zp, bl, dx, ps, ns, n, bs, rfl, L, q⟩ := h
    refine ⟨_, rfl, y, _, dx, _, _, rfl, L.at_, T.ly, T.nST, lay_st .., _, rfl, y, _, dx, _, _, rfl, L.at_, T.ly, T.nCC, lay_cc .., ?_⟩
    intro y2 dx2 hy hdx ndx
    have s0 : Same H (upd (upd H dx2 (.own y2)) y2 (.ins (He.ga K "Layout") dx2 [])) := fun c o e => by
      rw [upd_ne (ne_of_none e hy), upd_ne (ne_of_none e hdx)]
      exact e
    refine ⟨y2, zp, dx2, ns, n, rfl, upd_same, L.szs.same s0, L.gd, L.n1, L.n2, fun b0 H1 hb0 kp L1 => ⟨rfl, ?_⟩⟩
    have s1 : Same H H1 := fun c o e => kp c o (ne_of_none e hy) (s0 c o e)
    have LL := L.same s1
    refine ⟨_, rfl, y, _, dx, _, _, rfl, LL.at_, T.ly, T.nBL, lay_bl .., bl, _, rfl, .inl (SqL.of LL.lst), fun l hl => ?_⟩
    have nl : y2 ≠ l := ne_of_none L1.at_ hl
    have lH : H l = none := s1.free hl
    refine ⟨_, rfl, y2, _, dx2, _, rfl, (by rw [upd_ne nl]; exact L1.at_), T.ly, T.nBL, (by show 4 < 1000; decide), ?_⟩
    rw [lay_putB]
    have s2 : Same H (upd (upd H1 l (.lst (ps.map V.ref))) y2 (.ins (He.ga K "Layout") dx2 (layF zp n (n - tot ns []) l))) := fun c o e => by
      rw [upd_ne (ne_of_none e hy), upd_ne (ne_of_none e lH)]
      exact s1 c o e
    have L2 := L.same s2
    refine ⟨_, rfl, y, _, dx, _, _, rfl, L2.at_, T.ly, T.nFC, lay_fc .., _, rfl, y2, _, dx2, _, rfl, upd_same, T.ly, T.nFC, (by show 4 < 1000; decide), ?_⟩
    rw [lay_put]
    have s3 : Same H (upd (upd (upd H1 l (.lst (ps.map V.ref))) y2 (.ins (He.ga K "Layout") dx2 (layF zp n (n - tot ns []) l))) y2 (.ins (He.ga K "Layout") dx2 (layF zp n (n - tot ns bs) l))) := fun c o e => by
      rw [upd_ne (ne_of_none e hy)]
      exact s2 c o e
    obtain ⟨dz, lz, z1, z2, _⟩ := id L.ap
    refine ⟨_, rfl, q y2 l dx2 _ hy lH s3 ⟨upd_same, L.szs.same s3, ?_, L.rf.same s3, L.wf, L.gd, L.n1, L.n2, L.ln, ⟨dz, lz, s3 _ _ z1, s3 _ _ z2, ne_of_none z2 lH⟩⟩⟩
    rw [upd_ne nl.symm, upd_ne nl.symm, upd_same]
theorem Tups.app {H : Hp} {ps qs : List Addr} {ts us : List M16.Run} (h : Tups H ps ts) (h2 : Tups H qs us) : Tups H (ps ++ qs) (ts ++ us) := by
  induction h with
  | nil => exact h2
  | cons a _ ih => exact .cons a ih
/-- the runs of the free gaps -/
def runsI (ns : List Int) (gs : List (Int × Int)) : List M16.Run := gs.flatMap fun g => Rs ns g.2 g.1
theorem runs_len {ns : List Int} (g : Good ns) : ∀ gs : List (Int × Int), (runsI ns gs).length ≤ 16 * gs.length
  | [] => Nat.le_refl _
  | x :: r => by
    have h1 := runs_len g r
    have h2 := M16.R_short (s := sz ns) (a := x.1) (hi := x.2) (chain g) g.len.2
    unfold runsI at h1 ⊢
    rw [List.flatMap_cons, List.length_append, List.length_cons]
    show (M16.R (sz ns) ns.length x.2 x.1).length + _ ≤ _
    omega
def spRuns (K : PySem.W.Frag) : Sp := fun vs H Q _ => ∃ (y zp bl dx : Addr) (ps : List Addr) (ns : List Int) (n : Int) (bs : List Blk), vs = [.ref y] ∧ Ly K H y zp bl dx ps ns n bs ∧
  ∀ R ts H', H R = none → Same H H' → H' R = some (.lst (ts.map V.ref)) → Tups H' ts (runsI ns (fgI ns n bs)) → Q (.ref R) H'
theorem sc_free_runs : FnScope ["self", "runs", "low", "high"] ["self"] (defScope (inClass (top 32) 20)) := ⟨rfl, rfl, rfl, by decide +kernel, rfl, by decide +kernel, by decide +kernel⟩
theorem ok_runs (T : Tx K mg) (M_free_gaps : Mf P w K mg base 7 "Layout" "free_gaps" ["self"] (spFg K)) (D_maximal_runs : Df P w K mg base 9 "maximal_runs" ["sizes", "low", "high"] (spMax K)) (F : FnP K "free_runs" "Layout.free_runs" (inClass (top 32) 20) f fd) : FnOk P w K mg base CX0 10 f fd ["self"] (spRuns K) := by
  refine F.ok sc_free_runs (fun vs H Q E h => ?_) (fun cdv A outer s H vs Q E hr h => ⟨_, PSs.nox (pss_cons (ps_set (i := 1) sc_free_runs.nd rfl (by first | exact Or.inl rfl | exact Or.inr rfl) (pe_lst pa_nil)) (pss_cons (ps_for PassesOwn.never rfl (pi_list (pmeth0 M_free_gaps hr (pv 0))) (pg_tup (by rfl) (pgs_cons (pg_name (i := 2) sc_free_runs.nd rfl (by first | exact Or.inl rfl | exact Or.inr rfl)) (pgs_cons (pg_name (i := 3) sc_free_runs.nd rfl (by first | exact Or.inl rfl | exact Or.inr rfl)) pgs_nil))) (pss_one (ps_expr (pe_bm PySem.F.plainAttrs_list PySem.F.slot_list_extend PySem.F.type_list_extend mt_extend (pv 1) (pa_cons (pcall D_maximal_runs hr (pa_cons (pe_fld (pv 0) rfl) (pa_cons (pv 2) (pa_cons (pv 3) pa_nil)))) pa_nil))))) (pss_one (ps_ret (pv 1))))), ?_⟩)
  · obtain ⟨y, zp, bl, dx, ps, ns, n, bs, rfl, _⟩ := h
    rfl
  · obtain ⟨y, zp, bl, dx, ps, ns, n, bs, rfl, L, q⟩ := h
    have sl : sizeLine = 16777216 := sizeLine_eq
    obtain ⟨f1, f2⟩ := fg_ok L.wf L.gd
    have bn := L.ln
    refine ⟨Nat.zero_le _, fun R hR => ?_⟩
    have s0 : Same H (upd H R (.lst [])) := same_upd hR
    have L0 := L.same s0
    have hR0 : (upd H R (.lst [])) R = some (.lst []) := upd_same
    generalize upd H R (.lst []) = H0 at s0 L0 hR0
    refine ⟨_, rfl, y, dx, _, rfl, L0.at_, lay_nm (by decide +kernel), y, zp, bl, dx, ps, ns, n, bs, rfl, L0, fun M qs H1 hM s1 h1 r1 => ?_⟩
    have nMR : M ≠ R := (ne_of_none hR0 hM).symm
    have pl := r1.len
    refine ⟨M, rfl, ⟨_, SqL.of h1⟩, ?_⟩
    refine for_list (K := K) (a := M) (xs := qs.map V.ref) (fun i σ G => ∃ (ts : List Addr) (x2 x3 : Option V), σ = [some (.ref y), some (.ref R), x2, x3] ∧ (∀ c o, c ≠ R → H1 c = some o → G c = some o) ∧ G R = some (.lst (ts.map V.ref)) ∧ Tups G ts (runsI ns ((fgI ns n bs).take i)))
      ⟨[], none, none, rfl, fun _ _ _ e => e, s1 _ _ hR0, .nil⟩ (fun i σ G _ ⟨_, _, _, _, kp, _⟩ => SqL.of (kp _ _ nMR h1)) ?_ ?_
    · rintro i v σ G hv ⟨ts, x2, x3, rfl, kp, hG, tp⟩
      obtain ⟨p, hp, rfl⟩ := ref_of hv
      obtain ⟨g, hg, hT⟩ := r1.get hp
      have sG : Same H G := fun c o e => kp c o (ne_of_none e hR) (s1 _ _ (s0 c o e))
      have hT' : G p = some (.tup [.int g.1, .int g.2]) := kp _ _ (fun z => by rw [z, s1 _ _ hR0] at hT; cases hT) hT
      have LG := L.same sG
      obtain ⟨g1, g2⟩ := f1 g (List.mem_of_getElem? hg)
      have il := (List.getElem?_eq_some_iff.mp hg).1
      refine ⟨p, _, rfl, .inl (.inl hT'), rfl, _, _, rfl, _, _, rfl, rfl, ?_⟩
      refine ⟨_, rfl, .inl ⟨rfl, _, SqL.of hG⟩, _, rfl, y, _, dx, _, _, rfl, LG.at_, T.ly, T.nST, lay_st .., _, rfl, _, rfl, zp, ns, g.1, g.2, rfl, LG.szs, LG.gd, g1, g2, fun B us G1 hB s2 h2 t2 => ?_⟩
      have l1 := runs_len L.gd ((fgI ns n bs).take i)
      have l2 := M16.R_short (s := sz ns) (a := g.1) (hi := g.2) (chain L.gd) L.gd.len.2
      have e1 := tp.len
      have e2 := t2.len
      rw [List.length_take] at l1
      have e3 : us.length ≤ 16 := by rw [e2]; exact l2
      refine ⟨R, B, _, _, rfl, rfl, s2 _ _ hG, h2, (by rw [List.length_map, List.length_map]; omega), ?_⟩
      have nR : ∀ {c : Addr} {xs : List V}, G1 c = some (.tup xs) → c ≠ R := fun {c xs} e z => by
        rw [z, s2 _ _ hG] at e
        cases e
      refine ⟨ts ++ us, _, _, rfl, fun c o nc e => ?_, ?_, ?_⟩
      · rw [upd_ne nc]
        exact s2 _ _ (kp c o nc e)
      · rw [upd_same, List.map_append]
      · have e4 : runsI ns ((fgI ns n bs).take (i + 1)) = runsI ns ((fgI ns n bs).take i) ++ Rs ns g.2 g.1 := by
          unfold runsI
          rw [take_at hg, List.flatMap_append, List.flatMap_cons, List.flatMap_nil, List.append_nil]
        rw [e4]
        refine ((tp.same s2).app t2).mono fun c xs e => ?_
        rw [upd_ne (nR e)]
        exact e
    · rintro σ G ⟨ts, x2, x3, rfl, kp, hG, tp⟩
      rw [List.length_map, pl, List.take_length] at tp
      exact ⟨_, rfl, q R ts G hR (fun c o e => kp c o (ne_of_none e hR) (s1 _ _ (s0 c o e))) hG tp⟩
def rowsI (ns : List Int) (n : Int) (bs : List Blk) (cs : List Int) (i : Nat) : List Int := (List.range i).map fun k => slkI ns n bs k cs + sz ns k - 1
def lrgI (ns : List Int) (n : Int) (bs : List Blk) (cs : List Int) : Int := if mnL (rowsI ns n bs cs ns.length) > 0 then mnL (rowsI ns n bs cs ns.length) else 0
def spLarge (K : PySem.W.Frag) : Sp := fun vs H Q _ => ∃ (y zp bl dx : Addr) (ps : List Addr) (ns : List Int) (n : Int) (bs : List Blk) (a : Addr) (cs : List Int), vs = [.ref y, .ref a] ∧ Ly K H y zp bl dx ps ns n bs ∧ Kept K H a cs ∧ (∀ c ∈ cs, 1 ≤ c ∧ c ≤ 1000000000000) ∧ cs.length ≤ 1000 ∧ ∀ H', Same H H' → Q (.int (lrgI ns n bs cs)) H'
theorem sc_largest : FnScope ["self", "kept", "most", "level"] ["self", "kept"] (defScope (inClass (top 32) 29)) := ⟨rfl, rfl, rfl, by decide +kernel, rfl, by decide +kernel, by decide +kernel⟩
theorem ok_large {z0 : Addr} (T : Tx K mg) (M_len : Mf P w K mg base 1 "Sizes" "__len__" ["self"] (spLen K)) (M_slack_kw : MfK P w K mg base 10 "Layout" "slack" ["self", "level", "kept"] 2 ["kept"] (spSlack K)) (M_size : Mf P w K mg base 5 "Sizes" "size" ["self", "level"] (spSize K))
    (F : FnK K "largest" "Layout.largest" (inClass (top 32) 29) [("kept", .ref z0)] f fd) : FnOk P w K mg base CX0 11 f fd ["self", "kept"] (spLarge K) := by
  refine F.ok sc_largest (fun vs H Q E h => ?_) (fun cdv A outer s H vs Q E hr h => ⟨_, PSs.nox (pss_cons (ps_setLc (i := 2) (own := [("level", 3)]) (g := gName 3) rfl sc_largest.nd rfl rfl (sw_true rfl rfl rfl (by decide +kernel)) (pi_range1 rfl T.n_range (pa_cons (pe_callB (call_lenO M_len hr) (by rfl) T.n_len (by decide +kernel) (pa_cons (pe_fld (pv 0) rfl) pa_nil)) pa_nil)) (blkOk_by (own := [("level", 3)]) (N := ["self", "kept", "most", "level"]) (sc := defScope (inClass (top 32) 29)) (by decide +kernel)) (fun _ _ _ _ _ => pg_name (i := 3) sc_largest.nd rfl (Or.inl rfl)) (fun _ _ _ _ _ => pts_nil) (fun _ _ _ _ _ => (pe_op op_sub (pe_op op_add (pmethKB K M_slack_kw hr (pv 0) (pa_cons (pv 3) pa_nil) (pk_cons (pv 1) pk_nil)) (pmethB K M_size hr (pfldB K (pv 0)) (pa_cons (pv 3) pa_nil))) pe_int))) (pss_one (ps_ret (pe_callB (call_max2 rfl) (by rfl) T.n_max (by decide +kernel) (pa_cons pe_int (pa_cons (pe_callB (cr_min rfl) (by rfl) T.n_min (by decide +kernel) (pa_cons (pv 2) pa_nil)) pa_nil)))))), ?_⟩)
  · obtain ⟨y, zp, bl, dx, ps, ns, n, bs, a, cs, rfl, _⟩ := h
    rfl
  · obtain ⟨y, zp, bl, dx, ps, ns, n, bs, a, cs, rfl, L, kp, rg, cl, q⟩ := h
    have sl : sizeLine = 16777216 := sizeLine_eq
    obtain ⟨dz, l, z1, z2⟩ := id L.szs
    have l8 := L.gd.len
    refine ⟨_, rfl, y, _, dx, _, _, rfl, L.at_, T.ly, T.nST, lay_st .., zp, dz, _, rfl, z1, zp, ns, rfl, L.szs, ns.length, rfl, by omega, _, rfl, by omega, by omega, fun D hD => ?_⟩
    refine lc_range (fun i G => G D = some (.lst ((rowsI ns n bs cs i).map V.int)) ∧ Same H G) ⟨upd_same, same_upd hD⟩ ?_ ?_
    · rintro i G hi ⟨hG, sm⟩
      rw [Int.toNat_natCast] at hi
      rw [Int.zero_add]
      have LG := L.same sm
      refine ⟨rfl, _, rfl, y, dx, _, rfl, LG.at_, lay_nm (by decide +kernel), _, rfl, _, rfl, rfl, rfl, y, zp, bl, dx, ps, ns, n, bs, i, a, cs, rfl, LG, hi, kp.same sm, rg, cl, fun G1 s1 => ?_⟩
      have L1 := LG.same s1
      obtain ⟨dz, l, z1, z2⟩ := id L1.szs
      refine ⟨_, rfl, y, _, dx, _, _, rfl, L1.at_, T.ly, T.nST, lay_st .., zp, dz, _, rfl, z1, szF_no l (by decide +kernel), _, rfl, zp, ns, i, _, rfl, L1.szs, sz_at hi, _, _, rfl, rfl, _, _, rfl, rfl, _, s1 _ _ hG, ?_, ?_, fun c o e => ?_⟩
      · unfold rowsI
        rw [List.length_map, List.length_map, List.length_range]
        omega
      · unfold rowsI
        rw [upd_same, List.range_succ, List.map_append, List.map_append]
        rfl
      · rw [upd_ne (ne_of_none e hD)]
        exact s1 _ _ (sm c o e)
    · rintro G ⟨hG, sm⟩
      rw [Int.toNat_natCast] at hG
      refine ⟨_, rfl, D, _, rfl, SqL.of hG, (by unfold rowsI; rw [List.length_map, List.length_range]; omega), fun m h1 h2 => ?_⟩
      obtain rfl := mnL_is h1 h2
      exact ⟨_, _, rfl, q G sm⟩
end
end K28

set_option Elab.async false
set_option linter.all false
set_option maxRecDepth 100000
set_option maxHeartbeats 4000000
namespace K28
open PySem PySem.Spec PyProof.Rows L2 Gu Ex
theorem mul_step {s p q : Int} (hs : 1 ≤ s) (h : s * p < s * q + s) : s * p ≤ s * q := by
  rcases Int.lt_or_le q p with h1 | h1
  · have := Int.mul_le_mul_of_nonneg_left (show q + 1 ≤ p by omega) (show 0 ≤ s by omega)
    rw [Int.mul_add, Int.mul_one] at this
    omega
  · exact Int.mul_le_mul_of_nonneg_left h1 (by omega)
theorem div_iff {s x i : Int} (hs : 1 ≤ s) : x / s = i ↔ i * s ≤ x ∧ x < i * s + s := by
  have h1 : i ≤ x / s ↔ i * s ≤ x := Int.le_ediv_iff_mul_le (by omega)
  have h2 : x / s < i + 1 ↔ x < (i + 1) * s := Int.ediv_lt_iff_lt_mul (by omega)
  rw [Int.add_mul, Int.one_mul] at h2
  omega
/-- does b touch the region i of size s -/
def hitN (ns : List Int) (s : Int) (i : Nat) (b : Blk) : Bool := decide (b.1 < (i : Int) * s + s) && decide ((i : Int) * s < bEnd ns b)
theorem hitN_iff {ns : List Int} {s : Int} {i : Nat} {b : Blk} : hitN ns s i b = true ↔ b.1 < (i : Int) * s + s ∧ (i : Int) * s < bEnd ns b := by
  unfold hitN
  simp
theorem inG_iff {s lo hi : Int} {i : Nat} : inG s lo hi i = true ↔ lo ≤ (i : Int) * s ∧ (i : Int) * s + s ≤ hi := by
  unfold inG
  simp
section
variable {ns : List Int} {n : Int} {bs : List Blk} {k : Nat} {b : Blk} {i : Nat}
theorem hit_large (g : Good ns) (hk : k ≤ b.2.1) (hb : b.2.1 < ns.length) (hd : sz ns b.2.1 ∣ b.1) : hitN ns (sz ns k) i b = inG (sz ns k) b.1 (bEnd ns b) i := by
  have hs := (chain g).pos k (by omega)
  have dz := (chain g).dvd hk hb
  obtain ⟨q, hq⟩ := Int.dvd_trans dz hd
  obtain ⟨t, ht⟩ := dz
  have e1 : bEnd ns b = sz ns k * (q + t) := by
    unfold bEnd
    rw [hq, ht, Int.mul_add]
  have e2 : (i : Int) * sz ns k = sz ns k * (i : Int) := Int.mul_comm _ _
  refine Bool.eq_iff_iff.mpr (hitN_iff.trans (Iff.trans ?_ inG_iff.symm))
  rw [e1, hq, e2]
  have e3 : sz ns k * (i : Int) + sz ns k = sz ns k * ((i : Int) + 1) := by rw [Int.mul_add, Int.mul_one]
  refine ⟨fun ⟨h1, h2⟩ => ⟨mul_step hs h1, ?_⟩, fun ⟨h1, h2⟩ => ⟨by omega, by omega⟩⟩
  rw [e3]
  refine mul_step hs ?_
  rw [Int.mul_add, Int.mul_one]
  omega
theorem hit_small (g : Good ns) (hk : b.2.1 ≤ k) (hkl : k < ns.length) (hd : sz ns b.2.1 ∣ b.1) : hitN ns (sz ns k) i b = decide (b.1 / sz ns k = (i : Int)) := by
  have hs := (chain g).pos k hkl
  have hz := (chain g).pos b.2.1 (by omega)
  obtain ⟨t, ht⟩ := (chain g).dvd hk hkl
  obtain ⟨q, hq⟩ := hd
  refine Bool.eq_iff_iff.mpr (hitN_iff.trans (Iff.trans ?_ decide_eq_true_iff.symm))
  rw [div_iff hs]
  unfold bEnd
  refine ⟨fun ⟨h1, h2⟩ => ⟨?_, h1⟩, fun ⟨h1, h2⟩ => ⟨h2, by omega⟩⟩
  have e : (i : Int) * sz ns k = sz ns b.2.1 * ((i : Int) * t) := by
    rw [ht, ← Int.mul_assoc, Int.mul_comm (i : Int), Int.mul_assoc]
  rw [e] at h2 ⊢
  rw [hq] at h2 ⊢
  exact mul_step hz h2
theorem cn_not (p : Nat → Bool) : ∀ m, cn p m + cn (fun i => !p i) m = m
  | 0 => rfl
  | m + 1 => by
    have ih := cn_not p m
    show (cn p m + (if p m = true then 1 else 0)) + (cn (fun i => !p i) m + (if (!p m) = true then 1 else 0)) = m + 1
    cases e : p m with
    | true =>
      rw [if_pos rfl, if_neg (by decide)]
      omega
    | false =>
      rw [if_neg (by decide), if_pos (by decide)]
      omega
theorem cn_eq {x : Int} {m : Nat} (h0 : 0 ≤ x) (h1 : x < (m : Int)) : cn (fun i => decide (x = (i : Int))) m = 1 := by
  have e : cn (fun i => decide (x = (i : Int))) m = cn (fun i => decide (x ≤ (i : Int)) && decide ((i : Int) < x + 1)) m := cn_congr fun i _ => by
    by_cases h : x = (i : Int)
    · rw [decide_eq_true h, decide_eq_true (show x ≤ (i : Int) by omega), decide_eq_true (show (i : Int) < x + 1 by omega)]
      rfl
    · rw [decide_eq_false h]
      by_cases h2 : x ≤ (i : Int)
      · rw [decide_eq_false (show ¬ (i : Int) < x + 1 by omega), Bool.and_false]
      · rw [decide_eq_false h2]
        rfl
  have h := cn_seg (A := x) (B := x + 1) h0 m
  rw [← e] at h
  rw [if_pos (by omega)] at h
  omega
theorem cn_eq_le {x : Int} : ∀ m : Nat, cn (fun i => decide (x = (i : Int))) m ≤ 1 := fun m => by
  by_cases h : 0 ≤ x ∧ x < (m : Int)
  · rw [cn_eq h.1 h.2]
    exact Nat.le_refl _
  · rw [cn_zero fun i hi => decide_eq_false (by omega)]
    exact Nat.zero_le _
theorem cn_mem {m : Nat} : ∀ {D : List Int}, D.Nodup → (∀ x ∈ D, 0 ≤ x ∧ x < (m : Int)) → cn (fun i => decide ((i : Int) ∈ D)) m = D.length
  | [], _, _ => cn_zero fun i _ => by simp
  | x :: D, hn, h => by
    have p := List.nodup_cons.mp hn
    have ih := cn_mem (m := m) (D := D) p.2 fun y hy => h y (List.mem_cons_of_mem _ hy)
    obtain ⟨h0, h1⟩ := h x List.mem_cons_self
    have e := cn_or (m := m) (p := fun i => decide ((i : Int) ∈ x :: D)) (q := fun i => decide (x = (i : Int))) (r := fun i => decide ((i : Int) ∈ D)) (fun i _ => by
      show decide ((i : Int) ∈ x :: D) = (decide (x = (i : Int)) || decide ((i : Int) ∈ D))
      rw [← Bool.decide_or]
      refine decide_eq_decide.mpr ?_
      rw [List.mem_cons]
      exact ⟨fun z => z.imp Eq.symm id, fun z => z.imp Eq.symm id⟩) (fun i _ hq => by
      have hq2 : x = (i : Int) := of_decide_eq_true hq
      refine decide_eq_false ?_
      rw [← hq2]
      exact p.1)
    rw [e, cn_eq h0 h1, ih, List.length_cons]
    omega
theorem dedup_ok : ∀ (l acc : List Int), acc.Nodup → (l.foldl step_dedup acc).Nodup ∧ ∀ x, x ∈ l.foldl step_dedup acc ↔ x ∈ acc ∨ x ∈ l
  | [], acc, h => ⟨h, fun x => by simp⟩
  | a :: l, acc, h => by
    have e : step_dedup acc a = if a ∈ acc then acc else acc ++ [a] := by
      unfold step_dedup
      by_cases ha : a ∈ acc
      · rw [if_pos ha, if_pos]
        exact List.any_eq_true.mpr ⟨a, ha, by simp⟩
      · rw [if_neg ha, if_neg]
        intro z
        obtain ⟨y, hy, ey⟩ := List.any_eq_true.mp z
        have : y = a := by simpa using ey
        rw [this] at hy
        exact ha hy
    rw [List.foldl_cons, e]
    by_cases ha : a ∈ acc
    · rw [if_pos ha]
      obtain ⟨h1, h2⟩ := dedup_ok l acc h
      refine ⟨h1, fun x => ?_⟩
      rw [h2, List.mem_cons]
      refine ⟨fun z => z.imp id .inr, fun z => ?_⟩
      rcases z with z | z | z
      · exact .inl z
      · rw [z]
        exact .inl ha
      · exact .inr z
    · rw [if_neg ha]
      have hn : (acc ++ [a]).Nodup := List.nodup_append.mpr ⟨h, List.nodup_cons.mpr ⟨List.not_mem_nil, List.nodup_nil⟩, fun x hx y hy z => by
        rw [List.mem_singleton.mp hy] at z
        rw [z] at hx
        exact ha hx⟩
      obtain ⟨h1, h2⟩ := dedup_ok l _ hn
      refine ⟨h1, fun x => ?_⟩
      rw [h2, List.mem_append, List.mem_singleton, List.mem_cons]
      exact or_assoc
theorem cn_diff {m : Nat} {l : List Int} (h : ∀ x ∈ l, 0 ≤ x ∧ x < (m : Int)) : cn (fun i => decide ((i : Int) ∈ l)) m = diff l := by
  obtain ⟨h1, h2⟩ := dedup_ok l [] List.nodup_nil
  have h3 : ∀ x, x ∈ l.foldl step_dedup [] ↔ x ∈ l := fun x => by
    rw [h2]
    simp
  unfold diff
  rw [← cn_mem (m := m) h1 fun x hx => h x ((h3 x).mp hx)]
  exact cn_congr fun i _ => decide_eq_decide.mpr (h3 _).symm
/-- what _law_untouched reckons -/
def larI (ns : List Int) (k : Nat) (bs : List Blk) : Int := ((bs.filter fun b => decide (sz ns k ≤ sz ns b.2.1)).map fun b => sz ns b.2.1).sum
def smaP (ns : List Int) (n : Int) (k : Nat) (b : Blk) : Bool := decide (sz ns b.2.1 < sz ns k) && decide (b.1 / sz ns k < n / sz ns k)
def smaL (ns : List Int) (n : Int) (k : Nat) (bs : List Blk) : List Int := (bs.filter (smaP ns n k)).map fun b => b.1 / sz ns k
def untI (ns : List Int) (n : Int) (bs : List Blk) (k : Nat) : Int := n / sz ns k * sz ns k - larI ns k bs - (diff (smaL ns n k bs) : Nat) * sz ns k
theorem sz_le_iff (g : Good ns) {j : Nat} (hk : k < ns.length) (hj : j < ns.length) : sz ns k ≤ sz ns j ↔ k ≤ j := by
  refine ⟨fun h => ?_, fun h => ?_⟩
  · rcases Nat.lt_or_ge j k with h1 | h1
    · have := sz_lt g h1 hk
      omega
    · exact h1
  · rcases Nat.lt_or_ge k j with h1 | h1
    · exact Int.le_of_lt (sz_lt g h1 hj)
    · rw [Nat.le_antisymm h h1]
      exact Int.le_refl _
def flipB (b : Blk) : Blk := (b.1, b.2.1, false)
theorem lse_flip (g : Good ns) (hk : k < ns.length) : ∀ {bs : List Blk}, (∀ b ∈ bs, b.2.1 < ns.length) → lseI ns (bs.map flipB) k = larI ns k bs
  | [], _ => rfl
  | b :: bs, h => by
    have ih := lse_flip g hk (bs := bs) fun c hc => h c (List.mem_cons_of_mem _ hc)
    have hb := h b List.mem_cons_self
    unfold lseI unpB larI at ih ⊢
    rw [List.map_cons, List.filter_cons_of_pos (by rfl)]
    by_cases hc : k ≤ b.2.1
    · rw [List.filter_cons_of_pos (p := fun b : Blk => decide (k ≤ b.2.1)) (a := flipB b) (decide_eq_true hc), List.filter_cons_of_pos (p := fun b : Blk => decide (sz ns k ≤ sz ns b.2.1)) (a := b) (decide_eq_true ((sz_le_iff g hk hb).mpr hc)), List.map_cons, List.map_cons, List.sum_cons, List.sum_cons, ih]
      rfl
    · rw [List.filter_cons_of_neg (p := fun b : Blk => decide (k ≤ b.2.1)) (a := flipB b) (by rw [show decide (k ≤ (flipB b).2.1) = false from decide_eq_false hc]; exact Bool.false_ne_true), List.filter_cons_of_neg (p := fun b : Blk => decide (sz ns k ≤ sz ns b.2.1)) (a := b) (by rw [decide_eq_false (fun z => hc ((sz_le_iff g hk hb).mp z))]; exact Bool.false_ne_true), ih]
theorem two_of {c d : Blk} (w : Wf ns n bs) (hc : c ∈ bs) (hd : d ∈ bs) (h : c ≠ d) : bEnd ns c ≤ d.1 ∨ bEnd ns d ≤ c.1 := by
  obtain ⟨i, hi, rfl⟩ := List.getElem_of_mem hc
  obtain ⟨j, hj, rfl⟩ := List.getElem_of_mem hd
  rcases Nat.lt_trichotomy i j with h1 | h1 | h1
  · exact .inl (List.pairwise_iff_getElem.mp w.so i j hi hj h1)
  · subst h1
    exact absurd rfl h
  · exact .inr (List.pairwise_iff_getElem.mp w.so j i hj hi h1)
theorem unt_clr (w : Wf ns n bs) (g : Good ns) (hk : k < ns.length) (n1 : 0 ≤ n) (pin : ∀ b ∈ bs, b.2.2 = true) : untI ns n bs k = clrI ns n bs k := by
  have hs := (chain g).pos k hk
  have q0 : 0 ≤ n / sz ns k := Int.ediv_nonneg n1 (by omega)
  obtain ⟨m, em⟩ : ∃ m : Nat, n / sz ns k = (m : Int) := ⟨(n / sz ns k).toNat, by omega⟩
  rw [clr_due w g hk n1]
  unfold dueI untI
  rw [em, Int.toNat_natCast, cntC_cn]
  have not_is : cn (fun i => !clearAt ns bs k i) m = cn (fun i => bs.any fun b => decide (k ≤ b.2.1) && hitN ns (sz ns k) i b) m + cn (fun i => bs.any fun b => decide (b.2.1 < k) && hitN ns (sz ns k) i b) m := by
    refine cn_or (fun i _ => ?_) (fun i _ hq => ?_)
    · refine Bool.eq_iff_iff.mpr ?_
      rw [Bool.or_eq_true, List.any_eq_true, List.any_eq_true]
      unfold clearAt clearB
      constructor
      · intro h
        have h' : (bs.all fun b => !hitB ns ((i : Int) * sz ns k) ((i : Int) * sz ns k + sz ns k) b) = false := by simpa using h
        obtain ⟨b, hb, e⟩ := List.all_eq_false.mp h'
        have e2 : hitB ns ((i : Int) * sz ns k) ((i : Int) * sz ns k + sz ns k) b = true := by simpa using e
        unfold hitB at e2
        have e3 : hitN ns (sz ns k) i b = true := by
          rw [pin b hb] at e2
          exact e2
        by_cases hc : k ≤ b.2.1
        · exact .inl ⟨b, hb, by rw [decide_eq_true hc, e3]; rfl⟩
        · exact .inr ⟨b, hb, by rw [decide_eq_true (show b.2.1 < k by omega), e3]; rfl⟩
      · intro h
        have : ∃ b, b ∈ bs ∧ hitN ns (sz ns k) i b = true := by
          rcases h with ⟨b, hb, e⟩ | ⟨b, hb, e⟩
          · exact ⟨b, hb, (Bool.and_eq_true_iff.mp e).2⟩
          · exact ⟨b, hb, (Bool.and_eq_true_iff.mp e).2⟩
        obtain ⟨b, hb, e⟩ := this
        have : (bs.all fun b => !hitB ns ((i : Int) * sz ns k) ((i : Int) * sz ns k + sz ns k) b) = false := all_no hb (by
          unfold hitB
          rw [pin b hb]
          unfold hitN at e
          rw [e]
          rfl)
        rw [this]
        rfl
    · obtain ⟨c, hc, e⟩ := List.any_eq_true.mp hq
      obtain ⟨e1, e2⟩ := Bool.and_eq_true_iff.mp e
      have ok := w.ok c hc
      rw [hit_large g (of_decide_eq_true e1) ok.1 ok.2.2.1] at e2
      have e3 := inG_iff.mp e2
      cases h : (bs.any fun b => decide (b.2.1 < k) && hitN ns (sz ns k) i b) with
      | false => rfl
      | true =>
        obtain ⟨d, hd, f⟩ := List.any_eq_true.mp h
        obtain ⟨f1, f2⟩ := Bool.and_eq_true_iff.mp f
        have f3 := hitN_iff.mp f2
        have lt := of_decide_eq_true f1
        have le := of_decide_eq_true e1
        have ne : c ≠ d := fun z => by
          rw [z] at le
          omega
        rcases two_of w hc hd ne with z | z <;> omega
  have large : sz ns k * ((cn (fun i => bs.any fun b => decide (k ≤ b.2.1) && hitN ns (sz ns k) i b) m : Nat) : Int) = larI ns k bs := by
    rw [← lse_flip g hk (bs := bs) fun b hb => (w.ok b hb).1]
    rw [lse_cn (n := n) (m := m) g hk (by omega) (bs := bs.map flipB) (fun b hb => by
      obtain ⟨c, hc, rfl⟩ := List.mem_map.mp hb
      exact w.ok c hc) (List.pairwise_map.mpr w.so)]
    congr 2
    refine cn_congr fun i _ => ?_
    rw [List.any_map]
    refine Bool.eq_iff_iff.mpr ?_
    rw [List.any_eq_true, List.any_eq_true]
    have one : ∀ b ∈ bs, (decide (k ≤ b.2.1) && hitN ns (sz ns k) i b) = (inB ns k i ∘ flipB) b := fun b hb => by
      show _ = ((true && decide (k ≤ b.2.1)) && inG (sz ns k) b.1 (bEnd ns b) i)
      have ok := w.ok b hb
      by_cases hc : k ≤ b.2.1
      · rw [hit_large g hc ok.1 ok.2.2.1, Bool.true_and]
      · rw [decide_eq_false hc]
        rfl
    exact ⟨fun ⟨b, hb, e⟩ => ⟨b, hb, by rw [← one b hb]; exact e⟩, fun ⟨b, hb, e⟩ => ⟨b, hb, by rw [one b hb]; exact e⟩⟩
  have small : cn (fun i => bs.any fun b => decide (b.2.1 < k) && hitN ns (sz ns k) i b) m = diff (smaL ns n k bs) := by
    rw [← cn_diff (m := m) (l := smaL ns n k bs)]
    · refine cn_congr fun i hi => ?_
      refine Bool.eq_iff_iff.mpr ?_
      rw [List.any_eq_true, decide_eq_true_iff]
      unfold smaL
      rw [List.mem_map]
      constructor
      · rintro ⟨b, hb, e⟩
        obtain ⟨e1, e2⟩ := Bool.and_eq_true_iff.mp e
        have ok := w.ok b hb
        have lt := of_decide_eq_true e1
        rw [hit_small g (by omega) hk ok.2.2.1] at e2
        have e3 := of_decide_eq_true e2
        refine ⟨b, List.mem_filter.mpr ⟨hb, ?_⟩, e3⟩
        unfold smaP
        rw [decide_eq_true (sz_lt g lt hk), decide_eq_true (show b.1 / sz ns k < n / sz ns k by rw [e3, em]; omega)]
        rfl
      · rintro ⟨b, hb, e⟩
        obtain ⟨hm, hp⟩ := List.mem_filter.mp hb
        have ok := w.ok b hm
        unfold smaP at hp
        have lt := of_decide_eq_true (Bool.and_eq_true_iff.mp hp).1
        have lt2 : b.2.1 < k := by
          rcases Nat.lt_or_ge b.2.1 k with z | z
          · exact z
          · have := (sz_le_iff g hk ok.1).mpr z
            omega
        exact ⟨b, hm, by rw [decide_eq_true lt2, hit_small g (by omega) hk ok.2.2.1, decide_eq_true e]; rfl⟩
    · intro x hx
      unfold smaL at hx
      obtain ⟨b, hb, rfl⟩ := List.mem_map.mp hx
      obtain ⟨hm, hp⟩ := List.mem_filter.mp hb
      have ok := w.ok b hm
      unfold smaP at hp
      have lt := of_decide_eq_true (Bool.and_eq_true_iff.mp hp).2
      exact ⟨Int.ediv_nonneg ok.2.1 (by omega), by omega⟩
  have tot := cn_not (clearAt ns bs k) m
  rw [not_is, small] at tot
  have ec : ((cn (clearAt ns bs k) m : Nat) : Int) = (m : Int) - ((cn (fun i => bs.any fun b => decide (k ≤ b.2.1) && hitN ns (sz ns k) i b) m : Nat) : Int) - ((diff (smaL ns n k bs) : Nat) : Int) := by omega
  rw [ec, ← large, Int.mul_sub, Int.mul_sub, Int.mul_comm (m : Int), Int.mul_comm ((diff (smaL ns n k bs) : Nat) : Int)]
theorem clr_filter (ns : List Int) (n : Int) (bs : List Blk) (k : Nat) : clrI ns n (bs.filter fun b => b.2.2) k = clrI ns n bs k := by
  unfold clrI pinR
  rw [List.filter_filter]
  simp
theorem lse_one (ns : List Int) (bs : List Blk) (k : Nat) : lseI ns bs k = ((bs.filter fun b => !b.2.2 && decide (k ≤ b.2.1)).map fun b => sz ns b.2.1).sum := by
  unfold lseI unpB
  rw [List.filter_filter]
  congr 2
  refine List.filter_congr fun b _ => Bool.and_comm _ _
theorem lse_app (xs ys : List Blk) : lseI ns (xs ++ ys) k = lseI ns xs k + lseI ns ys k := by
  rw [lse_one, lse_one, lse_one, List.filter_append, List.map_append, List.sum_append]
theorem lse_cons (b : Blk) (ys : List Blk) : lseI ns (b :: ys) k = (if (!b.2.2 && decide (k ≤ b.2.1)) = true then sz ns b.2.1 else 0) + lseI ns ys k := by
  rw [lse_one, lse_one]
  cases e : (!b.2.2 && decide (k ≤ b.2.1)) with
  | true =>
    rw [List.filter_cons_of_pos (p := fun b : Blk => !b.2.2 && decide (k ≤ b.2.1)) e, List.map_cons, List.sum_cons, if_pos rfl]
  | false =>
    rw [List.filter_cons_of_neg (p := fun b : Blk => !b.2.2 && decide (k ≤ b.2.1)) (by rw [e]; exact Bool.false_ne_true), if_neg Bool.false_ne_true, Int.zero_add]
/-- a block gets a pin: the slack -/
theorem slk_pin {j : Nat} (w : Wf ns n bs) (g : Good ns) (n1 : 0 ≤ n) (hj : bs[j]? = some b) (hp : b.2.2 = false) (hk : k < ns.length) :
    (k ≤ b.2.1 → slkI ns n (pinB bs j b true) k [] = slkI ns n bs k []) ∧ (b.2.1 < k → slkI ns n bs k [] - slkI ns n (pinB bs j b true) k [] = 0 ∨ slkI ns n bs k [] - slkI ns n (pinB bs j b true) k [] = sz ns k) := by
  have hs := (chain g).pos k hk
  have q0 : 0 ≤ n / sz ns k := Int.ediv_nonneg n1 (by omega)
  have bm := List.mem_of_getElem? hj
  have ok := w.ok b bm
  have w' : Wf ns n (pinB bs j b true) := pin_wf w hj
  have jl := (List.getElem?_eq_some_iff.mp hj).1
  have e1 : bs = bs.take j ++ b :: bs.drop (j + 1) := by
    rw [← drop_at hj, List.take_append_drop]
  have e2 : pinB bs j b true = bs.take j ++ (b.1, b.2.1, true) :: bs.drop (j + 1) := by
    unfold pinB
    rw [List.set_eq_take_append_cons_drop, if_pos jl]
  obtain ⟨m, em⟩ : ∃ m : Nat, n / sz ns k = (m : Int) := ⟨(n / sz ns k).toNat, by omega⟩
  have cl : ∀ i, clearAt ns (pinB bs j b true) k i = (clearAt ns bs k i && !hitN ns (sz ns k) i b) := fun i => by
    have h2 : clearAt ns (pinB bs j b true) k i = ((bs.take j).all (fun b => !hitB ns ((i : Int) * sz ns k) ((i : Int) * sz ns k + sz ns k) b) && ((!hitN ns (sz ns k) i b) && (bs.drop (j + 1)).all (fun b => !hitB ns ((i : Int) * sz ns k) ((i : Int) * sz ns k + sz ns k) b))) := by
      rw [e2]
      unfold clearAt clearB
      rw [List.all_append, List.all_cons]
      rfl
    have h1 : clearAt ns bs k i = ((bs.take j).all (fun b => !hitB ns ((i : Int) * sz ns k) ((i : Int) * sz ns k + sz ns k) b) && (bs.drop (j + 1)).all (fun b => !hitB ns ((i : Int) * sz ns k) ((i : Int) * sz ns k + sz ns k) b)) := by
      conv => lhs; rw [e1]
      unfold clearAt clearB
      rw [List.all_append, List.all_cons]
      have : (!hitB ns ((i : Int) * sz ns k) ((i : Int) * sz ns k + sz ns k) b) = true := by
        unfold hitB
        rw [hp]
        rfl
      rw [this, Bool.true_and]
    rw [h1, h2]
    cases (bs.take j).all (fun b => !hitB ns ((i : Int) * sz ns k) ((i : Int) * sz ns k + sz ns k) b) <;> cases hitN ns (sz ns k) i b <;> simp
  have cs : cn (clearAt ns bs k) m = cn (clearAt ns (pinB bs j b true) k) m + cn (fun i => clearAt ns bs k i && hitN ns (sz ns k) i b) m := by
    refine cn_or (fun i _ => ?_) (fun i _ hq => ?_)
    · rw [cl]
      cases clearAt ns bs k i <;> cases hitN ns (sz ns k) i b <;> rfl
    · rw [cl] at hq
      have h2 := (Bool.and_eq_true_iff.mp hq).2
      cases h3 : hitN ns (sz ns k) i b with
      | false => rw [Bool.and_false]
      | true =>
        rw [h3] at h2
        cases h2
  have ls : lseI ns bs k = lseI ns (pinB bs j b true) k + (if k ≤ b.2.1 then sz ns b.2.1 else 0) := by
    rw [e2]
    conv => lhs; rw [e1]
    rw [lse_app, lse_app, lse_cons, lse_cons, hp]
    by_cases hc : k ≤ b.2.1
    · rw [decide_eq_true hc, if_pos hc, if_pos (by rfl), if_neg (by simp)]
      omega
    · rw [decide_eq_false hc, if_neg hc, if_neg (by simp), if_neg (by simp)]
      omega
  have d1 : slkI ns n bs k [] = sz ns k * ((cn (clearAt ns bs k) m : Nat) : Int) - lseI ns bs k := by
    unfold slkI
    rw [clr_due w g hk n1]
    unfold dueI whlI
    rw [cntC_cn, em, Int.toNat_natCast]
    simp
  have d2 : slkI ns n (pinB bs j b true) k [] = sz ns k * ((cn (clearAt ns (pinB bs j b true) k) m : Nat) : Int) - lseI ns (pinB bs j b true) k := by
    unfold slkI
    rw [clr_due w' g hk n1]
    unfold dueI whlI
    rw [cntC_cn, em, Int.toNat_natCast]
    simp
  rw [d1, d2, cs, ls, Int.natCast_add, Int.mul_add]
  refine ⟨fun hc => ?_, fun hc => ?_⟩
  · rw [if_pos hc]
    have e3 : cn (fun i => clearAt ns bs k i && hitN ns (sz ns k) i b) m = cn (inG (sz ns k) b.1 (bEnd ns b)) m := cn_congr fun i _ => by
      rw [hit_large g hc ok.1 ok.2.2.1]
      cases h : inG (sz ns k) b.1 (bEnd ns b) i with
      | false => rw [Bool.and_false]
      | true =>
        rw [Bool.and_true]
        have h2 := inG_iff.mp h
        unfold clearAt clearB
        refine List.all_eq_true.mpr fun c hcm => ?_
        have : hitB ns ((i : Int) * sz ns k) ((i : Int) * sz ns k + sz ns k) c = false := by
          unfold hitB
          cases ep : c.2.2 with
          | false => rfl
          | true =>
            have ne : c ≠ b := fun z => by
              rw [z, hp] at ep
              cases ep
            cases hh : (decide (c.1 < (i : Int) * sz ns k + sz ns k) && decide ((i : Int) * sz ns k < bEnd ns c)) with
            | false => rfl
            | true =>
              obtain ⟨z1, z2⟩ := Bool.and_eq_true_iff.mp hh
              have z1 := of_decide_eq_true z1
              have z2 := of_decide_eq_true z2
              rcases two_of w hcm bm ne with z | z <;> omega
        rw [this]
        rfl
    have dv : bEnd ns b / sz ns k ≤ (m : Int) := by
      have := Int.ediv_le_ediv (show 0 < sz ns k by omega) ok.2.2.2
      omega
    rw [e3, one_cn g hc ok.1 ok.2.1 ok.2.2.1 dv]
    omega
  · rw [if_neg (by omega)]
    have le : cn (fun i => clearAt ns bs k i && hitN ns (sz ns k) i b) m ≤ 1 := Nat.le_trans (cn_le (q := fun i => decide (b.1 / sz ns k = (i : Int))) fun i _ h => by
      rw [← hit_small g (by omega) hk ok.2.2.1]
      exact (Bool.and_eq_true_iff.mp h).2) (cn_eq_le m)
    rcases Nat.le_one_iff_eq_zero_or_eq_one.mp le with e | e
    · left
      rw [e]
      simp
    · right
      rw [e]
      simp
      omega
theorem slk_le {j : Nat} (w : Wf ns n bs) (g : Good ns) (n1 : 0 ≤ n) (hj : bs[j]? = some b) (hp : b.2.2 = false) (hk : k < ns.length) : slkI ns n (pinB bs j b true) k [] ≤ slkI ns n bs k [] := by
  obtain ⟨h1, h2⟩ := slk_pin w g n1 hj hp hk
  have hs := (chain g).pos k hk
  rcases Nat.lt_or_ge b.2.1 k with h | h
  · rcases h2 h with z | z <;> omega
  · have := h1 h
    omega
theorem lrg_le {j : Nat} (w : Wf ns n bs) (g : Good ns) (n1 : 0 ≤ n) (hj : bs[j]? = some b) (hp : b.2.2 = false) : lrgI ns n (pinB bs j b true) [] ≤ lrgI ns n bs [] := by
  have l := g.len
  have len : ∀ cs : List Blk, 0 < (rowsI ns n cs [] ns.length).length := fun cs => by
    unfold rowsI
    rw [List.length_map, List.length_range]
    omega
  have h1 := mnL_ok _ (len (pinB bs j b true))
  have h2 := mnL_ok _ (len bs)
  have le : mnL (rowsI ns n (pinB bs j b true) [] ns.length) ≤ mnL (rowsI ns n bs [] ns.length) := by
    have hm := h2.1
    obtain ⟨k, hk, e⟩ := List.mem_map.mp hm
    have hk := List.mem_range.mp hk
    have h3 := h1.2 (slkI ns n (pinB bs j b true) k [] + sz ns k - 1) (List.mem_map.mpr ⟨k, List.mem_range.mpr hk, rfl⟩)
    have h4 := slk_le w g n1 hj hp hk
    omega
  unfold lrgI
  split <;> split <;> omega
end
end K28

set_option Elab.async false
set_option linter.all false
set_option maxRecDepth 100000
set_option maxHeartbeats 4000000
namespace K28
open PySem PySem.Spec PyProof.Rows L2 Gu Ex
section
variable {P : Program} {w : World} {K : PySem.W.Frag} {mg : Str → Option Value} {base : Heap} {f : Addr} {fd : FuncData}
def spLW : Sp := fun vs H Q _ => ∃ (c s : Int), vs = [.int c, .int s] ∧ 1 ≤ s ∧ Q (.int (c - c % s)) H
theorem sc__law_whole : FnScope ["_law_cells", "_law_size"] ["_law_cells", "_law_size"] (defScope (top 38)) := ⟨rfl, rfl, rfl, by decide +kernel, rfl, by decide +kernel, by decide +kernel⟩
theorem ok_lwhole (T : Tx K mg) (F : FnP K "_law_whole" "_law_whole" (top 38) f fd) : FnOk P w K mg base CX0 1 f fd ["_law_cells", "_law_size"] spLW := by
  refine F.ok sc__law_whole (fun vs H Q E h => ?_) (fun cdv A outer s H vs Q E hr h => ⟨_, PSs.nox (pss_one (ps_ret (pe_op op_sub (pv 0) (pe_op op_mod (pv 0) (pv 1))))), ?_⟩)
  · obtain ⟨c, s, rfl, _⟩ := h
    rfl
  · obtain ⟨c, s, rfl, h1, q⟩ := h
    exact ⟨_, rfl, _, rfl, _, rfl, _, _, rfl, rfl, (by show (0 : Int) < s; omega), _, _, rfl, rfl, q⟩
def spUnt : Sp := fun vs H Q _ => ∃ (s a : Addr) (ns : List Int) (n : Int) (ps : List Addr) (bs : List Blk) (k : Nat), vs = [.ref s, .int n, .ref a, .int k] ∧ H s = some (.lst (ns.map V.int)) ∧ Bl ns H a ps bs ∧ Good ns ∧ k < ns.length ∧ bs.length < 64 ∧ ∀ H', Same H H' → Q (.int (untI ns n bs k)) H'
theorem sc__law_untouched : FnScope ["_law_sizes_here", "_law_length", "_law_blocks_here", "_law_level", "_law_size", "_law_larger", "_law_smaller", "_law_one"] ["_law_sizes_here", "_law_length", "_law_blocks_here", "_law_level"] (defScope (top 41)) := ⟨rfl, rfl, rfl, by decide +kernel, rfl, by decide +kernel, by decide +kernel⟩
theorem ok_unt (T : Tx K mg) (F : FnP K "_law_untouched" "_law_untouched" (top 41) f fd) : FnOk P w K mg base CX0 1 f fd ["_law_sizes_here", "_law_length", "_law_blocks_here", "_law_level"] spUnt := by
  refine F.ok sc__law_untouched (fun vs H Q E h => ?_) (fun cdv A outer s H vs Q E hr h => ⟨_, PSs.nox (pss_cons (ps_set (i := 4) sc__law_untouched.nd rfl (by first | exact Or.inl rfl | exact Or.inr rfl) (pe_ix ix_list (pv 0) (pv 3) (fun _ _ => rfl))) (pss_cons (ps_set (i := 5) sc__law_untouched.nd rfl (by first | exact Or.inl rfl | exact Or.inr rfl) (pe_callB (cr_sum rfl) (by rfl) T.n_sum (by decide +kernel) (pa_cons (pe_lc (own := [("_law_one", 7)]) (g := gName 7) rfl sc__law_untouched.nd (pi_list (pv 2)) (blkOk_by (own := [("_law_one", 7)]) (N := ["_law_sizes_here", "_law_length", "_law_blocks_here", "_law_level", "_law_size", "_law_larger", "_law_smaller", "_law_one"]) (sc := defScope (top 41)) (by decide +kernel)) (fun _ _ _ _ _ => pg_name (i := 7) sc__law_untouched.nd rfl (Or.inl rfl)) (fun _ _ _ _ _ => (pts_one (pt_cmpR op_ge (pe_ix (r := rIxL K) ix_list (pv 0) (pe_ix (r := rIxT K) ix_tup (pv 7) pe_int (fun _ _ => rfl)) (fun _ _ => rfl)) (pv 4) (nomark _)))) (fun _ _ _ _ _ => (pe_ix (r := rIxL K) ix_list (pv 0) (pe_ix (r := rIxT K) ix_tup (pv 7) pe_int (fun _ _ => rfl)) (fun _ _ => rfl)))) pa_nil))) (pss_cons (ps_set (i := 6) sc__law_untouched.nd rfl (by first | exact Or.inl rfl | exact Or.inr rfl) (pe_lenSetD rfl (by rfl) T.n_len (by rfl) T.n_set (pe_lc (own := [("_law_one", 7)]) (g := gName 7) rfl sc__law_untouched.nd (pi_list (pv 2)) (blkOk_by (own := [("_law_one", 7)]) (N := ["_law_sizes_here", "_law_length", "_law_blocks_here", "_law_level", "_law_size", "_law_larger", "_law_smaller", "_law_one"]) (sc := defScope (top 41)) (by decide +kernel)) (fun _ _ _ _ _ => pg_name (i := 7) sc__law_untouched.nd rfl (Or.inl rfl)) (fun _ _ _ _ _ => (pts_one (PW.pt (pw_and (pt_cmpR op_lt (pe_ix (r := rIxL K) ix_list (pv 0) (pe_ix (r := rIxT K) ix_tup (pv 7) pe_int (fun _ _ => rfl)) (fun _ _ => rfl)) (pv 4) (nomark _)) (pw_and1 (pt_cmpR op_lt (pe_op op_fdivW (pe_ix (r := rIxT K) ix_tup (pv 7) pe_int (fun _ _ => rfl)) (pv 4)) (pe_op op_fdivW (pv 1) (pv 4)) (nomark _))))))) (fun _ _ _ _ _ => (pe_op op_fdivW (pe_ix (r := rIxT K) ix_tup (pv 7) pe_int (fun _ _ => rfl)) (pv 4)))))) (pss_one (ps_ret (pe_op op_sub (pe_op op_sub (pe_op op_mul (pe_op op_fdivW (pv 1) (pv 4)) (pv 4)) (pv 5)) (pe_op op_mul (pv 6) (pv 4)))))))), ?_⟩)
  · obtain ⟨s, a, ns, n, ps, bs, k, rfl, _⟩ := h
    rfl
  · obtain ⟨s, a, ns, n, ps, bs, k, rfl, hs, B, g, hk, b64, q⟩ := h
    have pl := B.rf.len
    have sl : sizeLine = 16777216 := sizeLine_eq
    have z1 := (chain g).pos k hk
    have z2 := sz_le g hk
    refine ⟨_, rfl, _, rfl, s, _, _, _, rfl, rfl, SqL.of hs, at_sz hk, ?_⟩
    refine ⟨_, rfl, a, rfl, ⟨_, SqL.of B.at_⟩, fun D hD => ?_⟩
    refine lc_list (K := K) (a := a) (xs := ps.map V.ref) (fun i G => G D = some (.lst ((((bs.take i).filter fun b => decide (sz ns k ≤ sz ns b.2.1)).map fun b => sz ns b.2.1).map V.int)) ∧ Same H G) ⟨upd_same, same_upd hD⟩ (fun i G _ ⟨_, sm⟩ => SqL.of (sm _ _ B.at_)) ?_ ?_
    · rintro i x G hx ⟨hG, sm⟩
      obtain ⟨p, hp, rfl⟩ := ref_of hx
      obtain ⟨b, hb, hT⟩ := (B.rf.same sm).get hp
      have hT' : G p = some (.tup [.int b.1, .int (b.2.1 : Nat), .bl b.2.2]) := hT
      have bk := B.lv b (List.mem_of_getElem? hb)
      have il : i < bs.length := (List.getElem?_eq_some_iff.mp hb).1
      have hsG := sm _ _ hs
      have fa : (bs.take (i + 1)).filter (fun b => decide (sz ns k ≤ sz ns b.2.1)) = (bs.take i).filter (fun b => decide (sz ns k ≤ sz ns b.2.1)) ++ (if decide (sz ns k ≤ sz ns b.2.1) = true then [b] else []) := filter_at (fun b => decide (sz ns k ≤ sz ns b.2.1)) hb
      have fl := List.length_filter_le (fun b : Blk => decide (sz ns k ≤ sz ns b.2.1)) (bs.take i)
      rw [List.length_take] at fl
      refine ⟨rfl, _, rfl, _, rfl, p, _, _, _, rfl, rfl, .inl (.inl hT'), rfl, s, _, _, _, rfl, rfl, SqL.of hsG, at_sz bk, _, rfl, _, _, rfl, rfl, _, rfl, ?_⟩
      by_cases hc : sz ns k ≤ sz ns b.2.1
      · rw [if_pos (decide_eq_true hc)] at fa
        refine ifT (decide_eq_true hc) ⟨_, rfl, _, rfl, p, _, _, _, rfl, rfl, .inl (.inl hT'), rfl, s, _, _, _, rfl, rfl, SqL.of hsG, at_sz bk, _, hG, (by rw [List.length_map, List.length_map]; omega), ?_, fun c o e => ?_⟩
        · rw [upd_same, fa, List.map_append, List.map_append]
          rfl
        · rw [upd_ne (ne_of_none e hD)]
          exact sm c o e
      · rw [if_neg (fun z => hc (of_decide_eq_true z)), List.append_nil] at fa
        refine ifF (decide_eq_false hc) ⟨?_, sm⟩
        rw [fa]
        exact hG
    · rintro G ⟨hG, sm⟩
      rw [List.length_map, pl, List.take_length] at hG
      refine ⟨D, _, rfl, SqL.of hG, ?_⟩
      have BG := B.same sm
      have hsG := sm _ _ hs
      refine ⟨_, rfl, a, rfl, ⟨_, SqL.of BG.at_⟩, fun D2 hD2 => ?_⟩
      refine lc_list (K := K) (a := a) (xs := ps.map V.ref) (fun i G2 => G2 D2 = some (.lst ((((bs.take i).filter (smaP ns n k)).map fun b => b.1 / sz ns k).map V.int)) ∧ Same G G2) ⟨upd_same, same_upd hD2⟩ (fun i G2 _ ⟨_, sm⟩ => SqL.of (sm _ _ BG.at_)) ?_ ?_
      · rintro i x G2 hx ⟨hG2, sm2⟩
        obtain ⟨p, hp, rfl⟩ := ref_of hx
        obtain ⟨b, hb, hT⟩ := (BG.rf.same sm2).get hp
        have hT' : G2 p = some (.tup [.int b.1, .int (b.2.1 : Nat), .bl b.2.2]) := hT
        have bk := B.lv b (List.mem_of_getElem? hb)
        have il : i < bs.length := (List.getElem?_eq_some_iff.mp hb).1
        have hsG := sm2 _ _ hsG
        have fa := filter_at (smaP ns n k) hb
        have fl := List.length_filter_le (smaP ns n k) (bs.take i)
        rw [List.length_take] at fl
        refine ⟨rfl, _, rfl, _, rfl, p, _, _, _, rfl, rfl, .inl (.inl hT'), rfl, s, _, _, _, rfl, rfl, SqL.of hsG, at_sz bk, _, rfl, _, _, rfl, rfl, _, rfl, ?_⟩
        by_cases hc : sz ns b.2.1 < sz ns k
        · refine ifT (decide_eq_true hc) ⟨_, rfl, p, _, _, _, rfl, rfl, .inl (.inl hT'), rfl, _, rfl, _, _, rfl, rfl, div_ok z1 z2, _, rfl, _, rfl, _, _, rfl, rfl, div_ok z1 z2, _, _, rfl, rfl, _, rfl, ?_⟩
          by_cases hd : b.1 / sz ns k < n / sz ns k
          · have e : smaP ns n k b = true := by
              unfold smaP
              rw [decide_eq_true hc, decide_eq_true hd]
              rfl
            rw [if_pos e] at fa
            refine ifT (decide_eq_true hd) ⟨_, rfl, p, _, _, _, rfl, rfl, .inl (.inl hT'), rfl, _, rfl, _, _, rfl, rfl, div_ok z1 z2, _, hG2, (by rw [List.length_map, List.length_map]; omega), ?_, fun c o e => ?_⟩
            · rw [upd_same, fa, List.map_append, List.map_append]
              rfl
            · rw [upd_ne (ne_of_none e hD2)]
              exact sm2 c o e
          · have e : smaP ns n k b = false := by
              unfold smaP
              rw [decide_eq_false hd, Bool.and_false]
            rw [e, if_neg Bool.false_ne_true, List.append_nil] at fa
            refine ifF (decide_eq_false hd) ⟨?_, sm2⟩
            rw [fa]
            exact hG2
        · have e : smaP ns n k b = false := by
            unfold smaP
            rw [decide_eq_false hc, Bool.false_and]
          rw [e, if_neg Bool.false_ne_true, List.append_nil] at fa
          refine ifF (decide_eq_false hc) ⟨?_, sm2⟩
          rw [fa]
          exact hG2
      · rintro G2 ⟨hG2, sm2⟩
        rw [List.length_map, pl, List.take_length] at hG2
        have fl := List.length_filter_le (smaP ns n k) bs
        refine ⟨D2, smaL ns n k bs, rfl, SqL.of hG2, (by unfold smaL; rw [List.length_map]; omega), ?_⟩
        exact ⟨_, rfl, _, rfl, _, _, rfl, rfl, div_ok z1 z2, _, rfl, _, _, rfl, rfl, .inr ⟨by omega, by omega⟩, _, rfl, _, _, rfl, rfl, _, rfl, _, rfl, _, _, rfl, rfl, .inr ⟨by omega, by omega⟩, _, _, rfl, rfl, q G2 (sm.trans sm2)⟩
/-- the blocks that the law keeps, beside its sizes -/
structure Lb (ns : List Int) (n : Int) (H : Hp) (s a : Addr) (qs : List Addr) (bs : List Blk) : Prop where
  hs : H s = some (.lst (ns.map V.int))
  ha : H a = some (.lst (qs.map V.ref))
  rf : Refs blkV H qs bs
  wf : Wf ns n bs
  gd : Good ns
  n0 : 0 ≤ n
  ln : bs.length ≤ 16
theorem Lb.same {ns : List Int} {n : Int} {H H' : Hp} {s a : Addr} {qs : List Addr} {bs : List Blk} (h : Lb ns n H s a qs bs) (sm : Same H H') : Lb ns n H' s a qs bs := ⟨sm _ _ h.hs, sm _ _ h.ha, h.rf.same sm, h.wf, h.gd, h.n0, h.ln⟩
def spLClear : Sp := fun vs H Q _ => ∃ (s a : Addr) (ns : List Int) (n : Int) (qs : List Addr) (bs : List Blk) (k : Nat), vs = [.ref s, .int n, .ref a, .int k] ∧ Lb ns n H s a qs bs ∧ k < ns.length ∧ ∀ H', Same H H' → Q (.int (clrI ns n bs k)) H'
theorem sc__law_clear_cells : FnScope ["_law_sizes_here", "_law_length", "_law_blocks_here", "_law_level", "_law_one"] ["_law_sizes_here", "_law_length", "_law_blocks_here", "_law_level"] (defScope (top 42)) := ⟨rfl, rfl, rfl, by decide +kernel, rfl, by decide +kernel, by decide +kernel⟩
theorem ok_lclear (T : Tx K mg) (D__law_untouched : Df P w K mg base 1 "_law_untouched" ["_law_sizes_here", "_law_length", "_law_blocks_here", "_law_level"] spUnt) (F : FnP K "_law_clear_cells" "_law_clear_cells" (top 42) f fd) : FnOk P w K mg base CX0 2 f fd ["_law_sizes_here", "_law_length", "_law_blocks_here", "_law_level"] spLClear := by
  refine F.ok sc__law_clear_cells (fun vs H Q E h => ?_) (fun cdv A outer s H vs Q E hr h => ⟨_, PSs.nox (pss_one (ps_ret (pcall D__law_untouched hr (pa_cons (pv 0) (pa_cons (pv 1) (pa_cons (pe_lc (own := [("_law_one", 4)]) (g := gName 4) rfl sc__law_clear_cells.nd (pi_list (pv 2)) (blkOk_by (own := [("_law_one", 4)]) (N := ["_law_sizes_here", "_law_length", "_law_blocks_here", "_law_level", "_law_one"]) (sc := defScope (top 42)) (by decide +kernel)) (fun _ _ _ _ _ => pg_name (i := 4) sc__law_clear_cells.nd rfl (Or.inl rfl)) (fun _ _ _ _ _ => (pts_one (pt_val (pe_ix (r := rIxT K) ix_tup (pv 4) pe_int (fun _ _ => rfl))))) (fun _ _ _ _ _ => (pv 4))) (pa_cons (pv 3) pa_nil))))))), ?_⟩)
  · obtain ⟨s, a, ns, n, qs, bs, k, rfl, _⟩ := h
    rfl
  · obtain ⟨s, a, ns, n, ps, bs, k, rfl, L, hk, q⟩ := h
    have sl : sizeLine = 16777216 := sizeLine_eq
    have pl := L.rf.len
    have bn := L.ln
    refine ⟨_, rfl, _, rfl, _, rfl, a, rfl, ⟨_, SqL.of L.ha⟩, fun D hD => ?_⟩
    refine lc_list (K := K) (a := a) (xs := ps.map V.ref) (fun i G => ∃ qs, G D = some (.lst (qs.map V.ref)) ∧ Refs blkV G qs ((bs.take i).filter fun b => b.2.2) ∧ Same H G) ⟨[], upd_same, .nil, same_upd hD⟩ (fun i G _ ⟨_, _, _, sm⟩ => SqL.of (sm _ _ L.ha)) ?_ ?_
    · rintro i x G hx ⟨qs, hG, rr, sm⟩
      obtain ⟨p, hp, rfl⟩ := ref_of hx
      obtain ⟨b, hb, hT⟩ := (L.rf.same sm).get hp
      have il : i < bs.length := (List.getElem?_eq_some_iff.mp hb).1
      have rl := rr.len
      have fl := List.length_filter_le (fun b : Blk => b.2.2) (bs.take i)
      rw [List.length_take] at fl
      have hT' : G p = some (.tup [.int b.1, .int (b.2.1 : Nat), .bl b.2.2]) := hT
      refine ⟨rfl, _, rfl, p, _, _, _, rfl, rfl, SqT.of hT', rfl, _, rfl, ?_⟩
      have fa := filter_at (fun b => b.2.2) hb
      cases hq : b.2.2 with
      | true =>
        rw [hq] at fa
        refine iteT ⟨_, rfl, _, hG, (by rw [List.length_map]; omega), qs ++ [p], ?_, ?_, fun c o e => ?_⟩
        · rw [upd_same, List.map_append]
          rfl
        · rw [fa]
          refine (rr.mono fun c xs e => ?_).app (.one ?_)
          · rw [upd_ne (fun z => by rw [z, hG] at e; cases e)]
            exact e
          · rw [upd_ne (fun z => by rw [z, hG] at hT; cases hT)]
            exact hT
        · rw [upd_ne (ne_of_none e hD)]
          exact sm c o e
      | false =>
        rw [hq] at fa
        refine iteF ⟨qs, hG, ?_, sm⟩
        rw [fa]
        simpa using rr
    · rintro G ⟨qs, hG, rr, sm⟩
      rw [List.length_map, pl, List.take_length] at rr
      have fl := List.length_filter_le (fun b : Blk => b.2.2) bs
      have wf' : Wf ns n (bs.filter fun b => b.2.2) := ⟨fun b hb => L.wf.ok b (List.mem_filter.mp hb).1, L.wf.so.sublist List.filter_sublist⟩
      refine ⟨_, rfl, s, D, ns, n, qs, _, k, rfl, sm _ _ L.hs, ⟨hG, rr, fun b hb => (L.wf.ok b (List.mem_filter.mp hb).1).1, by omega⟩, L.gd, hk, by omega, fun H' s2 => ?_⟩
      rw [unt_clr wf' L.gd hk L.n0 fun b hb => (List.mem_filter.mp hb).2, clr_filter]
      exact q H' (sm.trans s2)
def spLLoose : Sp := fun vs H Q _ => ∃ (s a : Addr) (ns : List Int) (n : Int) (qs : List Addr) (bs : List Blk) (k : Nat), vs = [.ref s, .ref a, .int k] ∧ Lb ns n H s a qs bs ∧ k < ns.length ∧ ∀ H', Same H H' → Q (.int (lseI ns bs k)) H'
theorem sc__law_unpinned_cells : FnScope ["_law_sizes_here", "_law_blocks_here", "_law_level", "_law_one"] ["_law_sizes_here", "_law_blocks_here", "_law_level"] (defScope (top 43)) := ⟨rfl, rfl, rfl, by decide +kernel, rfl, by decide +kernel, by decide +kernel⟩
theorem ok_lloose (T : Tx K mg) (F : FnP K "_law_unpinned_cells" "_law_unpinned_cells" (top 43) f fd) : FnOk P w K mg base CX0 1 f fd ["_law_sizes_here", "_law_blocks_here", "_law_level"] spLLoose := by
  refine F.ok sc__law_unpinned_cells (fun vs H Q E h => ?_) (fun cdv A outer s H vs Q E hr h => ⟨_, PSs.nox (pss_one (ps_ret (pe_callB (cr_sum rfl) (by rfl) T.n_sum (by decide +kernel) (pa_cons (pe_lc (own := [("_law_one", 3)]) (g := gName 3) rfl sc__law_unpinned_cells.nd (pi_list (pv 1)) (blkOk_by (own := [("_law_one", 3)]) (N := ["_law_sizes_here", "_law_blocks_here", "_law_level", "_law_one"]) (sc := defScope (top 43)) (by decide +kernel)) (fun _ _ _ _ _ => pg_name (i := 3) sc__law_unpinned_cells.nd rfl (Or.inl rfl)) (fun _ _ _ _ _ => (pts_one (PW.pt (pw_and (pt_not (pt_val (pe_ix (r := rIxT K) ix_tup (pv 3) pe_int (fun _ _ => rfl)))) (pw_and1 (pt_cmpR op_ge (pe_ix (r := rIxT K) ix_tup (pv 3) pe_int (fun _ _ => rfl)) (pv 2) (nomark _))))))) (fun _ _ _ _ _ => (pe_ix (r := rIxL K) ix_list (pv 0) (pe_ix (r := rIxT K) ix_tup (pv 3) pe_int (fun _ _ => rfl)) (fun _ _ => rfl)))) pa_nil)))), ?_⟩)
  · obtain ⟨s, a, ns, n, qs, bs, k, rfl, _⟩ := h
    rfl
  · obtain ⟨s, a, ns, n, ps, bs, k, rfl, L, hk, q⟩ := h
    have sl : sizeLine = 16777216 := sizeLine_eq
    have pl := L.rf.len
    have bn := L.ln
    rw [lse_one] at q
    refine ⟨_, rfl, a, rfl, ⟨_, SqL.of L.ha⟩, fun D hD => ?_⟩
    refine lc_list (K := K) (a := a) (xs := ps.map V.ref) (fun i G => G D = some (.lst ((((bs.take i).filter fun b => !b.2.2 && decide (k ≤ b.2.1)).map fun b => sz ns b.2.1).map V.int)) ∧ Same H G) ⟨upd_same, same_upd hD⟩ (fun i G _ ⟨_, sm⟩ => SqL.of (sm _ _ L.ha)) ?_ ?_
    · rintro i x G hx ⟨hG, sm⟩
      obtain ⟨p, hp, rfl⟩ := ref_of hx
      obtain ⟨b, hb, hT⟩ := (L.rf.same sm).get hp
      have hT' : G p = some (.tup [.int b.1, .int (b.2.1 : Nat), .bl b.2.2]) := hT
      have bk := (L.wf.ok b (List.mem_of_getElem? hb)).1
      have il : i < bs.length := (List.getElem?_eq_some_iff.mp hb).1
      have hsG := sm _ _ L.hs
      have fa := filter_at (fun b => !b.2.2 && decide (k ≤ b.2.1)) hb
      have fl := List.length_filter_le (fun b : Blk => !b.2.2 && decide (k ≤ b.2.1)) (bs.take i)
      rw [List.length_take] at fl
      refine ⟨rfl, _, rfl, p, _, _, _, rfl, rfl, .inl (.inl hT'), rfl, _, rfl, ?_⟩
      cases hq : b.2.2 with
      | true =>
        rw [hq, if_neg (by simp), List.append_nil] at fa
        refine iteF ⟨?_, sm⟩
        rw [fa]
        exact hG
      | false =>
        rw [hq] at fa
        refine iteT ⟨_, rfl, p, _, _, _, rfl, rfl, .inl (.inl hT'), rfl, _, rfl, _, _, rfl, rfl, _, rfl, ?_⟩
        by_cases hc : k ≤ b.2.1
        · rw [decide_eq_true hc, if_pos (by rfl)] at fa
          refine ifT (decide_eq_true (by omega)) ⟨_, rfl, _, rfl, p, _, _, _, rfl, rfl, .inl (.inl hT'), rfl, s, _, _, _, rfl, rfl, SqL.of hsG, at_sz bk, _, hG, (by rw [List.length_map, List.length_map]; omega), ?_, fun c o e => ?_⟩
          · rw [upd_same, fa, List.map_append, List.map_append]
            rfl
          · rw [upd_ne (ne_of_none e hD)]
            exact sm c o e
        · rw [decide_eq_false hc, if_neg (by simp), List.append_nil] at fa
          refine ifF (decide_eq_false (by omega)) ⟨?_, sm⟩
          rw [fa]
          exact hG
    · rintro G ⟨hG, sm⟩
      rw [List.length_map, pl, List.take_length] at hG
      exact ⟨D, _, rfl, SqL.of hG, q G sm⟩
end
end K28

set_option Elab.async false
set_option linter.all false
set_option maxRecDepth 100000
set_option maxHeartbeats 4000000
namespace K28
open PySem PySem.Spec PyProof.Rows L2 Gu Ex
def sumsI (ns : List Int) (n : Int) (bs : List Blk) : List Int := (List.range ns.length).map (fun k => slkI ns n bs k []) ++ [lrgI ns n bs []]
section
variable {P : Program} {w : World} {K : PySem.W.Frag} {mg : Str → Option Value} {base : Heap} {f : Addr} {fd : FuncData}
def spLSlack : Sp := fun vs H Q _ => ∃ (s a e : Addr) (ns : List Int) (n : Int) (qs : List Addr) (bs : List Blk) (k : Nat), vs = [.ref s, .int n, .ref a, .ref e, .int k] ∧ Lb ns n H s a qs bs ∧ H e = some (.lst []) ∧ k < ns.length ∧ ∀ H', Same H H' → Q (.int (slkI ns n bs k [])) H'
theorem sc__law_slack : FnScope ["_law_sizes_here", "_law_length", "_law_blocks_here", "_law_saved", "_law_level", "_law_reserved", "_law_cells"] ["_law_sizes_here", "_law_length", "_law_blocks_here", "_law_saved", "_law_level"] (defScope (top 44)) := ⟨rfl, rfl, rfl, by decide +kernel, rfl, by decide +kernel, by decide +kernel⟩
theorem ok_lslack (T : Tx K mg) (D__law_whole : Df P w K mg base 1 "_law_whole" ["_law_cells", "_law_size"] spLW) (D__law_clear_cells : Df P w K mg base 2 "_law_clear_cells" ["_law_sizes_here", "_law_length", "_law_blocks_here", "_law_level"] spLClear)
    (D__law_unpinned_cells : Df P w K mg base 1 "_law_unpinned_cells" ["_law_sizes_here", "_law_blocks_here", "_law_level"] spLLoose) (F : FnP K "_law_slack" "_law_slack" (top 44) f fd) : FnOk P w K mg base CX0 3 f fd ["_law_sizes_here", "_law_length", "_law_blocks_here", "_law_saved", "_law_level"] spLSlack := by
  refine F.ok sc__law_slack (fun vs H Q E h => ?_) (fun cdv A outer s H vs Q E hr h => ⟨_, PSs.nox (pss_cons (ps_set (i := 5) sc__law_slack.nd rfl (by first | exact Or.inl rfl | exact Or.inr rfl) (pe_callB (cr_sum rfl) (by rfl) T.n_sum (by decide +kernel) (pa_cons (pe_lc (own := [("_law_cells", 6)]) (g := gName 6) rfl sc__law_slack.nd (pi_list (pv 3)) (blkOk_by (own := [("_law_cells", 6)]) (N := ["_law_sizes_here", "_law_length", "_law_blocks_here", "_law_saved", "_law_level", "_law_reserved", "_law_cells"]) (sc := defScope (top 44)) (by decide +kernel)) (fun _ _ _ _ _ => pg_name (i := 6) sc__law_slack.nd rfl (Or.inl rfl)) (fun _ _ _ _ _ => pts_nil) (fun _ _ _ _ _ => (pcall D__law_whole hr (pa_cons (pv 6) (pa_cons (pe_ix (r := rIxL K) ix_list (pv 0) (pv 4) (fun _ _ => rfl)) pa_nil))))) pa_nil))) (pss_one (ps_ret (pe_op op_sub (pe_op op_sub (pcall D__law_clear_cells hr (pa_cons (pv 0) (pa_cons (pv 1) (pa_cons (pv 2) (pa_cons (pv 4) pa_nil))))) (pcall D__law_unpinned_cells hr (pa_cons (pv 0) (pa_cons (pv 2) (pa_cons (pv 4) pa_nil))))) (pv 5))))), ?_⟩)
  · obtain ⟨s, a, e, ns, n, qs, bs, k, rfl, _⟩ := h
    rfl
  · obtain ⟨s, a, e, ns, n, qs, bs, k, rfl, L, he, hk, q⟩ := h
    have he' : H e = some (.lst (([] : List Int).map V.int)) := he
    refine ⟨_, rfl, e, rfl, ⟨_, SqL.of he'⟩, fun D hD => ?_⟩
    refine lc_list (K := K) (a := e) (xs := ([] : List Int).map V.int) (fun i G => G D = some (.lst (([] : List Int).map V.int)) ∧ Same H G) ⟨upd_same, same_upd hD⟩ (fun i G _ ⟨_, sm⟩ => SqL.of (sm _ _ he')) ?_ ?_
    · rintro i x G hx _
      cases hx
    · rintro G ⟨hG, sm⟩
      refine ⟨D, [], rfl, SqL.of hG, ?_⟩
      refine ⟨_, rfl, _, rfl, _, rfl, _, rfl, s, a, ns, n, qs, bs, k, rfl, L.same sm, hk, fun H2 s2 => ?_⟩
      refine ⟨_, rfl, _, rfl, _, rfl, s, a, ns, n, qs, bs, k, rfl, (L.same sm).same s2, hk, fun H3 s3 => ?_⟩
      exact ⟨_, _, rfl, rfl, _, rfl, _, _, rfl, rfl, q H3 ((sm.trans s2).trans s3)⟩
def spLLarge : Sp := fun vs H Q _ => ∃ (s a e : Addr) (ns : List Int) (n : Int) (qs : List Addr) (bs : List Blk), vs = [.ref s, .int n, .ref a, .ref e] ∧ Lb ns n H s a qs bs ∧ H e = some (.lst []) ∧ ∀ H', Same H H' → Q (.int (lrgI ns n bs [])) H'
theorem sc__law_largest : FnScope ["_law_sizes_here", "_law_length", "_law_blocks_here", "_law_saved", "_law_rows", "_law_level", "_law_size"] ["_law_sizes_here", "_law_length", "_law_blocks_here", "_law_saved"] (defScope (top 45)) := ⟨rfl, rfl, rfl, by decide +kernel, rfl, by decide +kernel, by decide +kernel⟩
theorem ok_llarge (T : Tx K mg) (D__law_slack : Df P w K mg base 3 "_law_slack" ["_law_sizes_here", "_law_length", "_law_blocks_here", "_law_saved", "_law_level"] spLSlack) (F : FnP K "_law_largest" "_law_largest" (top 45) f fd) : FnOk P w K mg base CX0 4 f fd ["_law_sizes_here", "_law_length", "_law_blocks_here", "_law_saved"] spLLarge := by
  refine F.ok sc__law_largest (fun vs H Q E h => ?_) (fun cdv A outer s H vs Q E hr h => ⟨_, PSs.nox (pss_cons (ps_setLc (i := 4) (own := [("_law_level", 5), ("_law_size", 6)]) (g := gTup K 2 (gCons (gName 5) (gCons (gName 6) gNil))) rfl sc__law_largest.nd rfl rfl (sw_true rfl rfl rfl (by decide +kernel)) (pi_enum rfl T.n_enumerate (pa_cons (pv 0) pa_nil)) (blkOk_by (own := [("_law_level", 5), ("_law_size", 6)]) (N := ["_law_sizes_here", "_law_length", "_law_blocks_here", "_law_saved", "_law_rows", "_law_level", "_law_size"]) (sc := defScope (top 45)) (by decide +kernel)) (fun _ _ _ _ _ => pg_tup rfl (pgs_cons (pg_name (i := 5) sc__law_largest.nd rfl (Or.inl rfl)) (pgs_cons (pg_name (i := 6) sc__law_largest.nd rfl (Or.inl rfl)) pgs_nil))) (fun _ _ _ _ _ => pts_nil) (fun _ _ _ _ _ => (pe_op op_sub (pe_op op_add (pcall D__law_slack hr (pa_cons (pv 0) (pa_cons (pv 1) (pa_cons (pv 2) (pa_cons (pv 3) (pa_cons (pv 5) pa_nil)))))) (pv 6)) pe_int))) (pss_one (ps_ret (pe_callB (call_max2 rfl) (by rfl) T.n_max (by decide +kernel) (pa_cons pe_int (pa_cons (pe_callB (cr_min rfl) (by rfl) T.n_min (by decide +kernel) (pa_cons (pv 4) pa_nil)) pa_nil)))))), ?_⟩)
  · obtain ⟨s, a, e, ns, n, qs, bs, rfl, _⟩ := h
    rfl
  · obtain ⟨s, a, e, ns, n, qs, bs, rfl, L, he, q⟩ := h
    have sl : sizeLine = 16777216 := sizeLine_eq
    have l8 := L.gd.len
    refine ⟨_, rfl, s, _, rfl, SqL.of L.hs, fun D hD => ?_⟩
    refine lc_it (walk_enum (xs := ns.map V.int)) (fun i G => G D = some (.lst ((rowsI ns n bs [] i).map V.int)) ∧ Same H G) ⟨upd_same, same_upd hD⟩ (fun i G _ ⟨_, sm⟩ => SqL.of (sm _ _ L.hs)) ?_ ?_
    · rintro i x G G2 hi ⟨hG, sm⟩ ⟨T', y1, y2, rfl, hT, rfl, e1, e2⟩
      cases e1
      have il : i < ns.length := by
        rw [List.length_map] at hi
        exact hi
      have ey : y2 = .int (sz ns i) := by
        have e3 : (ns.map V.int)[i]? = some y2 := e2
        rw [List.getElem?_map, sz_at il] at e3
        exact (Option.some.inj e3).symm
      subst ey
      have s2 := sm.trans (same_upd (o := .tup [.int (i : Nat), .int (sz ns i)]) hT)
      refine ⟨T', _, rfl, .inl (.inl upd_same), rfl, _, _, rfl, _, _, rfl, rfl, rfl, ?_⟩
      have hG2 : (upd G T' (.tup [.int (i : Nat), .int (sz ns i)])) D = some (.lst ((rowsI ns n bs [] i).map V.int)) := by
        rw [upd_ne (ne_of_none hG hT)]
        exact hG
      refine ⟨_, rfl, _, rfl, _, rfl, _, rfl, _, rfl, s, a, e, ns, n, qs, bs, i, rfl, L.same s2, s2 _ _ he, il, fun G3 s3 => ?_⟩
      refine ⟨_, rfl, _, _, rfl, rfl, _, _, rfl, rfl, _, s3 _ _ hG2, ?_, ?_, fun c o ec => ?_⟩
      · unfold rowsI
        rw [List.length_map, List.length_map, List.length_range]
        omega
      · unfold rowsI
        rw [upd_same, List.range_succ, List.map_append, List.map_append]
        rfl
      · rw [upd_ne (ne_of_none ec hD)]
        exact s3 _ _ (s2 c o ec)
    · rintro G ⟨hG, sm⟩
      rw [List.length_map] at hG
      refine ⟨_, rfl, D, _, rfl, SqL.of hG, (by unfold rowsI; rw [List.length_map, List.length_range]; omega), fun m h1 h2 => ?_⟩
      obtain rfl := mnL_is h1 h2
      exact ⟨_, _, rfl, q G sm⟩
def spSums (K : PySem.W.Frag) : Sp := fun vs H Q _ => ∃ (s y zp bl dx : Addr) (ps : List Addr) (ns : List Int) (n : Int) (bs : List Blk), vs = [.ref y, .ref s] ∧ Ly K H y zp bl dx ps ns n bs ∧ H s = some (.lst (ns.map V.int)) ∧
  ∀ R H', H R = none → Same H H' → H' R = some (.lst ((sumsI ns n bs).map V.int)) → Q (.ref R) H'
theorem sc__law_sums : FnScope ["_law_layout_here", "_law_sizes_here", "_law_level"] ["_law_layout_here", "_law_sizes_here"] (defScope (top 48)) := ⟨rfl, rfl, rfl, by decide +kernel, rfl, by decide +kernel, by decide +kernel⟩
theorem ok_sums {z0 z9 : Addr} {oz o9 : Obj} {nz n9 : Nat} (T : Tx K mg) (hz1 : K.lookup z0 = some oz) (hz2 : oz.cls = .type "tuple") (hz3 : oz.data = .seq #[] nz) (h91 : K.lookup z9 = some o9) (h92 : o9.cls = .type "tuple") (h93 : o9.data = .seq #[] n9)
    (M_slack_d : MfD P w K mg base 10 "Layout" "slack" ["self", "level", "kept"] [.ref z0] (spSlack K)) (M_largest_d : MfD P w K mg base 11 "Layout" "largest" ["self", "kept"] [.ref z9] (spLarge K))
    (F : FnP K "_law_sums" "_law_sums" (top 48) f fd) : FnOk P w K mg base CX0 12 f fd ["_law_layout_here", "_law_sizes_here"] (spSums K) := by
  refine F.ok sc__law_sums (fun vs H Q E h => ?_) (fun cdv A outer s H vs Q E hr h => ⟨_, PSs.nox (pss_one (ps_ret (pe_op op_cat (pe_lc (own := [("_law_level", 2)]) (g := gName 2) rfl sc__law_sums.nd (pi_range1 rfl T.n_range (pa_cons (pe_callB call_len_seq (by rfl) T.n_len (by decide +kernel) (pa_cons (pv 1) pa_nil)) pa_nil)) (blkOk_by (own := [("_law_level", 2)]) (N := ["_law_layout_here", "_law_sizes_here", "_law_level"]) (sc := defScope (top 48)) (by decide +kernel)) (fun _ _ _ _ _ => pg_name (i := 2) sc__law_sums.nd rfl (Or.inl rfl)) (fun _ _ _ _ _ => pts_nil) (fun _ _ _ _ _ => (pmethDB K M_slack_d hr (pv 0) (pa_cons (pv 2) pa_nil)))) (pe_lst (pa_cons (pmethD0 M_largest_d hr (pv 0)) pa_nil))))), ?_⟩)
  · obtain ⟨s, y, zp, bl, dx, ps, ns, n, bs, rfl, _⟩ := h
    rfl
  · obtain ⟨s, y, zp, bl, dx, ps, ns, n, bs, rfl, L, hs, q⟩ := h
    have sl : sizeLine = 16777216 := sizeLine_eq
    have l8 := L.gd.len
    refine ⟨_, rfl, s, _, rfl, .inl (SqL.of hs), _, rfl, (by simp only [List.length_map]; omega), (by simp only [List.length_map]; omega), fun D hD => ?_⟩
    refine lc_range (fun i G => G D = some (.lst (((List.range i).map (fun k => slkI ns n bs k [])).map V.int)) ∧ Same H G) ⟨upd_same, same_upd hD⟩ ?_ ?_
    · rintro i G hi ⟨hG, sm⟩
      rw [List.length_map, Int.toNat_natCast] at hi
      rw [Int.zero_add]
      have LG := L.same sm
      refine ⟨rfl, _, rfl, y, dx, _, rfl, LG.at_, lay_nm (by decide +kernel), _, rfl, y, zp, bl, dx, ps, ns, n, bs, i, z0, [], rfl, LG, hi, .dft oz nz rfl hz1 hz2 hz3, (fun _ m => nomatch m), Nat.zero_le _, fun G1 s1 => ?_⟩
      refine ⟨_, s1 _ _ hG, (by rw [List.length_map, List.length_map, List.length_range]; omega), ?_, fun c o e => ?_⟩
      · rw [upd_same, List.range_succ, List.map_append, List.map_append]
        rfl
      · rw [upd_ne (ne_of_none e hD)]
        exact s1 _ _ (sm c o e)
    · rintro G ⟨hG, sm⟩
      rw [List.length_map, Int.toNat_natCast] at hG
      have LG := L.same sm
      refine ⟨_, rfl, y, dx, _, rfl, LG.at_, lay_nm (by decide +kernel), y, zp, bl, dx, ps, ns, n, bs, z9, [], rfl, LG, .dft o9 n9 rfl h91 h92 h93, (fun _ m => nomatch m), Nat.zero_le _, fun G1 s1 => ?_⟩
      refine ⟨(by show 1 ≤ sizeLine; decide), fun t ht => ?_⟩
      have nD := s1 _ _ hG
      refine ⟨D, t, _, _, rfl, rfl, same_upd ht _ _ nD, upd_same, (by rw [List.length_map, List.length_map, List.length_range]; show _ + 1 ≤ _; omega), fun R hR => ?_⟩
      have s2 := (sm.trans s1).trans (same_upd (o := .lst [V.int (lrgI ns n bs [])]) ht)
      refine q R _ (s2.free hR) (s2.trans (same_upd hR)) ?_
      rw [upd_same]
      unfold sumsI
      rw [List.map_append]
      rfl
def spDSums : Sp := fun vs H Q _ => ∃ (s a : Addr) (ns : List Int) (n : Int) (qs : List Addr) (bs : List Blk), vs = [.ref s, .int n, .ref a] ∧ Lb ns n H s a qs bs ∧ ∀ R H', H R = none → Same H H' → H' R = some (.lst ((sumsI ns n bs).map V.int)) → Q (.ref R) H'
theorem sc__law_due_sums : FnScope ["_law_sizes_here", "_law_length", "_law_blocks_here", "_law_found", "_law_level"] ["_law_sizes_here", "_law_length", "_law_blocks_here"] (defScope (top 49)) := ⟨rfl, rfl, rfl, by decide +kernel, rfl, by decide +kernel, by decide +kernel⟩
theorem ok_dsums (T : Tx K mg) (D__law_slack : Df P w K mg base 3 "_law_slack" ["_law_sizes_here", "_law_length", "_law_blocks_here", "_law_saved", "_law_level"] spLSlack) (D__law_largest : Df P w K mg base 4 "_law_largest" ["_law_sizes_here", "_law_length", "_law_blocks_here", "_law_saved"] spLLarge)
    (F : FnP K "_law_due_sums" "_law_due_sums" (top 49) f fd) : FnOk P w K mg base CX0 5 f fd ["_law_sizes_here", "_law_length", "_law_blocks_here"] spDSums := by
  refine F.ok sc__law_due_sums (fun vs H Q E h => ?_) (fun cdv A outer s H vs Q E hr h => ⟨_, PSs.nox (pss_cons (ps_setLc (i := 3) (own := [("_law_level", 4)]) (g := gName 4) rfl sc__law_due_sums.nd rfl rfl (sw_true rfl rfl rfl (by decide +kernel)) (pi_range1 rfl T.n_range (pa_cons (pe_callB call_len_seq (by rfl) T.n_len (by decide +kernel) (pa_cons (pv 0) pa_nil)) pa_nil)) (blkOk_by (own := [("_law_level", 4)]) (N := ["_law_sizes_here", "_law_length", "_law_blocks_here", "_law_found", "_law_level"]) (sc := defScope (top 49)) (by decide +kernel)) (fun _ _ _ _ _ => pg_name (i := 4) sc__law_due_sums.nd rfl (Or.inl rfl)) (fun _ _ _ _ _ => pts_nil) (fun _ _ _ _ _ => (pcall D__law_slack hr (pa_cons (pv 0) (pa_cons (pv 1) (pa_cons (pv 2) (pa_cons (pe_lst pa_nil) (pa_cons (pv 4) pa_nil)))))))) (pss_one (ps_ret (pe_op op_cat (pv 3) (pe_lst (pa_cons (pcall D__law_largest hr (pa_cons (pv 0) (pa_cons (pv 1) (pa_cons (pv 2) (pa_cons (pe_lst pa_nil) pa_nil))))) pa_nil)))))), ?_⟩)
  · obtain ⟨s, a, ns, n, qs, bs, rfl, _⟩ := h
    rfl
  · obtain ⟨s, a, ns, n, qs, bs, rfl, L, q⟩ := h
    have sl : sizeLine = 16777216 := sizeLine_eq
    have l8 := L.gd.len
    refine ⟨_, rfl, s, _, rfl, .inl (SqL.of L.hs), _, rfl, (by simp only [List.length_map]; omega), (by simp only [List.length_map]; omega), fun D hD => ?_⟩
    refine lc_range (fun i G => G D = some (.lst (((List.range i).map (fun k => slkI ns n bs k [])).map V.int)) ∧ Same H G) ⟨upd_same, same_upd hD⟩ ?_ ?_
    · rintro i G hi ⟨hG, sm⟩
      rw [List.length_map, Int.toNat_natCast] at hi
      rw [Int.zero_add]
      refine ⟨rfl, _, rfl, _, rfl, _, rfl, Nat.zero_le _, fun e he => ⟨_, rfl, ?_⟩⟩
      have s2 := sm.trans (same_upd (o := .lst []) he)
      have hG2 : (upd G e (.lst [])) D = some (.lst (((List.range i).map (fun k => slkI ns n bs k [])).map V.int)) := by
        rw [upd_ne (ne_of_none hG he)]
        exact hG
      refine ⟨s, a, e, ns, n, qs, bs, i, rfl, L.same s2, upd_same, hi, fun G1 s1 => ?_⟩
      refine ⟨_, s1 _ _ hG2, (by rw [List.length_map, List.length_map, List.length_range]; omega), ?_, fun c o ec => ?_⟩
      · rw [upd_same, List.range_succ, List.map_append, List.map_append]
        rfl
      · rw [upd_ne (ne_of_none ec hD)]
        exact s1 _ _ (s2 c o ec)
    · rintro G ⟨hG, sm⟩
      rw [List.length_map, Int.toNat_natCast] at hG
      refine ⟨_, rfl, _, rfl, _, rfl, _, rfl, Nat.zero_le _, fun e he => ?_⟩
      have s2 := sm.trans (same_upd (o := .lst []) he)
      have hG2 : (upd G e (.lst [])) D = some (.lst (((List.range ns.length).map (fun k => slkI ns n bs k [])).map V.int)) := by
        rw [upd_ne (ne_of_none hG he)]
        exact hG
      refine ⟨s, a, e, ns, n, qs, bs, rfl, L.same s2, upd_same, fun G1 s1 => ?_⟩
      refine ⟨(by show 1 ≤ sizeLine; decide), fun t ht => ?_⟩
      have nD := s1 _ _ hG2
      refine ⟨D, t, _, _, rfl, rfl, same_upd ht _ _ nD, upd_same, (by rw [List.length_map, List.length_map, List.length_range]; show _ + 1 ≤ _; omega), fun R hR => ?_⟩
      have s3 := (s2.trans s1).trans (same_upd (o := .lst [V.int (lrgI ns n bs [])]) ht)
      refine q R _ (s3.free hR) (s3.trans (same_upd hR)) ?_
      rw [upd_same]
      unfold sumsI
      rw [List.map_append]
      rfl
end
end K28

set_option Elab.async false
set_option linter.all false
set_option maxRecDepth 100000
set_option maxHeartbeats 4000000
namespace K28
open PySem PySem.Spec PyProof.Rows L2 Gu Ex
/-- the numbers of the runs are within the range -/
theorem R_in {s : Nat → Int} {m : Nat} {hi : Int} (c : M16.Ch s m) : ∀ (n : Nat) (a : Int), (hi - a).toNat ≤ n → 0 ≤ a → ∀ t ∈ M16.R s m hi a, t.1 < m ∧ (0 ≤ t.2.1 ∧ t.2.1 ≤ hi) ∧ (0 ≤ t.2.2 ∧ t.2.2 ≤ hi)
  | 0, a, h, _, t, ht => by
    rw [M16.R_end (by omega)] at ht
    cases ht
  | n + 1, a, h, h0, t, ht => by
    by_cases ha : a < hi
    · rw [M16.R_step c ha] at ht
      have gt := M16.en_gt c ha
      have le := M16.en_le (a := a) (hi := hi) c
      rcases List.mem_cons.mp ht with rfl | ht
      · have one := M16.run_one c ha
        have d := Int.ediv_le_self (s (M16.L s m hi a)) (show 0 ≤ M16.en s m hi a - a by omega)
        exact ⟨M16.L_lt c, ⟨h0, by show a ≤ hi; omega⟩, ⟨by show 0 ≤ (M16.en s m hi a - a) / s (M16.L s m hi a); omega, by show (M16.en s m hi a - a) / s (M16.L s m hi a) ≤ hi; omega⟩⟩
      · exact R_in c n (M16.en s m hi a) (by omega) (by omega) t ht
    · rw [M16.R_end ha] at ht
      cases ht
section
variable {K : PySem.W.Frag} {H H' : Hp} {ps : List Addr} {ts : List M16.Run}
theorem tqAll_nil {n m : Nat} : TqAll K H [] [] n m := ⟨.nil, rfl, Nat.zero_le _, Nat.zero_le _⟩
theorem tqAll_cons {v : V} {d : PyData} {xs : List V} {ds : List PyData} {n m : Nat} (t : Tq K H v d n m) (h : TqAll K H xs ds n m) : TqAll K H (v :: xs) (d :: ds) n m := by
  obtain ⟨a, b, c, e⟩ := h
  refine ⟨.cons t.dq a, ?_, ?_, ?_⟩
  · show (d.showable && PyData.showableAll ds) = true
    rw [t.sh, b]
    rfl
  · show max d.depth (PyData.depthAll ds) ≤ n
    have := t.dp
    omega
  · show (d.shown.length + ((PyData.shownAll ds).map (·.length)).sum) + 2 * ((PyData.shownAll ds).length + 1) ≤ (xs.length + 1) * (m + 2)
    have := t.ln
    rw [Nat.add_mul, Nat.one_mul]
    omega
theorem tq_run {p : Addr} {t : M16.Run} (h : H p = some (.tup (runV t))) (h1 : t.1 ≤ 100) (h2 : 0 ≤ t.2.1 ∧ t.2.1 ≤ 10 ^ 38) (h3 : 0 ≤ t.2.2 ∧ t.2.2 ≤ 10 ^ 38) : Tq K H (.ref p) (runD t) 1 140 := by
  have b39 : (10 : Int) ^ 39 = 1000000000000000000000000000000000000000 := by decide
  have b38 : (10 : Int) ^ 38 = 100000000000000000000000000000000000000 := by decide
  have t1 : Tq K H (.int (t.1 : Nat)) (.int (t.1 : Nat)) 0 41 := tq_int (by omega) (by omega)
  have t2 : Tq K H (.int t.2.1) (.int t.2.1) 0 41 := tq_int (by omega) (by omega)
  have t3 : Tq K H (.int t.2.2) (.int t.2.2) 0 41 := tq_int (by omega) (by omega)
  have ta : TqAll K H (runV t) [.int (t.1 : Nat), .int t.2.1, .int t.2.2] 0 41 := tqAll_cons t1 (tqAll_cons t2 (tqAll_cons t3 tqAll_nil))
  exact (ta.tup h).mono (Nat.le_refl _) (by show 3 * (41 + 2) + 3 ≤ 140; decide)
theorem tq_runs (h : Tups H ps ts) (hb : ∀ t ∈ ts, t.1 ≤ 100 ∧ (0 ≤ t.2.1 ∧ t.2.1 ≤ 10 ^ 38) ∧ (0 ≤ t.2.2 ∧ t.2.2 ≤ 10 ^ 38)) : TqAll K H (ps.map V.ref) (ts.map runD) 1 140 := by
  induction h with
  | nil => exact tqAll_nil
  | @cons p ps t ts a _ ih =>
    obtain ⟨b1, b2, b3⟩ := hb t List.mem_cons_self
    exact tqAll_cons (tq_run a b1 b2 b3) (ih fun u hu => hb u (List.mem_cons_of_mem _ hu))
theorem tqAll_ints {is : List Int} (h : ∀ i ∈ is, -(10 ^ 39) ≤ i ∧ i ≤ 10 ^ 39) : TqAll K H (is.map V.int) (is.map PyData.int) 0 41 := by
  induction is with
  | nil => exact tqAll_nil
  | cons i is ih => exact tqAll_cons (tq_int (h i List.mem_cons_self).1 (h i List.mem_cons_self).2) (ih fun j hj => h j (List.mem_cons_of_mem _ hj))
theorem tq_ints {p : Addr} {is : List Int} (h : ∀ i ∈ is, -(10 ^ 39) ≤ i ∧ i ≤ 10 ^ 39) (hl : is.length ≤ 9) (e : H p = some (.lst (is.map V.int))) : Tq K H (.ref p) (.list (is.map PyData.int)) 1 400 := by
  refine ((tqAll_ints h).lst e).mono (Nat.le_refl _) ?_
  rw [List.length_map]
  omega
end
section
variable {ns : List Int} {n : Int} {bs : List Blk} {k : Nat}
theorem gaps_hi : ∀ {rs : List (Int × Int)} {low : Int}, (∀ r ∈ rs, r.1 ≤ n) → ∀ g ∈ gapsI n low rs, g.2 ≤ n
  | [], low, _, g, hg => by
    unfold gapsI at hg
    split at hg
    · rw [List.mem_singleton.mp hg]
      exact Int.le_refl _
    · cases hg
  | (s, e) :: r, low, h, g, hg => by
    unfold gapsI at hg
    rcases List.mem_append.mp hg with hg | hg
    · split at hg
      · rw [List.mem_singleton.mp hg]
        exact h (s, e) List.mem_cons_self
      · cases hg
    · exact gaps_hi (fun x hx => h x (List.mem_cons_of_mem _ hx)) g hg
theorem fg_hi (w : Wf ns n bs) (g : Good ns) : ∀ x ∈ fgI ns n bs, x.2 ≤ n := gaps_hi fun r hr => by
  obtain ⟨b, hb, rfl⟩ := List.mem_map.mp hr
  have p := w.pos g hb
  have o := (w.ok b hb).2.2.2
  unfold bEnd at o
  show b.1 ≤ n
  omega
theorem cnt_bd {s a b : Int} (hs : 1 ≤ s) (h0 : 0 ≤ a) (h1 : a ≤ b) : 0 ≤ cntI s a b ∧ cntI s a b ≤ b := by
  have q0 : 0 ≤ b / s := Int.ediv_nonneg (by omega) (by omega)
  have q1 := Int.ediv_le_self s (show 0 ≤ b by omega)
  have e := inG_cn (s := s) (lo := a) (hi := b) (m := (b / s).toNat) hs h0 (by omega)
  have f := cn_not (inG s a b) (b / s).toNat
  omega
theorem sum_bd {B : Int} : ∀ {l : List Int}, (∀ x ∈ l, 0 ≤ x ∧ x ≤ B) → 0 ≤ l.sum ∧ l.sum ≤ B * l.length
  | [], _ => ⟨Int.le_refl _, by simp⟩
  | x :: l, h => by
    have ih := sum_bd (l := l) fun y hy => h y (List.mem_cons_of_mem _ hy)
    have hx := h x List.mem_cons_self
    rw [List.sum_cons, List.length_cons, Int.natCast_add, Int.mul_add]
    simp
    omega
theorem tot_bd (w : Wf ns n bs) (g : Good ns) : 0 ≤ tot ns bs ∧ tot ns bs ≤ 1000000000 * bs.length := by
  have h := sum_bd (B := 1000000000) (l := bs.map fun b => sz ns b.2.1) fun x hx => by
    obtain ⟨b, hb, rfl⟩ := List.mem_map.mp hx
    have o := (w.ok b hb).1
    have := (chain g).pos _ o
    exact ⟨by show 0 ≤ sz ns b.2.1; omega, sz_le g o⟩
  rw [List.length_map] at h
  exact h
theorem reg_bd (w : Wf ns n bs) (g : Good ns) (hk : k < ns.length) : 0 ≤ regI ns k (fgI ns n bs) ∧ regI ns k (fgI ns n bs) ≤ n * (fgI ns n bs).length := by
  have f := (fg_ok w g).1
  have f2 := fg_hi w g
  have h := sum_bd (B := n) (l := (fgI ns n bs).map fun g => cntI (sz ns k) g.1 g.2) fun x hx => by
    obtain ⟨y, hy, rfl⟩ := List.mem_map.mp hx
    obtain ⟨f1, f3⟩ := f y hy
    have := cnt_bd ((chain g).pos k hk) f1 f3
    have := f2 y hy
    constructor
    · omega
    · show cntI (sz ns k) y.1 y.2 ≤ n
      omega
  rw [List.length_map] at h
  exact h
theorem due_bd (w : Wf ns n bs) (g : Good ns) (hk : k < ns.length) (n1 : 0 ≤ n) : 0 ≤ lseI ns bs k ∧ dueI ns n bs k ≤ n := by
  have hs := (chain g).pos k hk
  have q0 : 0 ≤ n / sz ns k := Int.ediv_nonneg n1 (by omega)
  have hm : n / sz ns k ≤ (((n / sz ns k).toNat : Nat) : Int) := by omega
  refine ⟨?_, ?_⟩
  · rw [lse_cn g hk hm w.ok w.so]
    exact Int.mul_nonneg (by omega) (by omega)
  · unfold dueI
    have c := cntC_le ns bs k (n / sz ns k).toNat
    have h1 : sz ns k * ((cntC ns bs k (n / sz ns k).toNat : Nat) : Int) ≤ sz ns k * (n / sz ns k) := Int.mul_le_mul_of_nonneg_left (by omega) (by omega)
    have h2 := Int.mul_ediv_self_le (x := n) (k := sz ns k) (by omega)
    omega
theorem slk_bd (w : Wf ns n bs) (g : Good ns) (hk : k < ns.length) (n1 : 0 ≤ n) : 0 ≤ slkI ns n bs k [] ∧ slkI ns n bs k [] ≤ n := by
  have e0 : slkI ns n bs k [] = dueI ns n bs k - lseI ns bs k := by
    unfold slkI whlI
    rw [clr_due w g hk n1]
    simp
  have h1 := lse_le w g hk n1
  have h2 := due_bd w g hk n1
  omega
theorem sums_bd (w : Wf ns n bs) (g : Good ns) (n1 : 0 ≤ n) : (∀ i ∈ sumsI ns n bs, 0 ≤ i ∧ i ≤ n + 1000000000) ∧ (sumsI ns n bs).length ≤ 9 := by
  have l8 := g.len
  refine ⟨fun i hi => ?_, ?_⟩
  · unfold sumsI at hi
    rcases List.mem_append.mp hi with hi | hi
    · obtain ⟨k, hk, rfl⟩ := List.mem_map.mp hi
      have := slk_bd w g (List.mem_range.mp hk) n1
      omega
    · rw [List.mem_singleton.mp hi]
      have len : 0 < (rowsI ns n bs [] ns.length).length := by
        unfold rowsI
        rw [List.length_map, List.length_range]
        omega
      obtain ⟨h1, h2⟩ := mnL_ok _ len
      obtain ⟨k, hk, e⟩ := List.mem_map.mp h1
      have hk := List.mem_range.mp hk
      have b := slk_bd w g hk n1
      have z := sz_le g hk
      unfold lrgI
      split <;> omega
  · unfold sumsI
    rw [List.length_append, List.length_map, List.length_range, List.length_singleton]
    omega
end
def frD (ns : List Int) (n : Int) (bs : List Blk) : PyData := .list [.int (n - tot ns bs), .list ((runsI ns (fgI ns n bs)).map runD), .list (((List.range ns.length).map fun k => regI ns k (fgI ns n bs)).map PyData.int)]
section
variable {P : Program} {w : World} {K : PySem.W.Frag} {mg : Str → Option Value} {base : Heap} {f : Addr} {fd : FuncData}
def spLFree (K : PySem.W.Frag) : Sp := fun vs H Q _ => ∃ (s y zp bl dx : Addr) (ps : List Addr) (ns : List Int) (n : Int) (bs : List Blk), vs = [.ref y, .ref s] ∧ Ly K H y zp bl dx ps ns n bs ∧ H s = some (.lst (ns.map V.int)) ∧ ∀ H', Same H H' → Q (.str (frD ns n bs).shown) H'
theorem sc__law_free : FnScope ["_law_layout_here", "_law_sizes_here", "_law_level"] ["_law_layout_here", "_law_sizes_here"] (defScope (top 47)) := ⟨rfl, rfl, rfl, by decide +kernel, rfl, by decide +kernel, by decide +kernel⟩
theorem ok_lfree (T : Tx K mg) (P_free : Pf P w K mg base 1 "Layout" "free" (spFree K)) (M_free_runs : Mf P w K mg base 10 "Layout" "free_runs" ["self"] (spRuns K)) (M_free_regions : Mf P w K mg base 9 "Layout" "free_regions" ["self", "level"] (spFr K))
    (F : FnP K "_law_free" "_law_free" (top 47) f fd) : FnG P w K mg base CX0 11 f fd ["_law_layout_here", "_law_sizes_here"] (spLFree K) := by
  refine okG F sc__law_free (fun vs H Q E h => ?_) (fun cdv A outer s H vs Q E hr h => ⟨_, PSs.nox (pss_one (ps_ret (pe_callB (call_reprQ hr T.sys) (by rfl) T.n_repr (by decide +kernel) (pa_cons (pe_lst (pa_cons (pprop P_free hr.r (pv 0)) (pa_cons (pmeth0 M_free_runs hr.r (pv 0)) (pa_cons (pe_lc (own := [("_law_level", 2)]) (g := gName 2) rfl sc__law_free.nd (pi_range1 rfl T.n_range (pa_cons (pe_callB call_len_seq (by rfl) T.n_len (by decide +kernel) (pa_cons (pv 1) pa_nil)) pa_nil)) (blkOk_by (own := [("_law_level", 2)]) (N := ["_law_layout_here", "_law_sizes_here", "_law_level"]) (sc := defScope (top 47)) (by decide +kernel)) (fun _ _ _ _ _ => pg_name (i := 2) sc__law_free.nd rfl (Or.inl rfl)) (fun _ _ _ _ _ => pts_nil) (fun _ _ _ _ _ => (pmethB K M_free_regions hr.r (pv 0) (pa_cons (pv 2) pa_nil)))) pa_nil)))) pa_nil)))), ?_⟩)
  · obtain ⟨s, y, zp, bl, dx, ps, ns, n, bs, rfl, _⟩ := h
    rfl
  · obtain ⟨s, y, zp, bl, dx, ps, ns, n, bs, rfl, L, hs, q⟩ := h
    have sl : sizeLine = 16777216 := sizeLine_eq
    have l8 := L.gd.len
    have b39 : (10 : Int) ^ 39 = 1000000000000000000000000000000000000000 := by decide
    have b38 : (10 : Int) ^ 38 = 100000000000000000000000000000000000000 := by decide
    obtain ⟨f1, f2⟩ := fg_ok L.wf L.gd
    have f3 := fg_hi L.wf L.gd
    have bn := L.ln
    have n1 := L.n1
    have n2 := L.n2
    refine ⟨_, rfl, y, dx, _, rfl, L.at_, y, zp, bl, dx, ps, ns, n, bs, rfl, L, ?_⟩
    refine ⟨_, rfl, y, dx, _, rfl, L.at_, lay_nm (by decide +kernel), y, zp, bl, dx, ps, ns, n, bs, rfl, L, fun R ts H1 hR s1 h1 t1 => ?_⟩
    refine ⟨_, rfl, s, _, rfl, .inl (SqL.of (s1 _ _ hs)), _, rfl, (by simp only [List.length_map]; omega), (by simp only [List.length_map]; omega), fun D hD => ?_⟩
    refine lc_range (fun i G => G D = some (.lst (((List.range i).map (fun k => regI ns k (fgI ns n bs))).map V.int)) ∧ Same H1 G) ⟨upd_same, same_upd hD⟩ ?_ ?_
    · rintro i G hi ⟨hG, sm⟩
      rw [List.length_map, Int.toNat_natCast] at hi
      rw [Int.zero_add]
      have LG := (L.same s1).same sm
      refine ⟨rfl, _, rfl, y, dx, _, rfl, LG.at_, lay_nm (by decide +kernel), _, rfl, y, zp, bl, dx, ps, ns, n, bs, i, rfl, LG, hi, fun G1 s2 => ?_⟩
      refine ⟨_, s2 _ _ hG, (by rw [List.length_map, List.length_map, List.length_range]; omega), ?_, fun c o e => ?_⟩
      · rw [upd_same, List.range_succ, List.map_append, List.map_append]
        rfl
      · rw [upd_ne (ne_of_none e hD)]
        exact s2 _ _ (sm c o e)
    · rintro G ⟨hG, sm⟩
      rw [List.length_map, Int.toNat_natCast] at hG
      refine ⟨(by show 3 ≤ sizeLine; decide), fun t ht => ?_⟩
      have s3 := same_upd (o := .lst [V.int (n - tot ns bs), V.ref R, V.ref D]) ht
      have hT : (upd G t (.lst [V.int (n - tot ns bs), V.ref R, V.ref D])) t = some (.lst [V.int (n - tot ns bs), V.ref R, V.ref D]) := upd_same
      generalize upd G t (.lst [V.int (n - tot ns bs), V.ref R, V.ref D]) = G2 at s3 hT
      have tb := tot_bd L.wf L.gd
      have u1 : Tq K G2 (.int (n - tot ns bs)) (.int (n - tot ns bs)) 2 2300000 := (tq_int (by omega) (by omega)).mono (by decide) (by decide)
      have u2 : Tq K G2 (.ref R) (.list ((runsI ns (fgI ns n bs)).map runD)) 2 2300000 := by
        have x := tq_runs (K := K) ((t1.same sm).same s3) fun t ht => by
          unfold runsI at ht
          obtain ⟨g, hg, htg⟩ := List.mem_flatMap.mp ht
          obtain ⟨g1, g2⟩ := f1 g hg
          have g3 := f3 g hg
          obtain ⟨a, b, d⟩ := R_in (chain L.gd) _ g.1 (Nat.le_refl _) g1 t htg
          exact ⟨by omega, ⟨b.1, by omega⟩, ⟨d.1, by omega⟩⟩
        refine (x.lst (s3 _ _ (sm _ _ h1))).mono (Nat.le_refl _) ?_
        have := runs_len L.gd (fgI ns n bs)
        have := t1.len
        rw [List.length_map]
        omega
      have u3 : Tq K G2 (.ref D) (.list (((List.range ns.length).map fun k => regI ns k (fgI ns n bs)).map PyData.int)) 2 2300000 := by
        refine (tq_ints (fun i hi => ?_) (by rw [List.length_map, List.length_range]; omega) (s3 _ _ hG)).mono (by decide) (by decide)
        obtain ⟨k, hk, rfl⟩ := List.mem_map.mp hi
        obtain ⟨r1, r2⟩ := reg_bd L.wf L.gd (List.mem_range.mp hk)
        have r3 : n * ((fgI ns n bs).length : Int) ≤ n * 1001 := Int.mul_le_mul_of_nonneg_left (by omega) (by omega)
        omega
      have tq : Tq K G2 (.ref t) (frD ns n bs) 3 7000000 := ((tqAll_cons u1 (tqAll_cons u2 (tqAll_cons u3 tqAll_nil))).lst hT).mono (Nat.le_refl _) (by show 3 * (2300000 + 2) + 3 ≤ 7000000; decide)
      exact ⟨_, _, rfl, tq.dq, tq.sh, Nat.le_trans tq.dp (by decide), Nat.le_trans tq.ln (by decide), q G2 ((s1.trans sm).trans s3)⟩
end
end K28

set_option Elab.async false
set_option linter.all false
set_option maxRecDepth 100000
set_option maxHeartbeats 4000000
namespace K28
open PySem PySem.Spec PyProof.Rows L2 Gu Ex
theorem cut_nat (xs : List V) (k : Nat) : cutV xs none (some ((k : Int) + 1)) = xs.take (k + 1) := by
  unfold cutV
  have e : ((k : Int) + 1) = ((k + 1 : Nat) : Int) := by omega
  rw [e, HT.sIx_none, HT.sIx_nat, List.drop_zero, Nat.sub_zero]
  rw [List.take_eq_take_iff]
  omega
theorem sums_at {ns : List Int} {n : Int} {bs : List Blk} {k : Nat} (hk : k < ns.length) : (sumsI ns n bs)[k]? = some (slkI ns n bs k []) := by
  unfold sumsI
  rw [List.getElem?_append_left (by rw [List.length_map, List.length_range]; exact hk), List.getElem?_map, List.getElem?_range hk]
  rfl
theorem sums_take {ns : List Int} {n : Int} {bs : List Blk} {j : Nat} {b : Blk} (w : Wf ns n bs) (g : Good ns) (n1 : 0 ≤ n) (hj : bs[j]? = some b) (hp : b.2.2 = false) : (sumsI ns n (pinB bs j b true)).take (b.2.1 + 1) = (sumsI ns n bs).take (b.2.1 + 1) := by
  have hb := (w.ok b (List.mem_of_getElem? hj)).1
  refine List.ext_getElem? fun i => ?_
  by_cases hi : i < b.2.1 + 1
  · rw [List.getElem?_take_of_lt hi, List.getElem?_take_of_lt hi, sums_at (by omega), sums_at (by omega), (slk_pin w g n1 hj hp (by omega)).1 (by omega)]
  · rw [List.getElem?_take_eq_none (by omega), List.getElem?_take_eq_none (by omega)]
section
variable {P : Program} {w : World} {K : PySem.W.Frag} {mg : Str → Option Value} {base : Heap} {f : Addr} {fd : FuncData}
def spPR (K : PySem.W.Frag) : Sp := fun vs H Q _ => ∃ (s o B y zp bl dx : Addr) (ps : List Addr) (ns : List Int) (n : Int) (bs : List Blk) (j : Nat) (b : Blk), vs = [.ref y, .ref s, .ref o, .ref B] ∧ Ly K H y zp bl dx ps ns n (pinB bs j b true) ∧ H s = some (.lst (ns.map V.int)) ∧ H o = some (.tup (blkV (b.1, b.2.1, true))) ∧ H B = some (.lst ((sumsI ns n bs).map V.int)) ∧
  bs[j]? = some b ∧ b.2.2 = false ∧ Wf ns n bs ∧ ∀ H', Same H H' → Q (.bl true) H'
theorem sc__law_pinned_right : FnScope ["_law_layout_here", "_law_sizes_here", "_law_one", "_law_before", "_law_after", "_law_level", "_law_k"] ["_law_layout_here", "_law_sizes_here", "_law_one", "_law_before"] (defScope (top 50)) := ⟨rfl, rfl, rfl, by decide +kernel, rfl, by decide +kernel, by decide +kernel⟩
theorem ok_pright (T : Tx K mg) (D__law_sums : Df P w K mg base 12 "_law_sums" ["_law_layout_here", "_law_sizes_here"] (spSums K)) (F : FnP K "_law_pinned_right" "_law_pinned_right" (top 50) f fd) : FnOk P w K mg base CX0 13 f fd ["_law_layout_here", "_law_sizes_here", "_law_one", "_law_before"] (spPR K) := by
  refine F.ok sc__law_pinned_right (fun vs H Q E h => ?_) (fun cdv A outer s H vs Q E hr h => ⟨_, PSs.nox (pss_cons (ps_asg (pe_tup (pa_cons (pcall D__law_sums hr (pa_cons (pv 0) (pa_cons (pv 1) pa_nil))) (pa_cons (pe_ix ix_tup (pv 2) pe_int (fun _ _ => rfl)) pa_nil))) (pg_tup (by rfl) (pgs_cons (pg_name (i := 4) sc__law_pinned_right.nd rfl (by first | exact Or.inl rfl | exact Or.inr rfl)) (pgs_cons (pg_name (i := 5) sc__law_pinned_right.nd rfl (by first | exact Or.inl rfl | exact Or.inr rfl)) pgs_nil)))) (pss_cons (ps_if (PW.pt (pw_or (pt_cmpR (op_neD hr.units) (pe_slice sl_list (pv 4) po_none (po_some (pe_op op_add (pv 5) pe_int))) (pe_slice sl_list (pv 3) po_none (po_some (pe_op op_add (pv 5) pe_int))) (nomark _)) (pw_or1 (pt_cmpR op_gt (pe_ix ix_list (pv 4) (pe_un un_neg pe_int) (fun _ _ => rfl)) (pe_ix ix_list (pv 3) (pe_un un_neg pe_int) (fun _ _ => rfl)) (nomark _))))) (pss_one (ps_ret pe_bl)) pss_nil) (pss_one (ps_ret (pe_callB (cr_all rfl) (by rfl) T.n_all (by decide +kernel) (pa_cons (pe_lc (own := [("_law_k", 6)]) (g := gName 6) rfl sc__law_pinned_right.nd (pi_range2 rfl T.n_range (pa_cons (pe_op op_add (pv 5) pe_int) (pa_cons (pe_callB call_len_seq (by rfl) T.n_len (by decide +kernel) (pa_cons (pv 1) pa_nil)) pa_nil))) (blkOk_by (own := [("_law_k", 6)]) (N := ["_law_layout_here", "_law_sizes_here", "_law_one", "_law_before", "_law_after", "_law_level", "_law_k"]) (sc := defScope (top 50)) (by decide +kernel)) (fun _ _ _ _ _ => pg_name (i := 6) sc__law_pinned_right.nd rfl (Or.inl rfl)) (fun _ _ _ _ _ => pts_nil) (fun _ _ _ _ _ => (pe_cmpR (r := rIn K false) op_in_seq (pe_op op_sub (pe_ix (r := rIxL K) ix_list (pv 3) (pv 6) (fun _ _ => rfl)) (pe_ix (r := rIxL K) ix_list (pv 4) (pv 6) (fun _ _ => rfl))) (pe_tup (pa_cons pe_int (pa_cons (pe_ix (r := rIxL K) ix_list (pv 1) (pv 6) (fun _ _ => rfl)) pa_nil))) (by rfl)))) pa_nil)))))), ?_⟩)
  · obtain ⟨s, o, B, y, zp, bl, dx, ps, ns, n, bs, j, b, rfl, _⟩ := h
    rfl
  · obtain ⟨s, o, B, y, zp, bl, dx, ps, ns, n, bs, j, b, rfl, L, hs, ho, hB, hj, hp, wf, q⟩ := h
    have sl : sizeLine = 16777216 := sizeLine_eq
    have g := L.gd
    have l8 := g.len
    have n1 := L.n1
    have hb := (wf.ok b (List.mem_of_getElem? hj)).1
    have ho' : H o = some (.tup [.int b.1, .int (b.2.1 : Nat), .bl true]) := ho
    refine ⟨_, rfl, _, rfl, s, y, zp, bl, dx, ps, ns, n, _, rfl, L, hs, fun R H0 hR s0 h0 => ⟨_, rfl, o, _, _, _, rfl, rfl, SqT.of (s0 _ _ ho'), rfl, (by show 2 ≤ sizeLine; decide), fun t0 ht0 => ?_⟩⟩
    refine ⟨t0, _, rfl, .inl (.inl upd_same), rfl, _, _, rfl, _, _, rfl, rfl, ?_⟩
    have s1 := s0.trans (same_upd (o := .tup [.ref R, .int (b.2.1 : Nat)]) ht0)
    have h1 := same_upd (o := .tup [.ref R, .int (b.2.1 : Nat)]) ht0 _ _ h0
    generalize upd H0 t0 (.tup [.ref R, .int (b.2.1 : Nat)]) = H1 at s1 h1
    refine ⟨_, rfl, _, rfl, _, _, rfl, rfl, _, rfl, R, _, rfl, SqL.of h1, fun p1 hp1 => ?_⟩
    rw [cut_nat, ← List.map_take]
    have s2 := s1.trans (same_upd (o := .lst (((sumsI ns n (pinB bs j b true)).take (b.2.1 + 1)).map V.int)) hp1)
    have k2 := same_upd (o := .lst (((sumsI ns n (pinB bs j b true)).take (b.2.1 + 1)).map V.int)) hp1 _ _ h1
    have e2 : (upd H1 p1 (.lst (((sumsI ns n (pinB bs j b true)).take (b.2.1 + 1)).map V.int))) p1 = some (.lst (((sumsI ns n (pinB bs j b true)).take (b.2.1 + 1)).map V.int)) := upd_same
    generalize upd H1 p1 (.lst (((sumsI ns n (pinB bs j b true)).take (b.2.1 + 1)).map V.int)) = H2 at s2 k2 e2
    refine ⟨_, rfl, _, rfl, _, _, rfl, rfl, _, rfl, B, _, rfl, SqL.of (s2 _ _ hB), fun p2 hp2 => ?_⟩
    rw [cut_nat, ← List.map_take]
    have x3 := same_upd (o := .lst (((sumsI ns n bs).take (b.2.1 + 1)).map V.int)) hp2
    have e3 : (upd H2 p2 (.lst (((sumsI ns n bs).take (b.2.1 + 1)).map V.int))) p2 = some (.lst (((sumsI ns n bs).take (b.2.1 + 1)).map V.int)) := upd_same
    generalize upd H2 p2 (.lst (((sumsI ns n bs).take (b.2.1 + 1)).map V.int)) = H3 at x3 e3
    have s3 := s2.trans x3
    have k3 := x3 _ _ k2
    refine ⟨_, _, .lst (SqL.of (x3 _ _ e2)) (dp_ints _), .lst (SqL.of e3) (dp_ints _), shaped_ints _, shaped_ints _, _, rfl, ?_⟩
    refine ifF (by
      show (!PyData.eqvAll (((sumsI ns n (pinB bs j b true)).take (b.2.1 + 1)).map PyData.int) (((sumsI ns n bs).take (b.2.1 + 1)).map PyData.int)) = false
      rw [eqv_ints, decide_eq_true (sums_take wf g (by omega) hj hp)]
      rfl) ?_
    have la : ∀ cs : List Blk, atI ((sumsI ns n cs).map V.int) (-1) = some (.int (lrgI ns n cs [])) := fun cs => by
      unfold sumsI
      exact at_last _ _
    have ll := lrg_le wf g (by omega) hj hp
    refine ⟨_, rfl, _, rfl, R, _, _, _, rfl, rfl, SqL.of k3, la _, _, rfl, _, rfl, B, _, _, _, rfl, rfl, SqL.of (s3 _ _ hB), la _, _, _, rfl, rfl, _, rfl, ifF (decide_eq_false (by omega)) ?_⟩
    refine ⟨_, rfl, _, _, rfl, rfl, _, rfl, s, _, rfl, .inl (SqL.of (s3 _ _ hs)), _, _, rfl, ⟨by omega, by omega, (by simp only [List.length_map]; omega), (by simp only [List.length_map]; omega)⟩, fun D hD => ?_⟩
    refine lc_range (fun i G => G D = some (.lst ((List.replicate i true).map V.bl)) ∧ Same H3 G) ⟨upd_same, same_upd hD⟩ ?_ ?_
    · rintro i G hi ⟨hG, sm⟩
      rw [List.length_map] at hi
      have e : ((b.2.1 : Nat) : Int) + 1 + (i : Int) = ((b.2.1 + 1 + i : Nat) : Int) := by omega
      rw [e]
      have hk : b.2.1 + 1 + i < ns.length := by omega
      have hk2 := (slk_pin wf g (by omega) hj hp hk).2 (by omega)
      refine ⟨rfl, _, rfl, _, rfl, B, _, _, _, rfl, rfl, SqL.of (sm _ _ (s3 _ _ hB)), at_map (sums_at hk), _, rfl, _, rfl, R, _, _, _, rfl, rfl, SqL.of (sm _ _ k3), at_map (sums_at hk), _, _, rfl, rfl, ?_⟩
      refine ⟨_, rfl, _, rfl, s, _, _, _, rfl, rfl, SqL.of (sm _ _ (s3 _ _ hs)), at_sz hk, (by show 2 ≤ sizeLine; decide), fun t ht => ?_⟩
      refine ⟨t, _, rfl, .inr (SqT.of upd_same), rfl, rfl, ?_⟩
      have iv : inV (V.int (slkI ns n bs (b.2.1 + 1 + i) [] - slkI ns n (pinB bs j b true) (b.2.1 + 1 + i) [])) [V.int 0, V.int (sz ns (b.2.1 + 1 + i))] = true := by
        show ((0 == (slkI ns n bs (b.2.1 + 1 + i) [] - slkI ns n (pinB bs j b true) (b.2.1 + 1 + i) [])) || ((sz ns (b.2.1 + 1 + i) == (slkI ns n bs (b.2.1 + 1 + i) [] - slkI ns n (pinB bs j b true) (b.2.1 + 1 + i) [])) || false)) = true
        rcases hk2 with z | z
        · rw [z]
          rfl
        · rw [z]
          simp
      refine ⟨_, same_upd ht _ _ hG, small1000 (by rw [trues_len]; omega), ?_, fun c o e => ?_⟩
      · rw [upd_same]
        show some (HO.lst ((List.replicate i true).map V.bl ++ [V.bl (inV (V.int (slkI ns n bs (b.2.1 + 1 + i) [] - slkI ns n (pinB bs j b true) (b.2.1 + 1 + i) [])) [V.int 0, V.int (sz ns (b.2.1 + 1 + i))])])) = _
        rw [iv, trues_more]
      · rw [upd_ne (ne_of_none e hD)]
        exact same_upd ht _ _ (sm c o e)
    · rintro G ⟨hG, sm⟩
      refine ⟨D, _, rfl, SqL.of hG, ?_⟩
      rw [all_trues]
      exact q G (s3.trans sm)
end
end K28

set_option Elab.async false
set_option linter.all false
set_option maxRecDepth 100000
set_option maxHeartbeats 4000000
namespace K28
open PySem PySem.Spec PyProof.Rows L2 Gu Ex
/-- all that a turn stands on -/
structure Al (K : PySem.W.Frag) (r s a y zp bl dx : Addr) (ps qs : List Addr) (ns : List Int) (n : Int) (bs : List Blk) (H : Hp) : Prop where
  rg : Rng H r
  lb : Lb ns n H s a qs bs
  sr : s ≠ r
  ab : a ≠ bl
  L : Ly K H y zp bl dx ps ns n bs
  lr : ∃ dz l, H zp = some (.ins (He.ga K "Sizes") dz (szF l)) ∧ H l = some (.lst (ns.map V.int)) ∧ l ≠ bl ∧ l ≠ r
section
variable {K : PySem.W.Frag} {r s a y zp bl dx y2 bl2 dx2 : Addr} {ps qs ps2 : List Addr} {ns : List Int} {n : Int} {bs bs2 : List Blk} {H H' G G' : Hp}
theorem Rng.lst {p : Addr} {qs : List Addr} (h : Rng H r) (e : H p = some (.lst (qs.map V.ref))) : p ≠ r := fun z => by
  obtain ⟨x, y, e2, _⟩ := h
  rw [z, e2] at e
  cases qs with
  | nil => cases e
  | cons q qs => cases e
theorem Rng.tup {p : Addr} {xs : List V} (h : Rng H r) (e : H p = some (.tup xs)) : p ≠ r := fun z => by
  obtain ⟨x, y, e2, _⟩ := h
  rw [z, e2] at e
  cases e
theorem Rng.ins {p C d : Addr} {fs : List (Str × V)} (h : Rng H r) (e : H p = some (.ins C d fs)) : p ≠ r := fun z => by
  obtain ⟨x, y, e2, _⟩ := h
  rw [z, e2] at e
  cases e
theorem Al.step (A : Al K r s a y zp bl dx ps qs ns n bs H) (t : Stp r H H') : Al K r s a y zp bl dx ps qs ns n bs H' := by
  obtain ⟨dz, l, e1, e2, e3, e4⟩ := A.lr
  have k1 := t.2 _ _ (A.rg.ins e1) e1
  have k2 := t.2 _ _ e4 e2
  have mv : ∀ {ps : List Addr} {bs : List Blk}, Refs blkV H ps bs → Refs blkV H' ps bs := fun rf => rf.mono fun p xs e => t.2 p _ (A.rg.tup e) e
  exact ⟨t.1, ⟨t.2 _ _ A.sr A.lb.hs, t.2 _ _ (A.rg.lst A.lb.ha) A.lb.ha, mv A.lb.rf, A.lb.wf, A.lb.gd, A.lb.n0, A.lb.ln⟩, A.sr, A.ab,
    ⟨t.2 _ _ (A.rg.ins A.L.at_) A.L.at_, ⟨dz, l, k1, k2⟩, t.2 _ _ (A.rg.lst A.L.lst) A.L.lst, mv A.L.rf, A.L.wf, A.L.gd, A.L.n1, A.L.n2, A.L.ln, ⟨dz, l, k1, k2, e3⟩⟩, ⟨dz, l, k1, k2, e3, e4⟩⟩
theorem Stp.same {H : Hp} (hR : Rng H r) (s : Same H H') : Stp r H H' := ⟨by
  obtain ⟨x, y, e, z⟩ := hR
  exact ⟨x, y, s _ _ e, z⟩, fun b o _ e => s b o e⟩
theorem Al.same (A : Al K r s a y zp bl dx ps qs ns n bs H) (t : Same H H') : Al K r s a y zp bl dx ps qs ns n bs H' := A.step (Stp.same A.rg t)
theorem ne_ir {p q : Addr} (h1 : H p = some (.lst (ns.map V.int))) (hn : 1 ≤ ns.length) (h2 : H q = some (.lst (qs.map V.ref))) : p ≠ q := fun z => by
  rw [z, h2] at h1
  cases ns with
  | nil => exact absurd hn (by decide)
  | cons i r =>
    cases qs with
    | nil => cases h1
    | cons q qs => cases h1
/-- another list of tuples changes -/
theorem Ly.one (L : Ly K G y zp bl dx ps ns n bs) (ha : G a = some (.lst (qs.map V.ref))) (ab : a ≠ bl) (hk : ∀ c o, c ≠ a → G c = some o → G' c = some o) : Ly K G' y zp bl dx ps ns n bs := by
  obtain ⟨dz, l, e1, e2, e3⟩ := L.ap
  have ya : y ≠ a := fun z => by
    have := L.at_
    rw [z, ha] at this
    cases this
  have za : zp ≠ a := fun z => by
    rw [z, ha] at e1
    cases e1
  have la := ne_ir e2 L.gd.len.1 ha
  have k1 := hk _ _ za e1
  have k2 := hk _ _ la e2
  exact ⟨hk _ _ ya L.at_, ⟨dz, l, k1, k2⟩, hk _ _ ab.symm L.lst, L.rf.mono fun c xs e => hk _ _ (fun z => by
    rw [z, ha] at e
    cases e) e, L.wf, L.gd, L.n1, L.n2, L.ln, ⟨dz, l, k1, k2, e3⟩⟩
/-- another layout of the same sizes changes -/
theorem Ly.but (E : Ly K G y2 zp bl2 dx2 ps2 ns n bs2) (L : Ly K G y zp bl dx ps ns n bs) (h1 : y2 ≠ y) (h2 : bl2 ≠ bl) (bt : But2 y bl G G') : Ly K G' y2 zp bl2 dx2 ps2 ns n bs2 := by
  obtain ⟨dz, l, zz, zl, zy, zb, lb, ly, nyb⟩ := L.far
  obtain ⟨dz', l', e1, e2, e3⟩ := E.ap
  have el : l' = l := by
    rw [zz] at e1
    have := (HO.ins.inj (Option.some.inj e1)).2.2
    unfold szF at this
    have := (Prod.mk.inj (List.cons.inj this).1).2
    exact (V.ref.inj this).symm
  subst el
  have yb : y2 ≠ bl := fun z => by
    have := E.at_
    rw [z, L.lst] at this
    cases this
  have by_ : bl2 ≠ y := fun z => by
    have := E.lst
    rw [z, L.at_] at this
    cases this
  have k1 := bt _ _ zy zb e1
  have k2 := bt _ _ ly lb e2
  exact ⟨bt _ _ h1 yb E.at_, ⟨dz', l', k1, k2⟩, bt _ _ by_ h2 E.lst, E.rf.mono fun c xs e => bt _ _ (fun z => by
    rw [z, L.at_] at e
    cases e) (fun z => by
    rw [z, L.lst] at e
    cases e) e, E.wf, E.gd, E.n1, E.n2, E.ln, ⟨dz', l', k1, k2, e3⟩⟩
end
section
variable {ns : List Int} {n : Int} {bs : List Blk} {k : Nat} {b : Blk} {p q : Bool}
theorem pin_pin : pinB (pinB bs k b p) k (b.1, b.2.1, p) q = pinB bs k b q := by
  unfold pinB
  rw [List.set_set]
theorem pin_self (hb : bs[k]? = some b) : pinB bs k b b.2.2 = bs := by
  obtain ⟨hk, e⟩ := List.getElem?_eq_some_iff.mp hb
  unfold pinB
  rw [show (b.1, b.2.1, b.2.2) = b from rfl, ← e, List.set_getElem_self]
theorem pin_at (hb : bs[k]? = some b) : (pinB bs k b p)[k]? = some (b.1, b.2.1, p) := by
  unfold pinB
  rw [List.getElem?_set_self (List.getElem?_eq_some_iff.mp hb).1]
theorem pin_eq (hb : bs[k]? = some b) : decide (pinB bs k b p = bs) = decide (V.bl p = V.bl b.2.2) := by
  refine decide_eq_decide.mpr ⟨fun h => ?_, fun h => ?_⟩
  · have h1 := pin_at (p := p) hb
    rw [h, hb] at h1
    have h2 := congrArg (fun z : Blk => z.2.2) (Option.some.inj h1)
    exact congrArg V.bl h2.symm
  · rw [V.bl.inj h]
    exact pin_self hb
theorem fr_pin (hb : bs[k]? = some b) : frD ns n (pinB bs k b p) = frD ns n bs := by
  have e : fgI ns n (pinB bs k b p) = fgI ns n bs := by
    unfold fgI pinB
    rw [List.map_set]
    congr 1
    obtain ⟨hk, e⟩ := List.getElem?_eq_some_iff.mp hb
    have e2 : rngB ns (b.1, b.2.1, p) = (bs.map (rngB ns))[k]'(by rw [List.length_map]; exact hk) := by
      rw [List.getElem_map, e]
      rfl
    rw [e2, List.set_getElem_self]
  unfold frD
  rw [e, tot_pin hb]
end
/-- after the pin: the layout, the one before, its sums, all else -/
structure Bd (K : PySem.W.Frag) (r s a y zp bl dx : Addr) (ps qs : List Addr) (ns : List Int) (n : Int) (bs : List Blk) (B y2 bl2 dx2 : Addr) (ps2 : List Addr) (bs2 : List Blk) (Hs G : Hp) : Prop where
  al : Al K r s a y zp bl dx ps qs ns n bs G
  E : Ly K G y2 zp bl2 dx2 ps2 ns n bs2
  hB : G B = some (.lst ((sumsI ns n bs2).map V.int))
  far : ∀ c o, c ≠ r → c ≠ y → c ≠ bl → c ≠ a → Hs c = some o → G c = some o
theorem Bd.same {K : PySem.W.Frag} {r s a y zp bl dx : Addr} {ps qs : List Addr} {ns : List Int} {n : Int} {bs : List Blk} {B y2 bl2 dx2 : Addr} {ps2 : List Addr} {bs2 : List Blk} {Hs G G' : Hp} (D : Bd K r s a y zp bl dx ps qs ns n bs B y2 bl2 dx2 ps2 bs2 Hs G) (t : Same G G') : Bd K r s a y zp bl dx ps qs ns n bs B y2 bl2 dx2 ps2 bs2 Hs G' :=
  ⟨D.al.same t, D.E.same t, t _ _ D.hB, fun c o c1 c2 c3 c4 e => t _ _ (D.far c o c1 c2 c3 c4 e)⟩
end K28

set_option Elab.async false
set_option linter.all false
set_option maxRecDepth 100000
set_option maxHeartbeats 4000000
namespace K28
open PySem PySem.Spec PyProof.Rows L2 Gu Ex
section
variable {P : Program} {w : World} {K : PySem.W.Frag} {mg : Str → Option Value} {base : Heap} {f : Addr} {fd : FuncData}
def spSw (K : PySem.W.Frag) : Sp := fun vs H Q _ => ∃ (r s a y zp bl dx : Addr) (ps qs : List Addr) (ns : List Int) (n : Int) (bs : List Blk), vs = [.ref r, .ref y, .ref s, .int n, .ref a] ∧ Al K r s a y zp bl dx ps qs ns n bs H ∧ 1 ≤ bs.length ∧
  ∀ ps' qs' bs' H', Al K r s a y zp bl dx ps' qs' ns n bs' H' → bs'.length = bs.length → (∀ c o, c ≠ r → c ≠ y → c ≠ bl → c ≠ a → H c = some o → H' c = some o) → Q (.bl true) H'
theorem sc__law_switched : FnScope ["_law_rng_here", "_law_layout_here", "_law_sizes_here", "_law_length", "_law_blocks_here", "_law_told", "_law_other", "_law_k", "_law_is_pinned", "_law_address", "_law_level", "_law_was_pinned", "_law_free_here", "_law_before", "_law_elder"] ["_law_rng_here", "_law_layout_here", "_law_sizes_here", "_law_length", "_law_blocks_here"] (defScope (top 51)) := ⟨rfl, rfl, rfl, by decide +kernel, rfl, by decide +kernel, by decide +kernel⟩
theorem ok_sw (T : Tx K mg) (D__law_draw : Df P w K mg base 1 "_law_draw" ["_law_rng_here", "_law_many"] spDraw) (D__law_free : DfG P w K mg base 11 "_law_free" ["_law_layout_here", "_law_sizes_here"] (spLFree K)) (D__law_sums : Df P w K mg base 12 "_law_sums" ["_law_layout_here", "_law_sizes_here"] (spSums K))
    (M_clone : Mf P w K mg base 6 "Layout" "clone" ["self"] (spClone K)) (M_set_pinned : Mf P w K mg base 3 "Layout" "set_pinned" ["self", "address", "pinned"] (spPin K)) (M_blocks : Mf P w K mg base 1 "Layout" "blocks" ["self"] (spBlk K)) (M_block_at : Mf P w K mg base 6 "Layout" "block_at" ["self", "address"] (spAt K))
    (E_Layout : EqOf P w K mg base 2 "Layout" (spLEq K)) (D__law_due_sums : Df P w K mg base 5 "_law_due_sums" ["_law_sizes_here", "_law_length", "_law_blocks_here"] spDSums) (D__law_pinned_right : Df P w K mg base 13 "_law_pinned_right" ["_law_layout_here", "_law_sizes_here", "_law_one", "_law_before"] (spPR K))
    (M_take_out : Mf P w K mg base 6 "Layout" "take_out" ["self", "address"] (spTake K)) (F : FnP K "_law_switched" "_law_switched" (top 51) f fd) : FnG P w K mg base CX0 14 f fd ["_law_rng_here", "_law_layout_here", "_law_sizes_here", "_law_length", "_law_blocks_here"] (spSw K) := by
  refine okG F sc__law_switched (fun vs H Q E h => ?_) (fun cdv A outer s H vs Q E hr h => ⟨_, PSs.nox (pss_cons (ps_par (by rfl) sc__law_switched.nd (i := 7) (j := 8) rfl rfl (by decide) rfl rfl (pa_cons (pcall D__law_draw hr.r (pa_cons (pv 0) (pa_cons (pe_callB call_len_seq (by rfl) T.n_len (by decide +kernel) (pa_cons (pv 4) pa_nil)) pa_nil))) (pa_cons (pe_cmpR op_eq (pcall D__law_draw hr.r (pa_cons (pv 0) (pa_cons pe_int pa_nil))) pe_int (nomark _)) pa_nil)) (by rfl)) (pss_cons (ps_asg (pe_ix ix_list (pv 4) (pv 7) (fun _ _ => rfl)) (pg_tup (by rfl) (pgs_cons (pg_name (i := 9) sc__law_switched.nd rfl (by first | exact Or.inl rfl | exact Or.inr rfl)) (pgs_cons (pg_name (i := 10) sc__law_switched.nd rfl (by first | exact Or.inl rfl | exact Or.inr rfl)) (pgs_cons (pg_name (i := 11) sc__law_switched.nd rfl (by first | exact Or.inl rfl | exact Or.inr rfl)) pgs_nil))))) (pss_cons (ps_par3 (by rfl) sc__law_switched.nd (i := 12) (j := 13) (l := 14) rfl rfl rfl (by decide) (by decide) (by decide) rfl rfl rfl (pa_cons (pcallG D__law_free hr (pa_cons (pv 1) (pa_cons (pv 2) pa_nil))) (pa_cons (pcall D__law_sums hr.r (pa_cons (pv 1) (pa_cons (pv 2) pa_nil))) (pa_cons (pmeth0 M_clone hr.r (pv 1)) pa_nil))) (by rfl)) (pss_cons (ps_set (i := 5) sc__law_switched.nd rfl (by first | exact Or.inl rfl | exact Or.inr rfl) (pe_lst (pa_cons (pmeth M_set_pinned hr.r (pv 1) (pa_cons (pv 9) (pa_cons (pv 8) pa_nil))) (pa_cons (pmeth M_set_pinned hr.r (pv 1) (pa_cons (pv 9) (pa_cons (pv 8) pa_nil))) pa_nil)))) (pss_cons (ps_asg (pe_tup (pa_cons (pv 9) (pa_cons (pv 10) (pa_cons (pv 8) pa_nil)))) (pg_sub (pv 4) (pv 7) set_list)) (pss_cons (ps_if (PW.pt (pw_or (pt_cmpR (op_neD hr.r.units) (pv 5) (pe_lst (pa_cons pe_non (pa_cons pe_non pa_nil))) (nomark _)) (pw_or (pt_cmpR (op_neD hr.r.units) (pmeth0 M_blocks hr.r (pv 1)) (pv 4) (nomark _)) (pw_or1 (pt_cmpR (op_neD hr.r.units) (pmeth M_block_at hr.r (pv 1) (pa_cons (pv 9) pa_nil)) (pe_ix ix_list (pv 4) (pv 7) (fun _ _ => rfl)) (nomark _)))))) (pss_one (ps_ret pe_bl)) pss_nil) (pss_cons (ps_if (PW.pt (pw_or (pt_cmpR (op_neD hr.r.units) (pe_lst (pa_cons (pe_cmpR (op_own E_Layout hr.r) (pv 1) (pv 14) (nomark _)) (pa_cons (pe_cmpR (op_own E_Layout hr.r) (pv 14) (pv 1) (nomark _)) pa_nil))) (pe_op op_rep (pe_lst (pa_cons (pe_cmpR op_eq (pv 8) (pv 11) (nomark _)) pa_nil)) pe_int) (nomark _)) (pw_or1 (pt_cmpR op_ne (pcallG D__law_free hr (pa_cons (pv 1) (pa_cons (pv 2) pa_nil))) (pv 12) (nomark _))))) (pss_one (ps_ret pe_bl)) pss_nil) (pss_cons (ps_if (pt_cmpR op_ne (pe_callB (call_reprQ hr T.sys) (by rfl) T.n_repr (by decide +kernel) (pa_cons (pcall D__law_sums hr.r (pa_cons (pv 1) (pa_cons (pv 2) pa_nil))) pa_nil)) (pe_callB (call_reprQ hr T.sys) (by rfl) T.n_repr (by decide +kernel) (pa_cons (pcall D__law_due_sums hr.r (pa_cons (pv 2) (pa_cons (pv 3) (pa_cons (pv 4) pa_nil)))) pa_nil)) (nomark _)) (pss_one (ps_ret pe_bl)) pss_nil) (pss_cons (ps_if (PW.pt (pw_and (pt_val (pv 8)) (pw_and (pt_not (pt_val (pv 11))) (pw_and1 (pt_not (pt_val (pcall D__law_pinned_right hr.r (pa_cons (pv 1) (pa_cons (pv 2) (pa_cons (pe_ix ix_list (pv 4) (pv 7) (fun _ _ => rfl)) (pa_cons (pv 13) pa_nil))))))))))) (pss_one (ps_ret pe_bl)) pss_nil) (pss_cons (ps_set (i := 6) sc__law_switched.nd rfl (by first | exact Or.inl rfl | exact Or.inr rfl) (pmeth0 M_clone hr.r (pv 1))) (pss_cons (ps_expr (pmeth M_set_pinned hr.r (pv 6) (pa_cons (pv 9) (pa_cons (pv 11) pa_nil)))) (pss_cons (ps_if (PW.pt (pw_or (pt_cmpR (op_neD hr.r.units) (pcall D__law_sums hr.r (pa_cons (pv 6) (pa_cons (pv 2) pa_nil))) (pv 13) (nomark _)) (pw_or1 (pt_not (pt_cmpR (op_own E_Layout hr.r) (pv 6) (pv 14) (nomark _)))))) (pss_one (ps_ret pe_bl)) pss_nil) (pss_one (ps_ret (pe_and (pe_cmpR (op_eqD hr.r.units) (pmeth M_take_out hr.r (pv 6) (pa_cons (pv 9) pa_nil)) (pe_tup (pa_cons (pv 10) (pa_cons (pv 11) pa_nil))) (nomark _)) (pe_one (pe_cmpR (op_eqD hr.r.units) (pmeth0 M_blocks hr.r (pv 1)) (pv 4) (nomark _)))))))))))))))))), ?_⟩)
  · obtain ⟨r, s, a, y, zp, bl, dx, ps, qs, ns, n, bs, rfl, _⟩ := h
    rfl
  · obtain ⟨r, s, a, y, zp, bl, dx, ps, qs, ns, n, bs, rfl, A, b1, q⟩ := h
    have ql := A.lb.rf.len
    have bn := A.lb.ln
    have n1 := A.L.n1
    have n2 := A.L.n2
    have wf := A.lb.wf
    have gd := A.lb.gd
    have big : (10 : Int) ^ 40 = 10000000000000000000000000000000000000000 := by decide
    have b39 : (10 : Int) ^ 39 = 1000000000000000000000000000000000000000 := by decide
    have two : 2 ≤ sizeLine := by decide
    have three : 3 ≤ sizeLine := by decide
    refine ⟨_, rfl, _, rfl, a, _, rfl, .inl (SqL.of A.lb.ha), r, _, rfl, A.rg, (by rw [List.length_map]; omega), (by rw [List.length_map]; omega), fun d H1 d0 d1 t1 => ?_⟩
    refine ⟨_, rfl, r, 2, rfl, t1.1, by decide, by omega, fun e H2 e0 e1 t2 => ⟨rfl, _, _, rfl, ?_⟩⟩
    generalize decide (V.int e = V.int 0) = p
    rw [List.length_map] at d1
    obtain ⟨k, rfl⟩ : ∃ k : Nat, d = (k : Int) := ⟨d.toNat, by omega⟩
    have hk : k < bs.length := by omega
    have A2 := A.step (t1.trans t2)
    have t12 := t1.trans t2
    obtain ⟨b, hb⟩ : ∃ b, bs[k]? = some b := ⟨_, List.getElem?_eq_getElem hk⟩
    obtain ⟨tp, htp, hT⟩ := A2.lb.rf.at_ hb
    have hT' : H2 tp = some (.tup [.int b.1, .int (b.2.1 : Nat), .bl b.2.2]) := hT
    have bo := wf.ok b (List.mem_of_getElem? hb)
    have bp := wf.pos gd (List.mem_of_getElem? hb)
    refine ⟨_, rfl, _, rfl, a, _, _, _, rfl, rfl, SqL.of A2.lb.ha, Refs.map_at htp, tp, _, rfl, .inl (.inl hT'), rfl, _, _, rfl, _, _, rfl, _, _, rfl, rfl, ?_⟩
    refine ⟨_, rfl, _, rfl, s, y, zp, bl, dx, ps, ns, n, bs, rfl, A2.L, A2.lb.hs, fun H3 s3 => ?_⟩
    have A3 := A2.same s3
    refine ⟨_, rfl, _, rfl, s, y, zp, bl, dx, ps, ns, n, bs, rfl, A3.L, A3.lb.hs, fun B H4 hB0 s4 hB4 => ?_⟩
    have A4 := A3.same s4
    refine ⟨_, rfl, y, dx, _, rfl, A4.L.at_, lay_nm (by decide +kernel), y, zp, bl, dx, ps, ns, n, bs, rfl, A4.L, fun y2 bl2 dx2 H5 hy2 hbl2 s5 E5 => ⟨_, _, _, rfl, ?_⟩⟩
    have A5 := A4.same s5
    have ny : y2 ≠ y := (ne_of_none A4.L.at_ hy2).symm
    have nb : bl2 ≠ bl := (ne_of_none A4.L.lst hbl2).symm
    have nab2 : a ≠ bl2 := ne_of_none A4.lb.ha hbl2
    have hB5 := s5 _ _ hB4
    have nBa : B ≠ a := (ne_of_none A3.lb.ha hB0).symm
    have nBb : B ≠ bl := (ne_of_none A3.L.lst hB0).symm
    have nBy : B ≠ y := (ne_of_none A3.L.at_ hB0).symm
    refine ⟨_, rfl, y, dx, _, rfl, A5.L.at_, lay_nm (by decide +kernel), _, rfl, _, rfl, y, zp, bl, dx, ps, ns, n, b.1, bs, k, b, p, rfl, A5.L, hb, rfl, fun ps1 H6 L6 bt6 => ?_⟩
    have hb1 : (pinB bs k b p)[k]? = some (b.1, b.2.1, p) := pin_at hb
    refine ⟨_, rfl, y, dx, _, rfl, L6.at_, lay_nm (by decide +kernel), _, rfl, _, rfl, y, zp, bl, dx, ps1, ns, n, b.1, pinB bs k b p, k, (b.1, b.2.1, p), p, rfl, L6, hb1, rfl, fun ps2 H7 L7 bt7 => ?_⟩
    rw [pin_pin] at L7
    have ya : y ≠ a := fun z => by
      have := A5.L.at_
      rw [z, A5.lb.ha] at this
      cases this
    have ha7 : H7 a = some (.lst (qs.map V.ref)) := bt7 _ _ ya.symm A.ab (bt6 _ _ ya.symm A.ab A5.lb.ha)
    have E7 := (E5.but A5.L ny nb bt6).but L6 ny nb bt7
    refine ⟨two, fun u hu => ?_⟩
    have x8 := same_upd (o := .lst [.non, .non]) hu
    have hu8 : (upd H7 u (.lst [.non, .non])) u = some (.lst [.non, .non]) := upd_same
    generalize upd H7 u (.lst [.non, .non]) = H8 at x8 hu8
    refine ⟨_, rfl, _, rfl, _, rfl, three, fun t ht => ?_⟩
    have x9 := same_upd (o := .tup [.int b.1, .int (b.2.1 : Nat), .bl p]) ht
    have ht9 : (upd H8 t (.tup [.int b.1, .int (b.2.1 : Nat), .bl p])) t = some (.tup [.int b.1, .int (b.2.1 : Nat), .bl p]) := upd_same
    generalize upd H8 t (.tup [.int b.1, .int (b.2.1 : Nat), .bl p]) = H9 at x9 ht9
    have x79 := x8.trans x9
    refine ⟨_, rfl, _, rfl, a, _, _, k, rfl, rfl, x79 _ _ ha7, (by rw [List.length_map]; exact ix_nat (by omega)), ?_⟩
    have ek : ∀ c o, c ≠ a → H9 c = some o → (upd H9 a (.lst ((qs.map V.ref).set k (.ref t)))) c = some o := fun c o nc ec => by
      rw [upd_ne nc]
      exact ec
    have ha10 : (upd H9 a (.lst ((qs.map V.ref).set k (.ref t)))) a = some (.lst ((qs.set k t).map V.ref)) := by rw [upd_same, List.map_set]
    generalize upd H9 a (.lst ((qs.map V.ref).set k (.ref t))) = G0 at ek ha10
    have ha9 := x79 _ _ ha7
    have keep : ∀ c o, c ≠ y → c ≠ bl → c ≠ a → H5 c = some o → G0 c = some o := fun c o c1 c2 c3 ec => ek _ _ c3 (x79 _ _ (bt7 _ _ c1 c2 (bt6 _ _ c1 c2 ec)))
    have ntup : ∀ {c : Addr} {xs : List V}, H9 c = some (.tup xs) → c ≠ a := fun {c xs} ec z => by
      rw [z, ha9] at ec
      cases ec
    have D0 : Bd K r s a y zp bl dx ps2 (qs.set k t) ns n (pinB bs k b p) B y2 bl2 dx2 ps bs H G0 := by
      have rr : r ≠ y := (A5.rg.ins A5.L.at_).symm
      have rb : r ≠ bl := (A5.rg.lst A5.L.lst).symm
      have ra : r ≠ a := (A5.rg.lst A5.lb.ha).symm
      have L10 := (L7.same x79).one ha9 A.ab ek
      have sy : s ≠ y := fun z => by
        have := A5.lb.hs
        rw [z, A5.L.at_] at this
        cases this
      have sb := ne_ir A5.lb.hs gd.len.1 A5.L.lst
      have sa := ne_ir A5.lb.hs gd.len.1 A5.lb.ha
      obtain ⟨dz, l, e1, e2, e3, e4⟩ := A5.lr
      have zy : zp ≠ y := fun z => by
        rw [z, A5.L.at_] at e1
        have z3 := congrArg List.length (HO.ins.inj (Option.some.inj e1)).2.2
        cases z3
      have zb : zp ≠ bl := fun z => by
        rw [z, A5.L.lst] at e1
        cases e1
      have za : zp ≠ a := fun z => by
        rw [z, A5.lb.ha] at e1
        cases e1
      have ly : l ≠ y := fun z => by
        rw [z, A5.L.at_] at e2
        cases e2
      have la := ne_ir e2 gd.len.1 A5.lb.ha
      refine ⟨⟨?_, ⟨keep _ _ sy sb sa A5.lb.hs, ha10, ?_, pin_wf wf hb, gd, A.lb.n0, (by unfold pinB; rw [List.length_set]; exact bn)⟩, A.sr, A.ab, L10, ⟨dz, l, keep _ _ zy zb za e1, keep _ _ ly e3 la e2, e3, e4⟩⟩, ((E7.same x79).one ha9 nab2 ek), keep _ _ nBy nBb nBa hB5, fun c o c1 c2 c3 c4 ec => keep c o c2 c3 c4 (s5 _ _ (s4 _ _ (s3 _ _ (t12.2 c o c1 ec))))⟩
      · obtain ⟨x, z, e, w⟩ := A5.rg
        exact ⟨x, z, keep _ _ rr rb ra e, w⟩
      · refine Refs.set (t := (b.1, b.2.1, p)) (ek _ _ (ntup ht9) ht9) (A5.lb.rf.mono fun c xs ec => ?_) k
        refine keep c _ (fun z => ?_) (fun z => ?_) (fun z => ?_) ec
        · rw [z, A5.L.at_] at ec
          cases ec
        · rw [z, A5.L.lst] at ec
          cases ec
        · rw [z, A5.lb.ha] at ec
          cases ec
    have hU : G0 u = some (.lst [.non, .non]) := ek _ _ (fun z => by
      have h9 := x9 _ _ hu8
      rw [z, ha9] at h9
      cases qs with
      | nil => cases h9
      | cons c cs => cases h9) (x9 _ _ hu8)
    clear ek ha10 keep ntup
    refine ⟨_, rfl, two, fun v hv => ?_⟩
    have x1 := same_upd (o := .lst [.non, .non]) hv
    have hv1 : (upd G0 v (.lst [.non, .non])) v = some (.lst [.non, .non]) := upd_same
    have D1 := D0.same x1
    generalize upd G0 v (.lst [.non, .non]) = G1 at x1 hv1 D1
    refine ⟨.list [.none, .none], .list [.none, .none], .lst (SqL.of (x1 _ _ hU)) (.cons .non (.cons .non .nil)), .lst (SqL.of hv1) (.cons .non (.cons .non .nil)), rfl, rfl, _, rfl, ifF rfl ?_⟩
    refine ⟨_, rfl, y, dx, _, rfl, D1.al.L.at_, lay_nm (by decide +kernel), y, zp, bl, dx, ps2, ns, n, pinB bs k b p, rfl, D1.al.L, fun l2 hl2 => ?_⟩
    have x2 := same_upd (o := .lst (ps2.map V.ref)) hl2
    have h2 : (upd G1 l2 (.lst (ps2.map V.ref))) l2 = some (.lst (ps2.map V.ref)) := upd_same
    have D2 := D1.same x2
    generalize upd G1 l2 (.lst (ps2.map V.ref)) = G2 at x2 h2 D2
    have evb : PyData.eqv (.list ((pinB bs k b p).map blkD)) (.list ((pinB bs k b p).map blkD)) = true := by
      show PyData.eqvAll ((pinB bs k b p).map blkD) ((pinB bs k b p).map blkD) = true
      rw [eqv_blks]
      exact decide_eq_true rfl
    refine ⟨_, rfl, .list ((pinB bs k b p).map blkD), .list ((pinB bs k b p).map blkD), .lst (SqL.of h2) D2.al.L.rf.dp, .lst (SqL.of D2.al.lb.ha) D2.al.lb.rf.dp, shaped_blk _, shaped_blk _, _, rfl, ifF (by rw [evb]; rfl) ?_⟩
    have bm : (b.1, b.2.1, p) ∈ pinB bs k b p := List.mem_of_getElem? hb1
    have be : b.1 < bEnd ns (b.1, b.2.1, p) := by
      show b.1 < b.1 + sz ns b.2.1
      omega
    refine ⟨_, rfl, y, dx, _, rfl, D2.al.L.at_, lay_nm (by decide +kernel), _, rfl, y, zp, bl, dx, ps2, ns, n, b.1, pinB bs k b p, rfl, D2.al.L, bo.2.1, (by have h9 := bo.2.2.2; unfold bEnd at h9; omega), fun no => absurd ⟨Int.le_refl _, be⟩ (no _ bm), fun c hc c1 c2 t2 ht2 => ?_⟩
    have ce : c = (b.1, b.2.1, p) := Classical.byContradiction fun z => by
      have cp := (pin_wf wf hb (p := p)).pos gd hc
      rcases two_of (pin_wf wf hb) hc bm z with h9 | h9
      · omega
      · have h10 : b.1 + sz ns b.2.1 ≤ c.1 := h9
        omega
    subst ce
    have x3 := same_upd (o := .tup (blkV (b.1, b.2.1, p))) ht2
    have h3 : (upd G2 t2 (.tup (blkV (b.1, b.2.1, p)))) t2 = some (.tup (blkV (b.1, b.2.1, p))) := upd_same
    have D3 := D2.same x3
    generalize upd G2 t2 (.tup (blkV (b.1, b.2.1, p))) = G3 at x3 h3 D3
    obtain ⟨o3, ho3, hO3⟩ := D3.al.lb.rf.at_ hb1
    have dpB : ∀ {H : Hp} {o : Addr}, H o = some (.tup (blkV (b.1, b.2.1, p))) → Dp K H (.ref o) (blkD (b.1, b.2.1, p)) := fun e => .tup (SqT.of e) (.cons (.int _) (.cons (.int _) (.cons (.bl _) .nil)))
    refine ⟨_, rfl, _, rfl, a, _, _, _, rfl, rfl, SqL.of D3.al.lb.ha, Refs.map_at ho3, blkD (b.1, b.2.1, p), blkD (b.1, b.2.1, p), dpB h3, dpB hO3, rfl, rfl, _, rfl, ifF (by rw [eqv_blk, decide_eq_true rfl]; rfl) ?_⟩
    refine ⟨_, rfl, _, rfl, y, y2, dx, dx2, _, _, rfl, rfl, D3.al.L.at_, D3.E.at_, y, zp, bl, dx, y2, zp, bl2, dx2, ps2, ps, ns, ns, n, n, pinB bs k b p, bs, rfl, D3.al.L, D3.E, rfl, rfl, ⟨_, rfl⟩, ?_⟩
    refine ⟨_, rfl, _, rfl, y2, y, dx2, dx, _, _, rfl, rfl, D3.E.at_, D3.al.L.at_, y2, zp, bl2, dx2, y, zp, bl, dx, ps, ps2, ns, ns, n, n, bs, pinB bs k b p, rfl, D3.E, D3.al.L, rfl, rfl, ⟨_, rfl⟩, two, fun v4 hv4 => ?_⟩
    rw [show decide (bs = pinB bs k b p) = decide (pinB bs k b p = bs) from decide_eq_decide.mpr eq_comm, pin_eq hb] at *
    generalize hz : decide (V.bl p = V.bl b.2.2) = z
    have x4 := same_upd (o := .lst [.bl z, .bl z]) hv4
    have h4 : (upd G3 v4 (.lst [.bl z, .bl z])) v4 = some (.lst [.bl z, .bl z]) := upd_same
    have D4 := D3.same x4
    generalize upd G3 v4 (.lst [.bl z, .bl z]) = G4 at x4 h4 D4
    refine ⟨_, rfl, _, rfl, rfl, (by show 1 ≤ sizeLine; decide), fun v5 hv5 => ?_⟩
    rw [hz]
    have x5 := same_upd (o := .lst [.bl z]) hv5
    have h5 : (upd G4 v5 (.lst [.bl z])) v5 = some (.lst [.bl z]) := upd_same
    have D5 := D4.same x5
    generalize upd G4 v5 (.lst [.bl z]) = G5 at x5 h5 D5
    refine ⟨v5, 2, _, rfl, rfl, h5, by decide, by decide, (by show 1 * 2 ≤ sizeLine; decide), fun v6 hv6 => ?_⟩
    have x6 := same_upd (o := .lst [.bl z, .bl z]) hv6
    have h6 : (upd G5 v6 (.lst [.bl z, .bl z])) v6 = some (.lst [.bl z, .bl z]) := upd_same
    have D6 := D5.same x6
    refine ⟨.list [.bool z, .bool z], .list [.bool z, .bool z], .lst (SqL.of (x6 _ _ (x5 _ _ h4))) (.cons (.bl _) (.cons (.bl _) .nil)), .lst (SqL.of h6) (.cons (.bl _) (.cons (.bl _) .nil)), rfl, rfl, _, rfl, ifF (by cases z <;> rfl) ?_⟩
    refine ⟨_, rfl, _, rfl, s, y, zp, bl, dx, ps2, ns, n, pinB bs k b p, rfl, D6.al.L, D6.al.lb.hs, fun G7 s7 => ?_⟩
    have D7 := D6.same s7
    refine ⟨_, rfl, rfl, _, rfl, ifF (by rw [fr_pin hb, decide_eq_true rfl]; rfl) ?_⟩
    have sb : ∀ i ∈ sumsI ns n (pinB bs k b p), -(10 ^ 39) ≤ i ∧ i ≤ 10 ^ 39 := fun i hi => by
      have := (sums_bd (pin_wf wf hb) gd A.lb.n0).1 i hi
      omega
    have sb9 := (sums_bd (pin_wf (p := p) wf hb) gd A.lb.n0).2
    refine ⟨_, rfl, _, rfl, s, y, zp, bl, dx, ps2, ns, n, pinB bs k b p, rfl, D7.al.L, D7.al.lb.hs, fun R8 G8 hR8 s8 h8 => ?_⟩
    have D8 := D7.same s8
    have tq8 := tq_ints (K := K) sb sb9 h8
    refine ⟨_, _, rfl, tq8.dq, tq8.sh, Nat.le_trans tq8.dp (by decide), Nat.le_trans tq8.ln (by decide), ?_⟩
    refine ⟨_, rfl, _, rfl, _, rfl, s, a, ns, n, qs.set k t, pinB bs k b p, rfl, D8.al.lb, fun R9 G9 hR9 s9 h9 => ?_⟩
    have D9 := D8.same s9
    have tq9 := tq_ints (K := K) sb sb9 h9
    refine ⟨_, _, rfl, tq9.dq, tq9.sh, Nat.le_trans tq9.dp (by decide), Nat.le_trans tq9.ln (by decide), rfl, _, rfl, ifF (by rw [decide_eq_true rfl]; rfl) ?_⟩
    refine join (fun G : Hp => Bd K r s a y zp bl dx ps2 (qs.set k t) ns n (pinB bs k b p) B y2 bl2 dx2 ps bs H G) (R := ?R) (fun tail => ?main) ?tl
    case main =>
      refine ⟨_, rfl, _, rfl, ?_⟩
      by_cases hp : p = true
      case neg =>
        refine ifF (by simpa using hp) (iteF ?_)
        exact tail G9 D9
      refine ifT hp ⟨_, rfl, _, rfl, ?_⟩
      by_cases hw : b.2.2 = true
      · refine ifF (by rw [hw]; rfl) (iteF ?_)
        exact tail G9 D9
      have hw2 : b.2.2 = false := by simpa using hw
      obtain ⟨o9, ho9, hO9⟩ := D9.al.lb.rf.at_ hb1
      refine ifT (by rw [hw2]; rfl) ⟨_, rfl, _, rfl, _, rfl, _, rfl, a, _, _, _, rfl, rfl, SqL.of D9.al.lb.ha, Refs.map_at ho9, _, rfl, s, o9, B, y, zp, bl, dx, ps2, ns, n, bs, k, b, rfl, (by rw [← hp]; exact D9.al.L), D9.al.lb.hs, (by rw [← hp]; exact hO9), D9.hB, hb, hw2, wf, fun G10 s10 => ?_⟩
      refine ⟨_, rfl, ifF rfl ?_⟩
      exact tail G10 (D9.same s10)
    case tl =>
      intro G D
      refine ⟨_, rfl, y, dx, _, rfl, D.al.L.at_, lay_nm (by decide +kernel), y, zp, bl, dx, ps2, ns, n, pinB bs k b p, rfl, D.al.L, fun y3 bl3 dx3 GA hy3 hbl3 sA OA => ?_⟩
      refine ⟨_, rfl, y3, dx3, _, rfl, OA.at_, lay_nm (by decide +kernel), _, rfl, _, rfl, y3, zp, bl3, dx3, ps2, ns, n, b.1, pinB bs k b p, k, (b.1, b.2.1, p), b.2.2, rfl, OA, hb1, rfl, fun ps3 GB OB btB => ?_⟩
      rw [pin_pin, pin_self hb] at OB
      have sB : Same G GB := fun c o ec => btB c o (ne_of_none ec hy3) (ne_of_none ec hbl3) (sA c o ec)
      have DB := D.same sB
      refine ⟨_, rfl, _, rfl, s, y3, zp, bl3, dx3, ps3, ns, n, bs, rfl, OB, DB.al.lb.hs, fun RC GC hRC sC hC => ?_⟩
      have DC := DB.same sC
      have OC := OB.same sC
      refine ⟨_, rfl, .list ((sumsI ns n bs).map PyData.int), .list ((sumsI ns n bs).map PyData.int), .lst (SqL.of hC) (dp_ints _), .lst (SqL.of DC.hB) (dp_ints _), shaped_ints _, shaped_ints _, _, rfl, ifF (by
        show (!PyData.eqvAll ((sumsI ns n bs).map PyData.int) ((sumsI ns n bs).map PyData.int)) = false
        rw [eqv_ints, decide_eq_true rfl]
        rfl) ?_⟩
      refine ⟨_, rfl, _, rfl, y3, y2, dx3, dx2, _, _, rfl, rfl, OC.at_, DC.E.at_, y3, zp, bl3, dx3, y2, zp, bl2, dx2, ps3, ps, ns, ns, n, n, bs, bs, rfl, OC, DC.E, rfl, rfl, ⟨_, rfl⟩, _, rfl, ifF (by rw [decide_eq_true rfl]; rfl) ?_⟩
      refine ⟨_, rfl, y3, dx3, _, rfl, OC.at_, lay_nm (by decide +kernel), _, rfl, y3, zp, bl3, dx3, ps3, ns, n, b.1, bs, k, b, rfl, OC, hb, rfl, fun tE ps4 GE htE OE hTE btE => ?_⟩
      have sE : Same G GE := fun c o ec => btE c o (ne_of_none ec hy3) (ne_of_none ec hbl3) (sC _ _ (sB c o ec))
      refine ⟨_, rfl, _, rfl, two, fun tF htF => ?_⟩
      have xF := same_upd (o := .tup [.int (b.2.1 : Nat), .bl b.2.2]) htF
      have hF : (upd GE tF (.tup [.int (b.2.1 : Nat), .bl b.2.2])) tF = some (.tup [.int (b.2.1 : Nat), .bl b.2.2]) := upd_same
      generalize upd GE tF (.tup [.int (b.2.1 : Nat), .bl b.2.2]) = GF at xF hF
      have DF := D.same (sE.trans xF)
      have evt : PyData.eqv (.tuple [.int (b.2.1 : Nat), .bool b.2.2]) (.tuple [.int (b.2.1 : Nat), .bool b.2.2]) = true := SeqAt.eqv_refl _ rfl
      refine ⟨.tuple [.int (b.2.1 : Nat), .bool b.2.2], .tuple [.int (b.2.1 : Nat), .bool b.2.2], .tup (SqT.of (xF _ _ hTE)) (.cons (.int _) (.cons (.bl _) .nil)), .tup (SqT.of hF) (.cons (.int _) (.cons (.bl _) .nil)), rfl, rfl, _, rfl, ifT evt ?_⟩
      refine ⟨_, rfl, y, dx, _, rfl, DF.al.L.at_, lay_nm (by decide +kernel), y, zp, bl, dx, ps2, ns, n, pinB bs k b p, rfl, DF.al.L, fun lG hlG => ?_⟩
      have xG := same_upd (o := .lst (ps2.map V.ref)) hlG
      have hG : (upd GF lG (.lst (ps2.map V.ref))) lG = some (.lst (ps2.map V.ref)) := upd_same
      have DG := DF.same xG
      generalize upd GF lG (.lst (ps2.map V.ref)) = GG at xG hG DG
      refine ⟨_, rfl, .list ((pinB bs k b p).map blkD), .list ((pinB bs k b p).map blkD), .lst (SqL.of hG) DG.al.L.rf.dp, .lst (SqL.of DG.al.lb.ha) DG.al.lb.rf.dp, shaped_blk _, shaped_blk _, ?_⟩
      rw [evb]
      exact q ps2 (qs.set k t) (pinB bs k b p) GG DG.al (by unfold pinB; rw [List.length_set]) DG.far
end
end K28

set_option Elab.async false
set_option linter.all false
set_option maxRecDepth 100000
set_option maxHeartbeats 4000000
namespace K28
open PySem PySem.Spec PyProof.Rows L2 Gu Ex
section
variable {P : Program} {w : World} {K : PySem.W.Frag} {mg : Str → Option Value} {base : Heap} {f : Addr} {fd : FuncData}
def spRight : Sp := fun vs H Q _ => ∃ r : Addr, vs = [.ref r] ∧ Rng H r ∧ ∀ H', Stp r H H' → Q (.bl true) H'
theorem sc__law_right : FnScope ["_law_rng_here", "_law_blocks_here", "_law_layout_here", "_law_turn", "_law_sizes_here", "_law_length"] ["_law_rng_here"] (defScope (top 52)) := ⟨rfl, rfl, rfl, by decide +kernel, rfl, by decide +kernel, by decide +kernel⟩
theorem ok_right (T : Tx K mg) (D__law_sizes : Df P w K mg base 2 "_law_sizes" ["_law_rng_here", "_law_levels", "_law_greatest"] spSizes) (D__law_draw : Df P w K mg base 1 "_law_draw" ["_law_rng_here", "_law_many"] spDraw)
    (D__law_blocks : Df P w K mg base 2 "_law_blocks" ["_law_rng_here", "_law_sizes_here", "_law_length", "_law_many", "_law_one_in"] spBlocks) (D__law_layout : Df P w K mg base 9 "_law_layout" ["_law_sizes_here", "_law_length", "_law_blocks_here"] (spLayout K))
    (D__law_switched : DfG P w K mg base 14 "_law_switched" ["_law_rng_here", "_law_layout_here", "_law_sizes_here", "_law_length", "_law_blocks_here"] (spSw K)) (D__law_sums : Df P w K mg base 12 "_law_sums" ["_law_layout_here", "_law_sizes_here"] (spSums K))
    (D__law_due_sums : Df P w K mg base 5 "_law_due_sums" ["_law_sizes_here", "_law_length", "_law_blocks_here"] spDSums) (F : FnP K "_law_right" "_law_right" (top 52) f fd) : FnG P w K mg base CX0 15 f fd ["_law_rng_here"] spRight := by
  refine okG F sc__law_right (fun vs H Q E h => ?_) (fun cdv A outer s H vs Q E hr h => ⟨_, PSs.nox (pss_cons (ps_par (by rfl) sc__law_right.nd (i := 4) (j := 5) rfl rfl (by decide) rfl rfl (pa_cons (pcall D__law_sizes hr.r (pa_cons (pv 0) (pa_cons pe_int (pa_cons pe_int pa_nil)))) (pa_cons (pe_op op_add pe_int (pcall D__law_draw hr.r (pa_cons (pv 0) (pa_cons pe_int pa_nil)))) pa_nil)) (by rfl)) (pss_cons (ps_set (i := 1) sc__law_right.nd rfl (by first | exact Or.inl rfl | exact Or.inr rfl) (pcall D__law_blocks hr.r (pa_cons (pv 0) (pa_cons (pv 4) (pa_cons (pv 5) (pa_cons pe_int (pa_cons pe_int pa_nil))))))) (pss_cons (ps_set (i := 2) sc__law_right.nd rfl (by first | exact Or.inl rfl | exact Or.inr rfl) (pcall D__law_layout hr.r (pa_cons (pv 4) (pa_cons (pv 5) (pa_cons (pv 1) pa_nil))))) (pss_cons (ps_for PassesOwn.never rfl (pi_range1 rfl T.n_range (pa_cons (pe_op op_mul (pcall D__law_draw hr.r (pa_cons (pv 0) (pa_cons pe_int pa_nil))) (pe_callTy call_int1 (by rfl) T.n_int (by decide +kernel) (pa_cons (pe_cmpR (op_neD hr.r.units) (pv 1) (pe_lst pa_nil) (nomark _)) pa_nil))) pa_nil)) (pg_name (i := 3) sc__law_right.nd rfl (by first | exact Or.inl rfl | exact Or.inr rfl)) (pss_one (ps_if (pt_not (pt_val (pcallG D__law_switched hr (pa_cons (pv 0) (pa_cons (pv 2) (pa_cons (pv 4) (pa_cons (pv 5) (pa_cons (pv 1) pa_nil)))))))) (pss_one (ps_ret pe_bl)) pss_nil))) (pss_one (ps_ret (pe_cmpR op_eq (pe_callB (call_reprQ hr T.sys) (by rfl) T.n_repr (by decide +kernel) (pa_cons (pcall D__law_sums hr.r (pa_cons (pv 2) (pa_cons (pv 4) pa_nil))) pa_nil)) (pe_callB (call_reprQ hr T.sys) (by rfl) T.n_repr (by decide +kernel) (pa_cons (pcall D__law_due_sums hr.r (pa_cons (pv 4) (pa_cons (pv 5) (pa_cons (pv 1) pa_nil)))) pa_nil)) (nomark _)))))))), ?_⟩)
  · obtain ⟨r, rfl, _⟩ := h
    rfl
  · obtain ⟨r, rfl, hR, q⟩ := h
    have sl : sizeLine = 16777216 := sizeLine_eq
    have big : (10 : Int) ^ 40 = 10000000000000000000000000000000000000000 := by decide
    have b39 : (10 : Int) ^ 39 = 1000000000000000000000000000000000000000 := by decide
    refine ⟨_, rfl, r, 5, 4, rfl, hR, by decide, by decide, by decide, by decide, fun s ns H1 g hs0 hs s1 => ?_⟩
    have sr : s ≠ r := fun z => hR.ne hs0 z.symm
    refine ⟨_, rfl, r, 250, rfl, s1.1, by decide, by omega, fun d H2 a0 a1 t2 => ⟨_, _, rfl, rfl, _, _, rfl, ?_⟩⟩
    have s2 := s1.trans t2
    have hs2 := t2.2 _ _ sr hs
    refine ⟨_, rfl, _, rfl, _, rfl, r, s, ns, 1 + d, 16, 3, rfl, s2.1, hs2, sr, g, by omega, by omega, by decide, by decide, by decide, by decide, fun a qs bs H6 ha0 t6 ha rf wf bn => ?_⟩
    have hs6 := t6.2 _ _ sr hs2
    have s6 := s2.trans t6
    refine ⟨_, rfl, _, rfl, _, rfl, s, a, ns, 1 + d, qs, bs, rfl, hs6, g, ha, rf, wf, by omega, by omega, by omega, fun y zp bl dx dz l ps H7 sm L y0 bl0 hz l0 => ?_⟩
    have s7 := s6.trans (Stp.same s6.1 sm)
    have hll : H7 l = some (.lst (ns.map V.int)) ∧ l ≠ bl := by
      obtain ⟨dz', l', e1, e2, e3⟩ := L.ap
      rw [hz] at e1
      have e4 : l' = l := by
        have := (HO.ins.inj (Option.some.inj e1)).2.2
        unfold szF at this
        have := (Prod.mk.inj (List.cons.inj this).1).2
        exact (V.ref.inj this).symm
      rw [e4] at e2 e3
      exact ⟨e2, e3⟩
    have lr : l ≠ r := (s6.1.ne l0).symm
    have A : Al K r s a y zp bl dx ps qs ns (1 + d) bs H7 := ⟨s7.1, ⟨sm _ _ hs6, sm _ _ ha, rf.same sm, wf, g, by omega, by omega⟩, sr, ne_of_none ha bl0, L, ⟨dz, l, hz, hll.1, hll.2, lr⟩⟩
    have yH : H y = none := s6.free y0
    have bH : H bl = none := s6.free bl0
    have aH : H a = none := s2.free ha0
    refine ⟨_, rfl, r, 11, rfl, A.rg, by decide, by omega, fun d9 H9 e0 e1 t9 => ?_⟩
    have A9 := A.step t9
    have s9 := s7.trans t9
    refine ⟨_, rfl, Nat.zero_le _, fun v hv => ?_⟩
    have x1 := same_upd (o := .lst []) hv
    have hv1 : (upd H9 v (.lst [])) v = some (.lst []) := upd_same
    have A10 := A9.same x1
    have s10 := s9.trans (Stp.same s9.1 x1)
    generalize upd H9 v (.lst []) = H10 at x1 hv1 A10 s10
    refine ⟨.list (bs.map blkD), .list ([].map blkD), .lst (SqL.of A10.lb.ha) A10.lb.rf.dp, .lst (SqL.of hv1) .nil, shaped_blk _, shaped_blk _, .inr ⟨_, rfl, ?_⟩⟩
    have ev : PyData.eqv (.list (bs.map blkD)) (.list ([].map blkD)) = decide (bs = []) := eqv_blks bs []
    obtain ⟨c, ec⟩ : ∃ c : Int, (if (!PyData.eqv (.list (bs.map blkD)) (.list ([].map blkD))) = true then 1 else 0) = c := ⟨_, rfl⟩
    have c01 : (c = 0 ∨ c = 1) ∧ (bs = [] → c = 0) := by
      rw [ev] at ec
      refine ⟨?_, fun z => ?_⟩
      · rw [← ec]
        split
        · exact .inr rfl
        · exact .inl rfl
      · rw [← ec, decide_eq_true z]
        rfl
    rw [ec]
    have c0 := c01.1
    have cb : 0 ≤ d9 * c ∧ d9 * c ≤ 11 := by
      rcases c0 with z | z
      · rw [z]
        omega
      · rw [z]
        omega
    refine ⟨_, _, rfl, rfl, .inr ⟨by omega, by omega⟩, _, rfl, by omega, by omega, ?_⟩
    refine for_range (fun i σ G => ∃ (x3 : Option V) (ps qs : List Addr) (bs' : List Blk), σ = [some (.ref r), some (.ref a), some (.ref y), x3, some (.ref s), some (.int (1 + d))] ∧ Al K r s a y zp bl dx ps qs ns (1 + d) bs' G ∧ bs'.length = bs.length ∧ Stp r H G) ⟨none, ps, qs, bs, rfl, A10, rfl, s10⟩ ?_ ?_
    · rintro i σ G hi ⟨x3, ps, qs, bs', rfl, AG, el, sG⟩
      have bp : 1 ≤ bs.length := by
        cases hbs : bs with
        | nil =>
          have := c01.2 hbs
          rw [this] at hi
          simp at hi
        | cons x r => simp
      refine ⟨_, rfl, _, rfl, _, rfl, _, rfl, _, rfl, r, s, a, y, zp, bl, dx, ps, qs, ns, 1 + d, bs', rfl, AG, by omega, fun ps' qs' bs2 G2 A2 el2 far => ?_⟩
      exact ⟨_, rfl, iteF ⟨_, ps', qs', bs2, rfl, A2, by omega, A2.rg, fun c o nc e => far c o nc (ne_of_none e yH) (ne_of_none e bH) (ne_of_none e aH) (sG.2 c o nc e)⟩⟩
    · rintro σ G ⟨x3, ps, qs, bs', rfl, AG, el, sG⟩
      have sb : ∀ i ∈ sumsI ns (1 + d) bs', -(10 ^ 39) ≤ i ∧ i ≤ 10 ^ 39 := fun i hi => by
        have := (sums_bd AG.lb.wf g AG.lb.n0).1 i hi
        omega
      have sb9 := (sums_bd AG.lb.wf g AG.lb.n0).2
      refine ⟨_, rfl, _, rfl, s, y, zp, bl, dx, ps, ns, 1 + d, bs', rfl, AG.L, AG.lb.hs, fun R8 G8 hR8 s8 h8 => ?_⟩
      have A8 := AG.same s8
      have tq8 := tq_ints (K := K) sb sb9 h8
      refine ⟨_, _, rfl, tq8.dq, tq8.sh, Nat.le_trans tq8.dp (by decide), Nat.le_trans tq8.ln (by decide), ?_⟩
      refine ⟨_, rfl, _, rfl, _, rfl, s, a, ns, 1 + d, qs, bs', rfl, A8.lb, fun R9 G9 hR9 s9 h9 => ?_⟩
      have tq9 := tq_ints (K := K) sb sb9 h9
      refine ⟨_, _, rfl, tq9.dq, tq9.sh, Nat.le_trans tq9.dp (by decide), Nat.le_trans tq9.ln (by decide), rfl, ?_⟩
      rw [decide_eq_true rfl]
      exact q G9 (sG.trans (Stp.same sG.1 (s8.trans s9)))
def spLaw (K : PySem.W.Frag) : Sp := fun vs H Q _ => ∃ (a : Addr) (ns : List Int), vs = [.ref a] ∧ SqL K H a (ns.map V.int) ∧ ns.length ≤ 63 ∧ ∀ H', Q (.bl true) H'
theorem sc_law : FnScope ["_law_script", "_law_k"] ["_law_script"] (defScope (top 53)) := ⟨rfl, rfl, rfl, by decide +kernel, rfl, by decide +kernel, by decide +kernel⟩
theorem ok_law (T : Tx K mg) (D__law_rng : Df P w K mg base 1 "_law_rng" ["_law_script", "_law_k"] (spRng K)) (D__law_right : DfG P w K mg base 15 "_law_right" ["_law_rng_here"] spRight)
    (F : FnP K "law" "law" (top 53) f fd) : FnG P w K mg base CX0 16 f fd ["_law_script"] (spLaw K) := by
  refine okG F sc_law (fun vs H Q E h => ?_) (fun cdv A outer s H vs Q E hr h => ⟨_, PSs.nox (pss_one (ps_ret (pe_callB (cr_all rfl) (by rfl) T.n_all (by decide +kernel) (pa_cons (pe_lc (own := [("_law_k", 1)]) (g := gName 1) rfl sc_law.nd (pi_range1 rfl T.n_range (pa_cons (pe_callB (call_max2 rfl) (by rfl) T.n_max (by decide +kernel) (pa_cons pe_int (pa_cons (pe_callB (call_min2 rfl) (by rfl) T.n_min (by decide +kernel) (pa_cons (pe_callB call_len_seq (by rfl) T.n_len (by decide +kernel) (pa_cons (pv 0) pa_nil)) (pa_cons pe_int pa_nil))) pa_nil))) pa_nil)) (blkOk_by (own := [("_law_k", 1)]) (N := ["_law_script", "_law_k"]) (sc := defScope (top 53)) (by decide +kernel)) (fun _ _ _ _ _ => pg_name (i := 1) sc_law.nd rfl (Or.inl rfl)) (fun _ _ _ _ _ => pts_nil) (fun _ _ _ _ _ => (pcallG D__law_right hr (pa_cons (pcall D__law_rng hr.r (pa_cons (pv 0) (pa_cons (pv 1) pa_nil))) pa_nil)))) pa_nil)))), ?_⟩)
  · obtain ⟨a, ns, rfl, _⟩ := h
    rfl
  · obtain ⟨a, ns, rfl, hS, hlen, q⟩ := h
    refine ⟨_, rfl, a, _, rfl, .inl hS, _, _, rfl, _, _, rfl, ?_⟩
    obtain ⟨j, ej, j1, j2⟩ : ∃ j : Int, (if (if (4 : Int) < ((ns.map V.int).length : Int) then 4 else ((ns.map V.int).length : Int)) > 1 then (if (4 : Int) < ((ns.map V.int).length : Int) then 4 else ((ns.map V.int).length : Int)) else 1) = j ∧ 1 ≤ j ∧ j ≤ 4 := by
      refine ⟨_, rfl, ?_, ?_⟩
      · split <;> omega
      · split <;> split <;> omega
    refine ⟨j, (by rw [ej]), by omega, by omega, fun D hD => ?_⟩
    refine lc_range (fun i H' => H' D = some (.lst ((List.replicate i true).map V.bl)) ∧ Same H H') ⟨upd_same, same_upd hD⟩ ?_ ?_
    · rintro i H' hi ⟨hD', sm⟩
      have hi2 : i < 4 := by omega
      refine ⟨rfl, _, rfl, _, rfl, a, ns, i, (by rw [Int.zero_add]; rfl), sm.seq hS, by omega, fun p H1 hp sm1 rg => ?_⟩
      refine ⟨p, rfl, rg, fun H2 st => ?_⟩
      have hD1 : H1 D = some (.lst ((List.replicate i true).map V.bl)) := sm1 _ _ hD'
      have nDp : D ≠ p := ne_of_none hD' hp
      refine ⟨_, st.2 D _ nDp hD1, small1000 (by rw [trues_len]; omega), by rw [upd_same, trues_more], fun b o e => ?_⟩
      have e' := sm b o e
      rw [upd_ne (ne_of_none e hD)]
      exact st.2 b o (ne_of_none e' hp) (sm1 b o e')
    · rintro H' ⟨hD', sm⟩
      refine ⟨D, List.replicate j.toNat true, rfl, SqL.of hD', ?_⟩
      rw [all_trues]
      exact q _
end
end K28

set_option Elab.async false
set_option linter.all false
set_option maxRecDepth 100000
set_option maxHeartbeats 0
namespace K28
open PySem PySem.Spec PyProof.Rows L2 Gu Ex
abbrev R : PySem.W.OpenRow := PySem.W.OpenLaw.row PySem.Challenge.rw_exactroom_k28_pins_of_layouts
def dOf (a : Str × Option Str) (x q : Str) (st : Stmt) : He.DefD := ⟨a, x, q, defArgs st, defBody st, defScope st, [], []⟩
def dOfK (a : Str × Option Str) (x q : Str) (st : Stmt) (kw : List (Str × He.Dv)) : He.DefD := ⟨a, x, q, defArgs st, defBody st, defScope st, [], kw⟩
def fn : List He.DefD := [dOf ("is_integer", none) "is_integer" "is_integer" (top 12),
  dOf ("size_problem", none) "size_problem" "size_problem" (top 16),
  dOf ("check_sizes", none) "check_sizes" "check_sizes" (top 17),
  dOf ("is_cells", none) "is_cells" "is_cells" (top 13),
  dOf ("check_cells", none) "check_cells" "check_cells" (top 14),
  dOf ("check_numbers", none) "check_numbers" "check_numbers" (top 15),
  dOf ("Sizes", some "__init__") "__init__" "Sizes.__init__" (inClass (top 18) 4),
  dOf ("Sizes", some "__eq__") "__eq__" "Sizes.__eq__" (inClass (top 18) 5),
  dOf ("Sizes", some "has_level") "has_level" "Sizes.has_level" (inClass (top 18) 12),
  dOf ("Sizes", some "check_level") "check_level" "Sizes.check_level" (inClass (top 18) 13),
  dOf ("Sizes", some "size") "size" "Sizes.size" (inClass (top 18) 14),
  dOf ("Sizes", some "whole") "whole" "Sizes.whole" (inClass (top 18) 16),
  dOf ("Sizes", some "__len__") "__len__" "Sizes.__len__" (inClass (top 18) 6),
  dOf ("Layout", some "__init__") "__init__" "Layout.__init__" (inClass (top 32) 0),
  dOf ("Layout", some "__eq__") "__eq__" "Layout.__eq__" (inClass (top 32) 1),
  dOf ("Layout", some "count_below") "count_below" "Layout.count_below" (inClass (top 32) 9),
  dOf ("Layout", some "index_of") "index_of" "Layout.index_of" (inClass (top 32) 10),
  dOf ("Layout", some "block_at") "block_at" "Layout.block_at" (inClass (top 32) 11),
  dOf ("Layout", some "first_taken") "first_taken" "Layout.first_taken" (inClass (top 32) 12),
  dOfK ("Layout", some "put") "put" "Layout.put" (inClass (top 32) 13) [("pinned", .bl false)],
  dOf ("Layout", some "take_out") "take_out" "Layout.take_out" (inClass (top 32) 14),
  dOf ("Layout", some "set_pinned") "set_pinned" "Layout.set_pinned" (inClass (top 32) 15),
  dOf ("Layout", some "clone") "clone" "Layout.clone" (inClass (top 32) 8),
  dOf ("Layout", some "ranges_of") "ranges_of" "Layout.ranges_of" (inClass (top 32) 16),
  dOf ("Layout", some "pinned_ranges") "pinned_ranges" "Layout.pinned_ranges" (inClass (top 32) 18),
  dOf ("Layout", some "unpinned_levels") "unpinned_levels" "Layout.unpinned_levels" (inClass (top 32) 19),
  dOf ("Layout", some "regions_in") "regions_in" "Layout.regions_in" (inClass (top 32) 21),
  dOf ("Layout", some "free_gaps") "free_gaps" "Layout.free_gaps" (inClass (top 32) 17),
  dOf ("Layout", some "free_regions") "free_regions" "Layout.free_regions" (inClass (top 32) 22),
  dOf ("Layout", some "free_runs") "free_runs" "Layout.free_runs" (inClass (top 32) 20),
  dOf ("Layout", some "clear_cells") "clear_cells" "Layout.clear_cells" (inClass (top 32) 24),
  dOf ("Layout", some "unpinned_cells") "unpinned_cells" "Layout.unpinned_cells" (inClass (top 32) 25),
  dOf ("Layout", some "slack") "slack" "Layout.slack" (inClass (top 32) 26),
  dOf ("Layout", some "largest") "largest" "Layout.largest" (inClass (top 32) 29),
  dOf ("Layout", some "blocks") "blocks" "Layout.blocks" (inClass (top 32) 7),
  dOf ("is_address", none) "is_address" "is_address" (top 20),
  dOf ("check_range", none) "check_range" "check_range" (top 21),
  dOf ("next_start", none) "next_start" "next_start" (top 22),
  dOf ("gaps_between", none) "gaps_between" "gaps_between" (top 23),
  dOf ("lies_below", none) "lies_below" "lies_below" (top 24),
  dOf ("is_region", none) "is_region" "is_region" (top 25),
  dOf ("region_start", none) "region_start" "region_start" (top 26),
  dOf ("count_regions", none) "count_regions" "count_regions" (top 27),
  dOf ("highest_level_at", none) "highest_level_at" "highest_level_at" (top 28),
  dOf ("first_run", none) "first_run" "first_run" (top 29),
  dOf ("maximal_runs", none) "maximal_runs" "maximal_runs" (top 30),
  dOf ("_law_rng", none) "_law_rng" "_law_rng" (top 34),
  dOf ("_law_draw", none) "_law_draw" "_law_draw" (top 35),
  dOf ("_law_sizes", none) "_law_sizes" "_law_sizes" (top 37),
  dOf ("_law_whole", none) "_law_whole" "_law_whole" (top 38),
  dOf ("_law_has_space", none) "_law_has_space" "_law_has_space" (top 39),
  dOf ("_law_blocks", none) "_law_blocks" "_law_blocks" (top 40),
  dOf ("_law_untouched", none) "_law_untouched" "_law_untouched" (top 41),
  dOf ("_law_clear_cells", none) "_law_clear_cells" "_law_clear_cells" (top 42),
  dOf ("_law_unpinned_cells", none) "_law_unpinned_cells" "_law_unpinned_cells" (top 43),
  dOf ("_law_slack", none) "_law_slack" "_law_slack" (top 44),
  dOf ("_law_largest", none) "_law_largest" "_law_largest" (top 45),
  dOf ("_law_layout", none) "_law_layout" "_law_layout" (top 46),
  dOf ("_law_free", none) "_law_free" "_law_free" (top 47),
  dOf ("_law_sums", none) "_law_sums" "_law_sums" (top 48),
  dOf ("_law_due_sums", none) "_law_due_sums" "_law_due_sums" (top 49),
  dOf ("_law_pinned_right", none) "_law_pinned_right" "_law_pinned_right" (top 50),
  dOf ("_law_switched", none) "_law_switched" "_law_switched" (top 51),
  dOf ("_law_right", none) "_law_right" "_law_right" (top 52),
  dOf ("law", none) "law" "law" (top 53)]
def fa : List He.Fa := [.glo "is_integer", .glo "size_problem", .glo "check_sizes", .glo "is_cells", .glo "check_cells", .glo "check_numbers", .glo "is_address", .glo "check_range", .glo "next_start", .glo "gaps_between", .glo "lies_below", .glo "is_region", .glo "region_start", .glo "count_regions", .glo "highest_level_at", .glo "first_run", .glo "maximal_runs", .glo "_law_rng", .glo "_law_draw", .glo "_law_sizes", .glo "_law_whole", .glo "_law_has_space", .glo "_law_blocks", .glo "_law_untouched", .glo "_law_clear_cells", .glo "_law_unpinned_cells", .glo "_law_slack", .glo "_law_largest", .glo "_law_layout", .glo "_law_free", .glo "_law_sums", .glo "_law_due_sums", .glo "_law_pinned_right", .glo "_law_switched", .glo "_law_right", .glo "law", .glo "Sizes", .glo "Layout", .free "len", .free "isinstance", .free "int", .free "bool", .free "list", .free "range", .free "divmod", .free "abs", .free "max", .free "min", .free "enumerate", .free "all", .free "sum", .free "tuple", .free "sorted", .free "repr", .free "set", .cls "Sizes", .noat "Sizes" "size_list", .mkr "Sizes", .meth "Sizes" "has_level", .meth "Sizes" "check_level", .meth "Sizes" "size", .meth "Sizes" "whole", .meth "Sizes" "__len__", .cls "Layout", .mkr "Layout", .noat "Layout" "size_table", .noat "Layout" "cell_count", .noat "Layout" "free_count", .noat "Layout" "block_list", .meth "Layout" "count_below", .meth "Layout" "index_of", .meth "Layout" "block_at", .meth "Layout" "first_taken", .meth "Layout" "put", .meth "Layout" "take_out", .meth "Layout" "set_pinned", .meth "Layout" "clone", .meth "Layout" "ranges_of", .meth "Layout" "pinned_ranges", .meth "Layout" "unpinned_levels", .meth "Layout" "regions_in", .meth "Layout" "free_gaps", .meth "Layout" "free_regions", .meth "Layout" "free_runs", .meth "Layout" "clear_cells", .meth "Layout" "unpinned_cells", .meth "Layout" "slack", .meth "Layout" "largest", .meth "Layout" "blocks"]
def exB (K : PySem.W.Frag) : Bool := (rdB K (He.ga K "Sizes") && (cvB K (He.ga K "Sizes") "MAX_SIZE" 1000000000 && (cvB K (He.ga K "Sizes") "MAX_SIZES" 8 && (sysB K && (cvB K (He.ga K "Sizes") "MAX_CELLS" 1000000000000 && (kwB K (He.ma K (He.ga K "Layout") "slack") "kept" && (kwB K (He.ma K (He.ga K "Layout") "largest") "kept" && (eqB K (He.ga K "Sizes") && (eqB K (He.ga K "Layout") && (Ex.insB K (He.ga K "Sizes") && (Ex.insB K (He.ga K "Layout") && (prB K (He.ga K "Sizes") "top" && (okAt K (pgA K (He.ga K "Sizes") "top") "Sizes.top" && (prB K (He.ga K "Layout") "free" && (okAt K (pgA K (He.ga K "Layout") "free") "Layout.free" && true)))))))))))))))
def v_top : He.FnW := some ("top", "Sizes.top", defArgs (inClass (top 18) 10), .stmts (defBody (inClass (top 18) 10)), defScope (inClass (top 18) 10), mainGlobals, [], builtinsNs)
def v_free : He.FnW := some ("free", "Layout.free", defArgs (inClass (top 32) 6), .stmts (defBody (inClass (top 32) 6)), defScope (inClass (top 32) 6), mainGlobals, [], builtinsNs)
abbrev AlE : Type := He.AlD × Bool × He.FnW × He.FnW
def ob0 (K : PySem.W.Frag) : AlE := (He.obsD fa fn K, exB K, fnAt K (pgA K (He.ga K "Sizes") "top"), fnAt K (pgA K (He.ga K "Layout") "free"))
def vl0 : AlE := (He.valD fn, true, v_top, v_free)
def ob1 (g : Addr → Option Obj) : AlE := ob0 (He.frG g (cStatics :: sysModules :: He.asD g 5))
def hk : PySem.W.Hook where
  α := AlE
  obs := fun s => ob1 s.heap.get?
  val := fun _ => vl0
  says := fun _ h => ∃ K : PySem.W.Frag, K.In h ∧ ob0 K = vl0
  of := fun _ _ e => ⟨_, He.frG_in, e⟩
  keeps := fun _ _ _ ⟨K, hK, c⟩ k => ⟨K, PySem.W.Frag.In.keeps hK k, c⟩
def ob (s : PySem.W.SharedT) : AlE := ob1 (HandSHeadRun.getT s)
theorem ob_eq (s : PySem.W.SharedT) : ob s = hk.obs s.abs := by
  have e : HandSHeadRun.getT s = s.abs.heap.get? := funext (HandSHeadRun.getT_eq s)
  show ob1 (HandSHeadRun.getT s) = ob1 s.abs.heap.get?
  rw [e]
def loose : List Str := ("_wall" : Str) :: ("RoomError" : Str) :: ("InvalidSizes" : Str) :: ("InvalidLevel" : Str) :: ("InvalidNumber" : Str) :: ("InvalidNumbers" : Str) :: ("InvalidAddress" : Str) :: ("UnknownBlock" : Str) :: ("Occupied" : Str) :: ("TooManyPieces" : Str) :: ("is_integer" : Str) :: ("is_cells" : Str) :: ("check_cells" : Str) :: ("check_numbers" : Str) :: ("size_problem" : Str) :: ("check_sizes" : Str) :: ("Sizes" : Str) :: ("is_address" : Str) :: ("check_range" : Str) :: ("next_start" : Str) :: ("gaps_between" : Str) :: ("lies_below" : Str) :: ("is_region" : Str) :: ("region_start" : Str) :: ("count_regions" : Str) :: ("highest_level_at" : Str) :: ("first_run" : Str) :: ("maximal_runs" : Str) :: ("Layout" : Str) :: ("_law_rng" : Str) :: ("_law_draw" : Str) :: ("_law_choice" : Str) :: ("_law_sizes" : Str) :: ("_law_whole" : Str) :: ("_law_has_space" : Str) :: ("_law_blocks" : Str) :: ("_law_untouched" : Str) :: ("_law_clear_cells" : Str) :: ("_law_unpinned_cells" : Str) :: ("_law_slack" : Str) :: ("_law_largest" : Str) :: ("_law_layout" : Str) :: ("_law_free" : Str) :: ("_law_sums" : Str) :: ("_law_due_sums" : Str) :: ("_law_pinned_right" : Str) :: ("_law_switched" : Str) :: ("_law_right" : Str) :: []
def kk (s : PySem.W.SharedT) : PySem.W.Frag := He.frG (HandSHeadRun.getT s) (cStatics :: sysModules :: He.asD (HandSHeadRun.getT s) 5)
noncomputable def ends (w : World) (os : OsState) : Option PySem.W.SharedT := HandSHeadRun.endF (HandSHeadRun.stepQ (HandSHeadRun.denQ HandSHeadRun.tabQ) R.prog w) 16000 R.prog w os
theorem in_parts {σ A B E F : Type} {o : Option σ} {a : σ → A} {b : σ → B} {c d : σ → Bool} {e : σ → E} {f : σ → Bool} {g : σ → F} {x1 : A} {x2 : B} {x5 : E} {x7 : F} (h1 : o.map a = some x1) (h2 : o.map b = some x2) (h3 : o.map c = some true) (h4 : o.map d = some true)
    (h5 : o.map e = some x5) (h6 : o.map f = some true) (h7 : o.map g = some x7) : o.map (fun s => (a s, b s, (((c s && d s), e s), f s, g s))) = some (x1, x2, ((true, x5), true, x7)) := by
  cases o with
  | none => cases h1
  | some s =>
    have g1 : a s = x1 := Option.some.inj h1
    have g2 : b s = x2 := Option.some.inj h2
    have g3 : c s = true := Option.some.inj h3
    have g4 : d s = true := Option.some.inj h4
    have g5 : e s = x5 := Option.some.inj h5
    have g6 : f s = true := Option.some.inj h6
    have g7 : g s = x7 := Option.some.inj h7
    show some (a s, b s, (((c s && d s), e s), f s, g s)) = _
    rw [g1, g2, g3, g4, g5, g6, g7]
    rfl
end K28

set_option Elab.async false
set_option linter.all false
set_option maxRecDepth 100000
set_option maxHeartbeats 0
namespace K28
open PySem PySem.Spec PyProof.Rows L2 Gu Ex PySem.W PySem.Calls
theorem r_looks (w : World) (os : OsState) : (ends w os).map (fun s => HandSHeadRun.looksF R.prog (boot_heap w.params) s.abs) = some true := by kernel_rfl
theorem r_seen (w : World) (os : OsState) : (ends w os).map (fun s => HandSHeadRun.seenQ (PySem.W.view R.prog [53]) loose (PySem.importedModules R.prog.main.body) (fun s => PySem.W.xlAt (PySem.W.view R.prog [53]) [] s && PySem.W.recOk R.toRowW.records s) s.abs) = some (PySem.W.openGood (PySem.W.view R.prog [53]) loose) := by kernel_rfl
end K28

set_option Elab.async false
set_option linter.all false
set_option maxRecDepth 100000
set_option maxHeartbeats 0
namespace K28
open PySem PySem.Spec PyProof.Rows L2 Gu Ex
theorem r_fa (w : World) (os : OsState) : (ends w os).map (fun s => fa.all fun f => f.ok (kk s)) = some true := by kernel_rfl
end K28

set_option Elab.async false
set_option linter.all false
set_option maxRecDepth 100000
set_option maxHeartbeats 0
namespace K28
open PySem PySem.Spec PyProof.Rows L2 Gu Ex
theorem r_fn (w : World) (os : OsState) : (ends w os).map (fun s => fn.all fun d => d.ok (kk s)) = some true := by kernel_rfl
end K28

set_option Elab.async false
set_option linter.all false
set_option maxRecDepth 100000
set_option maxHeartbeats 0
namespace K28
open PySem PySem.Spec PyProof.Rows L2 Gu Ex
theorem r_fw (w : World) (os : OsState) : (ends w os).map (fun s => fn.map fun d => He.fnW (kk s) d.at_) = some (fn.map He.DefD.val) := by kernel_rfl
end K28

set_option Elab.async false
set_option linter.all false
set_option maxRecDepth 100000
set_option maxHeartbeats 0
namespace K28
open PySem PySem.Spec PyProof.Rows L2 Gu Ex
theorem r_ex (w : World) (os : OsState) : (ends w os).map (fun s => exB (kk s)) = some true := by kernel_rfl
theorem r_pr (w : World) (os : OsState) : (ends w os).map (fun s => (fnAt (kk s) (pgA (kk s) (He.ga (kk s) "Sizes") "top"), fnAt (kk s) (pgA (kk s) (He.ga (kk s) "Layout") "free"))) = some (v_top, v_free) := by kernel_rfl
end K28

set_option Elab.async false
set_option linter.all false
set_option maxRecDepth 100000
set_option maxHeartbeats 0
namespace K28
open PySem PySem.Spec PyProof.Rows L2 Gu Ex
theorem run (w : World) : HandSHeadRun.RunEq R (PySem.W.view R.prog [53]) hk ob 16000 loose w :=
  fun os => in_parts (r_looks w os) (r_seen w os) (r_fa w os) (r_fn w os) (r_fw w os) (r_ex w os) (r_pr w os)
section
variable {P : Program} {w : World} {K : PySem.W.Frag} {h : Heap} {mg : Str → Option Value} {base : Heap}
theorem tx (X : K.In h) (G : h.Ns mainGlobals mg) (c : He.SaysD fa fn K) (x : exB K = true) : Tx K mg := by
  obtain ⟨x1, x⟩ := He.ba x
  obtain ⟨x2, x⟩ := He.ba x
  obtain ⟨x3, x⟩ := He.ba x
  obtain ⟨x4, x⟩ := He.ba x
  obtain ⟨x5, x⟩ := He.ba x
  obtain ⟨x_kw, x⟩ := He.ba x
  obtain ⟨x_kw2, x⟩ := He.ba x
  obtain ⟨xe_S, x⟩ := He.ba x
  obtain ⟨xe_L, x⟩ := He.ba x
  obtain ⟨xi_S, x⟩ := He.ba x
  obtain ⟨xi_L, x⟩ := He.ba x
  obtain ⟨xp_top, x⟩ := He.ba x
  obtain ⟨xo_top, x⟩ := He.ba x
  obtain ⟨xp_free, x⟩ := He.ba x
  obtain ⟨xo_free, x⟩ := He.ba x
  have hsys : SysOk K := by
    unfold sysB at x4
    split at x4
    · rename_i o e
      exact ⟨o, e, of_decide_eq_true x4⟩
    · cases x4
  exact ⟨He.free_ok X G (c.fact 38 (f := .free "len") rfl),
    He.free_ok X G (c.fact 39 (f := .free "isinstance") rfl),
    He.free_ok X G (c.fact 40 (f := .free "int") rfl),
    He.free_ok X G (c.fact 41 (f := .free "bool") rfl),
    He.free_ok X G (c.fact 42 (f := .free "list") rfl),
    He.free_ok X G (c.fact 43 (f := .free "range") rfl),
    He.free_ok X G (c.fact 44 (f := .free "divmod") rfl),
    He.free_ok X G (c.fact 45 (f := .free "abs") rfl),
    He.free_ok X G (c.fact 46 (f := .free "max") rfl),
    He.free_ok X G (c.fact 47 (f := .free "min") rfl),
    He.free_ok X G (c.fact 48 (f := .free "enumerate") rfl),
    He.free_ok X G (c.fact 49 (f := .free "all") rfl),
    He.free_ok X G (c.fact 50 (f := .free "sum") rfl),
    He.free_ok X G (c.fact 51 (f := .free "tuple") rfl),
    He.free_ok X G (c.fact 52 (f := .free "sorted") rfl),
    He.free_ok X G (c.fact 53 (f := .free "repr") rfl),
    He.free_ok X G (c.fact 54 (f := .free "set") rfl),
    He.glo_ok X G (c.fact 36 (f := .glo "Sizes") rfl),
    He.cls_ok (c.fact 55 (f := .cls "Sizes") rfl),
    He.noat_ok (c.fact 56 (f := .noat "Sizes" "size_list") rfl),
    rdB_ok x1,
    cvB_ok x2,
    cvB_ok x3,
    hsys,
    cvB_ok x5,
    He.glo_ok X G (c.fact 37 (f := .glo "Layout") rfl),
    He.cls_ok (c.fact 63 (f := .cls "Layout") rfl),
    He.noat_ok (c.fact 65 (f := .noat "Layout" "size_table") rfl),
    He.noat_ok (c.fact 66 (f := .noat "Layout" "cell_count") rfl),
    He.noat_ok (c.fact 67 (f := .noat "Layout" "free_count") rfl),
    He.noat_ok (c.fact 68 (f := .noat "Layout" "block_list") rfl),
    insB_ok (He.cls_ok (c.fact 55 (f := .cls "Sizes") rfl)) xi_S,
    insB_ok (He.cls_ok (c.fact 63 (f := .cls "Layout") rfl)) xi_L⟩
theorem df {x : Str} {ps : List Str} {sp : Sp} {k : Nat} {st : Stmt} {fd : FuncData} (X : K.In h) (G : h.Ns mainGlobals mg) (g : (He.Fa.glo x).ok K = true) (F : FnP K x x st (He.ga K x) fd)
    (hb : ∀ (kV doc pm : Value) (an : Option Addr) (cdv ct : Value) (us : List Value), us.length = ps.length → bindArgs (PySem.W.fnOf x x (defArgs st) (defBody st) (defScope st) .none kV doc pm an cdv ct) ⟨us, []⟩ = pure (ps.zip us))
    (ok : FnOk P w K mg base CX0 k (He.ga K x) fd ps sp) : Df P w K mg base k x ps sp := ⟨⟨fd, ok, F.bindsN hb⟩, He.glo_ok X G g, F.kp⟩
theorem dfG {x : Str} {ps : List Str} {sp : Sp} {k : Nat} {st : Stmt} {fd : FuncData} (X : K.In h) (G : h.Ns mainGlobals mg) (g : (He.Fa.glo x).ok K = true) (F : FnP K x x st (He.ga K x) fd)
    (hb : ∀ (kV doc pm : Value) (an : Option Addr) (cdv ct : Value) (us : List Value), us.length = ps.length → bindArgs (PySem.W.fnOf x x (defArgs st) (defBody st) (defScope st) .none kV doc pm an cdv ct) ⟨us, []⟩ = pure (ps.zip us))
    (ok : FnG P w K mg base CX0 k (He.ga K x) fd ps sp) : DfG P w K mg base k x ps sp := ⟨⟨fd, ok, F.bindsN hb⟩, He.glo_ok X G g, F.kp⟩
theorem dfK {x : Str} {ps ks : List Str} {j : List Nat} {sp : Sp} {k : Nat} {st : Stmt} {fd : FuncData} (X : K.In h) (G : h.Ns mainGlobals mg) (g : (He.Fa.glo x).ok K = true) (F : FnP K x x st (He.ga K x) fd)
    (hb : ∀ (kV doc pm : Value) (an : Option Addr) (cdv ct : Value) (ws : List Value), ws.length = ks.length → bindArgs (PySem.W.fnOf x x (defArgs st) (defBody st) (defScope st) .none kV doc pm an cdv ct) ⟨[], ks.zip ws⟩ = pure (ps.zip (j.filterMap fun i => ws[i]?)))
    (ok : FnOk P w K mg base CX0 k (He.ga K x) fd ps sp) : DfK P w K mg base k x ps ks j sp := by
  refine ⟨⟨fd, ok, fun s ws hl => ?_⟩, He.glo_ok X G g, F.kp⟩
  obtain ⟨oc, od, dV, kV, doc, pm, an, cdv, ct, osl, rfl, lk, hcd, hD, hK⟩ := F.ex
  rcases hD with ⟨_, rfl⟩ | ⟨e, _⟩
  · exact .of_eq (hb kV doc pm an cdv ct ws hl)
  · exact absurd rfl e
theorem facts {f : Addr} (X : K.In h) (G : h.Ns mainGlobals mg) (hfa : mg ("law" : Str) = some (.ref f)) (c0 : ob0 K = vl0) :
    ∃ fd : FuncData, (∀ (s : Shared) (v : Value), BindsTo s fd ⟨[v], []⟩ [("_law_script", v)]) ∧ ∀ base : Heap, K.In base → base.Ns mainGlobals mg → FnG P w K mg base CX0 16 f fd ["_law_script"] (spLaw K) := by
  have c : He.SaysD fa fn K := congrArg (fun z : AlE => z.1) c0
  have x : exB K = true := congrArg (fun z : AlE => z.2.1) c0
  have vt_top : fnAt K (pgA K (He.ga K "Sizes") "top") = v_top := congrArg (fun z : AlE => z.2.2.1) c0
  have vt_free : fnAt K (pgA K (He.ga K "Layout") "free") = v_free := congrArg (fun z : AlE => z.2.2.2) c0
  have T := tx X G c x
  obtain ⟨x1, x⟩ := He.ba x
  obtain ⟨x2, x⟩ := He.ba x
  obtain ⟨x3, x⟩ := He.ba x
  obtain ⟨x4, x⟩ := He.ba x
  obtain ⟨x5, x⟩ := He.ba x
  obtain ⟨x_kw, x⟩ := He.ba x
  obtain ⟨x_kw2, x⟩ := He.ba x
  obtain ⟨xe_S, x⟩ := He.ba x
  obtain ⟨xe_L, x⟩ := He.ba x
  obtain ⟨xi_S, x⟩ := He.ba x
  obtain ⟨xi_L, x⟩ := He.ba x
  obtain ⟨xp_top, x⟩ := He.ba x
  obtain ⟨xo_top, x⟩ := He.ba x
  obtain ⟨xp_free, x⟩ := He.ba x
  obtain ⟨xo_free, x⟩ := He.ba x
  obtain ⟨fdP_top, FP_top⟩ := fun_at vt_top xo_top
  obtain ⟨fdP_free, FP_free⟩ := fun_at vt_free xo_free
  obtain ⟨fd0, F0⟩ : ∃ fd, FnP K "is_integer" "is_integer" (top 12) (He.ga K "is_integer") fd := c.def_ 0 (d := dOf ("is_integer", none) "is_integer" "is_integer" (top 12)) rfl
  obtain ⟨fd1, F1⟩ : ∃ fd, FnP K "size_problem" "size_problem" (top 16) (He.ga K "size_problem") fd := c.def_ 1 (d := dOf ("size_problem", none) "size_problem" "size_problem" (top 16)) rfl
  obtain ⟨fd2, F2⟩ : ∃ fd, FnP K "check_sizes" "check_sizes" (top 17) (He.ga K "check_sizes") fd := c.def_ 2 (d := dOf ("check_sizes", none) "check_sizes" "check_sizes" (top 17)) rfl
  obtain ⟨fd3, F3⟩ : ∃ fd, FnP K "is_cells" "is_cells" (top 13) (He.ga K "is_cells") fd := c.def_ 3 (d := dOf ("is_cells", none) "is_cells" "is_cells" (top 13)) rfl
  obtain ⟨fd4, F4⟩ : ∃ fd, FnP K "check_cells" "check_cells" (top 14) (He.ga K "check_cells") fd := c.def_ 4 (d := dOf ("check_cells", none) "check_cells" "check_cells" (top 14)) rfl
  obtain ⟨fd5, F5⟩ : ∃ fd, FnP K "check_numbers" "check_numbers" (top 15) (He.ga K "check_numbers") fd := c.def_ 5 (d := dOf ("check_numbers", none) "check_numbers" "check_numbers" (top 15)) rfl
  obtain ⟨fd6, F6⟩ : ∃ fd, FnP K "__init__" "Sizes.__init__" (inClass (top 18) 4) (He.ma K (He.ga K "Sizes") "__init__") fd := c.def_ 6 (d := dOf ("Sizes", some "__init__") "__init__" "Sizes.__init__" (inClass (top 18) 4)) rfl
  obtain ⟨fd7, F7⟩ : ∃ fd, FnP K "__eq__" "Sizes.__eq__" (inClass (top 18) 5) (He.ma K (He.ga K "Sizes") "__eq__") fd := c.def_ 7 (d := dOf ("Sizes", some "__eq__") "__eq__" "Sizes.__eq__" (inClass (top 18) 5)) rfl
  obtain ⟨fd8, F8⟩ : ∃ fd, FnP K "has_level" "Sizes.has_level" (inClass (top 18) 12) (He.ma K (He.ga K "Sizes") "has_level") fd := c.def_ 8 (d := dOf ("Sizes", some "has_level") "has_level" "Sizes.has_level" (inClass (top 18) 12)) rfl
  obtain ⟨fd9, F9⟩ : ∃ fd, FnP K "check_level" "Sizes.check_level" (inClass (top 18) 13) (He.ma K (He.ga K "Sizes") "check_level") fd := c.def_ 9 (d := dOf ("Sizes", some "check_level") "check_level" "Sizes.check_level" (inClass (top 18) 13)) rfl
  obtain ⟨fd10, F10⟩ : ∃ fd, FnP K "size" "Sizes.size" (inClass (top 18) 14) (He.ma K (He.ga K "Sizes") "size") fd := c.def_ 10 (d := dOf ("Sizes", some "size") "size" "Sizes.size" (inClass (top 18) 14)) rfl
  obtain ⟨fd11, F11⟩ : ∃ fd, FnP K "whole" "Sizes.whole" (inClass (top 18) 16) (He.ma K (He.ga K "Sizes") "whole") fd := c.def_ 11 (d := dOf ("Sizes", some "whole") "whole" "Sizes.whole" (inClass (top 18) 16)) rfl
  obtain ⟨fd12, F12⟩ : ∃ fd, FnP K "__len__" "Sizes.__len__" (inClass (top 18) 6) (He.ma K (He.ga K "Sizes") "__len__") fd := c.def_ 12 (d := dOf ("Sizes", some "__len__") "__len__" "Sizes.__len__" (inClass (top 18) 6)) rfl
  obtain ⟨fd13, F13⟩ : ∃ fd, FnP K "__init__" "Layout.__init__" (inClass (top 32) 0) (He.ma K (He.ga K "Layout") "__init__") fd := c.def_ 13 (d := dOf ("Layout", some "__init__") "__init__" "Layout.__init__" (inClass (top 32) 0)) rfl
  obtain ⟨fd14, F14⟩ : ∃ fd, FnP K "__eq__" "Layout.__eq__" (inClass (top 32) 1) (He.ma K (He.ga K "Layout") "__eq__") fd := c.def_ 14 (d := dOf ("Layout", some "__eq__") "__eq__" "Layout.__eq__" (inClass (top 32) 1)) rfl
  obtain ⟨fd15, F15⟩ : ∃ fd, FnP K "count_below" "Layout.count_below" (inClass (top 32) 9) (He.ma K (He.ga K "Layout") "count_below") fd := c.def_ 15 (d := dOf ("Layout", some "count_below") "count_below" "Layout.count_below" (inClass (top 32) 9)) rfl
  obtain ⟨fd16, F16⟩ : ∃ fd, FnP K "index_of" "Layout.index_of" (inClass (top 32) 10) (He.ma K (He.ga K "Layout") "index_of") fd := c.def_ 16 (d := dOf ("Layout", some "index_of") "index_of" "Layout.index_of" (inClass (top 32) 10)) rfl
  obtain ⟨fd17, F17⟩ : ∃ fd, FnP K "block_at" "Layout.block_at" (inClass (top 32) 11) (He.ma K (He.ga K "Layout") "block_at") fd := c.def_ 17 (d := dOf ("Layout", some "block_at") "block_at" "Layout.block_at" (inClass (top 32) 11)) rfl
  obtain ⟨fd18, F18⟩ : ∃ fd, FnP K "first_taken" "Layout.first_taken" (inClass (top 32) 12) (He.ma K (He.ga K "Layout") "first_taken") fd := c.def_ 18 (d := dOf ("Layout", some "first_taken") "first_taken" "Layout.first_taken" (inClass (top 32) 12)) rfl
  obtain ⟨fd19, F19⟩ : ∃ fd, FnK K "put" "Layout.put" (inClass (top 32) 13) [("pinned", .bl false)] (He.ma K (He.ga K "Layout") "put") fd := c.def_ 19 (d := dOfK ("Layout", some "put") "put" "Layout.put" (inClass (top 32) 13) [("pinned", .bl false)]) rfl
  obtain ⟨fd20, F20⟩ : ∃ fd, FnP K "take_out" "Layout.take_out" (inClass (top 32) 14) (He.ma K (He.ga K "Layout") "take_out") fd := c.def_ 20 (d := dOf ("Layout", some "take_out") "take_out" "Layout.take_out" (inClass (top 32) 14)) rfl
  obtain ⟨fd21, F21⟩ : ∃ fd, FnP K "set_pinned" "Layout.set_pinned" (inClass (top 32) 15) (He.ma K (He.ga K "Layout") "set_pinned") fd := c.def_ 21 (d := dOf ("Layout", some "set_pinned") "set_pinned" "Layout.set_pinned" (inClass (top 32) 15)) rfl
  obtain ⟨fd22, F22⟩ : ∃ fd, FnP K "clone" "Layout.clone" (inClass (top 32) 8) (He.ma K (He.ga K "Layout") "clone") fd := c.def_ 22 (d := dOf ("Layout", some "clone") "clone" "Layout.clone" (inClass (top 32) 8)) rfl
  obtain ⟨fd23, F23⟩ : ∃ fd, FnP K "ranges_of" "Layout.ranges_of" (inClass (top 32) 16) (He.ma K (He.ga K "Layout") "ranges_of") fd := c.def_ 23 (d := dOf ("Layout", some "ranges_of") "ranges_of" "Layout.ranges_of" (inClass (top 32) 16)) rfl
  obtain ⟨fd24, F24⟩ : ∃ fd, FnP K "pinned_ranges" "Layout.pinned_ranges" (inClass (top 32) 18) (He.ma K (He.ga K "Layout") "pinned_ranges") fd := c.def_ 24 (d := dOf ("Layout", some "pinned_ranges") "pinned_ranges" "Layout.pinned_ranges" (inClass (top 32) 18)) rfl
  obtain ⟨fd25, F25⟩ : ∃ fd, FnP K "unpinned_levels" "Layout.unpinned_levels" (inClass (top 32) 19) (He.ma K (He.ga K "Layout") "unpinned_levels") fd := c.def_ 25 (d := dOf ("Layout", some "unpinned_levels") "unpinned_levels" "Layout.unpinned_levels" (inClass (top 32) 19)) rfl
  obtain ⟨fd26, F26⟩ : ∃ fd, FnP K "regions_in" "Layout.regions_in" (inClass (top 32) 21) (He.ma K (He.ga K "Layout") "regions_in") fd := c.def_ 26 (d := dOf ("Layout", some "regions_in") "regions_in" "Layout.regions_in" (inClass (top 32) 21)) rfl
  obtain ⟨fd27, F27⟩ : ∃ fd, FnP K "free_gaps" "Layout.free_gaps" (inClass (top 32) 17) (He.ma K (He.ga K "Layout") "free_gaps") fd := c.def_ 27 (d := dOf ("Layout", some "free_gaps") "free_gaps" "Layout.free_gaps" (inClass (top 32) 17)) rfl
  obtain ⟨fd28, F28⟩ : ∃ fd, FnP K "free_regions" "Layout.free_regions" (inClass (top 32) 22) (He.ma K (He.ga K "Layout") "free_regions") fd := c.def_ 28 (d := dOf ("Layout", some "free_regions") "free_regions" "Layout.free_regions" (inClass (top 32) 22)) rfl
  obtain ⟨fd29, F29⟩ : ∃ fd, FnP K "free_runs" "Layout.free_runs" (inClass (top 32) 20) (He.ma K (He.ga K "Layout") "free_runs") fd := c.def_ 29 (d := dOf ("Layout", some "free_runs") "free_runs" "Layout.free_runs" (inClass (top 32) 20)) rfl
  obtain ⟨fd30, F30⟩ : ∃ fd, FnP K "clear_cells" "Layout.clear_cells" (inClass (top 32) 24) (He.ma K (He.ga K "Layout") "clear_cells") fd := c.def_ 30 (d := dOf ("Layout", some "clear_cells") "clear_cells" "Layout.clear_cells" (inClass (top 32) 24)) rfl
  obtain ⟨fd31, F31⟩ : ∃ fd, FnP K "unpinned_cells" "Layout.unpinned_cells" (inClass (top 32) 25) (He.ma K (He.ga K "Layout") "unpinned_cells") fd := c.def_ 31 (d := dOf ("Layout", some "unpinned_cells") "unpinned_cells" "Layout.unpinned_cells" (inClass (top 32) 25)) rfl
  obtain ⟨fd32, F32⟩ : ∃ fd, FnP K "slack" "Layout.slack" (inClass (top 32) 26) (He.ma K (He.ga K "Layout") "slack") fd := c.def_ 32 (d := dOf ("Layout", some "slack") "slack" "Layout.slack" (inClass (top 32) 26)) rfl
  obtain ⟨fd33, F33⟩ : ∃ fd, FnP K "largest" "Layout.largest" (inClass (top 32) 29) (He.ma K (He.ga K "Layout") "largest") fd := c.def_ 33 (d := dOf ("Layout", some "largest") "largest" "Layout.largest" (inClass (top 32) 29)) rfl
  obtain ⟨fd34, F34⟩ : ∃ fd, FnP K "blocks" "Layout.blocks" (inClass (top 32) 7) (He.ma K (He.ga K "Layout") "blocks") fd := c.def_ 34 (d := dOf ("Layout", some "blocks") "blocks" "Layout.blocks" (inClass (top 32) 7)) rfl
  obtain ⟨fd35, F35⟩ : ∃ fd, FnP K "is_address" "is_address" (top 20) (He.ga K "is_address") fd := c.def_ 35 (d := dOf ("is_address", none) "is_address" "is_address" (top 20)) rfl
  obtain ⟨fd36, F36⟩ : ∃ fd, FnP K "check_range" "check_range" (top 21) (He.ga K "check_range") fd := c.def_ 36 (d := dOf ("check_range", none) "check_range" "check_range" (top 21)) rfl
  obtain ⟨fd37, F37⟩ : ∃ fd, FnP K "next_start" "next_start" (top 22) (He.ga K "next_start") fd := c.def_ 37 (d := dOf ("next_start", none) "next_start" "next_start" (top 22)) rfl
  obtain ⟨fd38, F38⟩ : ∃ fd, FnP K "gaps_between" "gaps_between" (top 23) (He.ga K "gaps_between") fd := c.def_ 38 (d := dOf ("gaps_between", none) "gaps_between" "gaps_between" (top 23)) rfl
  obtain ⟨fd39, F39⟩ : ∃ fd, FnP K "lies_below" "lies_below" (top 24) (He.ga K "lies_below") fd := c.def_ 39 (d := dOf ("lies_below", none) "lies_below" "lies_below" (top 24)) rfl
  obtain ⟨fd40, F40⟩ : ∃ fd, FnP K "is_region" "is_region" (top 25) (He.ga K "is_region") fd := c.def_ 40 (d := dOf ("is_region", none) "is_region" "is_region" (top 25)) rfl
  obtain ⟨fd41, F41⟩ : ∃ fd, FnP K "region_start" "region_start" (top 26) (He.ga K "region_start") fd := c.def_ 41 (d := dOf ("region_start", none) "region_start" "region_start" (top 26)) rfl
  obtain ⟨fd42, F42⟩ : ∃ fd, FnP K "count_regions" "count_regions" (top 27) (He.ga K "count_regions") fd := c.def_ 42 (d := dOf ("count_regions", none) "count_regions" "count_regions" (top 27)) rfl
  obtain ⟨fd43, F43⟩ : ∃ fd, FnP K "highest_level_at" "highest_level_at" (top 28) (He.ga K "highest_level_at") fd := c.def_ 43 (d := dOf ("highest_level_at", none) "highest_level_at" "highest_level_at" (top 28)) rfl
  obtain ⟨fd44, F44⟩ : ∃ fd, FnP K "first_run" "first_run" (top 29) (He.ga K "first_run") fd := c.def_ 44 (d := dOf ("first_run", none) "first_run" "first_run" (top 29)) rfl
  obtain ⟨fd45, F45⟩ : ∃ fd, FnP K "maximal_runs" "maximal_runs" (top 30) (He.ga K "maximal_runs") fd := c.def_ 45 (d := dOf ("maximal_runs", none) "maximal_runs" "maximal_runs" (top 30)) rfl
  obtain ⟨fd46, F46⟩ : ∃ fd, FnP K "_law_rng" "_law_rng" (top 34) (He.ga K "_law_rng") fd := c.def_ 46 (d := dOf ("_law_rng", none) "_law_rng" "_law_rng" (top 34)) rfl
  obtain ⟨fd47, F47⟩ : ∃ fd, FnP K "_law_draw" "_law_draw" (top 35) (He.ga K "_law_draw") fd := c.def_ 47 (d := dOf ("_law_draw", none) "_law_draw" "_law_draw" (top 35)) rfl
  obtain ⟨fd48, F48⟩ : ∃ fd, FnP K "_law_sizes" "_law_sizes" (top 37) (He.ga K "_law_sizes") fd := c.def_ 48 (d := dOf ("_law_sizes", none) "_law_sizes" "_law_sizes" (top 37)) rfl
  obtain ⟨fd49, F49⟩ : ∃ fd, FnP K "_law_whole" "_law_whole" (top 38) (He.ga K "_law_whole") fd := c.def_ 49 (d := dOf ("_law_whole", none) "_law_whole" "_law_whole" (top 38)) rfl
  obtain ⟨fd50, F50⟩ : ∃ fd, FnP K "_law_has_space" "_law_has_space" (top 39) (He.ga K "_law_has_space") fd := c.def_ 50 (d := dOf ("_law_has_space", none) "_law_has_space" "_law_has_space" (top 39)) rfl
  obtain ⟨fd51, F51⟩ : ∃ fd, FnP K "_law_blocks" "_law_blocks" (top 40) (He.ga K "_law_blocks") fd := c.def_ 51 (d := dOf ("_law_blocks", none) "_law_blocks" "_law_blocks" (top 40)) rfl
  obtain ⟨fd52, F52⟩ : ∃ fd, FnP K "_law_untouched" "_law_untouched" (top 41) (He.ga K "_law_untouched") fd := c.def_ 52 (d := dOf ("_law_untouched", none) "_law_untouched" "_law_untouched" (top 41)) rfl
  obtain ⟨fd53, F53⟩ : ∃ fd, FnP K "_law_clear_cells" "_law_clear_cells" (top 42) (He.ga K "_law_clear_cells") fd := c.def_ 53 (d := dOf ("_law_clear_cells", none) "_law_clear_cells" "_law_clear_cells" (top 42)) rfl
  obtain ⟨fd54, F54⟩ : ∃ fd, FnP K "_law_unpinned_cells" "_law_unpinned_cells" (top 43) (He.ga K "_law_unpinned_cells") fd := c.def_ 54 (d := dOf ("_law_unpinned_cells", none) "_law_unpinned_cells" "_law_unpinned_cells" (top 43)) rfl
  obtain ⟨fd55, F55⟩ : ∃ fd, FnP K "_law_slack" "_law_slack" (top 44) (He.ga K "_law_slack") fd := c.def_ 55 (d := dOf ("_law_slack", none) "_law_slack" "_law_slack" (top 44)) rfl
  obtain ⟨fd56, F56⟩ : ∃ fd, FnP K "_law_largest" "_law_largest" (top 45) (He.ga K "_law_largest") fd := c.def_ 56 (d := dOf ("_law_largest", none) "_law_largest" "_law_largest" (top 45)) rfl
  obtain ⟨fd57, F57⟩ : ∃ fd, FnP K "_law_layout" "_law_layout" (top 46) (He.ga K "_law_layout") fd := c.def_ 57 (d := dOf ("_law_layout", none) "_law_layout" "_law_layout" (top 46)) rfl
  obtain ⟨fd58, F58⟩ : ∃ fd, FnP K "_law_free" "_law_free" (top 47) (He.ga K "_law_free") fd := c.def_ 58 (d := dOf ("_law_free", none) "_law_free" "_law_free" (top 47)) rfl
  obtain ⟨fd59, F59⟩ : ∃ fd, FnP K "_law_sums" "_law_sums" (top 48) (He.ga K "_law_sums") fd := c.def_ 59 (d := dOf ("_law_sums", none) "_law_sums" "_law_sums" (top 48)) rfl
  obtain ⟨fd60, F60⟩ : ∃ fd, FnP K "_law_due_sums" "_law_due_sums" (top 49) (He.ga K "_law_due_sums") fd := c.def_ 60 (d := dOf ("_law_due_sums", none) "_law_due_sums" "_law_due_sums" (top 49)) rfl
  obtain ⟨fd61, F61⟩ : ∃ fd, FnP K "_law_pinned_right" "_law_pinned_right" (top 50) (He.ga K "_law_pinned_right") fd := c.def_ 61 (d := dOf ("_law_pinned_right", none) "_law_pinned_right" "_law_pinned_right" (top 50)) rfl
  obtain ⟨fd62, F62⟩ : ∃ fd, FnP K "_law_switched" "_law_switched" (top 51) (He.ga K "_law_switched") fd := c.def_ 62 (d := dOf ("_law_switched", none) "_law_switched" "_law_switched" (top 51)) rfl
  obtain ⟨fd63, F63⟩ : ∃ fd, FnP K "_law_right" "_law_right" (top 52) (He.ga K "_law_right") fd := c.def_ 63 (d := dOf ("_law_right", none) "_law_right" "_law_right" (top 52)) rfl
  obtain ⟨fd64, F64⟩ : ∃ fd, FnP K "law" "law" (top 53) (He.ga K "law") fd := c.def_ 64 (d := dOf ("law", none) "law" "law" (top 53)) rfl
  have e := hfa.symm.trans (He.glo_ok X G (c.fact 35 (f := .glo "law") rfl))
  cases e
  have b := FunD.bindsA (ps := ["_law_script"]) F64 (fun _ _ _ _ _ _ us hl => match us, hl with | [_], _ => rfl)
  refine ⟨_, fun s v => b s [v] rfl, fun base _ _ => ?_⟩
  have D_is_integer := df (P := P) (w := w) (base := base) X G (c.fact 0 (f := .glo "is_integer") rfl) F0 (ps := ["value"]) (fun _ _ _ _ _ _ us hl => match us, hl with | [_], _ => rfl) (ok_is_integer T F0)
  have D_size_problem := df (P := P) (w := w) (base := base) X G (c.fact 1 (f := .glo "size_problem") rfl) F1 (ps := ["values", "position"]) (fun _ _ _ _ _ _ us hl => match us, hl with | [_, _], _ => rfl) (ok_size_problem T D_is_integer F1)
  have D_check_sizes := df (P := P) (w := w) (base := base) X G (c.fact 2 (f := .glo "check_sizes") rfl) F2 (ps := ["values"]) (fun _ _ _ _ _ _ us hl => match us, hl with | [_], _ => rfl) (ok_check_sizes T D_size_problem F2)
  have D_Sizes : Kf P w K mg base _ "Sizes" ["self", "values"] _ := ⟨⟨fd6, ok_init T D_check_sizes F6, F6.bindsN (fun _ _ _ _ _ _ us hl => match us, hl with | [_, _], _ => rfl)⟩, He.glo_ok X G (c.fact 36 (f := .glo "Sizes") rfl), He.mkr_ok (c.fact 57 (f := .mkr "Sizes") rfl)⟩
  have P_top : Pf P w K mg base 1 "Sizes" "top" (spTop K) := ⟨He.cls_ok (c.fact 55 (f := .cls "Sizes") rfl), _, _, fdP_top, prB_ok xp_top, ok_top T FP_top, FunD.bindsN FP_top (fun _ _ _ _ _ _ us hl => match us, hl with | [_], _ => rfl)⟩
  have M_len : Mf P w K mg base _ "Sizes" "__len__" ["self"] _ := ⟨⟨fd12, ok_len T F12, F12.bindsN (fun _ _ _ _ _ _ us hl => match us, hl with | [_], _ => rfl)⟩, He.cls_ok (c.fact 55 (f := .cls "Sizes") rfl), He.meth_ok (c.fact 62 (f := .meth "Sizes" "__len__") rfl)⟩
  have E_Sizes : EqOf P w K mg base 1 "Sizes" (spSEq K) := ⟨⟨fd7, ok_seq T F7, F7.bindsN (fun _ _ _ _ _ _ us hl => match us, hl with | [_, _], _ => rfl)⟩, (eqB_ok xe_S).1, (eqB_ok xe_S).2⟩
  have M_has_level : Mf P w K mg base _ "Sizes" "has_level" ["self", "level"] _ := ⟨⟨fd8, ok_has T D_is_integer P_top F8, F8.bindsN (fun _ _ _ _ _ _ us hl => match us, hl with | [_, _], _ => rfl)⟩, He.cls_ok (c.fact 55 (f := .cls "Sizes") rfl), He.meth_ok (c.fact 58 (f := .meth "Sizes" "has_level") rfl)⟩
  have M_check_level : Mf P w K mg base _ "Sizes" "check_level" ["self", "level"] _ := ⟨⟨fd9, ok_check_level T M_has_level F9, F9.bindsN (fun _ _ _ _ _ _ us hl => match us, hl with | [_, _], _ => rfl)⟩, He.cls_ok (c.fact 55 (f := .cls "Sizes") rfl), He.meth_ok (c.fact 59 (f := .meth "Sizes" "check_level") rfl)⟩
  have M_size : Mf P w K mg base _ "Sizes" "size" ["self", "level"] _ := ⟨⟨fd10, ok_size T M_check_level F10, F10.bindsN (fun _ _ _ _ _ _ us hl => match us, hl with | [_, _], _ => rfl)⟩, He.cls_ok (c.fact 55 (f := .cls "Sizes") rfl), He.meth_ok (c.fact 60 (f := .meth "Sizes" "size") rfl)⟩
  have D_is_cells := df (P := P) (w := w) (base := base) X G (c.fact 3 (f := .glo "is_cells") rfl) F3 (ps := ["value"]) (fun _ _ _ _ _ _ us hl => match us, hl with | [_], _ => rfl) (ok_is_cells T D_is_integer F3)
  have D_check_cells := df (P := P) (w := w) (base := base) X G (c.fact 4 (f := .glo "check_cells") rfl) F4 (ps := ["value"]) (fun _ _ _ _ _ _ us hl => match us, hl with | [_], _ => rfl) (ok_check_cells T D_is_cells F4)
  have D_check_numbers := df (P := P) (w := w) (base := base) X G (c.fact 5 (f := .glo "check_numbers") rfl) F5 (ps := ["value"]) (fun _ _ _ _ _ _ us hl => match us, hl with | [_], _ => rfl) (ok_nums T D_is_cells F5)
  have M_whole : Mf P w K mg base _ "Sizes" "whole" ["self", "cells", "level"] _ := ⟨⟨fd11, ok_whole T D_check_cells M_size F11, F11.bindsN (fun _ _ _ _ _ _ us hl => match us, hl with | [_, _, _], _ => rfl)⟩, He.cls_ok (c.fact 55 (f := .cls "Sizes") rfl), He.meth_ok (c.fact 61 (f := .meth "Sizes" "whole") rfl)⟩
  have D_is_address := df (P := P) (w := w) (base := base) X G (c.fact 6 (f := .glo "is_address") rfl) F35 (ps := ["value"]) (fun _ _ _ _ _ _ us hl => match us, hl with | [_], _ => rfl) (ok_is_address T D_is_integer F35)
  have D_check_range := df (P := P) (w := w) (base := base) X G (c.fact 7 (f := .glo "check_range") rfl) F36 (ps := ["low", "high"]) (fun _ _ _ _ _ _ us hl => match us, hl with | [_, _], _ => rfl) (ok_check_range T D_is_integer D_is_address F36)
  have D_next_start := df (P := P) (w := w) (base := base) X G (c.fact 8 (f := .glo "next_start") rfl) F37 (ps := ["size", "address"]) (fun _ _ _ _ _ _ us hl => match us, hl with | [_, _], _ => rfl) (ok_next_start T F37)
  have D_gaps_between := df (P := P) (w := w) (base := base) X G (c.fact 9 (f := .glo "gaps_between") rfl) F38 (ps := ["ranges", "length"]) (fun _ _ _ _ _ _ us hl => match us, hl with | [_, _], _ => rfl) (ok_gaps T F38)
  have D_lies_below := df (P := P) (w := w) (base := base) X G (c.fact 10 (f := .glo "lies_below") rfl) F39 (ps := ["sizes", "level", "address", "end"]) (fun _ _ _ _ _ _ us hl => match us, hl with | [_, _, _, _], _ => rfl) (ok_below T M_size F39)
  have D_is_region := df (P := P) (w := w) (base := base) X G (c.fact 11 (f := .glo "is_region") rfl) F40 (ps := ["sizes", "length", "level", "address"]) (fun _ _ _ _ _ _ us hl => match us, hl with | [_, _, _, _], _ => rfl) (ok_is_region T D_check_cells M_has_level D_is_address D_lies_below F40)
  have D_region_start := df (P := P) (w := w) (base := base) X G (c.fact 12 (f := .glo "region_start") rfl) F41 (ps := ["sizes", "level", "address"]) (fun _ _ _ _ _ _ us hl => match us, hl with | [_, _, _], _ => rfl) (ok_region_start T D_is_address M_size F41)
  have D_count_regions := df (P := P) (w := w) (base := base) X G (c.fact 13 (f := .glo "count_regions") rfl) F42 (ps := ["sizes", "level", "low", "high"]) (fun _ _ _ _ _ _ us hl => match us, hl with | [_, _, _, _], _ => rfl) (ok_count_regions T D_check_range D_region_start D_next_start M_size F42)
  have D_highest_level_at := df (P := P) (w := w) (base := base) X G (c.fact 14 (f := .glo "highest_level_at") rfl) F43 (ps := ["sizes", "low", "high"]) (fun _ _ _ _ _ _ us hl => match us, hl with | [_, _, _], _ => rfl) (ok_high T P_top D_lies_below F43)
  have D_first_run := df (P := P) (w := w) (base := base) X G (c.fact 15 (f := .glo "first_run") rfl) F44 (ps := ["sizes", "low", "high"]) (fun _ _ _ _ _ _ us hl => match us, hl with | [_, _, _], _ => rfl) (ok_frun T P_top M_size D_highest_level_at D_count_regions D_next_start D_region_start F44)
  have D_maximal_runs := df (P := P) (w := w) (base := base) X G (c.fact 16 (f := .glo "maximal_runs") rfl) F45 (ps := ["sizes", "low", "high"]) (fun _ _ _ _ _ _ us hl => match us, hl with | [_, _, _], _ => rfl) (ok_max T D_check_range M_size D_first_run F45)
  have D_Layout : Kf P w K mg base _ "Layout" ["self", "sizes", "length"] _ := ⟨⟨fd13, ok_new T D_check_cells F13, F13.bindsN (fun _ _ _ _ _ _ us hl => match us, hl with | [_, _, _], _ => rfl)⟩, He.glo_ok X G (c.fact 37 (f := .glo "Layout") rfl), He.mkr_ok (c.fact 64 (f := .mkr "Layout") rfl)⟩
  have E_Layout : EqOf P w K mg base 2 "Layout" (spLEq K) := ⟨⟨fd14, ok_leq T E_Sizes F14, F14.bindsN (fun _ _ _ _ _ _ us hl => match us, hl with | [_, _], _ => rfl)⟩, (eqB_ok xe_L).1, (eqB_ok xe_L).2⟩
  have P_free : Pf P w K mg base 1 "Layout" "free" (spFree K) := ⟨He.cls_ok (c.fact 63 (f := .cls "Layout") rfl), _, _, fdP_free, prB_ok xp_free, ok_free T FP_free, FunD.bindsN FP_free (fun _ _ _ _ _ _ us hl => match us, hl with | [_], _ => rfl)⟩
  have M_count_below : Mf P w K mg base _ "Layout" "count_below" ["self", "address"] _ := ⟨⟨fd15, ok_cb T F15, F15.bindsN (fun _ _ _ _ _ _ us hl => match us, hl with | [_, _], _ => rfl)⟩, He.cls_ok (c.fact 63 (f := .cls "Layout") rfl), He.meth_ok (c.fact 69 (f := .meth "Layout" "count_below") rfl)⟩
  have M_index_of : Mf P w K mg base _ "Layout" "index_of" ["self", "address"] _ := ⟨⟨fd16, ok_ix T D_is_integer M_count_below F16, F16.bindsN (fun _ _ _ _ _ _ us hl => match us, hl with | [_, _], _ => rfl)⟩, He.cls_ok (c.fact 63 (f := .cls "Layout") rfl), He.meth_ok (c.fact 70 (f := .meth "Layout" "index_of") rfl)⟩
  have M_block_at : Mf P w K mg base _ "Layout" "block_at" ["self", "address"] _ := ⟨⟨fd17, ok_at T D_is_address M_count_below M_size F17, F17.bindsN (fun _ _ _ _ _ _ us hl => match us, hl with | [_, _], _ => rfl)⟩, He.cls_ok (c.fact 63 (f := .cls "Layout") rfl), He.meth_ok (c.fact 71 (f := .meth "Layout" "block_at") rfl)⟩
  have M_first_taken : Mf P w K mg base _ "Layout" "first_taken" ["self", "low", "high"] _ := ⟨⟨fd18, ok_first T M_block_at M_count_below F18, F18.bindsN (fun _ _ _ _ _ _ us hl => match us, hl with | [_, _, _], _ => rfl)⟩, He.cls_ok (c.fact 63 (f := .cls "Layout") rfl), He.meth_ok (c.fact 72 (f := .meth "Layout" "first_taken") rfl)⟩
  have M_put_kw : MfK P w K mg base 8 "Layout" "put" ["self", "level", "address", "pinned"] 3 ["pinned"] (spPut K) := ⟨⟨fd19, ok_put T M_size D_is_region M_first_taken M_count_below F19, bindsK F19 (fun _ _ _ _ _ _ us ws hu hw => match us, ws, hu, hw with | [_, _, _], [_], _, _ => rfl)⟩, He.cls_ok (c.fact 63 (f := .cls "Layout") rfl), He.meth_ok (c.fact 73 (f := .meth "Layout" "put") rfl)⟩
  have M_take_out : Mf P w K mg base _ "Layout" "take_out" ["self", "address"] _ := ⟨⟨fd20, ok_take T M_index_of M_size F20, F20.bindsN (fun _ _ _ _ _ _ us hl => match us, hl with | [_, _], _ => rfl)⟩, He.cls_ok (c.fact 63 (f := .cls "Layout") rfl), He.meth_ok (c.fact 74 (f := .meth "Layout" "take_out") rfl)⟩
  have M_set_pinned : Mf P w K mg base _ "Layout" "set_pinned" ["self", "address", "pinned"] _ := ⟨⟨fd21, ok_pin T M_index_of F21, F21.bindsN (fun _ _ _ _ _ _ us hl => match us, hl with | [_, _, _], _ => rfl)⟩, He.cls_ok (c.fact 63 (f := .cls "Layout") rfl), He.meth_ok (c.fact 75 (f := .meth "Layout" "set_pinned") rfl)⟩
  have M_clone : Mf P w K mg base _ "Layout" "clone" ["self"] _ := ⟨⟨fd22, ok_clone T D_Layout F22, F22.bindsN (fun _ _ _ _ _ _ us hl => match us, hl with | [_], _ => rfl)⟩, He.cls_ok (c.fact 63 (f := .cls "Layout") rfl), He.meth_ok (c.fact 76 (f := .meth "Layout" "clone") rfl)⟩
  have M_ranges_of : Mf P w K mg base _ "Layout" "ranges_of" ["self", "blocks"] _ := ⟨⟨fd23, ok_ranges T M_size F23, F23.bindsN (fun _ _ _ _ _ _ us hl => match us, hl with | [_, _], _ => rfl)⟩, He.cls_ok (c.fact 63 (f := .cls "Layout") rfl), He.meth_ok (c.fact 77 (f := .meth "Layout" "ranges_of") rfl)⟩
  have M_pinned_ranges : Mf P w K mg base _ "Layout" "pinned_ranges" ["self"] _ := ⟨⟨fd24, ok_pinned T M_ranges_of F24, F24.bindsN (fun _ _ _ _ _ _ us hl => match us, hl with | [_], _ => rfl)⟩, He.cls_ok (c.fact 63 (f := .cls "Layout") rfl), He.meth_ok (c.fact 78 (f := .meth "Layout" "pinned_ranges") rfl)⟩
  have M_regions_in : Mf P w K mg base _ "Layout" "regions_in" ["self", "gaps", "level"] _ := ⟨⟨fd26, ok_regin T M_check_level D_count_regions F26, F26.bindsN (fun _ _ _ _ _ _ us hl => match us, hl with | [_, _, _], _ => rfl)⟩, He.cls_ok (c.fact 63 (f := .cls "Layout") rfl), He.meth_ok (c.fact 80 (f := .meth "Layout" "regions_in") rfl)⟩
  have M_free_gaps : Mf P w K mg base _ "Layout" "free_gaps" ["self"] _ := ⟨⟨fd27, ok_fg T M_ranges_of D_gaps_between F27, F27.bindsN (fun _ _ _ _ _ _ us hl => match us, hl with | [_], _ => rfl)⟩, He.cls_ok (c.fact 63 (f := .cls "Layout") rfl), He.meth_ok (c.fact 81 (f := .meth "Layout" "free_gaps") rfl)⟩
  have M_free_regions : Mf P w K mg base _ "Layout" "free_regions" ["self", "level"] _ := ⟨⟨fd28, ok_fr T M_free_gaps M_regions_in F28, F28.bindsN (fun _ _ _ _ _ _ us hl => match us, hl with | [_, _], _ => rfl)⟩, He.cls_ok (c.fact 63 (f := .cls "Layout") rfl), He.meth_ok (c.fact 82 (f := .meth "Layout" "free_regions") rfl)⟩
  have M_free_runs : Mf P w K mg base _ "Layout" "free_runs" ["self"] _ := ⟨⟨fd29, ok_runs T M_free_gaps D_maximal_runs F29, F29.bindsN (fun _ _ _ _ _ _ us hl => match us, hl with | [_], _ => rfl)⟩, He.cls_ok (c.fact 63 (f := .cls "Layout") rfl), He.meth_ok (c.fact 83 (f := .meth "Layout" "free_runs") rfl)⟩
  have M_clear_cells : Mf P w K mg base _ "Layout" "clear_cells" ["self", "level"] _ := ⟨⟨fd30, ok_clear T M_pinned_ranges D_gaps_between M_regions_in M_size F30, F30.bindsN (fun _ _ _ _ _ _ us hl => match us, hl with | [_, _], _ => rfl)⟩, He.cls_ok (c.fact 63 (f := .cls "Layout") rfl), He.meth_ok (c.fact 84 (f := .meth "Layout" "clear_cells") rfl)⟩
  have M_unpinned_levels : Mf P w K mg base _ "Layout" "unpinned_levels" ["self"] _ := ⟨⟨fd25, ok_levels T F25, F25.bindsN (fun _ _ _ _ _ _ us hl => match us, hl with | [_], _ => rfl)⟩, He.cls_ok (c.fact 63 (f := .cls "Layout") rfl), He.meth_ok (c.fact 79 (f := .meth "Layout" "unpinned_levels") rfl)⟩
  have M_unpinned_cells : Mf P w K mg base _ "Layout" "unpinned_cells" ["self", "level"] _ := ⟨⟨fd31, ok_loose T M_check_level M_unpinned_levels M_size F31, F31.bindsN (fun _ _ _ _ _ _ us hl => match us, hl with | [_, _], _ => rfl)⟩, He.cls_ok (c.fact 63 (f := .cls "Layout") rfl), He.meth_ok (c.fact 85 (f := .meth "Layout" "unpinned_cells") rfl)⟩
  obtain ⟨z0, oz, nz, FS, hz1, hz2, hz3⟩ := kwB_ok F32 x_kw
  obtain ⟨z9, o9, n9, FL, h91, h92, h93⟩ := kwB_ok F33 x_kw2
  have M_slack_kw : MfK P w K mg base 10 "Layout" "slack" ["self", "level", "kept"] 2 ["kept"] (spSlack K) := ⟨⟨fd32, ok_slack T M_clear_cells M_unpinned_cells D_check_numbers M_whole FS, bindsK FS (fun _ _ _ _ _ _ us ws hu hw => match us, ws, hu, hw with | [_, _], [_], _, _ => rfl)⟩, He.cls_ok (c.fact 63 (f := .cls "Layout") rfl), He.meth_ok (c.fact 86 (f := .meth "Layout" "slack") rfl)⟩
  have M_slack_d : MfD P w K mg base 10 "Layout" "slack" ["self", "level", "kept"] [.ref z0] (spSlack K) := by
    obtain ⟨ds, vd, bd⟩ := FunD.binds0 FS (ps := ["self", "level", "kept"]) 2 (List.cons_ne_nil _ _) rfl (fun D doc pm an cdv ct us ks h1 h2 => match us, ks, h1, h2 with | [_, _], [_], _, _ => ⟨_, _, _, _, _, _, rfl, rfl, rfl⟩)
    exact ⟨⟨fd32, ds, ok_slack T M_clear_cells M_unpinned_cells D_check_numbers M_whole FS, vd, bd⟩, He.cls_ok (c.fact 63 (f := .cls "Layout") rfl), He.meth_ok (c.fact 86 (f := .meth "Layout" "slack") rfl)⟩
  have M_largest_d : MfD P w K mg base 11 "Layout" "largest" ["self", "kept"] [.ref z9] (spLarge K) := by
    obtain ⟨ds, vd, bd⟩ := FunD.binds0 FL (ps := ["self", "kept"]) 1 (List.cons_ne_nil _ _) rfl (fun D doc pm an cdv ct us ks h1 h2 => match us, ks, h1, h2 with | [_], [_], _, _ => ⟨_, _, _, _, _, _, rfl, rfl, rfl⟩)
    exact ⟨⟨fd33, ds, ok_large T M_len M_slack_kw M_size FL, vd, bd⟩, He.cls_ok (c.fact 63 (f := .cls "Layout") rfl), He.meth_ok (c.fact 87 (f := .meth "Layout" "largest") rfl)⟩
  have M_blocks : Mf P w K mg base _ "Layout" "blocks" ["self"] _ := ⟨⟨fd34, ok_blk T F34, F34.bindsN (fun _ _ _ _ _ _ us hl => match us, hl with | [_], _ => rfl)⟩, He.cls_ok (c.fact 63 (f := .cls "Layout") rfl), He.meth_ok (c.fact 88 (f := .meth "Layout" "blocks") rfl)⟩
  have D__law_rng := df (P := P) (w := w) (base := base) X G (c.fact 17 (f := .glo "_law_rng") rfl) F46 (ps := ["_law_script", "_law_k"]) (fun _ _ _ _ _ _ us hl => match us, hl with | [_, _], _ => rfl) (ok_rng T F46)
  have D__law_draw := df (P := P) (w := w) (base := base) X G (c.fact 18 (f := .glo "_law_draw") rfl) F47 (ps := ["_law_rng_here", "_law_many"]) (fun _ _ _ _ _ _ us hl => match us, hl with | [_, _], _ => rfl) (ok_draw T F47)
  have D__law_sizes := df (P := P) (w := w) (base := base) X G (c.fact 19 (f := .glo "_law_sizes") rfl) F48 (ps := ["_law_rng_here", "_law_levels", "_law_greatest"]) (fun _ _ _ _ _ _ us hl => match us, hl with | [_, _, _], _ => rfl) (ok_sizes T D__law_draw F48)
  have D__law_whole := df (P := P) (w := w) (base := base) X G (c.fact 20 (f := .glo "_law_whole") rfl) F49 (ps := ["_law_cells", "_law_size"]) (fun _ _ _ _ _ _ us hl => match us, hl with | [_, _], _ => rfl) (ok_lwhole T F49)
  have D__law_has_space := df (P := P) (w := w) (base := base) X G (c.fact 21 (f := .glo "_law_has_space") rfl) F50 (ps := ["_law_sizes_here", "_law_length", "_law_blocks_here", "_law_level", "_law_address"]) (fun _ _ _ _ _ _ us hl => match us, hl with | [_, _, _, _, _], _ => rfl) (ok_space T F50)
  have D__law_blocks := df (P := P) (w := w) (base := base) X G (c.fact 22 (f := .glo "_law_blocks") rfl) F51 (ps := ["_law_rng_here", "_law_sizes_here", "_law_length", "_law_many", "_law_one_in"]) (fun _ _ _ _ _ _ us hl => match us, hl with | [_, _, _, _, _], _ => rfl) (ok_blocks T D__law_draw D__law_has_space F51)
  have D__law_untouched := df (P := P) (w := w) (base := base) X G (c.fact 23 (f := .glo "_law_untouched") rfl) F52 (ps := ["_law_sizes_here", "_law_length", "_law_blocks_here", "_law_level"]) (fun _ _ _ _ _ _ us hl => match us, hl with | [_, _, _, _], _ => rfl) (ok_unt T F52)
  have D__law_clear_cells := df (P := P) (w := w) (base := base) X G (c.fact 24 (f := .glo "_law_clear_cells") rfl) F53 (ps := ["_law_sizes_here", "_law_length", "_law_blocks_here", "_law_level"]) (fun _ _ _ _ _ _ us hl => match us, hl with | [_, _, _, _], _ => rfl) (ok_lclear T D__law_untouched F53)
  have D__law_unpinned_cells := df (P := P) (w := w) (base := base) X G (c.fact 25 (f := .glo "_law_unpinned_cells") rfl) F54 (ps := ["_law_sizes_here", "_law_blocks_here", "_law_level"]) (fun _ _ _ _ _ _ us hl => match us, hl with | [_, _, _], _ => rfl) (ok_lloose T F54)
  have D__law_slack := df (P := P) (w := w) (base := base) X G (c.fact 26 (f := .glo "_law_slack") rfl) F55 (ps := ["_law_sizes_here", "_law_length", "_law_blocks_here", "_law_saved", "_law_level"]) (fun _ _ _ _ _ _ us hl => match us, hl with | [_, _, _, _, _], _ => rfl) (ok_lslack T D__law_whole D__law_clear_cells D__law_unpinned_cells F55)
  have D__law_largest := df (P := P) (w := w) (base := base) X G (c.fact 27 (f := .glo "_law_largest") rfl) F56 (ps := ["_law_sizes_here", "_law_length", "_law_blocks_here", "_law_saved"]) (fun _ _ _ _ _ _ us hl => match us, hl with | [_, _, _, _], _ => rfl) (ok_llarge T D__law_slack F56)
  have D__law_layout := df (P := P) (w := w) (base := base) X G (c.fact 28 (f := .glo "_law_layout") rfl) F57 (ps := ["_law_sizes_here", "_law_length", "_law_blocks_here"]) (fun _ _ _ _ _ _ us hl => match us, hl with | [_, _, _], _ => rfl) (ok_layout T D_Sizes D_Layout M_put_kw F57)
  have D__law_free := dfG (P := P) (w := w) (base := base) X G (c.fact 29 (f := .glo "_law_free") rfl) F58 (ps := ["_law_layout_here", "_law_sizes_here"]) (fun _ _ _ _ _ _ us hl => match us, hl with | [_, _], _ => rfl) (ok_lfree T P_free M_free_runs M_free_regions F58)
  have D__law_sums := df (P := P) (w := w) (base := base) X G (c.fact 30 (f := .glo "_law_sums") rfl) F59 (ps := ["_law_layout_here", "_law_sizes_here"]) (fun _ _ _ _ _ _ us hl => match us, hl with | [_, _], _ => rfl) (ok_sums T hz1 hz2 hz3 h91 h92 h93 M_slack_d M_largest_d F59)
  have D__law_due_sums := df (P := P) (w := w) (base := base) X G (c.fact 31 (f := .glo "_law_due_sums") rfl) F60 (ps := ["_law_sizes_here", "_law_length", "_law_blocks_here"]) (fun _ _ _ _ _ _ us hl => match us, hl with | [_, _, _], _ => rfl) (ok_dsums T D__law_slack D__law_largest F60)
  have D__law_pinned_right := df (P := P) (w := w) (base := base) X G (c.fact 32 (f := .glo "_law_pinned_right") rfl) F61 (ps := ["_law_layout_here", "_law_sizes_here", "_law_one", "_law_before"]) (fun _ _ _ _ _ _ us hl => match us, hl with | [_, _, _, _], _ => rfl) (ok_pright T D__law_sums F61)
  have D__law_switched := dfG (P := P) (w := w) (base := base) X G (c.fact 33 (f := .glo "_law_switched") rfl) F62 (ps := ["_law_rng_here", "_law_layout_here", "_law_sizes_here", "_law_length", "_law_blocks_here"]) (fun _ _ _ _ _ _ us hl => match us, hl with | [_, _, _, _, _], _ => rfl) (ok_sw T D__law_draw D__law_free D__law_sums M_clone M_set_pinned M_blocks M_block_at E_Layout D__law_due_sums D__law_pinned_right M_take_out F62)
  have D__law_right := dfG (P := P) (w := w) (base := base) X G (c.fact 34 (f := .glo "_law_right") rfl) F63 (ps := ["_law_rng_here"]) (fun _ _ _ _ _ _ us hl => match us, hl with | [_], _ => rfl) (ok_right T D__law_sizes D__law_draw D__law_blocks D__law_layout D__law_switched D__law_sums D__law_due_sums F63)
  exact ok_law T D__law_rng D__law_right F64
end
end K28
open PySem PySem.W PySem.Calls PyProof.Rows
theorem PySem.Challenge.cw_exactroom_k28_pins_of_layouts_holds : PySem.Challenge.rw_exactroom_k28_pins_of_layouts.Holds := by
  w_on; o_law
  refine HandSHeadRun.head_any (r := OpenLaw.row PySem.Challenge.rw_exactroom_k28_pins_of_layouts) (q := view (OpenLaw.row PySem.Challenge.rw_exactroom_k28_pins_of_layouts).prog [53]) (H := K28.hk) (ob := K28.ob) (M := 16000)
    (loose := K28.loose) (d := HandSHeadRun.topDef (OpenLaw.row PySem.Challenge.rw_exactroom_k28_pins_of_layouts).prog 53) (kwd := []) K28.ob_eq
    (by kernel_rfl) (fun s => by kernel_rfl) K28.run (by kernel_rfl) (by kernel_rfl) (by kernel_rfl) (by rfl) (by first | assumption | decide +kernel) (by decide +kernel) ⟨rfl, rfl, rfl, rfl, rfl, by decide +kernel⟩ ?hw ?hc
  case hw => w_witness2
  case hc =>
    refine Gu.walkG (l := PySem.Challenge.rw_exactroom_k28_pins_of_layouts) (n := 63) (k := 16) (x := "_law_script") (CX := L2.CX0) rfl (by decide) (by kernel_rfl) ⟨⟨rfl, by decide, by decide⟩, rfl⟩ ?F (fun _ _ _ _ z => z)
    intro w mg fa h Y G hmg0
    obtain ⟨K, KX, c⟩ := Y
    have hmg : mg ("law" : PySem.Str) = some (.ref fa) := by
      have e : (HandSHeadRun.topDef (OpenLaw.row PySem.Challenge.rw_exactroom_k28_pins_of_layouts).prog 53).name = ("law" : PySem.Str) := by kernel_rfl
      rw [← e]
      exact hmg0
    obtain ⟨fd, hb, hF⟩ := K28.facts (P := (PySem.Challenge.rw_exactroom_k28_pins_of_layouts).prog) (w := w) KX G hmg c
    exact ⟨K, fd, K28.spLaw K, KX, hb, fun H a ns hl _ hS => ⟨a, ns, rfl, hS, hl, fun _ => rfl⟩, hF⟩

