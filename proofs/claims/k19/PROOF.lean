import PyProof.Rows.All
import Wide.All
import OpenK.AllK
import Wide.FinOn
import PyProof.ReprRoads
import HandS.ForMost
import HandS.ForExc
import HandS.Property
import HandS.ClsMeth
import HandS.Defaults
import HandS.IsInst
import HandS.Wide
import HandS.WideBits
import HandS.Ends
import HandS.HeadEnd
import HandS.Head0
import HandS.Head1
import HandS.Head2
import HandS.HeadHook1
import HandS.HeadHook2
import HandS.Flow
import HandS.Style
import HandS.Text
import HandS.Iter
import HandS.Comp
import HandS.Dict
import KE.KStateDown
import Lean
import PySem.Challenge.RW_exactroom_k19_names_and_numbers_judged
set_option Elab.async false
set_option linter.all false
set_option maxRecDepth 100000
set_option maxHeartbeats 4000000
/-! Own layer: defs that are called where no repr is under way (the guards are known to be none), so that repr of data can be walked. -/
namespace Gu
open PySem PySem.Spec PyProof.Rows L2
structure RoomG (k : Nat) (A : Around) : Prop where
  r : Room k A
  g : A.guards = some []
theorem RoomG.mono {j k : Nat} {A : Around} (x : RoomG k A) (h : j ≤ k) : RoomG j A := ⟨x.r.mono h, x.g⟩
theorem RoomG.down {k : Nat} {A : Around} (x : RoomG (k + 1) A) (env : Env) : RoomG k (A.deeper env) := ⟨x.r.deeper env, x.g⟩
structure FnG (P : Program) (w : World) (K : PySem.W.Frag) (mg : Str → Option Value) (base : Heap) (CX : CXT) (k : Nat) (f : Addr) (fd : FuncData) (ps : List Str) (sp : Sp) : Prop where
  len : ∀ vs H Q E, sp vs H Q E → vs.length = ps.length
  run : ∀ (A : Around) (outer : List Env) (s : Shared) (H : Hp) (args : Args) (us : List Value) (vs : List V) (Q : VK) (E : XK),
    RoomG k A → Env0 P w K mg base A outer s H → BindsTo s fd args (ps.zip us) → Vals vs us → sp vs H Q E →
    codeAny (model P w) A (.call (.ref f) args) (CR CX outer P w H s Q E) s
section
variable {P : Program} {w : World} {K : PySem.W.Frag} {mg : Str → Option Value} {base : Heap} {CX : CXT} {k : Nat} {f : Addr} {fd : FuncData} {ps : List Str} {sp : Sp}
theorem FnG.of (F : FnOk P w K mg base CX k f fd ps sp) : FnG P w K mg base CX k f fd ps sp :=
  ⟨F.len, fun A outer s H args us vs Q E hr => F.run A outer s H args us vs Q E hr.r⟩
/-- a def by its body -/
theorem okG {x qual : Str} {params : Arguments} {body : List Stmt} {scope : Scope} {dvs : List V} {kws : List (Str × V)} {N : List Str}
    (F : FunD K x qual params body scope dvs kws f fd) (S : FnScope N ps scope) (len : ∀ vs H Q E, sp vs H Q E → vs.length = ps.length)
    (hbody : ∀ (cdv : Value) (A : Around) (outer : List Env) (s : Shared) (H : Hp) (vs : List V) (Q : VK) (E : XK),
      RoomG k (A.deeper (envOfC qual scope s.heap.objs.size f cdv)) → sp vs H Q E →
      ∃ t, PSs (cxOf CX P w K mg base N qual scope f cdv A outer s H E) body t ∧ t { nx := fun _ H' => Q .non H', rt := Q } (start N vs) H) :
    FnG P w K mg base CX (k + 1) f fd ps sp := by
  obtain ⟨oc, od, dV, kV, doc, pm, an, cdv, ct, osl, rfl, lk, hcd, _, _⟩ := F.ex
  refine ⟨len, fun A outer s H args us vs Q E hr e0 hb rv hsp => ?_⟩
  have KX : K.In s.heap := e0.mod.kin.keeps fun b o e => (e0.bs b o e).1
  have hkinds : ∀ y ∈ ps.zip us, scope.names.lookup y.1 = some .local ∨
      (scope.names.lookup y.1 = some .cell ∧ ((cellsFrom (s.heap.objs.size + 1) scope.names []).lookup y.1).isSome = true) := by
    rintro ⟨n, v⟩ hy
    rcases S.par n (List.of_mem_zip hy).1 with q | q
    · exact .inl q
    · exact .inr ⟨q, PySem.W.cellsFrom_some _ _ _ (.inl q)⟩
  refine codeAny_call_function hr.r.depth (KX _ _ lk) rfl S.co S.gen rfl (PySem.W.codeRec_of KX hcd) (hb _ _ _ _ ?_)
  refine wpAny_newFunctionEnv_cells S.kind hkinds fun env he s1 x => ?_
  subst he
  refine ⟨(e0.mod.nolimit.keeps fun b o e => (e0.bs b o e).1).keeps x.toInCall.keep, codeAny_func ?_⟩
  obtain ⟨t, ht, hq⟩ := hbody cdv A outer s H vs Q E (hr.down _) hsp
  have I := inv_start (CX := CX) (E := E) (N := N) (qual := qual) (f := f) (cd := cdv) S hr.r.hd e0 (len _ _ _ _ hsp) rv x
  refine wpAny_mono (ht.run [] s1 (start N vs) H _ I hq) (fun fl s' hs => ?_) fun e s' hs => hs
  cases fl with
  | ret u =>
    obtain ⟨v, σ', H', J, rv', q⟩ := hs
    exact ⟨v, H', J.os, J.bare, J.base, J.hok, rv', q⟩
  | next =>
    obtain ⟨σ', H', J, q⟩ := hs
    exact ⟨V.non, H', J.os, J.bare, J.base, J.hok, rfl, q⟩
  | brk => exact hs.elim fun _ z => z.elim fun _ z => z.2.elim
  | cont => exact hs.elim fun _ z => z.elim fun _ z => z.2.elim
end
section
variable {X : Cx} {CX : CXT} {k : Nat} {f : Addr} {fd : FuncData} {ps : List Str} {sp : Sp} {dvs : List V} {ds : List Value} {E : XK} {x : Str} {p pos : Pos} {e : Expr} {es : List Expr} {t : TA}
theorem runG {pins : List (Addr × Obj)} {σ : L2.St} {H : Hp} {s : Shared} {Q : VK} {us : List Value} {vs : List V} (F : FnG X.prog X.w X.K X.mg X.base CX k f fd ps sp)
    (hr : RoomG k X.A) (hb : Binds X.K fd ps ds) (hd : Vals dvs ds) (hx : Passes CX X E) (I : Inv X pins σ H s) (r : Vals vs us) (h : sp (vs ++ dvs) H Q E) :
    wpAny (model X.prog X.w) X.A (call (.ref f) us) (EP X pins σ Q) X.xe s := by
  have r2 := r.append hd
  have hl : (us ++ ds).length = ps.length := r2.length.symm.trans (F.len _ _ _ _ h)
  refine wpAny_call (codeAny_mono (F.run X.A X.stack s H ⟨us, []⟩ _ _ Q E hr I.env0 (hb s us I.kIn hl) r2 h) fun r s' hq => ?_)
  match r, hq with
  | .error e, hq => exact hx pins σ H s e s' I hq
  | .ok (.ret u), hq => exact I.after hq
/-- f(e, ..) -/
theorem pe_callG (F : FnG X.prog X.w X.K X.mg X.base CX k f fd ps sp) (hr : RoomG k X.A) (hg : Gl X x) (hm : X.mg x = some (.ref f)) (hk : PySem.W.keepIn X.K (.ref f) = true)
    (hb : Binds X.K fd ps ds) (hd : Vals dvs ds) (hx : Passes CX X E) (ha : PA X (e :: es) t) (hdb : (x == ("__debug__" : Str)) = false := by decide)
    (he : starEach (e :: es) X.env = (false, eval e X.env) :: starEach es X.env := by rfl) (hpl : (backTo pos (starEach es X.env)).any (·.1) = false := by rfl) :
    PE X (.Call (.Name x p) (e :: es) [] pos) (tCall sp dvs E t) :=
  ⟨fun pins s σ H Q I h => wpAny_Call_Name_kw (ld_glob I hg hm (PySem.W.callWith_K (h₀ := X.base) I.ok.mod.kin hk
    (thn (ha.run pos pins s σ H _ I h) fun us s1 ⟨vs, H1, I1, r, q⟩ => ⟨I1.kIn, runG F hr hb hd hx I1 r q⟩) he hpl) hdb)⟩
/-- repr of a list or a tuple of data -/
def rReprD (K : PySem.W.Frag) : List V → Hp → VK → Prop := fun xs H Q => ∃ (a : Addr) (d : PyData), xs = [.ref a] ∧ Dp K H (.ref a) d ∧ d.showable = true ∧ d.hasDict = false ∧ d.depth ≤ 60 ∧ d.shown.length ≤ sizeLine ∧ Q (.str d.shown) H
theorem call_reprD (hr : RoomG k X.A) : CallR X (.builtin "repr") (rReprD X.K) := by
  intro pins s σ H xs us Q I r h
  obtain ⟨a, d, rfl, hd, hs, hn, hdep, hz, q⟩ := h
  obtain ⟨u, rfl, ru⟩ := vals1 r
  obtain rfl : u = Value.ref a := ru
  obtain ⟨as, rd⟩ := Dp.reads I d (.ref a) (.ref a) hd rfl
  have hu := hr.r.units
  exact repr_of_reads' rd hs (PyData.noDict_hsm hn) hr.g (by omega) (fun _ _ e => e) (fun h' u tk hk => ⟨.str d.shown, H, I.kept hk, ⟨u, rfl⟩, q⟩) hz
end
/-- the law's call, from its promise where no repr is under way -/
theorem law_go {P : Program} {w : World} {K : PySem.W.Frag} {mg mb : Str → Option Value} {CX : CXT} {k : Nat} {fa a : Addr} {fd : FuncData} {x : Str} {sp : Sp} {s₁ : Shared} {vs : List Value} {H : Hp}
    (KX : K.In s₁.heap) (hns : s₁.heap.Ns mainGlobals mg) (hb : s₁.heap.Ns builtinsNs mb) (hbb : ∀ x : Str, x ≠ "__name__" → mb x = bootBuiltins x) (hlim : s₁.heap.NoLimit) (hg : s₁.gens = #[])
    (ha : s₁.heap.get? a = some { cls := .type "list", data := .seq vs.toArray }) (hr : RoomG k callerA)
    (F : ∀ base : Heap, K.In base → base.Ns mainGlobals mg → FnG P w K mg base CX k fa fd [x] sp) (hbind : ∀ (s : Shared) (u : Value), BindsTo s fd ⟨[u], []⟩ [(x, u)])
    (hsp : sp [.ref a] H (fun v _ => v = .bl true) fun _ _ _ => False) (hCX : ∀ e s', CX [] H s₁ (fun _ _ _ => False) e s' → False)
    (hO : Only H) (hok : HOk P w H s₁.heap) (hA : ∀ b, H b ≠ none → b = a) (hK : H a ≠ none → K.lookup a = none) :
    codeAny (model P w) callerA (.call (.ref fa) ⟨[.ref a], []⟩) (fun r s' => r = .ok (.ret (.bool true)) ∧ OldK s₁.heap s'.heap ∧ s'.os = s₁.os ∧ AllBare s'.gens) s₁ := by
  have free : ∀ {b : Addr} {o : Obj}, s₁.heap.get? b = some o → (b = a → False) → (hidT s₁.heap H).get? b = some o := fun {b o} e n => hidT_get e (by
    cases q : H b with
    | none => rfl
    | some u => exact (n (hA b (by rw [q]; exact fun z => nomatch z))).elim)
  have nsK : ∀ {b : Addr} {m : Str → Option Value}, s₁.heap.Ns b m → (hidT s₁.heap H).Ns b m := fun {b m} ⟨o, es, ep, e, d, r⟩ => ⟨o, es, ep, free e (fun z => by
    rw [z, ha] at e
    have e' := Option.some.inj e
    rw [← e'] at d
    exact nomatch d), d, r⟩
  have hKb : K.In (hidT s₁.heap H) := fun b o e => hidT_get (KX b o e) (by
    cases q : H b with
    | none => rfl
    | some u =>
      have z : b = a := hA b (by rw [q]; exact fun z => nomatch z)
      rw [z] at e q
      rw [hK (by rw [q]; exact fun z => nomatch z)] at e
      exact nomatch e)
  obtain ⟨mc, l1, l2⟩ := hlim
  have e0 : Env0 P w K mg (hidT s₁.heap H) callerA [] s₁ H :=
    ⟨rfl, ⟨hKb, nsK hns, ⟨mb, nsK hb, hbb⟩, ⟨mc, nsK l1, l2⟩⟩, fun b o e => of_hidT e, Nat.le_of_eq (hidT_size _ _), trivial, fun b hb => absurd (show b ∈ ([] : List Addr) from hb) List.not_mem_nil, hok, .of_eq hg⟩
  refine codeAny_mono ((F _ hKb (nsK hns)).run callerA [] s₁ H ⟨[.ref a], []⟩ [.ref a] [.ref a] _ _ hr e0 (hbind s₁ (.ref a)) (.cons rfl .nil) hsp) fun r s' h => ?_
  match r, h with
  | .error e, h => exact (hCX e s' h).elim
  | .ok (.ret u), h =>
    obtain ⟨v, H', os, bare, un, hok', r', q⟩ := h
    obtain rfl : v = .bl true := q
    obtain rfl : u = Value.bool true := r'
    refine ⟨rfl, OldK.of_keep fun b o e => ?_, os, bare⟩
    cases q : H b with
    | none => exact un.keep b o e q (fun z => absurd (show b ∈ ([] : List Addr) from z) List.not_mem_nil) (fun z => absurd (show b ∈ ([] : List Addr) from z) List.not_mem_nil)
    | some u =>
      rcases hO b with z | ⟨ob, xs, z⟩
      · rw [q] at z
        exact nomatch z
      · obtain ⟨e1, _⟩ := hok b _ z
        obtain ⟨e2, _⟩ := hok' b _ (un.frzs b ob _ z)
        rw [e] at e1
        rw [Option.some.inj e1]
        exact e2
theorem law_callG {P : Program} {w : World} {K : PySem.W.Frag} {mg mb : Str → Option Value} {CX : CXT} {k : Nat} {fa a : Addr} {fd : FuncData} {x : Str} {sp : Sp} {s₁ : Shared} {vs : List Value} {ns : List Int}
    (KX : K.In s₁.heap) (hns : s₁.heap.Ns mainGlobals mg) (hb : s₁.heap.Ns builtinsNs mb) (hbb : ∀ x : Str, x ≠ "__name__" → mb x = bootBuiltins x) (hlim : s₁.heap.NoLimit) (hg : s₁.gens = #[])
    (ha : s₁.heap.get? a = some { cls := .type "list", data := .seq vs.toArray }) (hi : IntsAre vs ns) (hl : ns.length ≤ sizeLine) (hr : RoomG k callerA)
    (F : ∀ base : Heap, K.In base → base.Ns mainGlobals mg → FnG P w K mg base CX k fa fd [x] sp) (hbind : ∀ (s : Shared) (u : Value), BindsTo s fd ⟨[u], []⟩ [(x, u)])
    (hsp : ∀ H : Hp, Only H → SqL K H a (ns.map V.int) → sp [.ref a] H (fun v _ => v = .bl true) fun _ _ _ => False) (hCX : ∀ H e s', CX [] H s₁ (fun _ _ _ => False) e s' → False) :
    codeAny (model P w) callerA (.call (.ref fa) ⟨[.ref a], []⟩) (fun r s' => r = .ok (.ret (.bool true)) ∧ OldK s₁.heap s'.heap ∧ s'.os = s₁.os ∧ AllBare s'.gens) s₁ := by
  have rv := vals_ints hi
  have lenV := hi.length
  cases hk : K.lookup a with
  | some o =>
    have e := (KX a o hk).symm.trans ha
    obtain rfl := Option.some.inj e
    have hO : Only (fun _ => none) := fun _ => .inl rfl
    exact law_go (H := fun _ => none) KX hns hb hbb hlim hg ha hr F hbind
      (hsp _ hO (.inr ⟨_, vs.toArray, _, hk, rfl, rfl, rfl, by rw [List.size_toArray, lenV]; exact hl, by simpa using rv⟩)) (hCX _) hO
      (fun b u z => nomatch (show (none : Option HO) = some u from z)) (fun b z => (z rfl).elim) (fun z => (z rfl).elim)
  | none =>
    let H0 : Hp := fun b => if b = a then some (.frz { cls := .type "list", data := .seq vs.toArray } (.lst (ns.map V.int))) else none
    have at_ : H0 a = some (.frz { cls := .type "list", data := .seq vs.toArray } (.lst (ns.map V.int))) := if_pos rfl
    have off : ∀ b, b ≠ a → H0 b = none := fun b h => if_neg h
    have hO : Only H0 := fun b => by
      by_cases h : b = a
      · rw [h]
        exact .inr ⟨_, _, at_⟩
      · exact .inl (off b h)
    refine law_go (H := H0) KX hns hb hbb hlim hg ha hr F hbind (hsp _ hO (.inl (.inr ⟨_, at_⟩))) (hCX _) hO (fun b u z => ?_) (fun b z => ?_) (fun _ => hk)
    · by_cases h : b = a
      · rw [h, at_] at z
        obtain rfl := Option.some.inj z
        rw [h]
        exact ⟨ha, by rw [List.length_map]; exact hl, vs, _, rv, ha⟩
      · rw [off b h] at z
        exact nomatch z
    · by_cases h : b = a
      · exact h
      · exact (z (off b h)).elim
/-- the end of a law, over a head by facts -/
theorem walkG {l : PySem.W.OpenLaw} {n k : Nat} {q : Program} {loose : List Str} {XP : (Str → Option Value) → Heap → Prop} {YP : World → Heap → Prop} {d : DefRec} {CX : CXT} {x : Str}
    (hn : l.most = some n) (hn2 : n ≤ sizeLine) (hdf : d.params.defaults = []) (hr : RoomG k callerA)
    (F : ∀ (w : World) (mg : Str → Option Value) (fa : Addr) (h : Heap), YP w h → h.Ns mainGlobals mg → mg d.name = some (.ref fa) →
      ∃ (K : PySem.W.Frag) (fd : FuncData) (sp : Sp), K.In h ∧ (∀ (s : Shared) (u : Value), BindsTo s fd ⟨[u], []⟩ [(x, u)]) ∧
        (∀ (H : Hp) (a : Addr) (ns : List Int), ns.length ≤ n → Only H → SqL K H a (ns.map V.int) → sp [.ref a] H (fun v _ => v = .bl true) fun _ _ _ => False) ∧
        ∀ base : Heap, K.In base → base.Ns mainGlobals mg → FnG l.prog w K mg base CX k fa fd [x] sp)
    (hCX : ∀ (H : Hp) (s : Shared) (e : Value) (s' : Shared), CX [] H s (fun _ _ _ => False) e s' → False) :
    PySem.W.WalkO q loose XP YP l.row.toRowW d [] (fun f vs => PySem.call f vs) := by
  refine Att.attach_call hn hdf fun w s₀ s₁ mg mb fa o pm cd doc a vs ns G Y ho hd hcd hmg hobj hints hlen hg => ?_
  obtain ⟨K, fd, sp, KX, hb, hsp, hF⟩ := F w mg fa _ Y G.T.g hmg
  exact law_callG KX G.T.g G.T.b G.T.builtins G.T.nolimit hg hobj hints (Nat.le_trans hlen hn2) hr hF hb (fun H hO hS => hsp H a ns hlen hO hS) fun H e s' => hCX H s₁ e s'
end Gu

set_option Elab.async false
set_option linter.all false
set_option maxRecDepth 100000
set_option maxHeartbeats 4000000
/-! Own layer: defs, methods, makers and properties by their names. -/
namespace Ex
open PySem PySem.Spec PyProof.Rows L2 Gu
section
variable (P : Program) (w : World) (K : PySem.W.Frag) (mg : Str → Option Value) (base : Heap)
/-- the module's def x keeps sp -/
structure Df (k : Nat) (x : Str) (ps : List Str) (sp : Sp) : Prop where
  ex : ∃ fd, FnOk P w K mg base CX0 k (He.ga K x) fd ps sp ∧ Binds K fd ps []
  gl : mg x = some (.ref (He.ga K x))
  kp : PySem.W.keepIn K (.ref (He.ga K x)) = true
structure DfG (k : Nat) (x : Str) (ps : List Str) (sp : Sp) : Prop where
  ex : ∃ fd, FnG P w K mg base CX0 k (He.ga K x) fd ps sp ∧ Binds K fd ps []
  gl : mg x = some (.ref (He.ga K x))
  kp : PySem.W.keepIn K (.ref (He.ga K x)) = true
/-- .. called by keywords ks alone; j: the places of the parameters among the keywords -/
structure DfK (k : Nat) (x : Str) (ps ks : List Str) (j : List Nat) (sp : Sp) : Prop where
  ex : ∃ fd, FnOk P w K mg base CX0 k (He.ga K x) fd ps sp ∧ ∀ (s : Shared) (ws : List Value), ws.length = ks.length → BindsTo s fd ⟨[], ks.zip ws⟩ (ps.zip (j.filterMap fun i => ws[i]?))
  gl : mg x = some (.ref (He.ga K x))
  kp : PySem.W.keepIn K (.ref (He.ga K x)) = true
structure Mf (k : Nat) (c m : Str) (ps : List Str) (sp : Sp) : Prop where
  ex : ∃ fd, FnOk P w K mg base CX0 k (He.ma K (He.ga K c) m) fd ps sp ∧ Binds K fd ps []
  cl : Cls K (He.ga K c)
  me : Meth K (He.ga K c) m (He.ma K (He.ga K c) m)
structure Pf (k : Nat) (c m : Str) (sp : Sp) : Prop where
  cl : Cls K (He.ga K c)
  ex : ∃ (p g : Addr) (fd : FuncData), PropOf K (He.ga K c) m p g ∧ FnOk P w K mg base CX0 k g fd ["self"] sp ∧ Binds K fd ["self"] []
structure Kf (k : Nat) (c : Str) (ps : List Str) (sp : Sp) : Prop where
  ex : ∃ fd, FnOk P w K mg base CX0 k (He.ma K (He.ga K c) "__init__") fd ps sp ∧ Binds K fd ps []
  gl : mg c = some (.ref (He.ga K c))
  mkr : Mk K (He.ga K c) (He.ma K (He.ga K c) "__init__")
end
section
variable {X : Cx} {k j : Nat} {x c m : Str} {ps ks : List Str} {ji : List Nat} {sp : Sp} {p pos apos : Pos} {e o : Expr} {es : List Expr} {kws : List Keyword} {t tk : TA} {ta : TE}
theorem pcall (D : Df X.prog X.w X.K X.mg X.base k x ps sp) (hr : Room j X.A) (ha : PA X (e :: es) t) (hj : k ≤ j := by decide) (hg : Gl X x := by rfl) (hdb : (x == ("__debug__" : Str)) = false := by decide)
    (he : starEach (e :: es) X.env = (false, eval e X.env) :: starEach es X.env := by rfl) (hpl : (backTo pos (starEach es X.env)).any (·.1) = false := by rfl) :
    PE X (.Call (.Name x p) (e :: es) [] pos) (tCall sp [] E0 t) := by
  obtain ⟨fd, F, b⟩ := D.ex
  exact pe_call F (hr.mono hj) hg D.gl D.kp b .nil pass0 ha hdb he hpl
theorem pcallG (D : DfG X.prog X.w X.K X.mg X.base k x ps sp) (hr : RoomG j X.A) (ha : PA X (e :: es) t) (hj : k ≤ j := by decide) (hg : Gl X x := by rfl) (hdb : (x == ("__debug__" : Str)) = false := by decide)
    (he : starEach (e :: es) X.env = (false, eval e X.env) :: starEach es X.env := by rfl) (hpl : (backTo pos (starEach es X.env)).any (·.1) = false := by rfl) :
    PE X (.Call (.Name x p) (e :: es) [] pos) (tCall sp [] E0 t) := by
  obtain ⟨fd, F, b⟩ := D.ex
  exact pe_callG F (hr.mono hj) hg D.gl D.kp b .nil pass0 ha hdb he hpl
def tKw (sp : Sp) (n : Nat) (j : List Nat) (tk : TA) : TE := fun σ H Q => tk σ H fun zs H2 => zs.length = n ∧ sp (j.filterMap fun i => zs[i]?) H2 Q E0
theorem vals_pick {zs : List V} {ws : List Value} (r : Vals zs ws) : ∀ j : List Nat, Vals (j.filterMap fun i => zs[i]?) (j.filterMap fun i => ws[i]?)
  | [] => .nil
  | i :: j => by
    rw [List.filterMap_cons, List.filterMap_cons]
    cases e : zs[i]? with
    | none =>
      rw [r.none_of e]
      exact vals_pick r j
    | some z =>
      obtain ⟨u, hu, ru⟩ := r.get e
      rw [hu]
      exact .cons ru (vals_pick r j)
theorem pcallK (D : DfK X.prog X.w X.K X.mg X.base k x ps ks ji sp) (hr : Room j X.A) (hkw : PK X kws tk) (hj : k ≤ j := by decide) (hg : Gl X x := by rfl)
    (hall : (backToKw pos (keywordEach kws X.env)).all (·.1.isSome) = true := by rfl) (hks : (backToKw pos (keywordEach kws X.env)).filterMap (·.1) = ks := by rfl)
    (hdb : (x == ("__debug__" : Str)) = false := by decide)
    (hpl : ((backTo pos (starEach [] X.env)).any (·.1) || (backToKw pos (keywordEach kws X.env)).any (·.1.isNone)) = false := by rfl) :
    PE X (.Call (.Name x p) [] kws pos) (tKw sp ks.length ji tk) := by
  obtain ⟨fd, F, b⟩ := D.ex
  refine ⟨fun pins s σ H Q I h => wpAny_Call_Name_kw (ld_glob I hg D.gl ?_ hdb)⟩
  refine PySem.W.callWith_KW0 (h₀ := X.base) I.ok.mod.kin D.kp hall (thn (hkw.run pos pins s σ H _ I h) fun ws s2 ⟨zs, H2, I2, rz, l2, q2⟩ => ⟨I2.kIn, ?_⟩) hpl
  rw [hks]
  refine wpAny_call (codeAny_mono (F.run X.A X.stack s2 H2 ⟨[], ks.zip ws⟩ _ _ Q E0 (hr.mono hj) I2.env0 (b s2 ws (rz.length.symm.trans l2)) (vals_pick rz ji) q2) fun r s' hq => ?_)
  match r, hq with
  | .ok (.ret u), hq => exact I2.after hq
theorem pmeth {pl : Sem Bool} (D : Mf X.prog X.w X.K X.mg X.base k c m ps sp) (hr : Room j X.A) (he : PE X o ta) (ha : PA X (e :: es) t) (hj : k ≤ j := by decide)
    (hst : starEach (e :: es) X.env = (false, eval e X.env) :: starEach es X.env := by rfl) (hpl : (backTo pos (starEach es X.env)).any (·.1) = false := by rfl)
    (ht : eval (.Call (.Attribute o m apos) (e :: es) [] pos) X.env = (do
      let ov ← eval o X.env
      standAt apos.atName
      let (f, first) ← holding [ov] (getMethod ov m pl)
      callWith pos f first (backTo pos (starEach (e :: es) X.env)) (backToKw pos (keywordEach [] X.env))) := by rfl) :
    PE X (.Call (.Attribute o m apos) (e :: es) [] pos) (tMeth (He.ga X.K c) m sp [] E0 ta t) := by
  obtain ⟨fd, F, b⟩ := D.ex
  exact pe_meth he D.cl D.me F (hr.mono hj) b .nil pass0 ha hst hpl ht
theorem pmeth0 {pl : Sem Bool} (D : Mf X.prog X.w X.K X.mg X.base k c m ps sp) (hr : Room j X.A) (he : PE X o ta) (hj : k ≤ j := by decide)
    (ht : eval (.Call (.Attribute o m apos) [] [] pos) X.env = (do
      let ov ← eval o X.env
      standAt apos.atName
      let (f, first) ← holding [ov] (getMethod ov m pl)
      callWith pos f first (backTo pos (starEach [] X.env)) (backToKw pos (keywordEach [] X.env))) := by rfl) :
    PE X (.Call (.Attribute o m apos) [] [] pos) (tMeth (He.ga X.K c) m sp [] E0 ta tNil) := by
  obtain ⟨fd, F, b⟩ := D.ex
  exact pe_meth0 he D.cl D.me F (hr.mono hj) b .nil pass0 ht
theorem pprop (D : Pf X.prog X.w X.K X.mg X.base k c m sp) (hr : Room j X.A) (he : PE X o ta) (hj : k + 1 ≤ j := by decide) (hab : attributeBase o m X.env (eval o X.env) = eval o X.env := by rfl) :
    PE X (.Attribute o m pos) (tProp (He.ga X.K c) sp [] E0 ta) := by
  obtain ⟨p, g, fd, hp, F, b⟩ := D.ex
  exact pe_prop he D.cl hp F (hr.mono hj) b .nil pass0 hab
theorem pmake (D : Kf X.prog X.w X.K X.mg X.base k c ps sp) (hr : Room j X.A) (ha : PA X (e :: es) t) (hj : k + 1 ≤ j := by decide) (hg : Gl X c := by rfl) (hdb : (c == ("__debug__" : Str)) = false := by decide)
    (he : starEach (e :: es) X.env = (false, eval e X.env) :: starEach es X.env := by rfl) (hpl : (backTo pos (starEach es X.env)).any (·.1) = false := by rfl) :
    PE X (.Call (.Name c p) (e :: es) [] pos) (tMake (He.ga X.K c) sp [] E0 t) := by
  obtain ⟨fd, F, b⟩ := D.ex
  exact pe_make D.mkr F (hr.mono hj) hg D.gl b .nil pass0 ha hdb he hpl
end
end Ex

set_option Elab.async false
set_option linter.all false
set_option maxRecDepth 100000
set_option maxHeartbeats 4000000
/-! Own layer: data of any depth, dicts among it, as repr shows it. -/
namespace Ex
open PySem PySem.Spec PyProof.Rows L2 Gu
mutual
inductive Dq (K : PySem.W.Frag) (H : Hp) : V → PyData → Prop
  | non : Dq K H .non .none
  | bl (b : Bool) : Dq K H (.bl b) (.bool b)
  | int (i : Int) : Dq K H (.int i) (.int i)
  | str (x : Str) : Dq K H (.str x) (.str x)
  | lst {a : Addr} {xs : List V} {ds : List PyData} : SqL K H a xs → DqAll K H xs ds → Dq K H (.ref a) (.list ds)
  | tup {a : Addr} {xs : List V} {ds : List PyData} : SqT K H a xs → DqAll K H xs ds → Dq K H (.ref a) (.tuple ds)
  | dct {a : Addr} {kvs : List (Key × V)} {ds : List (PyData × PyData)} : H a = some (.dK kvs) → DqAll K H (kvs.map fun p => kV p.1) (ds.map (·.1)) → DqAll K H (kvs.map (·.2)) (ds.map (·.2)) → Dq K H (.ref a) (.dict ds)
inductive DqAll (K : PySem.W.Frag) (H : Hp) : List V → List PyData → Prop
  | nil : DqAll K H [] []
  | cons {v : V} {vs : List V} {d : PyData} {ds : List PyData} : Dq K H v d → DqAll K H vs ds → DqAll K H (v :: vs) (d :: ds)
end
/-- the table of modules stands in the written part: no list lies there -/
def SysOk (K : PySem.W.Frag) : Prop := ∃ o, K.lookup sysModules = some o ∧ o.cls ≠ .type "list"
section
variable {X : Cx} {pins : List (Addr × Obj)} {σ : L2.St} {H : Hp} {s : Shared}
theorem key_rel {k : Key} {v : Value} (h : keyIs k v = true) : RelV (kV k) v := by
  rcases keyIs_shape h with ⟨i, t, rfl, rfl⟩ | ⟨x, t, rfl, rfl⟩
  · exact ⟨t, rfl⟩
  · exact ⟨t, rfl⟩
theorem not_sys {a : Addr} {o : Obj} (hs : SysOk X.K) (I : Inv X pins σ H s) (ho : s.heap.get? a = some o) (hc : o.cls = .type "list") : a ≠ sysModules := fun z => by
  obtain ⟨u, e, n⟩ := hs
  have h2 := I.kIn _ _ e
  rw [z, h2] at ho
  rw [Option.some.inj ho] at n
  exact n hc
theorem pairs_rel {es : List DictEntry} {vs : List (Key × Value)} (h : Pairs (mixKind X.prog X.w) es vs) : ∀ {kvs : List (Key × V)}, KV kvs vs → Vals (kvs.map fun p => kV p.1) (es.map (·.key)) ∧ Vals (kvs.map (·.2)) (es.map (·.val)) := by
  induction h with
  | nil =>
    intro kvs r
    cases r
    exact ⟨.nil, .nil⟩
  | @cons e kv es vs h1 h2 h3 ih =>
    intro kvs r
    cases r with
    | @cons p _ l _ r1 r2 =>
      obtain ⟨i1, i2⟩ := ih r2
      have k1 : RelV (kV p.1) e.key := by
        rw [r1.1]
        exact key_rel h1
      have k2 : RelV p.2 e.val := by
        rw [h2]
        exact r1.2
      exact ⟨.cons k1 i1, .cons k2 i2⟩
mutual
theorem Dq.reads (hs : SysOk X.K) (I : Inv X pins σ H s) : ∀ {v : V} {d : PyData}, Dq X.K H v d → ∀ u, RelV v u → ∃ as, Reads s.heap u d as ∧ sysModules ∉ as
  | _, _, .non, u, r => by
    cases r
    exact ⟨_, Reads.none, List.not_mem_nil⟩
  | _, _, .bl b, u, r => by
    cases r
    exact ⟨_, Reads.bool b, List.not_mem_nil⟩
  | _, _, .int i, u, r => by
    obtain ⟨t, rfl⟩ := r
    exact ⟨_, Reads.int i t, List.not_mem_nil⟩
  | _, _, .str x, u, r => by
    obtain ⟨t, rfl⟩ := r
    exact ⟨_, Reads.str x t, List.not_mem_nil⟩
  | _, _, .lst (a := a) hq ha, u, r => by
    cases r
    obtain ⟨its, rv, ⟨o, n, ho, hc, _, hd⟩, _⟩ := I.list hq
    obtain ⟨as, hr, na⟩ := Dq.readsAll hs I ha its rv
    refine ⟨_, Reads.list ho hc hd hr, fun hm => ?_⟩
    rcases List.mem_cons.mp hm with z | z
    · exact not_sys hs I ho hc z.symm
    · exact na z
  | _, _, .tup (a := a) hq ha, u, r => by
    cases r
    obtain ⟨its, rv, ⟨o, ho, hc, n, hd⟩, _⟩ := I.tuple hq
    obtain ⟨as, hr, na⟩ := Dq.readsAll hs I ha its rv
    exact ⟨_, Reads.tuple ho hc hd hr, na⟩
  | _, _, .dct (a := a) (kvs := kvs) hq h1 h2, u, r => by
    cases r
    obtain ⟨_, ns, vs, rk, o, es, ep, ho, hx, hd, _, hp, _⟩ := (show ObjOk X.prog X.w H s.heap a (.dK kvs) from I.hok a _ hq)
    obtain ⟨r1, r2⟩ := pairs_rel hp rk
    obtain ⟨as, q1, n1⟩ := Dq.readsAll hs I h1 _ r1
    obtain ⟨bs, q2, n2⟩ := Dq.readsAll hs I h2 _ r2
    refine ⟨_, Reads.dict ho hx.1 hd q1 q2, fun hm => ?_⟩
    rcases List.mem_append.mp hm with z | z
    · rcases List.mem_cons.mp z with z | z
      · rw [← z, beq_self_eq_true] at ns
        cases ns
      · exact n1 z
    · exact n2 z
theorem Dq.readsAll (hs : SysOk X.K) (I : Inv X pins σ H s) : ∀ {vs : List V} {ds : List PyData}, DqAll X.K H vs ds → ∀ us : List Value, Vals vs us → ∃ as, ReadsAll s.heap us ds as ∧ sysModules ∉ as
  | _, _, .nil, us, r => by
    cases r
    exact ⟨_, ReadsAll.nil, List.not_mem_nil⟩
  | _, _, .cons h1 h2, us, r => by
    cases r with
    | cons r1 r2 =>
      obtain ⟨as, q1, n1⟩ := Dq.reads hs I h1 _ r1
      obtain ⟨bs, q2, n2⟩ := Dq.readsAll hs I h2 _ r2
      refine ⟨_, ReadsAll.cons q1 q2, fun hm => ?_⟩
      rcases List.mem_append.mp hm with z | z
      · exact n1 z
      · exact n2 z
end
end
section
variable {X : Cx} {k : Nat}
/-- repr of any data -/
def rReprQ (K : PySem.W.Frag) : List V → Hp → VK → Prop := fun xs H Q => ∃ (v : V) (d : PyData), xs = [v] ∧ Dq K H v d ∧ d.showable = true ∧ d.depth ≤ 60 ∧ d.shown.length ≤ sizeLine ∧ Q (.str d.shown) H
theorem call_reprQ (hr : RoomG k X.A) (hs : SysOk X.K) : CallR X (.builtin "repr") (rReprQ X.K) := by
  intro pins s σ H xs us Q I r h
  obtain ⟨v, d, rfl, hd, hsh, hdep, hz, q⟩ := h
  obtain ⟨u, rfl, ru⟩ := vals1 r
  obtain ⟨as, rd, na⟩ := Dq.reads hs I hd u ru
  have hu := hr.r.units
  cases hd with
  | non =>
    cases ru
    exact PySem.P.repr_of_none ⟨.str _, H, I.tok _, ⟨_, rfl⟩, by simpa only [PyData.shown] using q⟩
  | bl b =>
    cases ru
    exact PySem.P.repr_of_bool ⟨.str _, H, I.tok _, ⟨_, rfl⟩, by simpa only [PyData.shown] using q⟩
  | int i =>
    obtain ⟨t, rfl⟩ := ru
    exact PySem.P.repr_of_int (by simpa [PyData.showable] using hsh) ⟨.str _, H, I.tok _, ⟨_, rfl⟩, by simpa only [PyData.shown] using q⟩
  | str x =>
    obtain ⟨t, rfl⟩ := ru
    exact PySem.P.repr_of_str ⟨.str _, H, I.tok _, ⟨_, rfl⟩, by simpa only [PyData.shown] using q⟩ (by simpa only [PyData.shown] using hz)
  | @lst a xs ds hq ha =>
    obtain rfl : u = Value.ref a := ru
    exact repr_of_reads' rd hsh (fun _ => na) hr.g (by omega) (fun _ _ e => e) (fun h' u tk hk => ⟨.str _, H, I.kept hk, ⟨u, rfl⟩, q⟩) hz
  | @tup a xs ds hq ha =>
    obtain rfl : u = Value.ref a := ru
    exact repr_of_reads' rd hsh (fun _ => na) hr.g (by omega) (fun _ _ e => e) (fun h' u tk hk => ⟨.str _, H, I.kept hk, ⟨u, rfl⟩, q⟩) hz
  | @dct a kvs ds hq h1 h2 =>
    obtain rfl : u = Value.ref a := ru
    exact repr_of_reads' rd hsh (fun _ => na) hr.g (by omega) (fun _ _ e => e) (fun h' u tk hk => ⟨.str _, H, I.kept hk, ⟨u, rfl⟩, q⟩) hz
/-- x is not True, x is not False, of any scalar -/
def rNotBA : R2 := fun x y H Q => ∃ b : Bool, y = .bl b ∧ ((∃ a : Bool, x = .bl a ∧ Q (.bl (!decide (a = b))) H) ∨ (∃ i : Int, x = .int i ∧ Q (.bl true) H))
theorem op_notBA : OpR X (compareOp .IsNot) rNotBA := by
  intro pins s σ H x y v u Q I rx ry h
  obtain ⟨b, rfl, h⟩ := h
  rcases h with ⟨a, rfl, q⟩ | ⟨i, rfl, q⟩
  · exact op_notBl pins s σ H _ _ v u Q I rx ry ⟨a, b, rfl, rfl, q⟩
  · cases (show u = Value.bool b from ry)
    obtain ⟨t, rfl⟩ := (show ∃ t, v = Value.int i t from rx)
    exact wpAny_isNot_other rfl (fun z => nomatch z) ⟨.bl true, H, I, rfl, q⟩
end
end Ex

set_option Elab.async false
set_option linter.all false
set_option maxRecDepth 100000
set_option maxHeartbeats 4000000
namespace K19
open PySem PySem.Spec PyProof.Rows L2 Gu Ex
def top (i : Nat) : Stmt := PySem.Challenge.pw_exactroom_k19_names_and_numbers_judged.main.body.getD i (.Pass ⟨0, 0, 0, 0⟩)
abbrev FnP (K : PySem.W.Frag) (x qual : Str) (st : Stmt) (f : Addr) (fd : FuncData) : Prop := FunD K x qual (defArgs st) (defBody st) (defScope st) [] [] f fd
def letters : Str := "abcdefghijklmnopqrstuvwxyz"
/-- what the top has left -/
structure Tx (K : PySem.W.Frag) (mg : Str → Option Value) : Prop where
  n_len : mg "len" = none
  n_isinstance : mg "isinstance" = none
  n_int : mg "int" = none
  n_bool : mg "bool" = none
  n_str : mg "str" = none
  n_range : mg "range" = none
  n_divmod : mg "divmod" = none
  n_abs : mg "abs" = none
  n_max : mg "max" = none
  n_min : mg "min" = none
  n_all : mg "all" = none
  n_repr : mg "repr" = none
  g_Sizes : mg "Sizes" = some (.ref (He.ga K "Sizes"))
  rd : ClX.CRead K (He.ga K "Sizes") (.type "type")
  cC : ∃ u, ClX.CVal K (He.ga K "Sizes") (.type "type") "MAX_CELLS" (.int 1000000000000) u
  gL : ∃ t, mg "LETTERS" = some (.str letters t)
  gN : ∃ t, mg "MAX_NAME" = some (.int 8 t)
  sys : SysOk K
theorem bT {c : Prop} [Decidable c] (h : c) : V.bl (decide c) = V.bl true := congrArg V.bl (decide_eq_true h)
theorem bF {c : Prop} [Decidable c] (h : ¬ c) : V.bl (decide c) = V.bl false := congrArg V.bl (decide_eq_false h)
theorem ifT {c : Bool} {A B : Prop} (h : c = true) (x : A) : if c = true then A else B := by rw [h]; exact iteT x
theorem ifF {c : Bool} {A B : Prop} (h : c = false) (x : B) : if c = true then A else B := by rw [h]; exact iteF x
theorem vT {a b : Int} (h : a = b) : decide (V.int a = V.int b) = true := decide_eq_true (by rw [h])
theorem vF {a b : Int} (h : a ≠ b) : decide (V.int a = V.int b) = false := decide_eq_false fun z => h (V.int.inj z)
theorem same_upd {H : Hp} {p : Addr} {o : HO} (h : H p = none) : Same H (upd H p o) := fun b x e => by
  rw [upd_ne (ne_of_none e h)]
  exact e
/-- values of any kind -/
inductive Any (H : Hp) : V → Prop
  | non : Any H .non
  | bl (b : Bool) : Any H (.bl b)
  | int (i : Int) : Any H (.int i)
  | str (x : Str) : (x.length ≤ 1000 ∧ ∀ c ∈ x.cps.toList, c < 1114112) → Any H (.str x)
  | lst {a : Addr} {xs : List V} : H a = some (.lst xs) → Any H (.ref a)
  | tup {a : Addr} {xs : List V} : H a = some (.tup xs) → Any H (.ref a)
  | dct {a : Addr} {kvs : List (Key × V)} : H a = some (.dK kvs) → Any H (.ref a)
def isI : V → Bool
  | .int _ => true
  | _ => false
def isB : V → Bool
  | .bl _ => true
  | _ => false
def isS : V → Bool
  | .str _ => true
  | _ => false
theorem Any.ty {K : PySem.W.Frag} {H : Hp} {v : V} (h : Any H v) : ∃ T, TyX K H v (.type T) ∧ kitB T "int" = some (isI v || isB v) ∧ kitB T "bool" = some (isB v) ∧ kitB T "str" = some (isS v) := by
  cases h with
  | non => exact ⟨"NoneType", .base .non, (show kitB "NoneType" "int" = some false by decide +kernel), (show kitB "NoneType" "bool" = some false by decide +kernel), (show kitB "NoneType" "str" = some false by decide +kernel)⟩
  | bl b => exact ⟨"bool", .base (.bl b), (show kitB "bool" "int" = some true by decide +kernel), (show kitB "bool" "bool" = some true by decide +kernel), (show kitB "bool" "str" = some false by decide +kernel)⟩
  | int i => exact ⟨"int", .base (.int i), (show kitB "int" "int" = some true by decide +kernel), (show kitB "int" "bool" = some false by decide +kernel), (show kitB "int" "str" = some false by decide +kernel)⟩
  | str x _ => exact ⟨"str", .base (.str x), (show kitB "str" "int" = some false by decide +kernel), (show kitB "str" "bool" = some false by decide +kernel), (show kitB "str" "str" = some true by decide +kernel)⟩
  | lst e => exact ⟨"list", .base (.lst e), (show kitB "list" "int" = some false by decide +kernel), (show kitB "list" "bool" = some false by decide +kernel), (show kitB "list" "str" = some false by decide +kernel)⟩
  | tup e => exact ⟨"tuple", .base (.tup e), (show kitB "tuple" "int" = some false by decide +kernel), (show kitB "tuple" "bool" = some false by decide +kernel), (show kitB "tuple" "str" = some false by decide +kernel)⟩
  | dct e => exact ⟨"dict", .base (.dK e), (show kitB "dict" "int" = some false by decide +kernel), (show kitB "dict" "bool" = some false by decide +kernel), (show kitB "dict" "str" = some false by decide +kernel)⟩
theorem Any.same {H H' : Hp} {v : V} (h : Any H v) (s : Same H H') : Any H' v := by
  cases h with
  | non => exact .non
  | bl b => exact .bl b
  | int i => exact .int i
  | str x l => exact .str x l
  | lst e => exact .lst (s _ _ e)
  | tup e => exact .tup (s _ _ e)
  | dct e => exact .dct (s _ _ e)
def cellsB : V → Bool
  | .int i => decide (1 ≤ i ∧ i ≤ 1000000000000)
  | _ => false
def nameB : V → Bool
  | .str x => decide (1 ≤ x.length ∧ x.length ≤ 8) && x.cps.toList.all fun c => decide (c ∈ letters.cps.toList)
  | _ => false
/-- a comprehension over a text's signs -/
theorem lc_text {x : Str} {g : TG} {tt : TT} {te : TE} {vs : List Nat} {σ : L2.St} {H1 : Hp} {D : Addr} {Qd : Hp → Prop} (Pv : Nat → Hp → Prop) (h0 : Pv 0 (upd H1 D (.lst [])))
    (hs : ∀ i c H, x.cps.toList[i]? = some c → Pv i H → g (.str ⟨#[c]⟩) (wipe σ vs) H fun σ2 H2 => wipe σ2 vs = wipe σ vs ∧ tt σ2 H2 fun b H3 =>
      if b = true then te σ2 H3 fun y H4 => ∃ acc, H4 D = some (.lst acc) ∧ acc.length < sizeLine ∧ Pv (i + 1) (upd H4 D (.lst (acc ++ [y]))) else Pv (i + 1) H3) (hd : ∀ H, Pv x.cps.toList.length H → Qd H) :
    ∃ W : Nat → Nat → Hp → Prop, (∃ m, W 0 m (upd H1 D (.lst []))) ∧ ∀ i m H, W i m H →
      ((Its x).stop i H ∧ Qd H) ∨ ((Its x).go i H ∧ ∃ Nx : Hp → Prop, (∀ H', Nx H' → ∃ m', m' < m ∧ W (i + 1) m' H') ∧ ∀ v H', (Its x).yld i H v H' → g v (wipe σ vs) H' fun σ2 H2 => wipe σ2 vs = wipe σ vs ∧ tt σ2 H2 fun b H3 =>
        if b = true then te σ2 H3 fun y H4 => ∃ acc, H4 D = some (.lst acc) ∧ acc.length < sizeLine ∧ Nx (upd H4 D (.lst (acc ++ [y]))) else Nx H3) := by
  have hsz : x.cps.size = x.cps.toList.length := (Array.length_toList ..).symm
  refine ⟨fun i m H => m = x.cps.size - i ∧ i ≤ x.cps.size ∧ Pv i H, ⟨x.cps.size, by simp, Nat.zero_le _, h0⟩, ?_⟩
  rintro i m H ⟨rfl, hi, p⟩
  by_cases hlt : i < x.cps.size
  · refine .inr ⟨hlt, Pv (i + 1), fun H' p' => ⟨x.cps.size - (i + 1), by omega, rfl, hlt, p'⟩, fun v H' y => ?_⟩
    obtain ⟨rfl, c, hc, rfl⟩ := y
    exact hs i c _ (by rw [Array.getElem?_toList]; exact hc) p
  · have e : i = x.cps.size := by omega
    subst e
    refine .inl ⟨Nat.le_refl _, hd H (by rw [← hsz]; exact p)⟩
section
variable {P : Program} {w : World} {K : PySem.W.Frag} {mg : Str → Option Value} {base : Heap} {f : Addr} {fd : FuncData}
def spInt : Sp := fun vs H Q _ => ∃ v : V, vs = [v] ∧ Any H v ∧ Q (.bl (isI v)) H
theorem sc_is_integer : FnScope ["value"] ["value"] (defScope (top 8)) := ⟨rfl, rfl, rfl, by decide +kernel, rfl, by decide +kernel, by decide +kernel⟩
theorem ok_is_integer (T : Tx K mg) (F : FnP K "is_integer" "is_integer" (top 8) f fd) : FnOk P w K mg base CX0 1 f fd ["value"] spInt := by
  refine F.ok sc_is_integer (fun vs H Q E h => ?_) (fun cdv A outer s H vs Q E hr h => ⟨_, PSs.nox (pss_one (ps_ret (pe_and (pe_callB call_isi (by rfl) T.n_isinstance (by decide +kernel) (pa_cons (pv 0) (pa_cons (pe_bltn (v := .ty "int") (by rfl) T.n_int (by decide +kernel) rfl) pa_nil))) (pe_one (pe_not (pe_callB call_isi (by rfl) T.n_isinstance (by decide +kernel) (pa_cons (pv 0) (pa_cons (pe_bltn (v := .ty "bool") (by rfl) T.n_bool (by decide +kernel) rfl) pa_nil)))))))), ?_⟩)
  · obtain ⟨v, rfl, _⟩ := h
    rfl
  · obtain ⟨v, rfl, hv, q⟩ := h
    obtain ⟨Ty, ty, k1, k2, _⟩ := hv.ty (K := K)
    refine ⟨_, rfl, _, _, _, _, _, rfl, .ty "int", ty, kit_ty k1, _, rfl, ?_⟩
    cases e : (isI v || isB v) with
    | true =>
      refine iteT ⟨_, rfl, _, _, _, _, _, rfl, .ty "bool", ty, kit_ty k2, _, rfl, ?_⟩
      have e2 : (!isB v) = isI v := by cases v <;> first | rfl | cases e
      rw [e2]
      exact q
    | false =>
      have e2 : isI v = false := by cases v <;> first | rfl | cases e
      rw [e2] at q
      exact iteF q
def spCells : Sp := fun vs H Q _ => ∃ v : V, vs = [v] ∧ Any H v ∧ Q (.bl (cellsB v)) H
theorem sc_is_cells : FnScope ["value"] ["value"] (defScope (top 10)) := ⟨rfl, rfl, rfl, by decide +kernel, rfl, by decide +kernel, by decide +kernel⟩
theorem ok_is_cells (T : Tx K mg) (D_is_integer : Df P w K mg base 1 "is_integer" ["value"] spInt) (F : FnP K "is_cells" "is_cells" (top 10) f fd) : FnOk P w K mg base CX0 2 f fd ["value"] spCells := by
  refine F.ok sc_is_cells (fun vs H Q E h => ?_) (fun cdv A outer s H vs Q E hr h => ⟨_, PSs.nox (pss_one (ps_ret (pe_and (pcall D_is_integer hr (pa_cons (pv 0) pa_nil)) (pe_one (pe_chain op_le op_le pe_int (pv 0) (ClX.pe_cval (pe_glob (v := .ref _) rfl T.g_Sizes rfl))))))), ?_⟩)
  · obtain ⟨v, rfl, _⟩ := h
    rfl
  · obtain ⟨v, rfl, hv, q⟩ := h
    obtain ⟨u, cC⟩ := T.cC
    refine ⟨_, rfl, v, rfl, hv, _, rfl, ?_⟩
    cases v with
    | int i =>
      refine iteT ⟨_, rfl, _, _, rfl, rfl, _, rfl, ?_⟩
      by_cases h1 : (1 : Int) ≤ i
      · refine ifT (decide_eq_true h1) ⟨_, _, _, _, rfl, T.rd, cC, _, _, rfl, rfl, ?_⟩
        have e : cellsB (.int i) = decide (i ≤ 1000000000000) := by
          show decide (1 ≤ i ∧ i ≤ 1000000000000) = _
          by_cases h2 : i ≤ 1000000000000
          · rw [decide_eq_true ⟨h1, h2⟩, decide_eq_true h2]
          · rw [decide_eq_false fun z => h2 z.2, decide_eq_false h2]
        rw [e] at q
        exact q
      · have e : cellsB (.int i) = false := decide_eq_false fun z => h1 z.1
        rw [e] at q
        exact ifF (decide_eq_false h1) q
    | _ => exact iteF q
def spName : Sp := fun vs H Q _ => ∃ v : V, vs = [v] ∧ Any H v ∧ ∀ H', Same H H' → Q (.bl (nameB v)) H'
theorem sc_is_name : FnScope ["value", "letter"] ["value"] (defScope (top 9)) := ⟨rfl, rfl, rfl, by decide +kernel, rfl, by decide +kernel, by decide +kernel⟩
theorem ok_is_name (T : Tx K mg) (F : FnP K "is_name" "is_name" (top 9) f fd) : FnOk P w K mg base CX0 1 f fd ["value"] spName := by
  obtain ⟨tl, hLT⟩ := T.gL
  obtain ⟨tn, hMN⟩ := T.gN
  refine F.ok sc_is_name (fun vs H Q E h => ?_) (fun cdv A outer s H vs Q E hr h => ⟨_, PSs.nox (pss_cons (ps_if (PW.pt (pw_or (pt_not (pt_val (pe_callB call_isi (by rfl) T.n_isinstance (by decide +kernel) (pa_cons (pv 0) (pa_cons (pe_bltn (v := .ty "str") (by rfl) T.n_str (by decide +kernel) rfl) pa_nil))))) (pw_or1 (pt_not (pt_chain op_le op_le pe_int (pe_callB call_len_str (by rfl) T.n_len (by decide +kernel) (pa_cons (pv 0) pa_nil)) (pe_glob (v := .int 8) rfl hMN ⟨_, rfl⟩)))))) (pss_one (ps_ret pe_bl)) pss_nil) (pss_one (ps_ret (pe_callB (cr_all rfl) (by rfl) T.n_all (by decide +kernel) (pa_cons (pe_lc (own := [("letter", 1)]) (g := gName 1) rfl sc_is_name.nd (pi_str (pv 0)) (blkOk_by (own := [("letter", 1)]) (N := ["value", "letter"]) (sc := defScope (top 9)) (by decide +kernel)) (fun _ _ _ _ _ => pg_name (i := 1) sc_is_name.nd rfl (Or.inl rfl)) (fun _ _ _ _ _ => pts_nil) (fun _ _ _ _ _ => (pe_cmpR op_in_sign (pv 1) (pe_glob (v := .str letters) rfl hLT ⟨_, rfl⟩) (by rfl)))) pa_nil))))), ?_⟩)
  · obtain ⟨v, rfl, _⟩ := h
    rfl
  · obtain ⟨v, rfl, hv, q⟩ := h
    obtain ⟨Ty, ty, _, _, k3⟩ := hv.ty (K := K)
    have sr : Same H H := fun _ _ e => e
    refine ⟨_, rfl, _, _, _, _, _, rfl, .ty "str", ty, kit_ty k3, _, rfl, ?_⟩
    cases hv with
    | str x hl =>
      have hz : x.length ≤ sizeLine := Nat.le_trans hl.1 (by decide)
      have hl1 := hl.1
      refine iteF ⟨_, rfl, x, rfl, hz, _, _, rfl, rfl, _, rfl, ?_⟩
      by_cases h1 : (1 : Int) ≤ (x.length : Int)
      · refine ifT (decide_eq_true h1) ⟨_, _, rfl, rfl, _, rfl, ?_⟩
        by_cases h2 : (x.length : Int) ≤ 8
        · refine ifF (by rw [decide_eq_true h2]; rfl) ?_
          refine ⟨_, rfl, x, rfl, fun D hD => ?_⟩
          refine lc_text (fun i H' => H' D = some (.lst (((x.cps.toList.take i).map fun c => decide (c ∈ letters.cps.toList)).map V.bl)) ∧ Same H H') ⟨upd_same, same_upd hD⟩ ?_ ?_
          · rintro i c H' hc ⟨hD', sm⟩
            have hi : i < x.cps.toList.length := (List.getElem?_eq_some_iff.mp hc).1
            refine ⟨rfl, _, rfl, c, letters, rfl, rfl, _, hD', small1000 ?_, ?_, fun b o e => ?_⟩
            · rw [List.length_map, List.length_map, List.length_take]
              have : x.cps.toList.length = x.length := Array.length_toList ..
              omega
            · rw [upd_same, List.take_add_one, hc, List.map_append, List.map_append]
              rfl
            · rw [upd_ne (ne_of_none e hD)]
              exact sm b o e
          · rintro H' ⟨hD', sm⟩
            rw [List.take_length] at hD'
            refine ⟨D, _, rfl, SqL.of hD', ?_⟩
            have e : (List.map (fun c => decide (c ∈ letters.cps.toList)) x.cps.toList).all id = nameB (.str x) := by
              show _ = (decide (1 ≤ x.length ∧ x.length ≤ 8) && x.cps.toList.all fun c => decide (c ∈ letters.cps.toList))
              rw [decide_eq_true ⟨by omega, by omega⟩, Bool.true_and, List.all_map]
              rfl
            rw [e]
            exact q H' sm
        · have e : nameB (.str x) = false := by
            show (decide (1 ≤ x.length ∧ x.length ≤ 8) && _) = false
            rw [decide_eq_false fun z => h2 (by omega), Bool.false_and]
          rw [e] at q
          exact ifT (by rw [decide_eq_false h2]; rfl) (q H sr)
      · have e : nameB (.str x) = false := by
          show (decide (1 ≤ x.length ∧ x.length ≤ 8) && _) = false
          rw [decide_eq_false fun z => h1 (by omega), Bool.false_and]
        rw [e] at q
        exact ifF (decide_eq_false h1) ⟨_, rfl, iteT (q H sr)⟩
    | _ => exact iteT (iteT (q H sr))
end
end K19

set_option Elab.async false
set_option linter.all false
set_option maxRecDepth 100000
set_option maxHeartbeats 4000000
namespace K19
open PySem PySem.Spec PyProof.Rows L2 Gu Ex
/-- the drawing list at r -/
def Rng (H : Hp) (r : Addr) : Prop := ∃ a b : Int, H r = some (.lst [.int a, .int b]) ∧ 0 ≤ a ∧ 0 ≤ b ∧ b < 2147483587
/-- only the drawing list at r may have changed -/
def Stp (r : Addr) (H H' : Hp) : Prop := Rng H' r ∧ ∀ b o, b ≠ r → H b = some o → H' b = some o
theorem Stp.trans {r : Addr} {H H1 H2 : Hp} (a : Stp r H H1) (b : Stp r H1 H2) : Stp r H H2 := ⟨b.1, fun c o n e => b.2 c o n (a.2 c o n e)⟩
theorem Stp.refl {r : Addr} {H : Hp} (h : Rng H r) : Stp r H H := ⟨h, fun _ _ _ e => e⟩
/-- the ways of a choice come together: what holds of every value -/
theorem join {α : Type} {G : Prop} (Pc : α → Prop) {R : α → Prop} (h1 : (∀ c, Pc c → R c) → G) (h2 : ∀ c, Pc c → R c) : G := h1 h2
theorem Rng.ne {H : Hp} {r p : Addr} (h : Rng H r) (hp : H p = none) : r ≠ p := fun z => by
  obtain ⟨_, _, e, _⟩ := h
  rw [z, hp] at e
  cases e
theorem Stp.new {r p : Addr} {H H1 : Hp} {o : HO} (a : Stp r H H1) (hp : H1 p = none) : Stp r H (upd H1 p o) := by
  obtain ⟨⟨x, y, e, z⟩, k⟩ := a
  refine ⟨⟨x, y, ?_, z⟩, fun b u n e2 => ?_⟩
  · rw [upd_ne (ne_of_none e hp)]
    exact e
  · rw [upd_ne (ne_of_none (k b u n e2) hp)]
    exact k b u n e2
theorem Stp.free {r p : Addr} {H H1 : Hp} (a : Stp r H H1) (h : H1 p = none) : H p = none := by
  cases e : H p with
  | none => rfl
  | some o =>
    have n : p ≠ r := fun z => (a.1.ne h) z.symm
    rw [a.2 p o n e] at h
    cases h
theorem at_map {ns : List Int} {p : Nat} {x : Int} (h : ns[p]? = some x) : atI (ns.map V.int) (p : Int) = some (.int x) := atI_nat (by rw [List.getElem?_map, h]; rfl)
section
variable {P : Program} {w : World} {K : PySem.W.Frag} {mg : Str → Option Value} {base : Heap} {f : Addr} {fd : FuncData}
def spRng (K : PySem.W.Frag) : Sp := fun vs H Q _ => ∃ (a : Addr) (ns : List Int) (k : Nat), vs = [.ref a, .int k] ∧ SqL K H a (ns.map V.int) ∧ k ≤ 63 ∧ ∀ p H', H p = none → Same H H' → Rng H' p → Q (.ref p) H'
theorem sc__law_rng : FnScope ["_law_script", "_law_k", "_law_cell"] ["_law_script", "_law_k"] (defScope (top 15)) := ⟨rfl, rfl, rfl, by decide +kernel, rfl, by decide +kernel, by decide +kernel⟩
theorem ok_rng (T : Tx K mg) (F : FnP K "_law_rng" "_law_rng" (top 15) f fd) : FnOk P w K mg base CX0 1 f fd ["_law_script", "_law_k"] (spRng K) := by
  refine F.ok sc__law_rng (fun vs H Q E h => ?_) (fun cdv A outer s H vs Q E hr h => ⟨_, PSs.nox (pss_cons (ps_set (i := 2) sc__law_rng.nd rfl (by first | exact Or.inl rfl | exact Or.inr rfl) (pe_ifExp (pt_cmpR op_lt (pv 1) (pe_callB call_len_seq (by rfl) T.n_len (by decide +kernel) (pa_cons (pv 0) pa_nil)) (nomark _)) (pe_callB call_abs (by rfl) T.n_abs (by decide +kernel) (pa_cons (pe_ix ix_list (pv 0) (pv 1) (fun _ _ => rfl)) pa_nil)) pe_int)) (pss_one (ps_ret (pe_lst (pa_cons (pe_callB (call_max2 rfl) (by rfl) T.n_max (by decide +kernel) (pa_cons pe_int (pa_cons (pe_op op_sub (pv 2) (pe_op op_pow pe_int pe_int)) pa_nil))) (pa_cons (pe_op op_add (pe_op op_mod (pe_op op_pow (pe_op op_add (pe_op op_add (pe_op op_mod (pv 2) pe_int) (pe_op op_mul pe_int (pv 1))) pe_int) pe_int) pe_int) pe_int) pa_nil)))))), ?_⟩)
  · obtain ⟨a, ns, k, rfl, _⟩ := h
    rfl
  · obtain ⟨a, ns, k, rfl, hS, hk, q⟩ := h
    refine join (fun c : Int => 0 ≤ c) (R := ?R) (fun tail => ?main) ?tl
    case main =>
      refine ⟨_, rfl, _, rfl, a, _, rfl, .inl hS, _, _, rfl, rfl, _, rfl, ?_⟩
      by_cases hl : (k : Int) < (((ns.map V.int).length : Nat) : Int)
      · have hk2 : k < ns.length := by rw [List.length_map] at hl; omega
        refine ifT (decide_eq_true hl) ?_
        refine ⟨_, rfl, _, rfl, a, _, _, _, rfl, rfl, hS, at_map (List.getElem?_eq_getElem hk2), _, rfl, ?_⟩
        obtain ⟨c, hc, ec⟩ : ∃ c : Int, 0 ≤ c ∧ (if ns[k] < 0 then -ns[k] else ns[k]) = c := ⟨if ns[k] < 0 then -ns[k] else ns[k], by split <;> omega, rfl⟩
        rw [ec]
        exact tail c hc
      · refine ifF (decide_eq_false hl) ?_
        exact tail 0 (by decide)
    case tl =>
      intro c hc
      have c0 := Int.emod_nonneg c (show (2147483543 : Int) ≠ 0 by decide)
      have c1 := Int.emod_lt_of_pos c (show (0 : Int) < 2147483543 by decide)
      refine ⟨_, rfl, _, _, rfl, rfl, ⟨by decide, by decide, by decide⟩, _, _, rfl, rfl, _, _, rfl, ?_⟩
      refine ⟨_, rfl, _, _, rfl, rfl, (by show (0 : Int) < 2147483543; decide), _, rfl, _, _, rfl, rfl, .inl ⟨by decide, by decide⟩, _, _, rfl, rfl, _, _, rfl, rfl, _, _, rfl, rfl, ⟨by decide, by decide, by omega⟩, _, _, rfl, rfl, (by show (0 : Int) < 2147483497; decide), _, _, rfl, rfl, ?_⟩
      refine ⟨(by show 2 ≤ sizeLine; decide), fun p hp => q p _ hp (fun b o e => by rw [upd_ne (ne_of_none e hp)]; exact e) ⟨_, _, upd_same, ?_, ?_, ?_⟩⟩
      · split <;> omega
      · have := Int.emod_nonneg ((c % 2147483543 + 101 * (k : Int) + 7) ^ (2 : Int).toNat) (show (2147483497 : Int) ≠ 0 by decide)
        omega
      · have := Int.emod_lt_of_pos ((c % 2147483543 + 101 * (k : Int) + 7) ^ (2 : Int).toNat) (show (0 : Int) < 2147483497 by decide)
        omega
def spDraw : Sp := fun vs H Q _ => ∃ (r : Addr) (m : Int), vs = [.ref r, .int m] ∧ Rng H r ∧ 1 ≤ m ∧ m ≤ 10 ^ 40 ∧ ∀ d H', 0 ≤ d → d < m → Stp r H H' → Q (.int d) H'
theorem sc__law_draw : FnScope ["_law_rng_here", "_law_many", "_law_mixed", "_law_digit"] ["_law_rng_here", "_law_many"] (defScope (top 16)) := ⟨rfl, rfl, rfl, by decide +kernel, rfl, by decide +kernel, by decide +kernel⟩
theorem ok_draw (T : Tx K mg) (F : FnP K "_law_draw" "_law_draw" (top 16) f fd) : FnOk P w K mg base CX0 1 f fd ["_law_rng_here", "_law_many"] spDraw := by
  refine F.ok sc__law_draw (fun vs H Q E h => ?_) (fun cdv A outer s H vs Q E hr h => ⟨_, PSs.nox (pss_cons (ps_if (pt_cmpR op_gt (pe_ix ix_list (pv 0) pe_int (fun _ _ => rfl)) pe_int (nomark _)) (pss_cons (ps_asg (pe_callB call_divmodW (by rfl) T.n_divmod (by decide +kernel) (pa_cons (pe_ix ix_list (pv 0) pe_int (fun _ _ => rfl)) (pa_cons (pv 1) pa_nil))) (pg_tup (by rfl) (pgs_cons (pg_sub (pv 0) pe_int set_list) (pgs_cons (pg_name (i := 3) sc__law_draw.nd rfl (by first | exact Or.inl rfl | exact Or.inr rfl)) pgs_nil)))) (pss_one (ps_ret (pv 3)))) pss_nil) (pss_cons (ps_asg (pe_op op_mod (pe_op op_add (pe_op op_mul (pe_ix ix_list (pv 0) pe_int (fun _ _ => rfl)) pe_int) pe_int) pe_int) (pg_sub (pv 0) pe_int set_list)) (pss_cons (ps_set (i := 2) sc__law_draw.nd rfl (by first | exact Or.inl rfl | exact Or.inr rfl) (pe_op op_fdivW (pe_op op_mod (pe_op op_mul (pe_ix ix_list (pv 0) pe_int (fun _ _ => rfl)) (pe_ix ix_list (pv 0) pe_int (fun _ _ => rfl))) pe_int) pe_int)) (pss_one (ps_ret (pe_ifExp (pt_cmpR op_lt (pv 1) (pe_op op_pow pe_int pe_int) (nomark _)) (pe_op op_mod (pv 2) (pv 1)) (pe_op op_mod (pe_op op_mul (pe_op op_add (pe_op op_mul (pv 2) pe_int) (pe_ix ix_list (pv 0) pe_int (fun _ _ => rfl))) pe_int) (pv 1)))))))), ?_⟩)
  · obtain ⟨r, m, rfl, _⟩ := h
    rfl
  · obtain ⟨r, m, rfl, ⟨a, b, hR, ha, hb, hb2⟩, m1, m2, q⟩ := h
    have mb : m.natAbs < 2 ^ 200 := by
      have : (10 : Int) ^ 40 < 2 ^ 200 := by decide
      have e : ((2 : Nat) ^ 200 : Nat) = ((2 : Int) ^ 200).natAbs := by decide
      omega
    refine ⟨_, rfl, r, _, _, _, rfl, rfl, SqL.of hR, rfl, _, _, rfl, rfl, _, rfl, ?_⟩
    by_cases h0 : 0 < a
    · refine ifT (decide_eq_true h0) ?_
      refine ⟨_, rfl, r, _, _, _, rfl, rfl, SqL.of hR, rfl, _, rfl, _, _, rfl, ⟨by omega, PyProof.noPylong_of_log2 (Nat.lt_of_lt_of_le (PySem.Flt.log2_lt_of (by decide) mb) (by decide))⟩, fun p hp => ?_⟩
      have nrp : r ≠ p := ne_of_none hR hp
      have hR2 : (upd H p (.tup [.int (a / m), .int (a % m)])) r = some (.lst [.int a, .int b]) := by rw [upd_ne nrp]; exact hR
      refine ⟨p, _, rfl, .inl (.inl upd_same), rfl, _, _, rfl, _, rfl, r, _, _, 0, rfl, rfl, hR2, rfl, _, _, rfl, rfl, ?_⟩
      refine ⟨_, rfl, q _ _ (Int.emod_nonneg _ (by omega)) (Int.emod_lt_of_pos _ (by omega)) ⟨⟨a / m, b, upd_same, Int.ediv_nonneg (by omega) (by omega), hb, hb2⟩, fun c o n e => ?_⟩⟩
      rw [upd_ne n, upd_ne (ne_of_none e hp)]
      exact e
    · refine ifF (decide_eq_false h0) ?_
      have b0 := Int.emod_nonneg (b * 48271 + 10007) (show (2147483587 : Int) ≠ 0 by decide)
      have b1 := Int.emod_lt_of_pos (b * 48271 + 10007) (show (0 : Int) < 2147483587 by decide)
      refine ⟨_, rfl, r, _, _, _, rfl, rfl, SqL.of hR, rfl, _, _, rfl, rfl, .inr ⟨by decide, by decide⟩, _, _, rfl, rfl, _, _, rfl, rfl, (by show (0 : Int) < 2147483587; decide), _, rfl, r, _, _, 1, rfl, rfl, hR, rfl, ?_⟩
      dsimp only
      generalize hB : (b * 48271 + 10007) % 2147483587 = B at *
      have hR2 : (upd H r (.lst [.int a, .int B])) r = some (.lst [.int a, .int B]) := upd_same
      have st : Stp r H (upd H r (.lst [.int a, .int B])) := ⟨⟨a, B, upd_same, ha, b0, b1⟩, fun c o n e => by rw [upd_ne n]; exact e⟩
      refine ⟨_, rfl, r, _, _, _, rfl, rfl, SqL.of hR2, rfl, _, rfl, r, _, _, _, rfl, rfl, SqL.of hR2, rfl, _, _, rfl, rfl, .inl ⟨by omega, by omega⟩, _, _, rfl, rfl, (by show (0 : Int) < 2147483549; decide), _, _, rfl, rfl, wide_div (b := 64) (by decide) (by decide) (by decide) (by decide), ?_⟩
      refine ⟨_, rfl, _, _, rfl, rfl, ⟨by decide, by decide, by decide⟩, _, _, rfl, rfl, _, rfl, ite2 (fun _ => ?_) (fun _ => ?_)⟩
      · exact ⟨_, rfl, _, rfl, _, _, rfl, rfl, (by show (0 : Int) < m; omega), q _ _ (Int.emod_nonneg _ (by omega)) (Int.emod_lt_of_pos _ (by omega)) st⟩
      · refine ⟨_, rfl, _, _, rfl, rfl, .inr ⟨by decide, by decide⟩, _, rfl, r, _, _, _, rfl, rfl, SqL.of hR2, rfl, _, _, rfl, rfl, _, _, rfl, rfl, .inr ⟨by decide, by decide⟩, _, rfl, _, _, rfl, rfl, (by show (0 : Int) < m; omega), ?_⟩
        exact q _ _ (Int.emod_nonneg _ (by omega)) (Int.emod_lt_of_pos _ (by omega)) st
theorem at_of {α : Type} {xs : List α} {d : Int} (h0 : 0 ≤ d) (h1 : d < xs.length) : ∃ v, atI xs d = some v ∧ v ∈ xs := by
  obtain ⟨n, rfl⟩ := Int.eq_ofNat_of_zero_le h0
  have hn : n < xs.length := by omega
  exact ⟨xs[n], atI_nat (List.getElem?_eq_getElem hn), List.getElem_mem hn⟩
def spChoice : Sp := fun vs H Q _ => ∃ (r o : Addr) (xs : List V), vs = [.ref r, .ref o] ∧ Rng H r ∧ H o = some (.lst xs) ∧ o ≠ r ∧ 1 ≤ xs.length ∧ xs.length ≤ 1000 ∧ ∀ v H', v ∈ xs → Stp r H H' → Q v H'
theorem sc__law_choice : FnScope ["_law_rng_here", "_law_options"] ["_law_rng_here", "_law_options"] (defScope (top 17)) := ⟨rfl, rfl, rfl, by decide +kernel, rfl, by decide +kernel, by decide +kernel⟩
theorem ok_choice (T : Tx K mg) (D__law_draw : Df P w K mg base 1 "_law_draw" ["_law_rng_here", "_law_many"] spDraw) (F : FnP K "_law_choice" "_law_choice" (top 17) f fd) : FnOk P w K mg base CX0 2 f fd ["_law_rng_here", "_law_options"] spChoice := by
  refine F.ok sc__law_choice (fun vs H Q E h => ?_) (fun cdv A outer s H vs Q E hr h => ⟨_, PSs.nox (pss_one (ps_ret (pe_ix ix_list (pv 1) (pcall D__law_draw hr (pa_cons (pv 0) (pa_cons (pe_callB call_len_seq (by rfl) T.n_len (by decide +kernel) (pa_cons (pv 1) pa_nil)) pa_nil))) (fun _ _ => rfl)))), ?_⟩)
  · obtain ⟨r, o, xs, rfl, _⟩ := h
    rfl
  · obtain ⟨r, o, xs, rfl, hR, hO, ne, l1, l2, q⟩ := h
    refine ⟨_, rfl, _, rfl, _, rfl, o, _, rfl, .inl (SqL.of hO), r, _, rfl, hR, by omega, ?_, fun d H1 d0 d1 st => ?_⟩
    · have : (1000 : Int) ≤ 10 ^ 40 := by decide
      omega
    · obtain ⟨v, hv, hm⟩ := at_of d0 d1
      exact ⟨o, _, _, v, rfl, rfl, SqL.of (st.2 o _ ne hO), hv, q v H1 hm st⟩
theorem Stp.same {r : Addr} {H H' : Hp} (h : Rng H r) (s : Same H H') : Stp r H H' := by
  obtain ⟨a, b, e, z⟩ := h
  exact ⟨⟨a, b, s _ _ e, z⟩, fun c o _ e => s c o e⟩
theorem Stp.at {r D : Addr} {M H' : Hp} {o : HO} (s : Stp r M H') (hD : M D = none) (n : D ≠ r) : Stp r M (upd H' D o) := by
  obtain ⟨⟨a, b, e, z⟩, k⟩ := s
  refine ⟨⟨a, b, by rw [upd_ne n.symm]; exact e, z⟩, fun c u m h => ?_⟩
  rw [upd_ne (ne_of_none h hD)]
  exact k c u m h
def trues (i : Nat) : List V := (List.replicate i true).map V.bl
theorem trues_more (i : Nat) : trues i ++ [V.bl true] = trues (i + 1) := by
  unfold trues
  rw [List.replicate_succ', List.map_append]
  rfl
theorem trues_len (i : Nat) : (trues i).length = i := by
  unfold trues
  rw [List.length_map, List.length_replicate]
theorem all_trues (i : Nat) : (List.replicate i true).all id = true := by
  rw [List.all_replicate]
  split <;> rfl
end
end K19

set_option Elab.async false
set_option linter.all false
set_option maxRecDepth 100000
set_option maxHeartbeats 4000000
namespace K19
open PySem PySem.Spec PyProof.Rows L2 Gu Ex
/-- a short plain text -/
def Wd (n : Nat) (x : Str) : Prop := x.length ≤ n ∧ ∀ c ∈ x.cps.toList, c < 128
theorem Wd.mono {n m : Nat} {x : Str} (h : Wd n x) (l : n ≤ m) : Wd m x := ⟨Nat.le_trans h.1 l, h.2⟩
theorem wd_cut {n : Nat} {x : Str} (h : Wd n x) (lo hi : Option Int) : Wd n (cutS x lo hi) := by
  refine ⟨Nat.le_trans (cutS_length x lo hi) h.1, fun c hc => h.2 c ?_⟩
  have e : (cutS x lo hi).cps.toList = ((x.cps.toList.drop (HT.sIx x.length 0 lo)).take (HT.sIx x.length x.length hi - HT.sIx x.length 0 lo)) := rfl
  rw [e] at hc
  exact List.mem_of_mem_drop (List.mem_of_mem_take hc)
theorem wd_app {n m : Nat} {x y : Str} (h : Wd n x) (k : Wd m y) : Wd (n + m) (x ++ y) := by
  have e : (x ++ y).cps = x.cps ++ y.cps := rfl
  refine ⟨?_, fun c hc => ?_⟩
  · show (x ++ y).cps.size ≤ n + m
    rw [e, Array.size_append]
    have h1 : x.cps.size ≤ n := h.1
    have h2 : y.cps.size ≤ m := k.1
    omega
  · rw [e, Array.toList_append] at hc
    rcases List.mem_append.mp hc with z | z
    · exact h.2 c z
    · exact k.2 c z
theorem wd_one {c : Nat} (h : c < 128) : Wd 1 ⟨#[c]⟩ := ⟨Nat.le_refl _, fun d hd => by
  have e : d = c := by simpa using hd
  omega⟩
theorem join_flat : ∀ ls : List (List Nat), TL.joinL [] ls = ls.flatten
  | [] => rfl
  | [p] => by
    show p = p ++ [].flatten
    rw [List.flatten_nil, List.append_nil]
  | p :: q :: r => by
    show p ++ ([] ++ TL.joinL [] (q :: r)) = _
    rw [List.nil_append, join_flat (q :: r)]
    rfl
theorem wd_join : ∀ ys : List Str, (∀ y ∈ ys, Wd 1 y) → Wd ys.length (Txt.join Str.empty ys) := by
  intro ys h
  have e : (Txt.join Str.empty ys).cps.toList = (ys.map fun y => y.cps.toList).flatten := by
    rw [TL.join_eq]
    have z := TL.tl_join Str.empty ys
    exact z.trans (join_flat _)
  refine ⟨?_, fun c hc => ?_⟩
  · show (Txt.join Str.empty ys).cps.size ≤ ys.length
    rw [← Array.length_toList, e]
    clear e
    induction ys with
    | nil => exact Nat.le_refl _
    | cons y r ih =>
      have h1 := (h y (List.mem_cons_self ..)).1
      have h2 := ih fun z hz => h z (List.mem_cons_of_mem _ hz)
      have h3 : y.cps.toList.length = y.length := Array.length_toList ..
      rw [List.map_cons, List.flatten_cons, List.length_append, List.length_cons]
      omega
  · rw [e] at hc
    obtain ⟨l, hl, hcl⟩ := List.mem_flatten.mp hc
    obtain ⟨y, hy, rfl⟩ := List.mem_map.mp hl
    exact (h y hy).2 c hcl
section
variable {P : Program} {w : World} {K : PySem.W.Frag} {mg : Str → Option Value} {base : Heap} {f : Addr} {fd : FuncData}
def spWord : Sp := fun vs H Q _ => ∃ r : Addr, vs = [.ref r] ∧ Rng H r ∧ ∀ x H', Wd 30 x → Stp r H H' → Q (.str x) H'
theorem sc__law_word : FnScope ["_law_rng_here", "_law_letters", "_law_word_here", "_law_bent", "_law_at", "_law_odd", "_law_turn"] ["_law_rng_here"] (defScope (top 18)) := ⟨rfl, rfl, rfl, by decide +kernel, rfl, by decide +kernel, by decide +kernel⟩
theorem ok_word (T : Tx K mg) (D__law_draw : Df P w K mg base 1 "_law_draw" ["_law_rng_here", "_law_many"] spDraw) (D__law_choice : Df P w K mg base 2 "_law_choice" ["_law_rng_here", "_law_options"] spChoice)
    (F : FnP K "_law_word" "_law_word" (top 18) f fd) : FnOk P w K mg base CX0 3 f fd ["_law_rng_here"] spWord := by
  refine F.ok sc__law_word (fun vs H Q E h => ?_) (fun cdv A outer s H vs Q E hr h => ⟨_, PSs.nox (pss_cons (ps_set (i := 1) sc__law_word.nd rfl (by first | exact Or.inl rfl | exact Or.inr rfl) pe_str) (pss_cons (ps_set (i := 2) sc__law_word.nd rfl (by first | exact Or.inl rfl | exact Or.inr rfl) (pe_join pe_str (pe_lc (own := [("_law_turn", 6)]) (g := gName 6) rfl sc__law_word.nd (pi_range1 rfl T.n_range (pa_cons (pcall D__law_draw hr (pa_cons (pv 0) (pa_cons pe_int pa_nil))) pa_nil)) (blkOk_by (own := [("_law_turn", 6)]) (N := ["_law_rng_here", "_law_letters", "_law_word_here", "_law_bent", "_law_at", "_law_odd", "_law_turn"]) (sc := defScope (top 18)) (by decide +kernel)) (fun _ _ _ _ _ => pg_name (i := 6) sc__law_word.nd rfl (Or.inl rfl)) (fun _ _ _ _ _ => pts_nil) (fun _ _ _ _ _ => (pe_ix ix_str (pv 1) (pcall D__law_draw hr (pa_cons (pv 0) (pa_cons pe_int pa_nil))) (fun _ _ => rfl)))))) (pss_cons (ps_par (by rfl) sc__law_word.nd (i := 4) (j := 5) rfl rfl (by decide) rfl rfl (pa_cons (pcall D__law_draw hr (pa_cons (pv 0) (pa_cons (pe_op op_add (pe_callB call_len_str (by rfl) T.n_len (by decide +kernel) (pa_cons (pv 2) pa_nil)) pe_int) pa_nil))) (pa_cons (pcall D__law_choice hr (pa_cons (pv 0) (pa_cons (pe_lst (pa_cons pe_str (pa_cons pe_str (pa_cons pe_str (pa_cons pe_str (pa_cons pe_str (pa_cons pe_str (pa_cons pe_str (pa_cons pe_str (pa_cons pe_str (pa_cons pe_str (pa_cons pe_str pa_nil)))))))))))) pa_nil))) pa_nil)) (by rfl)) (pss_cons (ps_set (i := 3) sc__law_word.nd rfl (by first | exact Or.inl rfl | exact Or.inr rfl) (pe_lst (pa_cons (pe_op op_add_str (pe_op op_add_str (pe_slice sl_str (pv 2) po_none (po_some (pv 4))) (pv 5)) (pe_slice sl_str (pv 2) (po_some (pv 4)) po_none)) (pa_cons (pe_op op_add_str (pe_op op_add_str (pe_slice sl_str (pv 2) po_none (po_some (pv 4))) (pv 5)) (pe_slice sl_str (pv 2) (po_some (pe_op op_add (pv 4) pe_int)) po_none)) pa_nil)))) (pss_one (ps_ret (pcall D__law_choice hr (pa_cons (pv 0) (pa_cons (pe_op op_cat (pe_lst (pa_cons (pv 2) (pa_cons (pv 2) (pa_cons (pe_slice sl_str (pv 2) po_none (po_some pe_int)) pa_nil)))) (pv 3)) pa_nil))))))))), ?_⟩)
  · obtain ⟨r, rfl, _⟩ := h
    rfl
  · obtain ⟨r, rfl, hR, q⟩ := h
    have big : (10 : Int) ^ 40 = 10000000000000000000000000000000000000000 := by decide
    -- the word
    refine ⟨⟨_, rfl⟩, _, rfl, r, 11, rfl, hR, by decide, by omega, fun d H1 d0 d1 s1 => ?_⟩
    refine ⟨d, rfl, by omega, by omega, fun D hD => ?_⟩
    have nDr : D ≠ r := (s1.1.ne hD).symm
    refine lc_range (fun i H' => ∃ ys : List Str, H' D = some (.lst (ys.map V.str)) ∧ ys.length = i ∧ (∀ y ∈ ys, Wd 1 y) ∧ Stp r H1 H') ⟨[], upd_same, rfl, fun y hy => absurd hy List.not_mem_nil, (Stp.refl s1.1).new hD⟩ ?_ ?_
    · rintro i H' hi ⟨ys, hD', hl, hw, st⟩
      have hi2 : i < 11 := by omega
      refine ⟨rfl, _, rfl, _, rfl, r, 26, rfl, st.1, by decide, by omega, fun e H2 e0 e1 s2 => ?_⟩
      obtain ⟨c, hc, hm⟩ := at_of (xs := letters.cps.toList) e0 e1
      have c128 : c < 128 := by
        have z : letters.cps.toList.all (fun c => decide (c < 128)) = true := by decide +kernel
        exact of_decide_eq_true (List.all_eq_true.mp z c hm)
      refine ⟨letters, _, c, rfl, rfl, by decide, hc, _, s2.2 D _ nDr hD', small1000 (by rw [List.length_map]; omega), ys ++ [⟨#[c]⟩], ?_, ?_, fun y hy => ?_, (st.trans s2).at hD nDr⟩
      · rw [upd_same, List.map_append]
        rfl
      · rw [List.length_append, hl]
        rfl
      · rcases List.mem_append.mp hy with z | z
        · exact hw y z
        · rw [List.mem_singleton.mp z]
          exact wd_one c128
    · rintro H' ⟨ys, hD', hl, hw, st⟩
      have yl : ys.length ≤ 10 := by omega
      have ww := wd_join ys hw
      have s2 := s1.trans st
      refine ⟨Str.empty, D, ys, rfl, rfl, .inl (SqL.of hD'), ?_, ?_⟩
      · have z : (ys.map (·.length)).sum ≤ ys.length := by
          clear ww hD' hl yl
          induction ys with
          | nil => exact Nat.le_refl _
          | cons y l ih =>
            have h1 := (hw y (List.mem_cons_self ..)).1
            have h2 := ih fun z hz => hw z (List.mem_cons_of_mem _ hz)
            rw [List.map_cons, List.sum_cons, List.length_cons]
            omega
        have z2 : ys.length * Str.empty.length = 0 := by rw [show Str.empty.length = 0 from rfl, Nat.mul_zero]
        rw [z2]
        omega
      · generalize hX : Txt.join Str.empty ys = x at ww
        have wx : Wd 10 x := ww.mono yl
        have xl : x.length ≤ 10 := wx.1
        have xs : x.length ≤ sizeLine := Nat.le_trans xl (by decide)
        -- at, odd
        refine ⟨_, rfl, _, rfl, x, rfl, xs, _, _, rfl, rfl, r, _, rfl, s2.1, by omega, by omega, fun e H2 e0 e1 t2 => ?_⟩
        have s3 := s2.trans t2
        refine ⟨_, rfl, (by show 11 ≤ sizeLine; decide), fun p hp => ?_⟩
        have s4 := s3.new (o := .lst [.str "A", .str "Z", .str "0", .str "9", .str " ", .str "\n", .str "`", .str "{", .str "_", .str "-", .str "."]) hp
        have npr : p ≠ r := (s3.1.ne hp).symm
        refine ⟨r, p, _, rfl, s4.1, upd_same, npr, (by show 1 ≤ 11; decide), (by show 11 ≤ 1000; decide), fun v H3 hv t3 => ?_⟩
        have s5 := s4.trans t3
        obtain ⟨o, rfl, wo⟩ : ∃ o : Str, v = .str o ∧ Wd 1 o := by
          simp only [List.mem_cons, List.not_mem_nil, or_false] at hv
          have k : ∀ o : Str, (decide (o.length ≤ 1) && o.cps.toList.all (fun c => decide (c < 128))) = true → Wd 1 o := fun o h => by
            obtain ⟨h1, h2⟩ := He.ba h
            exact ⟨of_decide_eq_true h1, fun c hc => of_decide_eq_true (List.all_eq_true.mp h2 c hc)⟩
          rcases hv with rfl | rfl | rfl | rfl | rfl | rfl | rfl | rfl | rfl | rfl | rfl <;> exact ⟨_, rfl, k _ (by decide +kernel)⟩
        have ol : o.length ≤ 1 := wo.1
        refine ⟨_, _, rfl, ?_⟩
        have line : ∀ {a b : Str}, a.length ≤ 500 → b.length ≤ 500 → a.length + b.length ≤ sizeLine := fun h1 h2 => Nat.le_trans (Nat.add_le_add h1 h2) (by decide)
        have cl : ∀ lo hi, (cutS x lo hi).length ≤ 10 := fun lo hi => Nat.le_trans (cutS_length x lo hi) xl
        have al : ∀ lo hi, (cutS x lo hi ++ o).length ≤ 500 := fun lo hi => Nat.le_trans (wd_app (wd_cut wx lo hi) wo).1 (by decide)
        refine ⟨_, rfl, _, rfl, e, rfl, x, rfl, xs, _, rfl, _, _, rfl, rfl, line (Nat.le_trans (cl _ _) (by decide)) (Nat.le_trans ol (by decide)), ?_⟩
        refine ⟨_, rfl, _, rfl, e, rfl, x, rfl, xs, _, _, rfl, rfl, line (al _ _) (Nat.le_trans (cl _ _) (by decide)), ?_⟩
        refine ⟨_, rfl, _, rfl, e, rfl, x, rfl, xs, _, rfl, _, _, rfl, rfl, line (Nat.le_trans (cl _ _) (by decide)) (Nat.le_trans ol (by decide)), ?_⟩
        refine ⟨_, rfl, _, rfl, _, _, rfl, rfl, e + 1, rfl, x, rfl, xs, _, _, rfl, rfl, line (al _ _) (Nat.le_trans (cl _ _) (by decide)), ?_⟩
        refine ⟨(by show 2 ≤ sizeLine; decide), fun p2 hp2 => ?_⟩
        have s6 := s5.new (o := .lst [.str (cutS x none (some e) ++ o ++ cutS x (some e) none), .str (cutS x none (some e) ++ o ++ cutS x (some (e + 1)) none)]) hp2
        have n2r : p2 ≠ r := (s5.1.ne hp2).symm
        -- the choice
        refine ⟨_, rfl, _, rfl, _, rfl, _, rfl, 8, rfl, x, rfl, xs, (by show 3 ≤ sizeLine; decide), fun p3 hp3 => ?_⟩
        have s7 := s6.new (o := .lst [.str x, .str x, .str (cutS x none (some 8))]) hp3
        refine ⟨_, rfl, p3, p2, _, _, rfl, rfl, upd_same, (by rw [upd_ne (ne_of_none upd_same hp3)]; exact upd_same), (by show 5 ≤ sizeLine; decide), fun p4 hp4 => ?_⟩
        have s8 := s7.new (o := .lst ([.str x, .str x, .str (cutS x none (some 8))] ++ [.str (cutS x none (some e) ++ o ++ cutS x (some e) none), .str (cutS x none (some e) ++ o ++ cutS x (some (e + 1)) none)])) hp4
        have n4r : p4 ≠ r := (s7.1.ne hp4).symm
        refine ⟨r, p4, _, rfl, s8.1, upd_same, n4r, (by show 1 ≤ 5; decide), (by show 5 ≤ 1000; decide), fun v H9 hv t9 => ?_⟩
        have s9 := s8.trans t9
        simp only [List.cons_append, List.nil_append, List.mem_cons, List.not_mem_nil, or_false] at hv
        rcases hv with rfl | rfl | rfl | rfl | rfl
        · exact q _ _ (wx.mono (by decide)) s9
        · exact q _ _ (wx.mono (by decide)) s9
        · exact q _ _ ((wd_cut wx _ _).mono (by decide)) s9
        · exact q _ _ ((wd_app (wd_app (wd_cut wx _ _) wo) (wd_cut wx _ _)).mono (by decide)) s9
        · exact q _ _ ((wd_app (wd_app (wd_cut wx _ _) wo) (wd_cut wx _ _)).mono (by decide)) s9
def spNumber : Sp := fun vs H Q _ => ∃ r : Addr, vs = [.ref r] ∧ Rng H r ∧ ∀ i H', -(10 ^ 39) ≤ i → i ≤ 10 ^ 39 → Stp r H H' → Q (.int i) H'
theorem sc__law_number : FnScope ["_law_rng_here", "_law_far", "_law_some"] ["_law_rng_here"] (defScope (top 19)) := ⟨rfl, rfl, rfl, by decide +kernel, rfl, by decide +kernel, by decide +kernel⟩
theorem ok_number (T : Tx K mg) (D__law_draw : Df P w K mg base 1 "_law_draw" ["_law_rng_here", "_law_many"] spDraw) (D__law_choice : Df P w K mg base 2 "_law_choice" ["_law_rng_here", "_law_options"] spChoice)
    (F : FnP K "_law_number" "_law_number" (top 19) f fd) : FnOk P w K mg base CX0 3 f fd ["_law_rng_here"] spNumber := by
  refine F.ok sc__law_number (fun vs H Q E h => ?_) (fun cdv A outer s H vs Q E hr h => ⟨_, PSs.nox (pss_cons (ps_set (i := 1) sc__law_number.nd rfl (by first | exact Or.inl rfl | exact Or.inr rfl) (pcall D__law_draw hr (pa_cons (pv 0) (pa_cons (pe_op op_pow pe_int pe_int) pa_nil)))) (pss_cons (ps_set (i := 2) sc__law_number.nd rfl (by first | exact Or.inl rfl | exact Or.inr rfl) (pe_lst (pa_cons pe_int (pa_cons pe_int (pa_cons (pe_un un_neg pe_int) (pa_cons (pe_op op_pow pe_int pe_int) (pa_cons (pe_op op_add (pe_op op_pow pe_int pe_int) pe_int) (pa_cons (pe_op op_sub (pe_op op_pow pe_int pe_int) pe_int) (pa_cons (pe_un un_neg (pe_op op_pow pe_int pe_int)) (pa_cons (pv 1) (pa_cons (pe_un un_neg (pv 1)) (pa_cons (pe_op op_add pe_int (pcall D__law_draw hr (pa_cons (pv 0) (pa_cons (pe_op op_pow pe_int pe_int) pa_nil)))) pa_nil)))))))))))) (pss_one (ps_ret (pcall D__law_choice hr (pa_cons (pv 0) (pa_cons (pe_op op_cat (pv 2) (pe_lst (pa_cons (pe_op op_sub (pcall D__law_draw hr (pa_cons (pv 0) (pa_cons pe_int pa_nil))) pe_int) pa_nil))) pa_nil))))))), ?_⟩)
  · obtain ⟨r, rfl, _⟩ := h
    rfl
  · obtain ⟨r, rfl, hR, q⟩ := h
    have big : (10 : Int) ^ 40 = 10000000000000000000000000000000000000000 := by decide
    have b39 : (10 : Int) ^ 39 = 1000000000000000000000000000000000000000 := by decide
    have p39 : (10 : Int) ^ (39 : Int).toNat = 1000000000000000000000000000000000000000 := by decide
    have p12 : (10 : Int) ^ (12 : Int).toNat = 1000000000000 := by decide
    have pw : CPow 10 12 := ⟨by decide, by decide, by decide⟩
    refine ⟨_, rfl, _, _, rfl, rfl, ⟨by decide, by decide, by decide⟩, r, _, rfl, hR, by decide, by decide, fun d1 H1 a0 a1 s1 => ?_⟩
    refine ⟨_, rfl, _, _, rfl, rfl, pw, _, _, rfl, rfl, pw, _, _, rfl, rfl, _, _, rfl, rfl, pw, _, _, rfl, rfl, _, _, rfl, rfl, pw, _, rfl, _, rfl, _, rfl, _, rfl, _, rfl, _, _, rfl, rfl, pw, r, _, rfl, s1.1, by decide, by decide, fun d2 H2 b0 b1 t2 => ?_⟩
    have s2 := s1.trans t2
    refine ⟨_, _, rfl, rfl, (by show 10 ≤ sizeLine; decide), fun p hp => ?_⟩
    have npr : p ≠ r := (s2.1.ne hp).symm
    have s3 := s2.new (o := .lst [.int 0, .int 1, .int (-1), .int (10 ^ (12 : Int).toNat), .int (10 ^ (12 : Int).toNat + 1), .int (10 ^ (12 : Int).toNat - 1), .int (-(10 ^ (12 : Int).toNat)), .int d1, .int (-d1), .int (1 + d2)]) hp
    refine ⟨_, rfl, _, rfl, _, rfl, r, 100, rfl, s3.1, by decide, by omega, fun d3 H3 c0 c1 t3 => ?_⟩
    have s4 := s3.trans t3
    have hp3 := t3.2 p _ npr upd_same
    refine ⟨_, _, rfl, rfl, (by show 1 ≤ sizeLine; decide), fun p2 hp2 => ?_⟩
    have s5 := s4.new (o := .lst [.int (d3 - 50)]) hp2
    refine ⟨p, p2, _, _, rfl, rfl, (by rw [upd_ne (ne_of_none hp3 hp2)]; exact hp3), upd_same, (by show 11 ≤ sizeLine; decide), fun p4 hp4 => ?_⟩
    have s6 := s5.new (o := .lst ([.int 0, .int 1, .int (-1), .int (10 ^ (12 : Int).toNat), .int (10 ^ (12 : Int).toNat + 1), .int (10 ^ (12 : Int).toNat - 1), .int (-(10 ^ (12 : Int).toNat)), .int d1, .int (-d1), .int (1 + d2)] ++ [.int (d3 - 50)])) hp4
    refine ⟨r, p4, _, rfl, s6.1, upd_same, (s5.1.ne hp4).symm, (by show 1 ≤ 11; decide), (by show 11 ≤ 1000; decide), fun v H9 hv t9 => ?_⟩
    have s9 := s6.trans t9
    simp only [List.cons_append, List.nil_append, List.mem_cons, List.not_mem_nil, or_false] at hv
    rcases hv with rfl | rfl | rfl | rfl | rfl | rfl | rfl | rfl | rfl | rfl | rfl <;> exact q _ _ (by omega) (by omega) s9
/-- a value of any kind, and what repr shows of it -/
def Th (K : PySem.W.Frag) (H : Hp) (v : V) (d : PyData) : Prop := Any H v ∧ Dq K H v d ∧ d.showable = true ∧ d.depth ≤ 60 ∧ d.shown.length ≤ sizeLine
theorem len_int {i : Int} (h1 : -(10 ^ 39) ≤ i) (h2 : i ≤ 10 ^ 39) : i.natAbs.log2 < 1920 ∧ (PyData.shown (.int i)).length ≤ 41 := by
  have b39 : (10 : Int) ^ 39 = 1000000000000000000000000000000000000000 := by decide
  have e : i.natAbs < 10 ^ 40 := by
    have z : (10 : Nat) ^ 40 = 10000000000000000000000000000000000000000 := by decide
    omega
  refine ⟨Nat.lt_of_lt_of_le (PySem.Flt.log2_lt_of (k := 200) (by decide) (Nat.lt_trans e (by decide))) (by decide), ?_⟩
  have z := int_text_length_le10 (k := 40) (by decide) e
  show (Str.ofString (toString i)).length ≤ 41
  rw [PySem.ofString_length]
  exact z
theorem len_str {x : Str} (h : Wd 30 x) : (PyData.shown (.str x)).length ≤ 302 := by
  have z := StrLaws.reprText_len x fun c hc => Nat.lt_trans (h.2 c hc) (by decide)
  have l := h.1
  show (reprText x).length ≤ 302
  omega
theorem line_of {n : Nat} (h : n ≤ 1000) : n ≤ sizeLine := Nat.le_trans h (by decide)
section
variable {K : PySem.W.Frag} {H : Hp}
theorem th_non : Th K H .non .none := ⟨.non, .non, rfl, Nat.zero_le _, by decide +kernel⟩
theorem th_bl (b : Bool) : Th K H (.bl b) (.bool b) := ⟨.bl b, .bl b, rfl, Nat.zero_le _, by cases b <;> decide +kernel⟩
theorem th_int {i : Int} (h1 : -(10 ^ 39) ≤ i) (h2 : i ≤ 10 ^ 39) : Th K H (.int i) (.int i) := by
  obtain ⟨a, b⟩ := len_int h1 h2
  exact ⟨.int i, .int i, decide_eq_true a, Nat.zero_le _, line_of (Nat.le_trans b (by decide))⟩
theorem th_str {x : Str} (h : Wd 30 x) : Th K H (.str x) (.str x) := ⟨.str x ⟨Nat.le_trans h.1 (by decide), fun c hc => Nat.lt_trans (h.2 c hc) (by decide)⟩, .str x, rfl, Nat.zero_le _, line_of (Nat.le_trans (len_str h) (by decide))⟩
theorem th_one {a : Addr} {v : V} {d : PyData} (h : H a = some (.lst [v])) (t : Th K H v d) (l : d.shown.length ≤ 500) (hd : d.depth ≤ 3) : Th K H (.ref a) (.list [d]) := by
  obtain ⟨t1, t2, t3, t4, t5⟩ := t
  refine ⟨.lst h, .lst (SqL.of h) (.cons t2 .nil), ?_, ?_, ?_⟩
  · show (d.showable && true) = true
    rw [t3]
    rfl
  · show max d.depth 0 + 1 ≤ 60
    omega
  · have e := listText_len_le (PyData.shownAll [d])
    show (listText (PyData.shownAll [d])).length ≤ sizeLine
    have z : ((PyData.shownAll [d]).map (·.length)).sum = d.shown.length := by
      show d.shown.length + 0 = _
      rfl
    have z2 : (PyData.shownAll [d]).length = 1 := rfl
    rw [z, z2] at e
    exact line_of (by omega)
theorem th_tup {a : Addr} {v : V} {d : PyData} (h : H a = some (.tup [v])) (t : Th K H v d) (l : d.shown.length ≤ 500) (hd : d.depth ≤ 3) : Th K H (.ref a) (.tuple [d]) := by
  obtain ⟨t1, t2, t3, t4, t5⟩ := t
  refine ⟨.tup h, .tup (SqT.of h) (.cons t2 .nil), ?_, ?_, ?_⟩
  · show (d.showable && true) = true
    rw [t3]
    rfl
  · show max d.depth 0 + 1 ≤ 60
    omega
  · have e := tupleText_len_le (PyData.shownAll [d])
    show (tupleText (PyData.shownAll [d])).length ≤ sizeLine
    have z : ((PyData.shownAll [d]).map (·.length)).sum = d.shown.length := by
      show d.shown.length + 0 = _
      rfl
    have z2 : (PyData.shownAll [d]).length = 1 := rfl
    rw [z, z2] at e
    exact line_of (by omega)
theorem th_nil {a : Addr} (h : H a = some (.lst [])) : Th K H (.ref a) (.list []) := ⟨.lst h, .lst (SqL.of h) .nil, rfl, by decide, by decide +kernel⟩
theorem th_unit {a : Addr} (h : H a = some (.tup [])) : Th K H (.ref a) (.tuple []) := ⟨.tup h, .tup (SqT.of h) .nil, rfl, by decide, by decide +kernel⟩
theorem th_none {a : Addr} (h : H a = some (.dK [])) : Th K H (.ref a) (.dict []) := ⟨.dct h, .dct h .nil .nil, rfl, by decide, by decide +kernel⟩
theorem th_dct {a : Addr} {k : Key} {v : V} {d1 d2 : PyData} (h : H a = some (.dK [(k, v)])) (t1 : Th K H (kV k) d1) (t2 : Th K H v d2) (l1 : d1.shown.length ≤ 400) (l2 : d2.shown.length ≤ 400) (e1 : d1.depth ≤ 3) (e2 : d2.depth ≤ 3) : Th K H (.ref a) (.dict [(d1, d2)]) := by
  obtain ⟨_, a2, a3, a4, a5⟩ := t1
  obtain ⟨_, b2, b3, b4, b5⟩ := t2
  refine ⟨.dct h, .dct h (.cons a2 .nil) (.cons b2 .nil), ?_, ?_, ?_⟩
  · show ((d1.showable && d2.showable) && true) = true
    rw [a3, b3]
    rfl
  · show max (max d1.depth d2.depth) 0 + 1 ≤ 60
    omega
  · have e := dictText_len_le (PyData.shownKv [(d1, d2)])
    show (dictText (PyData.shownKv [(d1, d2)])).length ≤ sizeLine
    have z : ((PyData.shownKv [(d1, d2)]).map (·.length)).sum = d1.shown.length + 2 + d2.shown.length := by
      show (d1.shown ++ ": " ++ d2.shown).length + 0 = _
      rw [strLen_append, strLen_append]
      rfl
    have z2 : (PyData.shownKv [(d1, d2)]).length = 1 := rfl
    rw [z, z2] at e
    exact line_of (by omega)
end
end
end K19

set_option Elab.async false
set_option linter.all false
set_option maxRecDepth 100000
set_option maxHeartbeats 4000000
namespace K19
open PySem PySem.Spec PyProof.Rows L2 Gu Ex
section
variable {P : Program} {w : World} {K : PySem.W.Frag} {mg : Str → Option Value} {base : Heap} {f : Addr} {fd : FuncData}
theorem code_lt {z : String} {c : Nat} (hc : c ∈ (Str.ofString z).cps.toList) : c < 1114112 := by
  have hc2 : c ∈ z.toList.map Char.toNat := by
    rw [← cpsOfBytes_string]
    simpa [Str.ofString] using hc
  obtain ⟨ch, _, rfl⟩ := List.mem_map.mp hc2
  have v : ch.val.toNat < 55296 ∨ (57343 < ch.val.toNat ∧ ch.val.toNat < 1114112) := ch.valid
  show ch.val.toNat < 1114112
  omega
theorem th_text {H : Hp} (z : String) (h : (Str.ofString z).length ≤ 50) : Th K H (.str (Str.ofString z)) (.str (Str.ofString z)) := by
  refine ⟨.str _ ⟨Nat.le_trans h (by decide), fun c hc => code_lt hc⟩, .str _, rfl, Nat.zero_le _, ?_⟩
  have e := StrLaws.reprText_len (Str.ofString z) fun c hc => Nat.lt_trans (code_lt hc) (by decide)
  show (reprText (Str.ofString z)).length ≤ sizeLine
  exact line_of (by omega)
def spThing (K : PySem.W.Frag) : Sp := fun vs H Q _ => ∃ r : Addr, vs = [.ref r] ∧ Rng H r ∧ ∀ v d H', Th K H' v d → Stp r H H' → Q v H'
theorem sc__law_thing : FnScope ["_law_rng_here", "_law_some", "_law_word_here", "_law_number_here"] ["_law_rng_here"] (defScope (top 20)) := ⟨rfl, rfl, rfl, by decide +kernel, rfl, by decide +kernel, by decide +kernel⟩
theorem ok_thing (T : Tx K mg) (D__law_word : Df P w K mg base 3 "_law_word" ["_law_rng_here"] spWord) (D__law_number : Df P w K mg base 3 "_law_number" ["_law_rng_here"] spNumber) (D__law_choice : Df P w K mg base 2 "_law_choice" ["_law_rng_here", "_law_options"] spChoice)
    (F : FnP K "_law_thing" "_law_thing" (top 20) f fd) : FnOk P w K mg base CX0 4 f fd ["_law_rng_here"] (spThing K) := by
  refine F.ok sc__law_thing (fun vs H Q E h => ?_) (fun cdv A outer s H vs Q E hr h => ⟨_, PSs.nox (pss_cons (ps_par (by rfl) sc__law_thing.nd (i := 2) (j := 3) rfl rfl (by decide) rfl rfl (pa_cons (pcall D__law_word hr (pa_cons (pv 0) pa_nil)) (pa_cons (pcall D__law_number hr (pa_cons (pv 0) pa_nil)) pa_nil)) (by rfl)) (pss_cons (ps_set (i := 1) sc__law_thing.nd rfl (by first | exact Or.inl rfl | exact Or.inr rfl) (pe_lst (pa_cons pe_non (pa_cons pe_bl (pa_cons pe_bl (pa_cons (pe_lst pa_nil) (pa_cons pe_dnewK (pa_cons (pe_tup pa_nil) (pa_cons (pe_lst (pa_cons (pv 2) pa_nil)) (pa_cons (pe_tup (pa_cons (pv 2) pa_nil)) (pa_cons (pe_disp (pps_cons (pv 2) pe_int pps_nil) (by rfl) (by rfl) (fun z => by cases z) (by decide)) (pa_cons (pe_lst (pa_cons (pv 3) pa_nil)) (pa_cons (pe_tup (pa_cons (pv 3) pa_nil)) (pa_cons (pe_callTy call_str_int (by rfl) T.n_str (by decide +kernel) (pa_cons (pv 3) pa_nil)) (pa_cons (pe_disp (pps_cons pe_int (pv 2) pps_nil) (by rfl) (by rfl) (fun z => by cases z) (by decide)) pa_nil))))))))))))))) (pss_one (ps_ret (pcall D__law_choice hr (pa_cons (pv 0) (pa_cons (pv 1) pa_nil))))))), ?_⟩)
  · obtain ⟨r, rfl, _⟩ := h
    rfl
  · obtain ⟨r, rfl, hR, q⟩ := h
    refine ⟨_, rfl, r, rfl, hR, fun x H1 wx s1 => ?_⟩
    refine ⟨_, rfl, r, rfl, s1.1, fun i H2 i1 i2 t2 => ?_⟩
    have s2 := s1.trans t2
    obtain ⟨lg, il⟩ := len_int i1 i2
    have il' : (toString i).length ≤ 41 := by
      have z : (Str.ofString (toString i)).length ≤ 41 := il
      rw [PySem.ofString_length] at z
      exact z
    refine ⟨_, _, rfl, ?_⟩
    -- [] {} ()
    refine ⟨Nat.zero_le _, fun p1 h1 => ?_⟩
    have m1 := same_upd (o := .lst []) h1
    intro p2 h2
    have m2 := same_upd (o := .dK []) h2
    refine ⟨Nat.zero_le _, fun p3 h3 => ?_⟩
    have m3 := same_upd (o := .tup []) h3
    -- [word] (word,) {word: 1}
    refine ⟨_, rfl, (by show 1 ≤ sizeLine; decide), fun p4 h4 => ?_⟩
    have m4 := same_upd (o := .lst [.str x]) h4
    refine ⟨_, rfl, (by show 1 ≤ sizeLine; decide), fun p5 h5 => ?_⟩
    have m5 := same_upd (o := .tup [.str x]) h5
    intro p6 h6
    refine ⟨_, rfl, upd_same, [(Sum.inr x, .int 1)], rfl, (by show 1 ≤ 15; decide), ?_⟩
    have m6 : ∀ {G : Hp} {p : Addr} {kvs : List (Key × V)}, G p = none → Same G (upd (upd G p (.dK [])) p (.dK kvs)) := fun {G p kvs} h b o e => by
      rw [upd_ne (ne_of_none e h), upd_ne (ne_of_none e h)]
      exact e
    have n6 := m6 (kvs := mergeK [] [(Sum.inr x, .int 1)]) h6
    -- [number] (number,) str(number) {1: word}
    refine ⟨_, rfl, (by show 1 ≤ sizeLine; decide), fun p7 h7 => ?_⟩
    have m7 := same_upd (o := .lst [.int i]) h7
    refine ⟨_, rfl, (by show 1 ≤ sizeLine; decide), fun p8 h8 => ?_⟩
    have m8 := same_upd (o := .tup [.int i]) h8
    refine ⟨_, rfl, i, rfl, lg, ?_⟩
    intro p9 h9
    refine ⟨_, rfl, upd_same, [(Sum.inl 1, .str x)], rfl, (by show 1 ≤ 15; decide), ?_⟩
    have n9 := m6 (kvs := mergeK [] [(Sum.inl 1, .str x)]) h9
    refine ⟨(by show 13 ≤ sizeLine; decide), fun p0 h0 => ?_⟩
    have m0 := same_upd (o := .lst [.non, .bl true, .bl false, .ref p1, .ref p2, .ref p3, .ref p4, .ref p5, .ref p6, .ref p7, .ref p8, .str (toString i : String), .ref p9]) h0
    have mm := ((((((((m1.trans m2).trans m3).trans m4).trans m5).trans n6).trans m7).trans m8).trans n9).trans m0
    have s3 := Stp.same s2.1 mm
    refine ⟨_, rfl, _, rfl, r, p0, _, rfl, s3.1, upd_same, (fun z => (Rng.ne (Stp.same s2.1 (((((((((m1.trans m2).trans m3).trans m4).trans m5).trans n6).trans m7).trans m8).trans n9))).1 h0) z.symm), (by show 1 ≤ 13; decide), (by show 13 ≤ 1000; decide), fun v H9 hv t9 => ?_⟩
    have s9 := (s2.trans s3).trans t9
    obtain ⟨ra, rb, hr2, _⟩ := s2.1
    have ne : ∀ {G : Hp} {p : Addr}, Same H2 G → G p = none → p ≠ r := fun {G p} m hp z => by
      have := m _ _ hr2
      rw [z, this] at hp
      cases hp
    have k1 : H9 p1 = some (.lst []) := t9.2 p1 _ (ne (Same.refl _) h1) ((((((((((m2).trans m3).trans m4).trans m5).trans n6).trans m7).trans m8).trans n9).trans m0) _ _ upd_same)
    have k2 : H9 p2 = some (.dK []) := t9.2 p2 _ (ne m1 h2) (((((((((m3).trans m4).trans m5).trans n6).trans m7).trans m8).trans n9).trans m0) _ _ upd_same)
    have k3 : H9 p3 = some (.tup []) := t9.2 p3 _ (ne (m1.trans m2) h3) ((((((((m4).trans m5).trans n6).trans m7).trans m8).trans n9).trans m0) _ _ upd_same)
    have k4 : H9 p4 = some (.lst [.str x]) := t9.2 p4 _ (ne ((m1.trans m2).trans m3) h4) (((((((m5).trans n6).trans m7).trans m8).trans n9).trans m0) _ _ upd_same)
    have k5 : H9 p5 = some (.tup [.str x]) := t9.2 p5 _ (ne (((m1.trans m2).trans m3).trans m4) h5) ((((((n6).trans m7).trans m8).trans n9).trans m0) _ _ upd_same)
    have k6 : H9 p6 = some (.dK [(Sum.inr x, .int 1)]) := t9.2 p6 _ (ne ((((m1.trans m2).trans m3).trans m4).trans m5) h6) (((((m7).trans m8).trans n9).trans m0) _ _ upd_same)
    have k7 : H9 p7 = some (.lst [.int i]) := t9.2 p7 _ (ne (((((m1.trans m2).trans m3).trans m4).trans m5).trans n6) h7) ((((m8).trans n9).trans m0) _ _ upd_same)
    have k8 : H9 p8 = some (.tup [.int i]) := t9.2 p8 _ (ne ((((((m1.trans m2).trans m3).trans m4).trans m5).trans n6).trans m7) h8) (((n9).trans m0) _ _ upd_same)
    have k9 : H9 p9 = some (.dK [(Sum.inl 1, .str x)]) := t9.2 p9 _ (ne (((((((m1.trans m2).trans m3).trans m4).trans m5).trans n6).trans m7).trans m8) h9) ((m0) _ _ upd_same)
    have lx := len_str wx
    have one : Th K H9 (.int 1) (.int 1) := th_int (by decide) (by decide)
    have l1 : (PyData.shown (.int 1)).length ≤ 400 := by decide +kernel
    simp only [List.mem_cons, List.not_mem_nil, or_false] at hv
    rcases hv with rfl | rfl | rfl | rfl | rfl | rfl | rfl | rfl | rfl | rfl | rfl | rfl | rfl
    · exact q _ _ _ th_non s9
    · exact q _ _ _ (th_bl _) s9
    · exact q _ _ _ (th_bl _) s9
    · exact q _ _ _ (th_nil k1) s9
    · exact q _ _ _ (th_none k2) s9
    · exact q _ _ _ (th_unit k3) s9
    · exact q _ _ _ (th_one k4 (th_str wx) (by omega) (Nat.zero_le _)) s9
    · exact q _ _ _ (th_tup k5 (th_str wx) (by omega) (Nat.zero_le _)) s9
    · exact q _ _ _ (th_dct k6 (th_str wx) one (by omega) l1 (Nat.zero_le _) (Nat.zero_le _)) s9
    · exact q _ _ _ (th_one k7 (th_int i1 i2) (by omega) (Nat.zero_le _)) s9
    · exact q _ _ _ (th_tup k8 (th_int i1 i2) (by omega) (Nat.zero_le _)) s9
    · exact q _ _ _ (th_text (toString i) (by rw [PySem.ofString_length]; exact Nat.le_trans il' (by decide))) s9
    · exact q _ _ _ (th_dct k9 one (th_str wx) l1 (by omega) (Nat.zero_le _) (Nat.zero_le _)) s9
theorem shaped_signs : ∀ cs : List Nat, (∀ c ∈ cs, c < 1114112) → PyData.canLayAll0 (cs.map fun c => PyData.str ⟨#[c]⟩) = true ∧ PyData.depthAll (cs.map fun c => PyData.str ⟨#[c]⟩) = 0
  | [], _ => ⟨rfl, rfl⟩
  | c :: r, h => by
    obtain ⟨h1, h2⟩ := shaped_signs r fun d hd => h d (List.mem_cons_of_mem _ hd)
    have e : PyData.strOk ⟨#[c]⟩ = true := by
      have z := h c (List.mem_cons_self ..)
      show (#[c] : Array Nat).all (fun x => decide (x < 1114112)) = true
      simp [z]
    refine ⟨?_, ?_⟩
    · simp only [List.map_cons, PyData.canLayAll0, PyData.canLay0, e, h1, Bool.and_self]
    · simp only [List.map_cons, PyData.depthAll, PyData.depth, h2, Nat.max_self]
theorem dp_signs {H : Hp} : ∀ cs : List Nat, DpAll K H (cs.map fun c => V.str ⟨#[c]⟩) (cs.map fun c => PyData.str ⟨#[c]⟩)
  | [] => .nil
  | c :: r => .cons (.str _) (dp_signs r)
def spJudged : Sp := fun vs H Q _ => ∃ v : V, vs = [v] ∧ Any H v ∧ ∀ p H', H p = none → Same H H' → H' p = some (.lst [.bl (isI v), .bl (nameB v), .bl (cellsB v)]) → Q (.ref p) H'
theorem sc__law_judged : FnScope ["_law_held", "_law_letters", "_law_is_named", "_law_is_whole", "_law_sign"] ["_law_held"] (defScope (top 21)) := ⟨rfl, rfl, rfl, by decide +kernel, rfl, by decide +kernel, by decide +kernel⟩
theorem ok_judged (T : Tx K mg) (F : FnP K "_law_judged" "_law_judged" (top 21) f fd) : FnOk P w K mg base CX0 1 f fd ["_law_held"] spJudged := by
  refine F.ok sc__law_judged (fun vs H Q E h => ?_) (fun cdv A outer s H vs Q E hr h => ⟨_, PSs.nox (pss_cons (ps_set (i := 1) sc__law_judged.nd rfl (by first | exact Or.inl rfl | exact Or.inr rfl) pe_str) (pss_cons (ps_set (i := 2) sc__law_judged.nd rfl (by first | exact Or.inl rfl | exact Or.inr rfl) (pe_and (pe_callB call_isi (by rfl) T.n_isinstance (by decide +kernel) (pa_cons (pv 0) (pa_cons (pe_bltn (v := .ty "str") (by rfl) T.n_str (by decide +kernel) rfl) pa_nil))) (pe_and (pe_chain op_lt op_lt pe_int (pe_callB call_len_str (by rfl) T.n_len (by decide +kernel) (pa_cons (pv 0) pa_nil)) pe_int) (pe_one (pe_cmpR (op_eqD hr.units) (pe_lc (own := [("_law_sign", 4)]) (g := gName 4) rfl sc__law_judged.nd (pi_str (pv 0)) (blkOk_by (own := [("_law_sign", 4)]) (N := ["_law_held", "_law_letters", "_law_is_named", "_law_is_whole", "_law_sign"]) (sc := defScope (top 21)) (by decide +kernel)) (fun _ _ _ _ _ => pg_name (i := 4) sc__law_judged.nd rfl (Or.inl rfl)) (fun _ _ _ _ _ => (pts_one (pt_cmpR op_notIn_sign (pv 4) (pv 1) (by rfl)))) (fun _ _ _ _ _ => (pv 4))) (pe_lst pa_nil) (nomark _)))))) (pss_cons (ps_set (i := 3) sc__law_judged.nd rfl (by first | exact Or.inl rfl | exact Or.inr rfl) (pe_and (pe_callB call_isi (by rfl) T.n_isinstance (by decide +kernel) (pa_cons (pv 0) (pa_cons (pe_bltn (v := .ty "int") (by rfl) T.n_int (by decide +kernel) rfl) pa_nil))) (pe_and (pe_cmpR op_notBA (pv 0) pe_bl (nomark _)) (pe_one (pe_cmpR op_notBA (pv 0) pe_bl (nomark _)))))) (pss_one (ps_ret (pe_lst (pa_cons (pv 3) (pa_cons (pv 2) (pa_cons (pe_and (pv 3) (pe_one (pe_chain op_lt op_le pe_int (pv 0) (pe_op op_pow pe_int pe_int)))) pa_nil))))))))), ?_⟩)
  · obtain ⟨v, rfl, _⟩ := h
    rfl
  · obtain ⟨v, rfl, hv, q⟩ := h
    obtain ⟨Ty, ty, k1, k2, k3⟩ := hv.ty (K := K)
    have p12 : (10 : Int) ^ (12 : Int).toNat = 1000000000000 := by decide
    refine ⟨_, rfl, _, _, _, _, _, rfl, .ty "str", ty, kit_ty k3, _, rfl, ?_⟩
    have fin : ∀ {b1 b2 b3 : Bool} (G : Hp), Same H G → b1 = isI v → b2 = nameB v → b3 = cellsB v → 3 ≤ sizeLine ∧ ∀ p, G p = none → Q (.ref p) (upd G p (.lst [.bl b1, .bl b2, .bl b3])) := fun G sm e1 e2 e3 => by
      refine ⟨by decide, fun p hp => ?_⟩
      rw [e1, e2, e3]
      exact q p _ (sm.free hp) (sm.trans (same_upd hp)) upd_same
    cases hv with
    | non => exact iteF ⟨_, rfl, _, _, _, _, _, rfl, .ty "int", ty, kit_ty k1, _, rfl, iteF ⟨_, rfl, _, rfl, _, rfl, _, rfl, iteF (fin H (Same.refl H) rfl rfl rfl)⟩⟩
    | lst e => exact iteF ⟨_, rfl, _, _, _, _, _, rfl, .ty "int", ty, kit_ty k1, _, rfl, iteF ⟨_, rfl, _, rfl, _, rfl, _, rfl, iteF (fin H (Same.refl H) rfl rfl rfl)⟩⟩
    | tup e => exact iteF ⟨_, rfl, _, _, _, _, _, rfl, .ty "int", ty, kit_ty k1, _, rfl, iteF ⟨_, rfl, _, rfl, _, rfl, _, rfl, iteF (fin H (Same.refl H) rfl rfl rfl)⟩⟩
    | dct e => exact iteF ⟨_, rfl, _, _, _, _, _, rfl, .ty "int", ty, kit_ty k1, _, rfl, iteF ⟨_, rfl, _, rfl, _, rfl, _, rfl, iteF (fin H (Same.refl H) rfl rfl rfl)⟩⟩
    | bl b =>
      refine iteF ⟨_, rfl, _, _, _, _, _, rfl, .ty "int", ty, kit_ty k1, _, rfl, iteT ⟨_, rfl, true, rfl, .inl ⟨b, rfl, _, rfl, ?_⟩⟩⟩
      cases b with
      | true => exact iteF ⟨_, rfl, _, rfl, _, rfl, _, rfl, iteF (fin H (Same.refl H) rfl rfl rfl)⟩
      | false => exact iteT ⟨_, rfl, false, rfl, .inl ⟨false, rfl, _, rfl, _, rfl, _, rfl, _, rfl, iteF (fin H (Same.refl H) rfl rfl rfl)⟩⟩
    | int i =>
      refine iteF ⟨_, rfl, _, _, _, _, _, rfl, .ty "int", ty, kit_ty k1, _, rfl, iteT ⟨_, rfl, true, rfl, .inr ⟨i, rfl, _, rfl, iteT ⟨_, rfl, false, rfl, .inr ⟨i, rfl, ?_⟩⟩⟩⟩⟩
      refine ⟨_, rfl, _, rfl, _, rfl, _, rfl, iteT ⟨_, rfl, _, _, rfl, rfl, _, rfl, ?_⟩⟩
      by_cases h1 : (0 : Int) < i
      · refine ifT (decide_eq_true h1) ⟨_, _, rfl, rfl, ⟨by decide, by decide, by decide⟩, _, _, rfl, rfl, fin H (Same.refl H) rfl rfl ?_⟩
        show decide (i ≤ 10 ^ (12 : Int).toNat) = decide (1 ≤ i ∧ i ≤ 1000000000000)
        by_cases h2 : i ≤ 1000000000000
        · rw [decide_eq_true (show i ≤ 10 ^ (12 : Int).toNat by omega), decide_eq_true ⟨by omega, h2⟩]
        · rw [decide_eq_false (show ¬ i ≤ 10 ^ (12 : Int).toNat by omega), decide_eq_false fun z => h2 z.2]
      · exact ifF (decide_eq_false h1) (fin H (Same.refl H) rfl rfl (decide_eq_false fun z => h1 (by omega)).symm)
    | str x hl =>
      have hz : x.length ≤ sizeLine := Nat.le_trans hl.1 (by decide)
      have hl1 := hl.1
      have off : ¬ (1 ≤ x.length ∧ x.length ≤ 8) → nameB (.str x) = false := fun n => by
        show (decide (1 ≤ x.length ∧ x.length ≤ 8) && _) = false
        rw [decide_eq_false n, Bool.false_and]
      refine iteT ⟨_, rfl, x, rfl, hz, _, _, rfl, rfl, _, rfl, ?_⟩
      by_cases h1 : (0 : Int) < (x.length : Int)
      · refine ifT (decide_eq_true h1) ⟨_, _, rfl, rfl, _, rfl, ?_⟩
        by_cases h2 : (x.length : Int) < 9
        · refine ifT (decide_eq_true h2) ⟨_, rfl, x, rfl, fun D hD => ?_⟩
          refine lc_text (fun i H' => H' D = some (.lst (((x.cps.toList.take i).filter fun c => !decide (c ∈ letters.cps.toList)).map fun c => V.str ⟨#[c]⟩)) ∧ Same H H') ⟨upd_same, same_upd hD⟩ ?_ ?_
          · rintro i c H' hc ⟨hD', sm⟩
            have hi : i < x.cps.toList.length := (List.getElem?_eq_some_iff.mp hc).1
            have hxl : x.cps.toList.length = x.length := Array.length_toList ..
            refine ⟨rfl, _, rfl, _, rfl, c, letters, rfl, rfl, _, rfl, ?_⟩
            by_cases h3 : c ∈ letters.cps.toList
            · refine ifF (by rw [decide_eq_true h3]; rfl) ⟨?_, sm⟩
              rw [List.take_add_one, hc, List.filter_append]
              show H' D = some (.lst (List.map _ (_ ++ List.filter _ [c])))
              rw [List.filter_cons_of_neg (by rw [decide_eq_true h3]; decide), List.filter_nil, List.append_nil]
              exact hD'
            · refine ifT (by rw [decide_eq_false h3]; rfl) ⟨_, rfl, _, hD', small1000 ?_, ?_, fun b o e => ?_⟩
              · rw [List.length_map]
                have z := List.length_filter_le (fun c => !decide (c ∈ letters.cps.toList)) (x.cps.toList.take i)
                rw [List.length_take] at z
                omega
              · rw [upd_same, List.take_add_one, hc, List.filter_append]
                show some (HO.lst (_ ++ [V.str ⟨#[c]⟩])) = some (.lst (List.map _ (_ ++ List.filter _ [c])))
                rw [List.filter_cons_of_pos (by rw [decide_eq_false h3]; rfl), List.filter_nil, List.map_append]
                rfl
              · rw [upd_ne (ne_of_none e hD)]
                exact sm b o e
          · rintro H' ⟨hD', sm⟩
            rw [List.take_length] at hD'
            refine ⟨Nat.zero_le _, fun p hp => ?_⟩
            generalize hcs : (x.cps.toList.filter fun c => !decide (c ∈ letters.cps.toList)) = cs at hD'
            have hcl : ∀ c ∈ cs, c < 1114112 := fun c hc => hl.2 c (by rw [← hcs] at hc; exact (List.mem_filter.mp hc).1)
            obtain ⟨sh1, sh2⟩ := shaped_signs cs hcl
            have nDp : D ≠ p := ne_of_none hD' hp
            have hshape : SeqAt.shaped (.list (cs.map fun c => PyData.str ⟨#[c]⟩)) = true := by
              have e1 : (PyData.list (cs.map fun c => PyData.str ⟨#[c]⟩)).depth = 1 := by
                show PyData.depthAll (cs.map fun c => PyData.str ⟨#[c]⟩) + 1 = 1
                rw [sh2]
              have e2 : (PyData.list (cs.map fun c => PyData.str ⟨#[c]⟩)).canLay0 = true := sh1
              unfold SeqAt.shaped
              rw [e1, e2]
              rfl
            refine ⟨_, _, .lst (SqL.of (by rw [upd_ne nDp]; exact hD')) (dp_signs cs), .lst (SqL.of upd_same) .nil, hshape, by decide +kernel, ?_⟩
            refine ⟨_, rfl, _, _, _, _, _, rfl, .ty "int", .base (.str x), kit_ty (show kitB "str" "int" = some false by decide +kernel), _, rfl, iteF ⟨_, rfl, _, rfl, _, rfl, _, rfl, iteF (fin _ (sm.trans (same_upd hp)) rfl ?_ rfl)⟩⟩
            show PyData.eqv (.list (cs.map fun c => PyData.str ⟨#[c]⟩)) (.list []) = (decide (1 ≤ x.length ∧ x.length ≤ 8) && x.cps.toList.all fun c => decide (c ∈ letters.cps.toList))
            rw [decide_eq_true ⟨by omega, by omega⟩, Bool.true_and]
            cases cs with
            | nil =>
              have all : (x.cps.toList.all fun c => decide (c ∈ letters.cps.toList)) = true := by
                rw [List.all_eq_true]
                intro c hc
                rw [List.filter_eq_nil_iff] at hcs
                have z := hcs c hc
                simpa using z
              rw [all]
              rfl
            | cons c r =>
              have hc := List.mem_filter.mp (by rw [hcs]; exact List.mem_cons_self .. : c ∈ (x.cps.toList.filter fun c => !decide (c ∈ letters.cps.toList)))
              have all : (x.cps.toList.all fun c => decide (c ∈ letters.cps.toList)) = false := by
                rw [List.all_eq_false]
                refine ⟨c, hc.1, ?_⟩
                have z := hc.2
                simpa using z
              rw [all]
              simp [PyData.eqv, PyData.eqvAll]
        · exact ifF (decide_eq_false h2) ⟨_, rfl, _, _, _, _, _, rfl, .ty "int", ty, kit_ty k1, _, rfl, iteF ⟨_, rfl, _, rfl, _, rfl, _, rfl, iteF (fin H (Same.refl H) rfl (off (by omega)).symm rfl)⟩⟩
      · exact ifF (decide_eq_false h1) ⟨_, rfl, iteF ⟨_, rfl, _, _, _, _, _, rfl, .ty "int", ty, kit_ty k1, _, rfl, iteF ⟨_, rfl, _, rfl, _, rfl, _, rfl, iteF (fin H (Same.refl H) rfl (off (by omega)).symm rfl)⟩⟩⟩
end
end K19

set_option Elab.async false
set_option linter.all false
set_option maxRecDepth 100000
set_option maxHeartbeats 4000000
namespace K19
open PySem PySem.Spec PyProof.Rows L2 Gu Ex
theorem seqT {K : PySem.W.Frag} {H H' : Hp} {a : Addr} {xs : List V} (e : Same H H') (h : SqT K H a xs) : SqT K H' a xs := by
  rcases h with (h | ⟨o, h⟩) | h
  · exact .inl (.inl (e _ _ h))
  · exact .inl (.inr ⟨o, e _ _ h⟩)
  · exact .inr h
mutual
theorem dq_same {K : PySem.W.Frag} {H H' : Hp} (e : Same H H') : ∀ {v : V} {d : PyData}, Dq K H v d → Dq K H' v d
  | _, _, .non => .non
  | _, _, .bl b => .bl b
  | _, _, .int i => .int i
  | _, _, .str x => .str x
  | _, _, .lst hq ha => .lst (e.seq hq) (dqAll_same e ha)
  | _, _, .tup hq ha => .tup (seqT e hq) (dqAll_same e ha)
  | _, _, .dct hq h1 h2 => .dct (e _ _ hq) (dqAll_same e h1) (dqAll_same e h2)
theorem dqAll_same {K : PySem.W.Frag} {H H' : Hp} (e : Same H H') : ∀ {vs : List V} {ds : List PyData}, DqAll K H vs ds → DqAll K H' vs ds
  | _, _, .nil => .nil
  | _, _, .cons h1 h2 => .cons (dq_same e h1) (dqAll_same e h2)
end
theorem Th.same {K : PySem.W.Frag} {H H' : Hp} {v : V} {d : PyData} (t : Th K H v d) (e : Same H H') : Th K H' v d := ⟨t.1.same e, dq_same e t.2.1, t.2.2⟩
/-- a row of three truths -/
def row (v : V) : List V := [.bl (isI v), .bl (nameB v), .bl (cellsB v)]
def rowD (v : V) : PyData := .list [.bool (isI v), .bool (nameB v), .bool (cellsB v)]
theorem row_ok (v : V) : (rowD v).showable = true ∧ (rowD v).depth ≤ 60 ∧ (rowD v).shown.length ≤ sizeLine ∧ PyData.canLay0 (.str (rowD v).shown) = true := by
  unfold rowD
  cases isI v <;> cases nameB v <;> cases cellsB v <;> exact ⟨rfl, by decide, by decide +kernel, by decide +kernel⟩
theorem row_dq {K : PySem.W.Frag} {H : Hp} {a : Addr} {v : V} (h : H a = some (.lst (row v))) : Dq K H (.ref a) (rowD v) := .lst (SqL.of h) (.cons (.bl _) (.cons (.bl _) (.cons (.bl _) .nil)))
section
variable {P : Program} {w : World} {K : PySem.W.Frag} {mg : Str → Option Value} {base : Heap} {f : Addr} {fd : FuncData}
def spRight (K : PySem.W.Frag) : Sp := fun vs H Q _ => ∃ (v : V) (d : PyData), vs = [v] ∧ Th K H v d ∧ ∀ H', Same H H' → Q (.bl true) H'
theorem sc__law_right : FnScope ["_law_thing_here", "_law_told", "_law_shown", "_law_due", "_law_turn", "_law_row"] ["_law_thing_here"] (defScope (top 22)) := ⟨rfl, rfl, rfl, by decide +kernel, rfl, by decide +kernel, by decide +kernel⟩
theorem ok_right (T : Tx K mg) (D_is_integer : Df P w K mg base 1 "is_integer" ["value"] spInt) (D_is_name : Df P w K mg base 1 "is_name" ["value"] spName) (D_is_cells : Df P w K mg base 2 "is_cells" ["value"] spCells)
    (D_is_integer_kw : DfK P w K mg base 1 "is_integer" ["value"] ["value"] [0] spInt) (D_is_name_kw : DfK P w K mg base 1 "is_name" ["value"] ["value"] [0] spName) (D_is_cells_kw : DfK P w K mg base 2 "is_cells" ["value"] ["value"] [0] spCells)
    (D__law_judged : Df P w K mg base 1 "_law_judged" ["_law_held"] spJudged)
    (F : FnP K "_law_right" "_law_right" (top 22) f fd) : FnG P w K mg base CX0 3 f fd ["_law_thing_here"] (spRight K) := by
  refine okG F sc__law_right (fun vs H Q E h => ?_) (fun cdv A outer s H vs Q E hr h => ⟨_, PSs.nox (pss_cons (ps_par (by rfl) sc__law_right.nd (i := 2) (j := 3) rfl rfl (by decide) rfl rfl (pa_cons (pe_callB (r := rReprQ K) (id := "repr") (call_reprQ hr T.sys) (by rfl) T.n_repr (by decide +kernel) (pa_cons (pv 0) pa_nil)) (pa_cons (pe_callB (r := rReprQ K) (id := "repr") (call_reprQ hr T.sys) (by rfl) T.n_repr (by decide +kernel) (pa_cons (pcall D__law_judged hr.r (pa_cons (pv 0) pa_nil)) pa_nil)) pa_nil)) (by rfl)) (pss_cons (ps_setLc (i := 1) (own := [("_law_turn", 4)]) (g := gName 4) rfl sc__law_right.nd rfl rfl (sw_true rfl rfl rfl (by decide +kernel)) (pi_range1 rfl T.n_range (pa_cons pe_int pa_nil)) (blkOk_by (own := [("_law_turn", 4)]) (N := ["_law_thing_here", "_law_told", "_law_shown", "_law_due", "_law_turn", "_law_row"]) (sc := defScope (top 22)) (by decide +kernel)) (fun _ _ _ _ _ => pg_name (i := 4) sc__law_right.nd rfl (Or.inl rfl)) (fun _ _ _ _ _ => pts_nil) (fun _ _ _ _ _ => (pe_lst (pa_cons (pcall D_is_integer hr.r (pa_cons (pv 0) pa_nil)) (pa_cons (pcall D_is_name hr.r (pa_cons (pv 0) pa_nil)) (pa_cons (pcall D_is_cells hr.r (pa_cons (pv 0) pa_nil)) pa_nil)))))) (pss_cons (ps_expr (pe_bm PySem.F.plainAttrs_list PySem.F.slot_list_append PySem.F.type_list_append mt_append (pv 1) (pa_cons (pe_lst (pa_cons (pcallK D_is_integer_kw hr.r (pk_cons (pv 0) pk_nil)) (pa_cons (pcallK D_is_name_kw hr.r (pk_cons (pv 0) pk_nil)) (pa_cons (pcallK D_is_cells_kw hr.r (pk_cons (pv 0) pk_nil)) pa_nil)))) pa_nil))) (pss_one (ps_ret (pe_and (pe_cmpR (op_eqD hr.r.units) (pe_lc (own := [("_law_row", 5)]) (g := gName 5) rfl sc__law_right.nd (pi_list (pv 1)) (blkOk_by (own := [("_law_row", 5)]) (N := ["_law_thing_here", "_law_told", "_law_shown", "_law_due", "_law_turn", "_law_row"]) (sc := defScope (top 22)) (by decide +kernel)) (fun _ _ _ _ _ => pg_name (i := 5) sc__law_right.nd rfl (Or.inl rfl)) (fun _ _ _ _ _ => pts_nil) (fun _ _ _ _ _ => (pe_callB (r := rReprQ K) (id := "repr") (call_reprQ hr T.sys) (by rfl) T.n_repr (by decide +kernel) (pa_cons (pv 5) pa_nil)))) (pe_op op_rep (pe_lst (pa_cons (pv 3) pa_nil)) pe_int) (nomark _)) (pe_one (pe_cmpR op_eq (pe_callB (r := rReprQ K) (id := "repr") (call_reprQ hr T.sys) (by rfl) T.n_repr (by decide +kernel) (pa_cons (pv 0) pa_nil)) (pv 2) (nomark _))))))))), ?_⟩)
  · obtain ⟨v, d, rfl, _⟩ := h
    rfl
  · obtain ⟨v, d, rfl, th, q⟩ := h
    obtain ⟨an, dq, sh, dp, ln⟩ := id th
    obtain ⟨r1, r2, r3, r4⟩ := row_ok v
    refine ⟨_, rfl, v, d, rfl, dq, sh, dp, ln, ?_⟩
    refine ⟨_, rfl, v, rfl, an, fun p H1 hp sm1 hrow => ?_⟩
    refine ⟨.ref p, rowD v, rfl, row_dq hrow, r1, r2, r3, ?_⟩
    refine ⟨_, _, rfl, ?_⟩
    -- told
    refine ⟨2, rfl, by decide, by decide, fun D hD => ?_⟩
    refine lc_range (fun i H' => ∃ ps : List Addr, H' D = some (.lst (ps.map V.ref)) ∧ ps.length = i ∧ (∀ p ∈ ps, p ≠ D ∧ H' p = some (.lst (row v))) ∧ Same H1 H') ⟨[], upd_same, rfl, fun p hp => absurd hp List.not_mem_nil, same_upd hD⟩ ?_ ?_
    · rintro i H' hi ⟨ps, hD', hl, hps, sm⟩
      have hi2 : i < 2 := hi
      have sH := sm1.trans sm
      refine ⟨rfl, _, rfl, v, rfl, an.same sH, _, rfl, v, rfl, an.same sH, fun H2 sm2 => ?_⟩
      refine ⟨_, rfl, v, rfl, an.same (sH.trans sm2), (by show 3 ≤ sizeLine; decide), fun p1 hp1 => ?_⟩
      have m3 := same_upd (o := .lst (row v)) hp1
      have s23 := sm2.trans m3
      have n1 : p1 ≠ D := fun z => by rw [z, sm2 _ _ hD'] at hp1; cases hp1
      refine ⟨_, s23 _ _ hD', small1000 (by rw [List.length_map]; omega), ps ++ [p1], ?_, ?_, fun p2 h2 => ?_, fun b o e => ?_⟩
      · rw [upd_same, List.map_append]
        rfl
      · rw [List.length_append, hl]
        rfl
      · rcases List.mem_append.mp h2 with z | z
        · obtain ⟨z1, z2⟩ := hps p2 z
          exact ⟨z1, by rw [upd_ne z1]; exact s23 _ _ z2⟩
        · rw [List.mem_singleton.mp z]
          exact ⟨n1, by rw [upd_ne n1]; exact upd_same⟩
      · rw [upd_ne (ne_of_none e hD)]
        exact s23 _ _ (sm b o e)
    · rintro H' ⟨ps, hD', hl, hps, sm⟩
      have sH := sm1.trans sm
      -- told.append
      refine ⟨_, rfl, .inl ⟨rfl, _, SqL.of hD'⟩, _, rfl, rfl, v, rfl, an.same sH, _, rfl, rfl, v, rfl, an.same sH, fun H2 sm2 => ?_⟩
      refine ⟨_, rfl, rfl, v, rfl, an.same (sH.trans sm2), (by show 3 ≤ sizeLine; decide), fun p1 hp1 => ?_⟩
      have m3 := same_upd (o := .lst (row v)) hp1
      have s23 := sm2.trans m3
      have n1 : p1 ≠ D := fun z => by rw [z, sm2 _ _ hD'] at hp1; cases hp1
      refine ⟨D, _, _, rfl, rfl, s23 _ _ hD', small1000 (by rw [List.length_map]; omega), ?_⟩
      have hH1D : H1 D = none := by
        first
          | exact hD
          | assumption
      -- the rows
      obtain ⟨qs, hqs, ql, hq⟩ : ∃ qs : List Addr, ps.map V.ref ++ [V.ref p1] = qs.map V.ref ∧ qs.length = 3 ∧ ∀ p ∈ qs, (upd (upd H2 p1 (.lst (row v))) D (.lst (ps.map V.ref ++ [V.ref p1]))) p = some (.lst (row v)) := by
        refine ⟨ps ++ [p1], by rw [List.map_append]; rfl, by rw [List.length_append, hl]; rfl, fun p2 h2 => ?_⟩
        rcases List.mem_append.mp h2 with z | z
        · obtain ⟨z1, z2⟩ := hps p2 z
          rw [upd_ne z1]
          exact s23 _ _ z2
        · rw [List.mem_singleton.mp z, upd_ne n1]
          exact upd_same
      have hDD : (upd (upd H2 p1 (.lst (row v))) D (.lst (ps.map V.ref ++ [V.ref p1]))) D = some (.lst (qs.map V.ref)) := by rw [upd_same, hqs]
      have sF : Same H1 (upd (upd H2 p1 (.lst (row v))) D (.lst (ps.map V.ref ++ [V.ref p1]))) := fun b o e => by
        rw [upd_ne (ne_of_none e hH1D)]
        exact s23 _ _ (sm b o e)
      refine ⟨_, rfl, D, rfl, ⟨_, SqL.of hDD⟩, fun D2 hD2 => ?_⟩
      have n2 : D ≠ D2 := ne_of_none hDD hD2
      refine lc_list (K := K) (a := D) (xs := qs.map V.ref) (fun i H' => H' D2 = some (.lst ((List.replicate i (rowD v).shown).map V.str)) ∧ H' D = some (.lst (qs.map V.ref)) ∧ (∀ p ∈ qs, H' p = some (.lst (row v))) ∧ Same H1 H')
        ⟨upd_same, by rw [upd_ne n2]; exact hDD, fun p2 h2 => by rw [upd_ne (ne_of_none (hq p2 h2) hD2)]; exact hq p2 h2, sF.trans (same_upd hD2)⟩ (fun i H' _ z => SqL.of z.2.1) ?_ ?_
      · rintro i x H' hx ⟨e1, e2, e3, e4⟩
        obtain ⟨p2, hp2, rfl⟩ : ∃ p2, p2 ∈ qs ∧ x = .ref p2 := by
          rw [List.getElem?_map] at hx
          cases e : qs[i]? with
          | none => rw [e] at hx; cases hx
          | some u => rw [e] at hx; exact ⟨u, List.mem_of_getElem? e, (Option.some.inj hx).symm⟩
        have hi3 : i < 3 := by
          have z := (List.getElem?_eq_some_iff.mp hx).1
          rw [List.length_map] at z
          omega
        refine ⟨rfl, _, rfl, .ref p2, rowD v, rfl, row_dq (e3 p2 hp2), r1, r2, r3, _, e1, small1000 (by rw [List.length_map, List.length_replicate]; omega), ?_, ?_, fun p3 h3 => ?_, fun b o e => ?_⟩
        · rw [upd_same, List.replicate_succ', List.map_append]
          rfl
        · rw [upd_ne n2]
          exact e2
        · have n3 : p3 ≠ D2 := ne_of_none (hq p3 h3) hD2
          rw [upd_ne n3]
          exact e3 p3 h3
        · rw [upd_ne (ne_of_none (sF b o e) hD2)]
          exact e4 b o e
      · rintro H' ⟨e1, e2, e3, e4⟩
        rw [List.length_map, ql] at e1
        -- [due] * 3
        refine ⟨_, rfl, (by show 1 ≤ sizeLine; decide), fun p4 h4 => ?_⟩
        refine ⟨p4, 3, _, rfl, rfl, upd_same, by decide, by decide, (by show 3 ≤ sizeLine; decide), fun p5 h5 => ?_⟩
        have m45 := (same_upd (o := .lst [.str (rowD v).shown]) h4).trans (same_upd (o := .lst (List.replicate 3 [V.str (rowD v).shown]).flatten) h5)
        have e15 : (upd (upd H' p4 (.lst [.str (rowD v).shown])) p5 (.lst (List.replicate 3 [V.str (rowD v).shown]).flatten)) D2 = some (.lst [.str (rowD v).shown, .str (rowD v).shown, .str (rowD v).shown]) := m45 _ _ e1
        have cl : PyData.canLay0 (.list [.str (rowD v).shown, .str (rowD v).shown, .str (rowD v).shown]) = true := by
          have z : PyData.strOk (rowD v).shown = true := r4
          simp only [PyData.canLay0, PyData.canLayAll0, z, Bool.and_self]
        have shp : SeqAt.shaped (.list [.str (rowD v).shown, .str (rowD v).shown, .str (rowD v).shown]) = true := by
          unfold SeqAt.shaped
          rw [cl]
          rfl
        have ev := SeqAt.eqv_refl _ cl
        have dps : ∀ {G : Hp}, DpAll K G [.str (rowD v).shown, .str (rowD v).shown, .str (rowD v).shown] [.str (rowD v).shown, .str (rowD v).shown, .str (rowD v).shown] := .cons (.str _) (.cons (.str _) (.cons (.str _) .nil))
        refine ⟨_, _, .lst (SqL.of e15) dps, .lst (SqL.of upd_same) dps, shp, shp, _, rfl, ifT ev ?_⟩
        have sH2 := sm1.trans (e4.trans m45)
        obtain ⟨_, dq2, _, _, _⟩ := th.same sH2
        refine ⟨_, rfl, v, d, rfl, dq2, sh, dp, ln, _, rfl, rfl, ?_⟩
        have fin : decide (V.str d.shown = V.str d.shown) = true := decide_eq_true rfl
        show Q (.bl (decide (V.str d.shown = V.str d.shown))) _
        rw [fin]
        exact q _ sH2
def spLaw (K : PySem.W.Frag) : Sp := fun vs H Q _ => ∃ (a : Addr) (ns : List Int), vs = [.ref a] ∧ SqL K H a (ns.map V.int) ∧ ns.length ≤ 63 ∧ ∀ H', Q (.bl true) H'
theorem sc_law : FnScope ["_law_script", "_law_k", "_law_rng_here", "_law_turn", "_law_thing_here"] ["_law_script"] (defScope (top 23)) := ⟨rfl, rfl, rfl, by decide +kernel, rfl, by decide +kernel, by decide +kernel⟩
theorem ok_law (T : Tx K mg) (D__law_rng : Df P w K mg base 1 "_law_rng" ["_law_script", "_law_k"] (spRng K)) (D__law_word : Df P w K mg base 3 "_law_word" ["_law_rng_here"] spWord) (D__law_number : Df P w K mg base 3 "_law_number" ["_law_rng_here"] spNumber)
    (D__law_thing : Df P w K mg base 4 "_law_thing" ["_law_rng_here"] (spThing K)) (D__law_right : DfG P w K mg base 3 "_law_right" ["_law_thing_here"] (spRight K))
    (F : FnP K "law" "law" (top 23) f fd) : FnG P w K mg base CX0 5 f fd ["_law_script"] (spLaw K) := by
  refine okG F sc_law (fun vs H Q E h => ?_) (fun cdv A outer s H vs Q E hr h => ⟨_, PSs.nox (pss_cons (ps_for PassesOwn.never rfl (pi_range1 rfl T.n_range (pa_cons (pe_callB (call_max2 rfl) (by rfl) T.n_max (by decide +kernel) (pa_cons pe_int (pa_cons (pe_callB (call_min2 rfl) (by rfl) T.n_min (by decide +kernel) (pa_cons (pe_callB call_len_seq (by rfl) T.n_len (by decide +kernel) (pa_cons (pv 0) pa_nil)) (pa_cons pe_int pa_nil))) pa_nil))) pa_nil)) (pg_name (i := 1) sc_law.nd rfl (by first | exact Or.inl rfl | exact Or.inr rfl)) (pss_cons (ps_set (i := 2) sc_law.nd rfl (by first | exact Or.inl rfl | exact Or.inr rfl) (pcall D__law_rng hr.r (pa_cons (pv 0) (pa_cons (pv 1) pa_nil)))) (pss_one (ps_for PassesOwn.never rfl (pi_range1 rfl T.n_range (pa_cons pe_int pa_nil)) (pg_name (i := 3) sc_law.nd rfl (by first | exact Or.inl rfl | exact Or.inr rfl)) (pss_one (ps_if (pt_not (pt_val (pe_callB (cr_all rfl) (by rfl) T.n_all (by decide +kernel) (pa_cons (pe_lc (own := [("_law_thing_here", 4)]) (g := gName 4) rfl sc_law.nd (pi_list (pe_lst (pa_cons (pcall D__law_word hr.r (pa_cons (pv 2) pa_nil)) (pa_cons (pcall D__law_number hr.r (pa_cons (pv 2) pa_nil)) (pa_cons (pcall D__law_thing hr.r (pa_cons (pv 2) pa_nil)) pa_nil))))) (blkOk_by (own := [("_law_thing_here", 4)]) (N := ["_law_script", "_law_k", "_law_rng_here", "_law_turn", "_law_thing_here"]) (sc := defScope (top 23)) (by decide +kernel)) (fun _ _ _ _ _ => pg_name (i := 4) sc_law.nd rfl (Or.inl rfl)) (fun _ _ _ _ _ => pts_nil) (fun _ _ _ _ _ => (pcallG D__law_right hr (pa_cons (pv 4) pa_nil)))) pa_nil)))) (pss_one (ps_ret pe_bl)) pss_nil)))))) (pss_one (ps_ret (pe_callB (cr_all rfl) (by rfl) T.n_all (by decide +kernel) (pa_cons (pe_lc (own := [("_law_thing_here", 4)]) (g := gName 4) rfl sc_law.nd (pi_list (pe_lst (pa_cons pe_str (pa_cons pe_str (pa_cons pe_str (pa_cons pe_str (pa_cons pe_str (pa_cons pe_bl (pa_cons pe_bl (pa_cons pe_int (pa_cons (pe_op op_pow pe_int pe_int) pa_nil))))))))))) (blkOk_by (own := [("_law_thing_here", 4)]) (N := ["_law_script", "_law_k", "_law_rng_here", "_law_turn", "_law_thing_here"]) (sc := defScope (top 23)) (by decide +kernel)) (fun _ _ _ _ _ => pg_name (i := 4) sc_law.nd rfl (Or.inl rfl)) (fun _ _ _ _ _ => pts_nil) (fun _ _ _ _ _ => (pcallG D__law_right hr (pa_cons (pv 4) pa_nil)))) pa_nil))))), ?_⟩)
  · obtain ⟨a, ns, rfl, _⟩ := h
    rfl
  · obtain ⟨a, ns, rfl, hS, hlen, q⟩ := h
    refine ⟨_, rfl, a, _, rfl, .inl hS, _, _, rfl, _, _, rfl, ?_⟩
    obtain ⟨j, ej, j1, j2⟩ : ∃ j : Int, (if (if (4 : Int) < ((ns.map V.int).length : Int) then 4 else ((ns.map V.int).length : Int)) > 1 then (if (4 : Int) < ((ns.map V.int).length : Int) then 4 else ((ns.map V.int).length : Int)) else 1) = j ∧ 1 ≤ j ∧ j ≤ 4 := by
      refine ⟨_, rfl, ?_, ?_⟩
      · split <;> omega
      · split <;> split <;> omega
    refine ⟨j, (by rw [ej]), by omega, by omega, ?_⟩
    refine for_range (fun i σ H' => ∃ x1 x2 x3 x4, σ = [some (.ref a), x1, x2, x3, x4] ∧ Same H H') ⟨none, none, none, none, rfl, Same.refl H⟩ ?_ ?_
    · rintro i σ H' hi ⟨x1, x2, x3, x4, rfl, sm⟩
      have hi4 : i < 4 := by omega
      refine ⟨_, rfl, _, rfl, a, ns, i, (by rw [Int.zero_add]; rfl), sm.seq hS, by omega, fun p H1 hp sm1 rg => ?_⟩
      refine ⟨12, rfl, by decide, by decide, ?_⟩
      refine for_range (fun k σ H2 => ∃ y3 y4, σ = [some (.ref a), some (.int (0 + (i : Int))), some (.ref p), y3, y4] ∧ Stp p H1 H2) ⟨_, _, rfl, Stp.refl rg⟩ ?_ ?_
      · rintro k σ H2 hk ⟨y3, y4, rfl, st⟩
        refine ⟨_, rfl, p, rfl, st.1, fun x H3 wx s3 => ?_⟩
        refine ⟨_, rfl, p, rfl, s3.1, fun z H4 z1 z2 s4 => ?_⟩
        refine ⟨_, rfl, p, rfl, s4.1, fun v d H5 th s5 => ?_⟩
        have t5 := ((st.trans s3).trans s4).trans s5
        refine ⟨(by show 3 ≤ sizeLine; decide), fun L hL => ?_⟩
        have nLp : L ≠ p := (t5.1.ne hL).symm
        have t6 := t5.new (o := .lst [.str x, .int z, v]) hL
        refine ⟨L, rfl, ⟨_, SqL.of upd_same⟩, fun D hD => ?_⟩
        have nLD : L ≠ D := ne_of_none upd_same hD
        have nDp : D ≠ p := (t6.1.ne hD).symm
        refine lc_list (K := K) (a := L) (xs := [.str x, .int z, v]) (fun n G => G D = some (.lst (trues n)) ∧ Same (upd H5 L (.lst [.str x, .int z, v])) G) ⟨upd_same, same_upd hD⟩ (fun n G _ zz => SqL.of (zz.2 _ _ upd_same)) ?_ ?_
        · rintro n y G hy ⟨e1, e2⟩
          have hn : n < 3 := (List.getElem?_eq_some_iff.mp hy).1
          have thv : ∃ dd, Th K G y dd := by
            have hm := List.mem_of_getElem? hy
            simp only [List.mem_cons, List.not_mem_nil, or_false] at hm
            rcases hm with rfl | rfl | rfl
            · exact ⟨_, th_str wx⟩
            · exact ⟨_, th_int z1 z2⟩
            · exact ⟨_, th.same ((same_upd hL).trans e2)⟩
          obtain ⟨dd, thy⟩ := thv
          refine ⟨rfl, _, rfl, y, dd, rfl, thy, fun G2 m2 => ?_⟩
          refine ⟨_, m2 _ _ e1, small1000 (by rw [trues_len]; omega), by rw [upd_same, trues_more], fun b o e => ?_⟩
          rw [upd_ne (ne_of_none e hD)]
          exact m2 _ _ (e2 b o e)
        · rintro G ⟨e1, e2⟩
          refine ⟨D, List.replicate 3 true, rfl, SqL.of e1, true, congrArg V.bl (all_trues 3), iteF ⟨_, _, rfl, ?_⟩⟩
          exact t6.trans (Stp.same t6.1 e2)
      · rintro σ H2 ⟨y3, y4, rfl, st⟩
        refine ⟨_, _, _, _, rfl, fun b o e => ?_⟩
        have e' := sm b o e
        exact st.2 b o (ne_of_none e' hp) (sm1 b o e')
    · rintro σ H' ⟨x1, x2, x3, x4, rfl, sm⟩
      refine ⟨_, _, rfl, rfl, ⟨by decide, by decide, by decide⟩, (by show 9 ≤ sizeLine; decide), fun L hL => ?_⟩
      refine ⟨L, rfl, ⟨_, SqL.of upd_same⟩, fun D hD => ?_⟩
      refine lc_list (K := K) (a := L) (xs := [.str "", .str "a", .str "z", .str "abcdefgh", .str "abcdefghi", .bl true, .bl false, .int 1, .int (10 ^ (12 : Int).toNat)]) (fun n G => G D = some (.lst (trues n)) ∧ Same (upd H' L (.lst [.str "", .str "a", .str "z", .str "abcdefgh", .str "abcdefghi", .bl true, .bl false, .int 1, .int (10 ^ (12 : Int).toNat)])) G) ⟨upd_same, same_upd hD⟩ (fun n G _ zz => SqL.of (zz.2 _ _ upd_same)) ?_ ?_
      · rintro n y G hy ⟨e1, e2⟩
        have hn : n < 9 := (List.getElem?_eq_some_iff.mp hy).1
        have thv : ∃ dd, Th K G y dd := by
          have hm := List.mem_of_getElem? hy
          simp only [List.mem_cons, List.not_mem_nil, or_false] at hm
          rcases hm with rfl | rfl | rfl | rfl | rfl | rfl | rfl | rfl | rfl
          · exact ⟨_, th_text "" (by decide +kernel)⟩
          · exact ⟨_, th_text "a" (by decide +kernel)⟩
          · exact ⟨_, th_text "z" (by decide +kernel)⟩
          · exact ⟨_, th_text "abcdefgh" (by decide +kernel)⟩
          · exact ⟨_, th_text "abcdefghi" (by decide +kernel)⟩
          · exact ⟨_, th_bl true⟩
          · exact ⟨_, th_bl false⟩
          · exact ⟨_, th_int (by decide) (by decide)⟩
          · exact ⟨_, th_int (by decide) (by decide)⟩
        obtain ⟨dd, thy⟩ := thv
        refine ⟨rfl, _, rfl, y, dd, rfl, thy, fun G2 m2 => ?_⟩
        refine ⟨_, m2 _ _ e1, small1000 (by rw [trues_len]; omega), by rw [upd_same, trues_more], fun b o e => ?_⟩
        rw [upd_ne (ne_of_none e hD)]
        exact m2 _ _ (e2 b o e)
      · rintro G ⟨e1, e2⟩
        refine ⟨D, List.replicate 9 true, rfl, SqL.of e1, ?_⟩
        rw [all_trues]
        exact q _
end
end K19

set_option Elab.async false
set_option linter.all false
set_option maxRecDepth 100000
set_option maxHeartbeats 0
namespace Ex
open PySem PySem.Spec PyProof.Rows L2 Gu
/-! ### facts of a class beyond those by names: constants, a property -/
def cvB (K : PySem.W.Frag) (C : Addr) (f : Str) (i : Int) : Bool := match PySem.W.findCls K (.ref C) (.type "type") f with
  | some (.val (.int j _)) => decide (j = i)
  | _ => false
theorem cvB_ok {K : PySem.W.Frag} {C : Addr} {f : Str} {i : Int} (h : cvB K C f i = true) : ∃ u, ClX.CVal K C (.type "type") f (.int i) u := by
  unfold cvB at h
  split at h
  · rename_i j t e
    have ej : j = i := of_decide_eq_true h
    exact ⟨_, e, t, by rw [ej]⟩
  · cases h
def rdB (K : PySem.W.Frag) (C : Addr) : Bool := PySem.W.readsIn K C (.type "type") && He.eqO (PySem.W.specialIn K (.ref C) "__getattribute__") (some (some (.builtin "type.__getattribute__")))
theorem rdB_ok {K : PySem.W.Frag} {C : Addr} (h : rdB K C = true) : ClX.CRead K C (.type "type") := by
  obtain ⟨h1, h2⟩ := He.ba h
  exact ⟨h1, He.eqO_ok h2⟩
def prA (K : PySem.W.Frag) (C : Addr) (f : Str) : Addr := match PySem.W.findIn K (.ref C) f with
  | some (some (.ref p)) => p
  | _ => 0
def pgA (K : PySem.W.Frag) (C : Addr) (f : Str) : Addr := match PySem.W.recIn K (prA K C f) "property" with
  | some (.ref g :: _) => g
  | _ => 0
def prB (K : PySem.W.Frag) (C : Addr) (f : Str) : Bool := He.eqO (PySem.W.findIn K (.ref C) f) (some (some (.ref (prA K C f)))) &&
  (He.eqO (PySem.W.specialIn K (.ref (prA K C f)) "__get__") (some (some (.builtin "property.__get__"))) && (decide (PySem.W.takesIn K (.ref (prA K C f)) = some true) &&
    (match PySem.W.recIn K (prA K C f) "property" with
    | some (.ref _ :: _) => true
    | _ => false)))
theorem prB_ok {K : PySem.W.Frag} {C : Addr} {f : Str} (h : prB K C f = true) : PropOf K C f (prA K C f) (pgA K C f) := by
  obtain ⟨h1, h⟩ := He.ba h
  obtain ⟨h2, h⟩ := He.ba h
  obtain ⟨h3, h4⟩ := He.ba h
  refine ⟨He.eqO_ok h1, He.eqO_ok h2, of_decide_eq_true h3, ?_⟩
  unfold pgA
  split at h4
  · rename_i g r e
    rw [e]
    exact ⟨r, rfl⟩
  · cases h4
/-- the def at an address -/
def fnAt (K : PySem.W.Frag) (a : Addr) : He.FnW := match K.lookup a with
  | some ⟨_, _, .func fd, _⟩ => some (fd.name, fd.qualname, fd.params, fd.body, fd.scope, fd.globals, fd.closure, fd.builtins)
  | _ => none
def okAt (K : PySem.W.Frag) (a : Addr) (qual : Str) : Bool := PySem.W.keepIn K (.ref a) && (match K.lookup a with
  | some ⟨_, _, .func fd, _⟩ => PySem.W.codeIn K fd.code qual && (He.dflB K fd.defaults [] && He.kwdB K fd.kwdefaults [])
  | _ => false)
theorem fun_at {K : PySem.W.Frag} {a : Addr} {name qual : Str} {params : Arguments} {body : List Stmt} {scope : Scope} (e : fnAt K a = some (name, qual, params, .stmts body, scope, mainGlobals, [], builtinsNs)) (c : okAt K a qual = true) :
    ∃ fd, FunD K name qual params body scope [] [] a fd := by
  obtain ⟨kp, c2⟩ := He.ba c
  unfold fnAt at e
  split at e
  · rename_i oc od fd sl q
    rw [q] at c2
    obtain ⟨k1, k2⟩ := He.ba c2
    obtain ⟨k3, k4⟩ := He.ba k2
    obtain ⟨n1, n2, n3, n4, n5, n6, n7, n8, n9, n10, n11, n12, n13, n14, n15⟩ := fd
    simp only [Option.some.injEq, Prod.mk.injEq] at e
    obtain ⟨rfl, rfl, rfl, rfl, rfl, rfl, rfl, rfl⟩ := e
    exact ⟨_, ⟨oc, od, n8, n9, n10, n11, n12, n13, n14, sl, rfl, q, k1, He.dflB_ok k3, He.kwdB_ok k4⟩, kp⟩
  · cases e
def sysB (K : PySem.W.Frag) : Bool := match K.lookup sysModules with
  | some o => decide (o.cls ≠ .type "list")
  | none => false
end Ex

set_option Elab.async false
set_option linter.all false
set_option maxRecDepth 100000
set_option maxHeartbeats 0
namespace K19
open PySem PySem.Spec PyProof.Rows L2 Gu Ex
abbrev R : PySem.W.OpenRow := PySem.W.OpenLaw.row PySem.Challenge.rw_exactroom_k19_names_and_numbers_judged
def dOf (a : Str × Option Str) (x q : Str) (st : Stmt) : He.DefD := ⟨a, x, q, defArgs st, defBody st, defScope st, [], []⟩
def fn : List He.DefD := [dOf ("is_integer", none) "is_integer" "is_integer" (top 8),
  dOf ("is_name", none) "is_name" "is_name" (top 9),
  dOf ("is_cells", none) "is_cells" "is_cells" (top 10),
  dOf ("_law_rng", none) "_law_rng" "_law_rng" (top 15),
  dOf ("_law_draw", none) "_law_draw" "_law_draw" (top 16),
  dOf ("_law_choice", none) "_law_choice" "_law_choice" (top 17),
  dOf ("_law_word", none) "_law_word" "_law_word" (top 18),
  dOf ("_law_number", none) "_law_number" "_law_number" (top 19),
  dOf ("_law_thing", none) "_law_thing" "_law_thing" (top 20),
  dOf ("_law_judged", none) "_law_judged" "_law_judged" (top 21),
  dOf ("_law_right", none) "_law_right" "_law_right" (top 22),
  dOf ("law", none) "law" "law" (top 23)]
def fa : List He.Fa := [.glo "is_integer", .glo "is_name", .glo "is_cells", .glo "_law_rng", .glo "_law_draw", .glo "_law_choice", .glo "_law_word", .glo "_law_number", .glo "_law_thing", .glo "_law_judged", .glo "_law_right", .glo "law", .glo "Sizes", .free "len", .free "isinstance", .free "int", .free "bool", .free "str", .free "range", .free "divmod", .free "abs", .free "max", .free "min", .free "all", .free "repr", .str "LETTERS" "abcdefghijklmnopqrstuvwxyz", .int "MAX_NAME" 8]
def exB (K : PySem.W.Frag) : Bool := rdB K (He.ga K "Sizes") && (cvB K (He.ga K "Sizes") "MAX_CELLS" 1000000000000 && sysB K)
abbrev Al : Type := He.AlD × Bool
def ob0 (K : PySem.W.Frag) : Al := (He.obsD fa fn K, exB K)
def vl0 : Al := (He.valD fn, true)
def ob1 (g : Addr → Option Obj) : Al := ob0 (He.frG g (cStatics :: sysModules :: He.asD g 5))
def hk : PySem.W.Hook where
  α := Al
  obs := fun s => ob1 s.heap.get?
  val := fun _ => vl0
  says := fun _ h => ∃ K : PySem.W.Frag, K.In h ∧ ob0 K = vl0
  of := fun _ _ e => ⟨_, He.frG_in, e⟩
  keeps := fun _ _ _ ⟨K, hK, c⟩ k => ⟨K, PySem.W.Frag.In.keeps hK k, c⟩
def ob (s : PySem.W.SharedT) : Al := ob1 (HandSHeadRun.getT s)
theorem ob_eq (s : PySem.W.SharedT) : ob s = hk.obs s.abs := by
  have e : HandSHeadRun.getT s = s.abs.heap.get? := funext (HandSHeadRun.getT_eq s)
  show ob1 (HandSHeadRun.getT s) = ob1 s.abs.heap.get?
  rw [e]
def loose : List Str := ["_wall", "RoomError", "InvalidSizes", "InvalidLevel", "LETTERS", "MAX_NAME", "is_integer", "is_name", "is_cells", "size_problem", "check_sizes", "Sizes", "_law_rng", "_law_draw", "_law_choice", "_law_word", "_law_number", "_law_thing", "_law_judged", "_law_right"]
theorem run (w : World) : HandSHeadRun.RunEq R (PySem.W.view R.prog [23]) hk ob 4000 loose w := by
  intro os
  kernel_rfl

section
variable {P : Program} {w : World} {K : PySem.W.Frag} {h : Heap} {mg : Str → Option Value} {base : Heap}
theorem tx (X : K.In h) (G : h.Ns mainGlobals mg) (c : He.SaysD fa fn K) (x : exB K = true) : Tx K mg := by
  obtain ⟨x1, x⟩ := He.ba x
  obtain ⟨x2, x3⟩ := He.ba x
  have hsys : SysOk K := by
    unfold sysB at x3
    split at x3
    · rename_i o e
      exact ⟨o, e, of_decide_eq_true x3⟩
    · cases x3
  exact ⟨He.free_ok X G (c.fact 13 (f := .free "len") rfl), He.free_ok X G (c.fact 14 (f := .free "isinstance") rfl), He.free_ok X G (c.fact 15 (f := .free "int") rfl), He.free_ok X G (c.fact 16 (f := .free "bool") rfl), He.free_ok X G (c.fact 17 (f := .free "str") rfl), He.free_ok X G (c.fact 18 (f := .free "range") rfl), He.free_ok X G (c.fact 19 (f := .free "divmod") rfl), He.free_ok X G (c.fact 20 (f := .free "abs") rfl), He.free_ok X G (c.fact 21 (f := .free "max") rfl), He.free_ok X G (c.fact 22 (f := .free "min") rfl), He.free_ok X G (c.fact 23 (f := .free "all") rfl), He.free_ok X G (c.fact 24 (f := .free "repr") rfl),
    He.glo_ok X G (c.fact 12 (f := .glo "Sizes") rfl), rdB_ok x1, cvB_ok x2, He.str_ok X G (c.fact 25 (f := .str "LETTERS" "abcdefghijklmnopqrstuvwxyz") rfl), He.int_ok X G (c.fact 26 (f := .int "MAX_NAME" 8) rfl), hsys⟩
theorem df {x : Str} {ps : List Str} {sp : Sp} {k : Nat} {st : Stmt} {fd : FuncData} (X : K.In h) (G : h.Ns mainGlobals mg) (g : (He.Fa.glo x).ok K = true) (F : FnP K x x st (He.ga K x) fd)
    (hb : ∀ (kV doc pm : Value) (an : Option Addr) (cdv ct : Value) (us : List Value), us.length = ps.length → bindArgs (PySem.W.fnOf x x (defArgs st) (defBody st) (defScope st) .none kV doc pm an cdv ct) ⟨us, []⟩ = pure (ps.zip us))
    (ok : FnOk P w K mg base CX0 k (He.ga K x) fd ps sp) : Df P w K mg base k x ps sp := ⟨⟨fd, ok, F.bindsN hb⟩, He.glo_ok X G g, F.kp⟩
theorem dfG {x : Str} {ps : List Str} {sp : Sp} {k : Nat} {st : Stmt} {fd : FuncData} (X : K.In h) (G : h.Ns mainGlobals mg) (g : (He.Fa.glo x).ok K = true) (F : FnP K x x st (He.ga K x) fd)
    (hb : ∀ (kV doc pm : Value) (an : Option Addr) (cdv ct : Value) (us : List Value), us.length = ps.length → bindArgs (PySem.W.fnOf x x (defArgs st) (defBody st) (defScope st) .none kV doc pm an cdv ct) ⟨us, []⟩ = pure (ps.zip us))
    (ok : FnG P w K mg base CX0 k (He.ga K x) fd ps sp) : DfG P w K mg base k x ps sp := ⟨⟨fd, ok, F.bindsN hb⟩, He.glo_ok X G g, F.kp⟩
theorem dfK {x : Str} {ps ks : List Str} {j : List Nat} {sp : Sp} {k : Nat} {st : Stmt} {fd : FuncData} (X : K.In h) (G : h.Ns mainGlobals mg) (g : (He.Fa.glo x).ok K = true) (F : FnP K x x st (He.ga K x) fd)
    (hb : ∀ (kV doc pm : Value) (an : Option Addr) (cdv ct : Value) (ws : List Value), ws.length = ks.length → bindArgs (PySem.W.fnOf x x (defArgs st) (defBody st) (defScope st) .none kV doc pm an cdv ct) ⟨[], ks.zip ws⟩ = pure (ps.zip (j.filterMap fun i => ws[i]?)))
    (ok : FnOk P w K mg base CX0 k (He.ga K x) fd ps sp) : DfK P w K mg base k x ps ks j sp := by
  refine ⟨⟨fd, ok, fun s ws hl => ?_⟩, He.glo_ok X G g, F.kp⟩
  obtain ⟨oc, od, dV, kV, doc, pm, an, cdv, ct, osl, rfl, lk, hcd, hD, hK⟩ := F.ex
  rcases hD with ⟨_, rfl⟩ | ⟨e, _⟩
  · exact .of_eq (hb kV doc pm an cdv ct ws hl)
  · exact absurd rfl e
theorem facts {f : Addr} (X : K.In h) (G : h.Ns mainGlobals mg) (hfa : mg ("law" : Str) = some (.ref f)) (c0 : ob0 K = vl0) :
    ∃ fd : FuncData, (∀ (s : Shared) (v : Value), BindsTo s fd ⟨[v], []⟩ [("_law_script", v)]) ∧ ∀ base : Heap, K.In base → base.Ns mainGlobals mg → FnG P w K mg base CX0 5 f fd ["_law_script"] (spLaw K) := by
  have c : He.SaysD fa fn K := congrArg (fun z : Al => z.1) c0
  have x : exB K = true := congrArg (fun z : Al => z.2) c0
  have T := tx X G c x
  obtain ⟨fd0, F0⟩ : ∃ fd, FnP K "is_integer" "is_integer" (top 8) (He.ga K "is_integer") fd := c.def_ 0 (d := dOf ("is_integer", none) "is_integer" "is_integer" (top 8)) rfl
  obtain ⟨fd1, F1⟩ : ∃ fd, FnP K "is_name" "is_name" (top 9) (He.ga K "is_name") fd := c.def_ 1 (d := dOf ("is_name", none) "is_name" "is_name" (top 9)) rfl
  obtain ⟨fd2, F2⟩ : ∃ fd, FnP K "is_cells" "is_cells" (top 10) (He.ga K "is_cells") fd := c.def_ 2 (d := dOf ("is_cells", none) "is_cells" "is_cells" (top 10)) rfl
  obtain ⟨fd3, F3⟩ : ∃ fd, FnP K "_law_rng" "_law_rng" (top 15) (He.ga K "_law_rng") fd := c.def_ 3 (d := dOf ("_law_rng", none) "_law_rng" "_law_rng" (top 15)) rfl
  obtain ⟨fd4, F4⟩ : ∃ fd, FnP K "_law_draw" "_law_draw" (top 16) (He.ga K "_law_draw") fd := c.def_ 4 (d := dOf ("_law_draw", none) "_law_draw" "_law_draw" (top 16)) rfl
  obtain ⟨fd5, F5⟩ : ∃ fd, FnP K "_law_choice" "_law_choice" (top 17) (He.ga K "_law_choice") fd := c.def_ 5 (d := dOf ("_law_choice", none) "_law_choice" "_law_choice" (top 17)) rfl
  obtain ⟨fd6, F6⟩ : ∃ fd, FnP K "_law_word" "_law_word" (top 18) (He.ga K "_law_word") fd := c.def_ 6 (d := dOf ("_law_word", none) "_law_word" "_law_word" (top 18)) rfl
  obtain ⟨fd7, F7⟩ : ∃ fd, FnP K "_law_number" "_law_number" (top 19) (He.ga K "_law_number") fd := c.def_ 7 (d := dOf ("_law_number", none) "_law_number" "_law_number" (top 19)) rfl
  obtain ⟨fd8, F8⟩ : ∃ fd, FnP K "_law_thing" "_law_thing" (top 20) (He.ga K "_law_thing") fd := c.def_ 8 (d := dOf ("_law_thing", none) "_law_thing" "_law_thing" (top 20)) rfl
  obtain ⟨fd9, F9⟩ : ∃ fd, FnP K "_law_judged" "_law_judged" (top 21) (He.ga K "_law_judged") fd := c.def_ 9 (d := dOf ("_law_judged", none) "_law_judged" "_law_judged" (top 21)) rfl
  obtain ⟨fd10, F10⟩ : ∃ fd, FnP K "_law_right" "_law_right" (top 22) (He.ga K "_law_right") fd := c.def_ 10 (d := dOf ("_law_right", none) "_law_right" "_law_right" (top 22)) rfl
  obtain ⟨fd11, F11⟩ : ∃ fd, FnP K "law" "law" (top 23) (He.ga K "law") fd := c.def_ 11 (d := dOf ("law", none) "law" "law" (top 23)) rfl
  have e := hfa.symm.trans (He.glo_ok X G (c.fact 11 (f := .glo "law") rfl))
  cases e
  have b := FunD.bindsA (ps := ["_law_script"]) F11 (fun _ _ _ _ _ _ us hl => match us, hl with | [_], _ => rfl)
  refine ⟨_, fun s v => b s [v] rfl, fun base _ _ => ?_⟩
  have D_is_integer := df (P := P) (w := w) (base := base) X G (c.fact 0 (f := .glo "is_integer") rfl) F0 (ps := ["value"]) (fun _ _ _ _ _ _ us hl => match us, hl with | [_], _ => rfl) (ok_is_integer T F0)
  have D_is_name := df (P := P) (w := w) (base := base) X G (c.fact 1 (f := .glo "is_name") rfl) F1 (ps := ["value"]) (fun _ _ _ _ _ _ us hl => match us, hl with | [_], _ => rfl) (ok_is_name T F1)
  have D_is_cells := df (P := P) (w := w) (base := base) X G (c.fact 2 (f := .glo "is_cells") rfl) F2 (ps := ["value"]) (fun _ _ _ _ _ _ us hl => match us, hl with | [_], _ => rfl) (ok_is_cells T D_is_integer F2)
  have D_is_integer_kw := dfK (P := P) (w := w) (base := base) X G (c.fact 0 (f := .glo "is_integer") rfl) F0 (ps := ["value"]) (ks := ["value"]) (j := [0]) (fun _ _ _ _ _ _ us hl => match us, hl with | [_], _ => rfl) (ok_is_integer T F0)
  have D_is_name_kw := dfK (P := P) (w := w) (base := base) X G (c.fact 1 (f := .glo "is_name") rfl) F1 (ps := ["value"]) (ks := ["value"]) (j := [0]) (fun _ _ _ _ _ _ us hl => match us, hl with | [_], _ => rfl) (ok_is_name T F1)
  have D_is_cells_kw := dfK (P := P) (w := w) (base := base) X G (c.fact 2 (f := .glo "is_cells") rfl) F2 (ps := ["value"]) (ks := ["value"]) (j := [0]) (fun _ _ _ _ _ _ us hl => match us, hl with | [_], _ => rfl) (ok_is_cells T D_is_integer F2)
  have D__law_rng := df (P := P) (w := w) (base := base) X G (c.fact 3 (f := .glo "_law_rng") rfl) F3 (ps := ["_law_script", "_law_k"]) (fun _ _ _ _ _ _ us hl => match us, hl with | [_, _], _ => rfl) (ok_rng T F3)
  have D__law_draw := df (P := P) (w := w) (base := base) X G (c.fact 4 (f := .glo "_law_draw") rfl) F4 (ps := ["_law_rng_here", "_law_many"]) (fun _ _ _ _ _ _ us hl => match us, hl with | [_, _], _ => rfl) (ok_draw T F4)
  have D__law_choice := df (P := P) (w := w) (base := base) X G (c.fact 5 (f := .glo "_law_choice") rfl) F5 (ps := ["_law_rng_here", "_law_options"]) (fun _ _ _ _ _ _ us hl => match us, hl with | [_, _], _ => rfl) (ok_choice T D__law_draw F5)
  have D__law_word := df (P := P) (w := w) (base := base) X G (c.fact 6 (f := .glo "_law_word") rfl) F6 (ps := ["_law_rng_here"]) (fun _ _ _ _ _ _ us hl => match us, hl with | [_], _ => rfl) (ok_word T D__law_draw D__law_choice F6)
  have D__law_number := df (P := P) (w := w) (base := base) X G (c.fact 7 (f := .glo "_law_number") rfl) F7 (ps := ["_law_rng_here"]) (fun _ _ _ _ _ _ us hl => match us, hl with | [_], _ => rfl) (ok_number T D__law_draw D__law_choice F7)
  have D__law_thing := df (P := P) (w := w) (base := base) X G (c.fact 8 (f := .glo "_law_thing") rfl) F8 (ps := ["_law_rng_here"]) (fun _ _ _ _ _ _ us hl => match us, hl with | [_], _ => rfl) (ok_thing T D__law_word D__law_number D__law_choice F8)
  have D__law_judged := df (P := P) (w := w) (base := base) X G (c.fact 9 (f := .glo "_law_judged") rfl) F9 (ps := ["_law_held"]) (fun _ _ _ _ _ _ us hl => match us, hl with | [_], _ => rfl) (ok_judged T F9)
  have D__law_right := dfG (P := P) (w := w) (base := base) X G (c.fact 10 (f := .glo "_law_right") rfl) F10 (ps := ["_law_thing_here"]) (fun _ _ _ _ _ _ us hl => match us, hl with | [_], _ => rfl) (ok_right T D_is_integer D_is_name D_is_cells D_is_integer_kw D_is_name_kw D_is_cells_kw D__law_judged F10)
  exact ok_law T D__law_rng D__law_word D__law_number D__law_thing D__law_right F11
end
end K19
open PySem PySem.W PySem.Calls PyProof.Rows
theorem PySem.Challenge.cw_exactroom_k19_names_and_numbers_judged_holds : PySem.Challenge.rw_exactroom_k19_names_and_numbers_judged.Holds := by
  w_on; o_law
  refine HandSHeadRun.head_any (r := OpenLaw.row PySem.Challenge.rw_exactroom_k19_names_and_numbers_judged) (q := view (OpenLaw.row PySem.Challenge.rw_exactroom_k19_names_and_numbers_judged).prog [23]) (H := K19.hk) (ob := K19.ob) (M := 4000)
    (loose := K19.loose) (d := HandSHeadRun.topDef (OpenLaw.row PySem.Challenge.rw_exactroom_k19_names_and_numbers_judged).prog 23) (kwd := []) K19.ob_eq
    (by kernel_rfl) (fun s => by kernel_rfl) K19.run (by kernel_rfl) (by kernel_rfl) (by kernel_rfl) (by rfl) (by first | assumption | decide +kernel) (by decide +kernel) ⟨rfl, rfl, rfl, rfl, rfl, by decide +kernel⟩ ?hw ?hc
  case hw => w_witness2
  case hc =>
    refine Gu.walkG (l := PySem.Challenge.rw_exactroom_k19_names_and_numbers_judged) (n := 63) (k := 5) (x := "_law_script") (CX := L2.CX0) rfl (by decide) (by kernel_rfl) ⟨⟨rfl, by decide, by decide⟩, rfl⟩ ?F (fun _ _ _ _ z => z)
    intro w mg fa h Y G hmg0
    obtain ⟨K, KX, c⟩ := Y
    have hmg : mg ("law" : PySem.Str) = some (.ref fa) := by
      have e : (HandSHeadRun.topDef (OpenLaw.row PySem.Challenge.rw_exactroom_k19_names_and_numbers_judged).prog 23).name = ("law" : PySem.Str) := by kernel_rfl
      rw [← e]
      exact hmg0
    obtain ⟨fd, hb, hF⟩ := K19.facts (P := (PySem.Challenge.rw_exactroom_k19_names_and_numbers_judged).prog) (w := w) KX G hmg c
    exact ⟨K, fd, K19.spLaw K, KX, hb, fun H a ns hl _ hS => ⟨a, ns, rfl, hS, hl, fun _ => rfl⟩, hF⟩

