import PyProof.Rows.All
import Wide.All
import OpenK.AllK
import Wide.FinOn
import PyProof.ReprRoads
import HandS.ForMost
import HandS.ForExc
import HandS.Property
import HandS.ClsMeth
import HandS.Defaults
import HandS.IsInst
import HandS.Wide
import HandS.WideBits
import HandS.Ends
import HandS.HeadEnd
import HandS.Head0
import HandS.Head1
import HandS.Head2
import HandS.HeadHook1
import HandS.HeadHook2
import HandS.Flow
import HandS.Style
import PyProof.LongRange
import HandS.ExcInit
import HandS.ExcField
import HandS.ExcIs
import HandS.TryOnly
import HandS.OwnEq
import HandS.Iter
import HandS.Comp
import HandS.Walk
import HandS.More
import HandS.DictComp
import HandS.GenYield
import HandS.SortRule
import KE.KStateDown
import Lean
import PySem.Challenge.RW_exactroom_k23_whole_slack_by_all_regions
set_option Elab.async false
set_option linter.all false
set_option maxRecDepth 100000
set_option maxHeartbeats 4000000
/-! Own layer: defs that are called where no repr is under way (the guards are known to be none), so that repr of data can be walked. -/
namespace Gu
open PySem PySem.Spec PyProof.Rows L2
structure RoomG (k : Nat) (A : Around) : Prop where
  r : Room k A
  g : A.guards = some []
theorem RoomG.mono {j k : Nat} {A : Around} (x : RoomG k A) (h : j ≤ k) : RoomG j A := ⟨x.r.mono h, x.g⟩
theorem RoomG.down {k : Nat} {A : Around} (x : RoomG (k + 1) A) (env : Env) : RoomG k (A.deeper env) := ⟨x.r.deeper env, x.g⟩
structure FnG (P : Program) (w : World) (K : PySem.W.Frag) (mg : Str → Option Value) (base : Heap) (CX : CXT) (k : Nat) (f : Addr) (fd : FuncData) (ps : List Str) (sp : Sp) : Prop where
  len : ∀ vs H Q E, sp vs H Q E → vs.length = ps.length
  run : ∀ (A : Around) (outer : List Env) (s : Shared) (H : Hp) (args : Args) (us : List Value) (vs : List V) (Q : VK) (E : XK),
    RoomG k A → Env0 P w K mg base A outer s H → BindsTo s fd args (ps.zip us) → Vals vs us → sp vs H Q E →
    codeAny (model P w) A (.call (.ref f) args) (CR CX outer P w H s Q E) s
section
variable {P : Program} {w : World} {K : PySem.W.Frag} {mg : Str → Option Value} {base : Heap} {CX : CXT} {k : Nat} {f : Addr} {fd : FuncData} {ps : List Str} {sp : Sp}
theorem FnG.of (F : FnOk P w K mg base CX k f fd ps sp) : FnG P w K mg base CX k f fd ps sp :=
  ⟨F.len, fun A outer s H args us vs Q E hr => F.run A outer s H args us vs Q E hr.r⟩
/-- a def by its body -/
theorem okG {x qual : Str} {params : Arguments} {body : List Stmt} {scope : Scope} {dvs : List V} {kws : List (Str × V)} {N : List Str}
    (F : FunD K x qual params body scope dvs kws f fd) (S : FnScope N ps scope) (len : ∀ vs H Q E, sp vs H Q E → vs.length = ps.length)
    (hbody : ∀ (cdv : Value) (A : Around) (outer : List Env) (s : Shared) (H : Hp) (vs : List V) (Q : VK) (E : XK),
      RoomG k (A.deeper (envOfC qual scope s.heap.objs.size f cdv)) → sp vs H Q E →
      ∃ t, PSs (cxOf CX P w K mg base N qual scope f cdv A outer s H E) body t ∧ t { nx := fun _ H' => Q .non H', rt := Q } (start N vs) H) :
    FnG P w K mg base CX (k + 1) f fd ps sp := by
  obtain ⟨oc, od, dV, kV, doc, pm, an, cdv, ct, osl, rfl, lk, hcd, _, _⟩ := F.ex
  refine ⟨len, fun A outer s H args us vs Q E hr e0 hb rv hsp => ?_⟩
  have KX : K.In s.heap := e0.mod.kin.keeps fun b o e => (e0.bs b o e).1
  have hkinds : ∀ y ∈ ps.zip us, scope.names.lookup y.1 = some .local ∨
      (scope.names.lookup y.1 = some .cell ∧ ((cellsFrom (s.heap.objs.size + 1) scope.names []).lookup y.1).isSome = true) := by
    rintro ⟨n, v⟩ hy
    rcases S.par n (List.of_mem_zip hy).1 with q | q
    · exact .inl q
    · exact .inr ⟨q, PySem.W.cellsFrom_some _ _ _ (.inl q)⟩
  refine codeAny_call_function hr.r.depth (KX _ _ lk) rfl S.co S.gen rfl (PySem.W.codeRec_of KX hcd) (hb _ _ _ _ ?_)
  refine wpAny_newFunctionEnv_cells S.kind hkinds fun env he s1 x => ?_
  subst he
  refine ⟨(e0.mod.nolimit.keeps fun b o e => (e0.bs b o e).1).keeps x.toInCall.keep, codeAny_func ?_⟩
  obtain ⟨t, ht, hq⟩ := hbody cdv A outer s H vs Q E (hr.down _) hsp
  have I := inv_start (CX := CX) (E := E) (N := N) (qual := qual) (f := f) (cd := cdv) S hr.r.hd e0 (len _ _ _ _ hsp) rv x
  refine wpAny_mono (ht.run [] s1 (start N vs) H _ I hq) (fun fl s' hs => ?_) fun e s' hs => hs
  cases fl with
  | ret u =>
    obtain ⟨v, σ', H', J, rv', q⟩ := hs
    exact ⟨v, H', J.os, J.bare, J.base, J.hok, rv', q⟩
  | next =>
    obtain ⟨σ', H', J, q⟩ := hs
    exact ⟨V.non, H', J.os, J.bare, J.base, J.hok, rfl, q⟩
  | brk => exact hs.elim fun _ z => z.elim fun _ z => z.2.elim
  | cont => exact hs.elim fun _ z => z.elim fun _ z => z.2.elim
end
section
variable {X : Cx} {CX : CXT} {k : Nat} {f : Addr} {fd : FuncData} {ps : List Str} {sp : Sp} {dvs : List V} {ds : List Value} {E : XK} {x : Str} {p pos : Pos} {e : Expr} {es : List Expr} {t : TA}
theorem runG {pins : List (Addr × Obj)} {σ : L2.St} {H : Hp} {s : Shared} {Q : VK} {us : List Value} {vs : List V} (F : FnG X.prog X.w X.K X.mg X.base CX k f fd ps sp)
    (hr : RoomG k X.A) (hb : Binds X.K fd ps ds) (hd : Vals dvs ds) (hx : Passes CX X E) (I : Inv X pins σ H s) (r : Vals vs us) (h : sp (vs ++ dvs) H Q E) :
    wpAny (model X.prog X.w) X.A (call (.ref f) us) (EP X pins σ Q) X.xe s := by
  have r2 := r.append hd
  have hl : (us ++ ds).length = ps.length := r2.length.symm.trans (F.len _ _ _ _ h)
  refine wpAny_call (codeAny_mono (F.run X.A X.stack s H ⟨us, []⟩ _ _ Q E hr I.env0 (hb s us I.kIn hl) r2 h) fun r s' hq => ?_)
  match r, hq with
  | .error e, hq => exact hx pins σ H s e s' I hq
  | .ok (.ret u), hq => exact I.after hq
/-- f(e, ..) -/
theorem pe_callG (F : FnG X.prog X.w X.K X.mg X.base CX k f fd ps sp) (hr : RoomG k X.A) (hg : Gl X x) (hm : X.mg x = some (.ref f)) (hk : PySem.W.keepIn X.K (.ref f) = true)
    (hb : Binds X.K fd ps ds) (hd : Vals dvs ds) (hx : Passes CX X E) (ha : PA X (e :: es) t) (hdb : (x == ("__debug__" : Str)) = false := by decide)
    (he : starEach (e :: es) X.env = (false, eval e X.env) :: starEach es X.env := by rfl) (hpl : (backTo pos (starEach es X.env)).any (·.1) = false := by rfl) :
    PE X (.Call (.Name x p) (e :: es) [] pos) (tCall sp dvs E t) :=
  ⟨fun pins s σ H Q I h => wpAny_Call_Name_kw (ld_glob I hg hm (PySem.W.callWith_K (h₀ := X.base) I.ok.mod.kin hk
    (thn (ha.run pos pins s σ H _ I h) fun us s1 ⟨vs, H1, I1, r, q⟩ => ⟨I1.kIn, runG F hr hb hd hx I1 r q⟩) he hpl) hdb)⟩
/-- repr of a list or a tuple of data -/
def rReprD (K : PySem.W.Frag) : List V → Hp → VK → Prop := fun xs H Q => ∃ (a : Addr) (d : PyData), xs = [.ref a] ∧ Dp K H (.ref a) d ∧ d.showable = true ∧ d.hasDict = false ∧ d.depth ≤ 60 ∧ d.shown.length ≤ sizeLine ∧ Q (.str d.shown) H
theorem call_reprD (hr : RoomG k X.A) : CallR X (.builtin "repr") (rReprD X.K) := by
  intro pins s σ H xs us Q I r h
  obtain ⟨a, d, rfl, hd, hs, hn, hdep, hz, q⟩ := h
  obtain ⟨u, rfl, ru⟩ := vals1 r
  obtain rfl : u = Value.ref a := ru
  obtain ⟨as, rd⟩ := Dp.reads I d (.ref a) (.ref a) hd rfl
  have hu := hr.r.units
  exact repr_of_reads' rd hs (PyData.noDict_hsm hn) hr.g (by omega) (fun _ _ e => e) (fun h' u tk hk => ⟨.str d.shown, H, I.kept hk, ⟨u, rfl⟩, q⟩) hz
end
/-- the law's call, from its promise where no repr is under way -/
theorem law_go {P : Program} {w : World} {K : PySem.W.Frag} {mg mb : Str → Option Value} {CX : CXT} {k : Nat} {fa a : Addr} {fd : FuncData} {x : Str} {sp : Sp} {s₁ : Shared} {vs : List Value} {H : Hp}
    (KX : K.In s₁.heap) (hns : s₁.heap.Ns mainGlobals mg) (hb : s₁.heap.Ns builtinsNs mb) (hbb : ∀ x : Str, x ≠ "__name__" → mb x = bootBuiltins x) (hlim : s₁.heap.NoLimit) (hg : s₁.gens = #[])
    (ha : s₁.heap.get? a = some { cls := .type "list", data := .seq vs.toArray }) (hr : RoomG k callerA)
    (F : ∀ base : Heap, K.In base → base.Ns mainGlobals mg → FnG P w K mg base CX k fa fd [x] sp) (hbind : ∀ (s : Shared) (u : Value), BindsTo s fd ⟨[u], []⟩ [(x, u)])
    (hsp : sp [.ref a] H (fun v _ => v = .bl true) fun _ _ _ => False) (hCX : ∀ e s', CX [] H s₁ (fun _ _ _ => False) e s' → False)
    (hO : Only H) (hok : HOk P w H s₁.heap) (hA : ∀ b, H b ≠ none → b = a) (hK : H a ≠ none → K.lookup a = none) :
    codeAny (model P w) callerA (.call (.ref fa) ⟨[.ref a], []⟩) (fun r s' => r = .ok (.ret (.bool true)) ∧ OldK s₁.heap s'.heap ∧ s'.os = s₁.os ∧ AllBare s'.gens) s₁ := by
  have free : ∀ {b : Addr} {o : Obj}, s₁.heap.get? b = some o → (b = a → False) → (hidT s₁.heap H).get? b = some o := fun {b o} e n => hidT_get e (by
    cases q : H b with
    | none => rfl
    | some u => exact (n (hA b (by rw [q]; exact fun z => nomatch z))).elim)
  have nsK : ∀ {b : Addr} {m : Str → Option Value}, s₁.heap.Ns b m → (hidT s₁.heap H).Ns b m := fun {b m} ⟨o, es, ep, e, d, r⟩ => ⟨o, es, ep, free e (fun z => by
    rw [z, ha] at e
    have e' := Option.some.inj e
    rw [← e'] at d
    exact nomatch d), d, r⟩
  have hKb : K.In (hidT s₁.heap H) := fun b o e => hidT_get (KX b o e) (by
    cases q : H b with
    | none => rfl
    | some u =>
      have z : b = a := hA b (by rw [q]; exact fun z => nomatch z)
      rw [z] at e q
      rw [hK (by rw [q]; exact fun z => nomatch z)] at e
      exact nomatch e)
  obtain ⟨mc, l1, l2⟩ := hlim
  have e0 : Env0 P w K mg (hidT s₁.heap H) callerA [] s₁ H :=
    ⟨rfl, ⟨hKb, nsK hns, ⟨mb, nsK hb, hbb⟩, ⟨mc, nsK l1, l2⟩⟩, fun b o e => of_hidT e, Nat.le_of_eq (hidT_size _ _), trivial, fun b hb => absurd (show b ∈ ([] : List Addr) from hb) List.not_mem_nil, hok, .of_eq hg⟩
  refine codeAny_mono ((F _ hKb (nsK hns)).run callerA [] s₁ H ⟨[.ref a], []⟩ [.ref a] [.ref a] _ _ hr e0 (hbind s₁ (.ref a)) (.cons rfl .nil) hsp) fun r s' h => ?_
  match r, h with
  | .error e, h => exact (hCX e s' h).elim
  | .ok (.ret u), h =>
    obtain ⟨v, H', os, bare, un, hok', r', q⟩ := h
    obtain rfl : v = .bl true := q
    obtain rfl : u = Value.bool true := r'
    refine ⟨rfl, OldK.of_keep fun b o e => ?_, os, bare⟩
    cases q : H b with
    | none => exact un.keep b o e q (fun z => absurd (show b ∈ ([] : List Addr) from z) List.not_mem_nil) (fun z => absurd (show b ∈ ([] : List Addr) from z) List.not_mem_nil)
    | some u =>
      rcases hO b with z | ⟨ob, xs, z⟩
      · rw [q] at z
        exact nomatch z
      · obtain ⟨e1, _⟩ := hok b _ z
        obtain ⟨e2, _⟩ := hok' b _ (un.frzs b ob _ z)
        rw [e] at e1
        rw [Option.some.inj e1]
        exact e2
theorem law_callG {P : Program} {w : World} {K : PySem.W.Frag} {mg mb : Str → Option Value} {CX : CXT} {k : Nat} {fa a : Addr} {fd : FuncData} {x : Str} {sp : Sp} {s₁ : Shared} {vs : List Value} {ns : List Int}
    (KX : K.In s₁.heap) (hns : s₁.heap.Ns mainGlobals mg) (hb : s₁.heap.Ns builtinsNs mb) (hbb : ∀ x : Str, x ≠ "__name__" → mb x = bootBuiltins x) (hlim : s₁.heap.NoLimit) (hg : s₁.gens = #[])
    (ha : s₁.heap.get? a = some { cls := .type "list", data := .seq vs.toArray }) (hi : IntsAre vs ns) (hl : ns.length ≤ sizeLine) (hr : RoomG k callerA)
    (F : ∀ base : Heap, K.In base → base.Ns mainGlobals mg → FnG P w K mg base CX k fa fd [x] sp) (hbind : ∀ (s : Shared) (u : Value), BindsTo s fd ⟨[u], []⟩ [(x, u)])
    (hsp : ∀ H : Hp, Only H → SqL K H a (ns.map V.int) → sp [.ref a] H (fun v _ => v = .bl true) fun _ _ _ => False) (hCX : ∀ H e s', CX [] H s₁ (fun _ _ _ => False) e s' → False) :
    codeAny (model P w) callerA (.call (.ref fa) ⟨[.ref a], []⟩) (fun r s' => r = .ok (.ret (.bool true)) ∧ OldK s₁.heap s'.heap ∧ s'.os = s₁.os ∧ AllBare s'.gens) s₁ := by
  have rv := vals_ints hi
  have lenV := hi.length
  cases hk : K.lookup a with
  | some o =>
    have e := (KX a o hk).symm.trans ha
    obtain rfl := Option.some.inj e
    have hO : Only (fun _ => none) := fun _ => .inl rfl
    exact law_go (H := fun _ => none) KX hns hb hbb hlim hg ha hr F hbind
      (hsp _ hO (.inr ⟨_, vs.toArray, _, hk, rfl, rfl, rfl, by rw [List.size_toArray, lenV]; exact hl, by simpa using rv⟩)) (hCX _) hO
      (fun b u z => nomatch (show (none : Option HO) = some u from z)) (fun b z => (z rfl).elim) (fun z => (z rfl).elim)
  | none =>
    let H0 : Hp := fun b => if b = a then some (.frz { cls := .type "list", data := .seq vs.toArray } (.lst (ns.map V.int))) else none
    have at_ : H0 a = some (.frz { cls := .type "list", data := .seq vs.toArray } (.lst (ns.map V.int))) := if_pos rfl
    have off : ∀ b, b ≠ a → H0 b = none := fun b h => if_neg h
    have hO : Only H0 := fun b => by
      by_cases h : b = a
      · rw [h]
        exact .inr ⟨_, _, at_⟩
      · exact .inl (off b h)
    refine law_go (H := H0) KX hns hb hbb hlim hg ha hr F hbind (hsp _ hO (.inl (.inr ⟨_, at_⟩))) (hCX _) hO (fun b u z => ?_) (fun b z => ?_) (fun _ => hk)
    · by_cases h : b = a
      · rw [h, at_] at z
        obtain rfl := Option.some.inj z
        rw [h]
        exact ⟨ha, by rw [List.length_map]; exact hl, vs, _, rv, ha⟩
      · rw [off b h] at z
        exact nomatch z
    · by_cases h : b = a
      · exact h
      · exact (z (off b h)).elim
/-- the end of a law, over a head by facts -/
theorem walkG {l : PySem.W.OpenLaw} {n k : Nat} {q : Program} {loose : List Str} {XP : (Str → Option Value) → Heap → Prop} {YP : World → Heap → Prop} {d : DefRec} {CX : CXT} {x : Str}
    (hn : l.most = some n) (hn2 : n ≤ sizeLine) (hdf : d.params.defaults = []) (hr : RoomG k callerA)
    (F : ∀ (w : World) (mg : Str → Option Value) (fa : Addr) (h : Heap), YP w h → h.Ns mainGlobals mg → mg d.name = some (.ref fa) →
      ∃ (K : PySem.W.Frag) (fd : FuncData) (sp : Sp), K.In h ∧ (∀ (s : Shared) (u : Value), BindsTo s fd ⟨[u], []⟩ [(x, u)]) ∧
        (∀ (H : Hp) (a : Addr) (ns : List Int), ns.length ≤ n → Only H → SqL K H a (ns.map V.int) → sp [.ref a] H (fun v _ => v = .bl true) fun _ _ _ => False) ∧
        ∀ base : Heap, K.In base → base.Ns mainGlobals mg → FnG l.prog w K mg base CX k fa fd [x] sp)
    (hCX : ∀ (H : Hp) (s : Shared) (e : Value) (s' : Shared), CX [] H s (fun _ _ _ => False) e s' → False) :
    PySem.W.WalkO q loose XP YP l.row.toRowW d [] (fun f vs => PySem.call f vs) := by
  refine Att.attach_call hn hdf fun w s₀ s₁ mg mb fa o pm cd doc a vs ns G Y ho hd hcd hmg hobj hints hlen hg => ?_
  obtain ⟨K, fd, sp, KX, hb, hsp, hF⟩ := F w mg fa _ Y G.T.g hmg
  exact law_callG KX G.T.g G.T.b G.T.builtins G.T.nolimit hg hobj hints (Nat.le_trans hlen hn2) hr hF hb (fun H hO hS => hsp H a ns hlen hO hS) fun H e s' => hCX H s₁ e s'
end Gu

set_option Elab.async false
set_option linter.all false
set_option maxRecDepth 100000
set_option maxHeartbeats 4000000
/-! Own layer: defs, methods, makers and properties by their names. -/
namespace Ex
open PySem PySem.Spec PyProof.Rows L2 Gu
section
variable (P : Program) (w : World) (K : PySem.W.Frag) (mg : Str → Option Value) (base : Heap)
/-- the module's def x keeps sp -/
structure Df (k : Nat) (x : Str) (ps : List Str) (sp : Sp) : Prop where
  ex : ∃ fd, FnOk P w K mg base CX0 k (He.ga K x) fd ps sp ∧ Binds K fd ps []
  gl : mg x = some (.ref (He.ga K x))
  kp : PySem.W.keepIn K (.ref (He.ga K x)) = true
structure DfG (k : Nat) (x : Str) (ps : List Str) (sp : Sp) : Prop where
  ex : ∃ fd, FnG P w K mg base CX0 k (He.ga K x) fd ps sp ∧ Binds K fd ps []
  gl : mg x = some (.ref (He.ga K x))
  kp : PySem.W.keepIn K (.ref (He.ga K x)) = true
/-- .. called by keywords ks alone; j: the places of the parameters among the keywords -/
structure DfK (k : Nat) (x : Str) (ps ks : List Str) (j : List Nat) (sp : Sp) : Prop where
  ex : ∃ fd, FnOk P w K mg base CX0 k (He.ga K x) fd ps sp ∧ ∀ (s : Shared) (ws : List Value), ws.length = ks.length → BindsTo s fd ⟨[], ks.zip ws⟩ (ps.zip (j.filterMap fun i => ws[i]?))
  gl : mg x = some (.ref (He.ga K x))
  kp : PySem.W.keepIn K (.ref (He.ga K x)) = true
structure Mf (k : Nat) (c m : Str) (ps : List Str) (sp : Sp) : Prop where
  ex : ∃ fd, FnOk P w K mg base CX0 k (He.ma K (He.ga K c) m) fd ps sp ∧ Binds K fd ps []
  cl : Cls K (He.ga K c)
  me : Meth K (He.ga K c) m (He.ma K (He.ga K c) m)
structure Pf (k : Nat) (c m : Str) (sp : Sp) : Prop where
  cl : Cls K (He.ga K c)
  ex : ∃ (p g : Addr) (fd : FuncData), PropOf K (He.ga K c) m p g ∧ FnOk P w K mg base CX0 k g fd ["self"] sp ∧ Binds K fd ["self"] []
structure Kf (k : Nat) (c : Str) (ps : List Str) (sp : Sp) : Prop where
  ex : ∃ fd, FnOk P w K mg base CX0 k (He.ma K (He.ga K c) "__init__") fd ps sp ∧ Binds K fd ps []
  gl : mg c = some (.ref (He.ga K c))
  mkr : Mk K (He.ga K c) (He.ma K (He.ga K c) "__init__")
end
section
variable {X : Cx} {k j : Nat} {x c m : Str} {ps ks : List Str} {ji : List Nat} {sp : Sp} {p pos apos : Pos} {e o : Expr} {es : List Expr} {kws : List Keyword} {t tk : TA} {ta : TE}
theorem pcall (D : Df X.prog X.w X.K X.mg X.base k x ps sp) (hr : Room j X.A) (ha : PA X (e :: es) t) (hj : k ≤ j := by decide) (hg : Gl X x := by rfl) (hdb : (x == ("__debug__" : Str)) = false := by decide)
    (he : starEach (e :: es) X.env = (false, eval e X.env) :: starEach es X.env := by rfl) (hpl : (backTo pos (starEach es X.env)).any (·.1) = false := by rfl) :
    PE X (.Call (.Name x p) (e :: es) [] pos) (tCall sp [] E0 t) := by
  obtain ⟨fd, F, b⟩ := D.ex
  exact pe_call F (hr.mono hj) hg D.gl D.kp b .nil pass0 ha hdb he hpl
theorem pcallG (D : DfG X.prog X.w X.K X.mg X.base k x ps sp) (hr : RoomG j X.A) (ha : PA X (e :: es) t) (hj : k ≤ j := by decide) (hg : Gl X x := by rfl) (hdb : (x == ("__debug__" : Str)) = false := by decide)
    (he : starEach (e :: es) X.env = (false, eval e X.env) :: starEach es X.env := by rfl) (hpl : (backTo pos (starEach es X.env)).any (·.1) = false := by rfl) :
    PE X (.Call (.Name x p) (e :: es) [] pos) (tCall sp [] E0 t) := by
  obtain ⟨fd, F, b⟩ := D.ex
  exact pe_callG F (hr.mono hj) hg D.gl D.kp b .nil pass0 ha hdb he hpl
def tKw (sp : Sp) (n : Nat) (j : List Nat) (tk : TA) : TE := fun σ H Q => tk σ H fun zs H2 => zs.length = n ∧ sp (j.filterMap fun i => zs[i]?) H2 Q E0
theorem vals_pick {zs : List V} {ws : List Value} (r : Vals zs ws) : ∀ j : List Nat, Vals (j.filterMap fun i => zs[i]?) (j.filterMap fun i => ws[i]?)
  | [] => .nil
  | i :: j => by
    rw [List.filterMap_cons, List.filterMap_cons]
    cases e : zs[i]? with
    | none =>
      rw [r.none_of e]
      exact vals_pick r j
    | some z =>
      obtain ⟨u, hu, ru⟩ := r.get e
      rw [hu]
      exact .cons ru (vals_pick r j)
theorem pcallK (D : DfK X.prog X.w X.K X.mg X.base k x ps ks ji sp) (hr : Room j X.A) (hkw : PK X kws tk) (hj : k ≤ j := by decide) (hg : Gl X x := by rfl)
    (hall : (backToKw pos (keywordEach kws X.env)).all (·.1.isSome) = true := by rfl) (hks : (backToKw pos (keywordEach kws X.env)).filterMap (·.1) = ks := by rfl)
    (hdb : (x == ("__debug__" : Str)) = false := by decide)
    (hpl : ((backTo pos (starEach [] X.env)).any (·.1) || (backToKw pos (keywordEach kws X.env)).any (·.1.isNone)) = false := by rfl) :
    PE X (.Call (.Name x p) [] kws pos) (tKw sp ks.length ji tk) := by
  obtain ⟨fd, F, b⟩ := D.ex
  refine ⟨fun pins s σ H Q I h => wpAny_Call_Name_kw (ld_glob I hg D.gl ?_ hdb)⟩
  refine PySem.W.callWith_KW0 (h₀ := X.base) I.ok.mod.kin D.kp hall (thn (hkw.run pos pins s σ H _ I h) fun ws s2 ⟨zs, H2, I2, rz, l2, q2⟩ => ⟨I2.kIn, ?_⟩) hpl
  rw [hks]
  refine wpAny_call (codeAny_mono (F.run X.A X.stack s2 H2 ⟨[], ks.zip ws⟩ _ _ Q E0 (hr.mono hj) I2.env0 (b s2 ws (rz.length.symm.trans l2)) (vals_pick rz ji) q2) fun r s' hq => ?_)
  match r, hq with
  | .ok (.ret u), hq => exact I2.after hq
theorem pmeth {pl : Sem Bool} (D : Mf X.prog X.w X.K X.mg X.base k c m ps sp) (hr : Room j X.A) (he : PE X o ta) (ha : PA X (e :: es) t) (hj : k ≤ j := by decide)
    (hst : starEach (e :: es) X.env = (false, eval e X.env) :: starEach es X.env := by rfl) (hpl : (backTo pos (starEach es X.env)).any (·.1) = false := by rfl)
    (ht : eval (.Call (.Attribute o m apos) (e :: es) [] pos) X.env = (do
      let ov ← eval o X.env
      standAt apos.atName
      let (f, first) ← holding [ov] (getMethod ov m pl)
      callWith pos f first (backTo pos (starEach (e :: es) X.env)) (backToKw pos (keywordEach [] X.env))) := by rfl) :
    PE X (.Call (.Attribute o m apos) (e :: es) [] pos) (tMeth (He.ga X.K c) m sp [] E0 ta t) := by
  obtain ⟨fd, F, b⟩ := D.ex
  exact pe_meth he D.cl D.me F (hr.mono hj) b .nil pass0 ha hst hpl ht
theorem pmeth0 {pl : Sem Bool} (D : Mf X.prog X.w X.K X.mg X.base k c m ps sp) (hr : Room j X.A) (he : PE X o ta) (hj : k ≤ j := by decide)
    (ht : eval (.Call (.Attribute o m apos) [] [] pos) X.env = (do
      let ov ← eval o X.env
      standAt apos.atName
      let (f, first) ← holding [ov] (getMethod ov m pl)
      callWith pos f first (backTo pos (starEach [] X.env)) (backToKw pos (keywordEach [] X.env))) := by rfl) :
    PE X (.Call (.Attribute o m apos) [] [] pos) (tMeth (He.ga X.K c) m sp [] E0 ta tNil) := by
  obtain ⟨fd, F, b⟩ := D.ex
  exact pe_meth0 he D.cl D.me F (hr.mono hj) b .nil pass0 ht
theorem pprop (D : Pf X.prog X.w X.K X.mg X.base k c m sp) (hr : Room j X.A) (he : PE X o ta) (hj : k + 1 ≤ j := by decide) (hab : attributeBase o m X.env (eval o X.env) = eval o X.env := by rfl) :
    PE X (.Attribute o m pos) (tProp (He.ga X.K c) sp [] E0 ta) := by
  obtain ⟨p, g, fd, hp, F, b⟩ := D.ex
  exact pe_prop he D.cl hp F (hr.mono hj) b .nil pass0 hab
theorem pmake (D : Kf X.prog X.w X.K X.mg X.base k c ps sp) (hr : Room j X.A) (ha : PA X (e :: es) t) (hj : k + 1 ≤ j := by decide) (hg : Gl X c := by rfl) (hdb : (c == ("__debug__" : Str)) = false := by decide)
    (he : starEach (e :: es) X.env = (false, eval e X.env) :: starEach es X.env := by rfl) (hpl : (backTo pos (starEach es X.env)).any (·.1) = false := by rfl) :
    PE X (.Call (.Name c p) (e :: es) [] pos) (tMake (He.ga X.K c) sp [] E0 t) := by
  obtain ⟨fd, F, b⟩ := D.ex
  exact pe_make D.mkr F (hr.mono hj) hg D.gl b .nil pass0 ha hdb he hpl
end
end Ex

set_option Elab.async false
set_option linter.all false
set_option maxRecDepth 100000
set_option maxHeartbeats 4000000
/-! Own layer: range(a, b) of any whole numbers (walked by one or the other iterator of the machine). -/
namespace Ex
open PySem PySem.Spec PyProof.Rows L2 Gu
theorem turn_long {P : Program} {w : World} {K : PySem.W.Frag} {tg : Expr} (it : Addr) (lo : Int) (n : Nat) :
    Turn P w K tg (Itr lo n) [it] it (fun i h => IsLongIter h it (lo + (i : Nat) * 1) ((n : Int) - (i : Nat)) 1) where
  mem := List.mem_singleton.mpr rfl
  obj := fun i h st b hb => by
    obtain rfl := List.mem_singleton.mp hb
    exact ⟨_, st, fun v z => nomatch (show Data.fields _ = Data.cell v from z)⟩
  keep := fun i h h' st k => k it (List.mem_singleton.mpr rfl) _ st
  item := by
    rintro X rfl rfl rfl hc i pins s σ H E I hf st hg
    obtain ⟨f0, f1, f2, f3, f4, f5⟩ := hf it (List.mem_singleton.mpr rfl)
    refine (Walks.longrange (prog := X.prog) (w := X.w) (I.ok.hd hc) it lo 1 n).item i s _ _ hg st fun v h' tk hv st' kk => ?_
    obtain ⟨t, rfl⟩ := hv
    have J : Inv X pins σ H { s with heap := h', toks := tk } := I.turned (fun b o hb e => kk b o (fun z => hb (List.mem_singleton.mp z)) e) f0 f1 f3 f4 f5
    refine ⟨_, rfl, go_of (s := { s with heap := h', toks := tk }) (n := "longrange_iterator") st' rfl rfl (by decide) ⟨.int (lo + i), H, J, ⟨t, ?_⟩, ⟨rfl, rfl⟩, st', fun b hb => (hf b hb).1⟩⟩
    rw [Int.mul_one]
  done := by
    rintro X rfl rfl rfl hc i pins s σ H E I hf st hg
    obtain ⟨f0, f1, f2, f3, f4, f5⟩ := hf it (List.mem_singleton.mpr rfl)
    have hn : n ≤ i := hg
    exact wpAny_pyNext_long_end (I.ok.hd hc) st (by omega) fun h' eb => ⟨rfl, I.turned (t' := s.toks) (fun b o hb e => eb b o hb e) f0 f1 f3 f4 f5⟩
  self := fun _ _ _ _ _ st h => wpAny_pyIter_longiter st h
section
variable {X : Cx} {tg : Expr}
theorem range_any {pins : List (Addr × Obj)} {σ : L2.St} {H : Hp} {s : Shared} {R : It → Hp → Prop} {E : Value → Shared → Prop} {lo hi : Int} {t u v : Tok} {tk : Nat} (I : Inv X pins σ H s) (q : R (Itr lo (hi - lo).toNat) H) :
    wpAny (model X.prog X.w) X.A (pyIter (.ref s.heap.objs.size)) (PIE X pins σ tg R) E { s with heap := s.heap.push { cls := .type "range", data := .fields #[.int lo t, .int hi u, .int 1 v] }, toks := tk } := by
  have J : Inv X pins σ H { s with heap := s.heap.push { cls := .type "range", data := .fields #[.int lo t, .int hi u, .int 1 v] }, toks := tk } := I.kept fun b o e => Heap.get?_push_of_some _ e
  have e1 : lo + ((0 : Nat) : Int) * 1 = lo := by simp
  have e2 : (((hi - lo).toNat : Nat) : Int) - ((0 : Nat) : Int) = Builtin.Range.rangeSize lo hi 1 := by rw [rangeSize_one]; split <;> omega
  have fr : ∀ b ∈ [(s.heap.push { cls := .type "range", data := .fields #[.int lo t, .int hi u, .int 1 v] }).objs.size], _ := fun b hb => by
    obtain rfl := List.mem_singleton.mp hb
    exact J.fpOk (Nat.le_refl _) (J.hok.fresh (Nat.le_refl _))
  cases hs : Builtin.Range.small lo hi 1 with
  | true =>
    refine wpAny_pyIter_range (IsRange.new ..) hs ⟨_, [_], _, _, H, rfl, J.kept (t' := tk) fun b o e => Heap.get?_push_of_some _ e, turn_range _ lo (hi - lo).toNat, ?_, fr, q⟩
    show IsRangeIter _ _ (lo + ((0 : Nat) : Int) * 1) ((((hi - lo).toNat : Nat) : Int) - ((0 : Nat) : Int)) 1
    rw [e1, e2]
    exact Heap.get?_push_size _ rfl
  | false =>
    refine wpAny_pyIter_longrange (IsRange.new ..) hs ⟨_, [_], _, _, H, rfl, J.kept (t' := tk) fun b o e => Heap.get?_push_of_some _ e, turn_long _ lo (hi - lo).toNat, ?_, fr, q⟩
    show IsLongIter _ _ (lo + ((0 : Nat) : Int) * 1) ((((hi - lo).toNat : Nat) : Int) - ((0 : Nat) : Int)) 1
    rw [e1, e2]
    exact Heap.get?_push_size _ rfl
def iRngA (ta : TA) : TI := fun σ H R => ta σ H fun vs H1 => ∃ i j : Int, vs = [.int i, .int j] ∧ R (Itr i (j - i).toNat) H1
theorem pi_rangeA {a b : Expr} {ta : TA} {p pos : Pos} (hg : Gl X "range") (hm : X.mg "range" = none) (ha : PA X [a, b] ta) (hs : starEach [a, b] X.env = [(false, eval a X.env), (false, eval b X.env)] := by rfl)
    (hs2 : starEach [b] X.env = [(false, eval b X.env)] := by rfl) : PI X tg (.Call (.Name "range" p) [a, b] [] pos) (iRngA ta) := by
  refine ⟨fun pins s σ H R I h => Call_ (ld_blt I hg hm boot_range (PyProof.Rows.callWith_type1 (thn (ha.run pos pins s σ H _ I h) fun us s1 ⟨vs, H1, I1, r1, q1⟩ => ?_) (by rw [hs, hs2]) (by rw [hs2]; rfl)))⟩
  obtain ⟨i, j, rfl, q⟩ := q1
  obtain ⟨u, z, rfl, ⟨t, rfl⟩, ⟨t', rfl⟩⟩ := vals2 r1
  exact call_range_2 (range_any I1 q)
end
end Ex

set_option linter.all false
/-! The mathematics of counted regions. -/
namespace M15
theorem div_is {x s q r : Int} (h : x = s * q + r) (h0 : 0 ≤ r) (h1 : r < s) : x / s = q := by
  have e : r + s * q = x := by rw [h, Int.add_comm]
  exact ((Int.ediv_emod_unique (by omega)).mpr ⟨e, h0, h1⟩).1
/-- the number of multiples below x, rounded up -/
def C (s x : Int) : Int := (x + s - 1) / s
theorem parts (s x : Int) (h : 1 ≤ s) : x = s * (x / s) + x % s ∧ 0 ≤ x % s ∧ x % s < s :=
  ⟨(Int.mul_ediv_add_emod x s).symm, Int.emod_nonneg _ (by omega), Int.emod_lt_of_pos _ (by omega)⟩
theorem C_of {s x q r : Int} (hs : 1 ≤ s) (h : x = s * q + r) (h0 : 0 ≤ r) (h1 : r < s) : C s x = if r = 0 then q else q + 1 := by
  unfold C
  by_cases z : r = 0
  · rw [if_pos z]
    exact div_is (r := s - 1) (by omega) (by omega) (by omega)
  · rw [if_neg z]
    refine div_is (r := r - 1) ?_ (by omega) (by omega)
    have e : s * (q + 1) = s * q + s := by rw [Int.mul_add, Int.mul_one]
    omega
theorem C_step {s x : Int} (hs : 1 ≤ s) : C s (x + 1) = C s x + (if x % s = 0 then 1 else 0) := by
  obtain ⟨e, h0, h1⟩ := parts s x hs
  have a : C s (x + 1) = x / s + 1 := by
    unfold C
    have e2 : s * (x / s + 1) = s * (x / s) + s := by rw [Int.mul_add, Int.mul_one]
    exact div_is (r := x % s) (by omega) h0 h1
  rw [a, C_of hs e h0 h1]
  by_cases z : x % s = 0
  · rw [if_pos z, if_pos z]
  · rw [if_neg z, if_neg z]
    omega
theorem C_mono {s : Int} (hs : 1 ≤ s) (x : Int) (n : Nat) : C s x ≤ C s (x + n) := by
  induction n with
  | zero => simp
  | succ n ih =>
    have e := C_step (s := s) (x := x + n) hs
    rw [show x + ((n + 1 : Nat) : Int) = x + n + 1 by omega, e]
    split <;> omega
theorem C_le {s : Int} (hs : 1 ≤ s) {x y : Int} (h : x ≤ y) : C s x ≤ C s y := by
  have e := C_mono hs x (y - x).toNat
  rw [show x + (((y - x).toNat : Nat) : Int) = y by omega] at e
  exact e
/-- how many of the first n addresses from b on begin a region that ends by e -/
def cnt (s b e : Int) : Nat → Nat
  | 0 => 0
  | n + 1 => cnt s b e n + if (b + n) % s = 0 ∧ b + n + s ≤ e then 1 else 0
theorem cnt_is {s b e : Int} (hs : 1 ≤ s) : ∀ n : Nat, ((cnt s b e n : Nat) : Int) = if C s (min (b + n) (e - s + 1)) > C s b then C s (min (b + n) (e - s + 1)) - C s b else 0
  | 0 => by
    have h : C s (min (b + (0 : Nat)) (e - s + 1)) ≤ C s b := C_le hs (by omega)
    rw [if_neg (by omega)]
    rfl
  | n + 1 => by
    have ih := cnt_is (s := s) (b := b) (e := e) hs n
    show (((cnt s b e n + if (b + n) % s = 0 ∧ b + n + s ≤ e then 1 else 0 : Nat)) : Int) = _
    by_cases hb : b + n + s ≤ e
    · rw [show min (b + ((n + 1 : Nat) : Int)) (e - s + 1) = b + n + 1 by omega, C_step hs]
      rw [show min (b + (n : Int)) (e - s + 1) = b + n by omega] at ih
      have m := C_mono hs b n
      by_cases z : (b + n) % s = 0
      · rw [if_pos ⟨z, hb⟩, if_pos z]
        split at ih <;> split <;> omega
      · rw [if_neg (fun q => z q.1), if_neg z]
        split at ih <;> split <;> omega
    · rw [if_neg (fun q => hb q.2)]
      rw [show min (b + ((n + 1 : Nat) : Int)) (e - s + 1) = e - s + 1 by omega]
      rw [show min (b + (n : Int)) (e - s + 1) = e - s + 1 by omega] at ih
      omega
/-- the greatest of 0 and the difference -/
def cntM (s b e : Int) : Int := if e / s - C s b > 0 then e / s - C s b else 0
theorem C_end {s e : Int} : C s (e - s + 1) = e / s := by
  unfold C
  rw [show e - s + 1 + s - 1 = e by omega]
theorem cnt_all {s b e : Int} (hs : 1 ≤ s) (hb : b ≤ e) : ((cnt s b e (e - b).toNat : Nat) : Int) = cntM s b e := by
  rw [cnt_is hs, show min (b + (((e - b).toNat : Nat) : Int)) (e - s + 1) = e - s + 1 by omega, C_end]
  unfold cntM
  split <;> split <;> omega
theorem up_is {s a : Int} (hs : 1 ≤ s) : -(-a / s) = C s a := by
  obtain ⟨e, h0, h1⟩ := parts s a hs
  rw [C_of hs e h0 h1]
  by_cases z : a % s = 0
  · rw [if_pos z]
    have : -a / s = -(a / s) := div_is (r := 0) (by rw [Int.mul_neg]; omega) (by omega) (by omega)
    omega
  · rw [if_neg z]
    have e2 : s * (-(a / s) - 1) = -(s * (a / s)) - s := by rw [Int.mul_sub, Int.mul_neg, Int.mul_one]
    have : -a / s = -(a / s) - 1 := div_is (r := s - a % s) (by omega) (by omega) (by omega)
    omega
theorem quot_is {s a e : Int} (hs : 1 ≤ s) : ((e - e % s) - -(-a / s) * s) / s = e / s - C s a := by
  obtain ⟨h, h0, h1⟩ := parts s e hs
  rw [up_is hs]
  refine div_is (r := 0) ?_ (by omega) (by omega)
  have x1 : C s a * s = s * C s a := Int.mul_comm _ _
  have x2 : s * (e / s - C s a) = s * (e / s) - s * C s a := Int.mul_sub _ _ _
  omega
/-- a region across the cut -/
theorem across {s b c e : Int} (hs : 1 ≤ s) (h1 : b ≤ c) (h2 : c ≤ e) :
    cntM s b c + cntM s c e + (if b ≤ c - c % s ∧ c - c % s < c ∧ c - c % s + s ≤ e ∧ c % s ≠ 0 then 1 else 0) = cntM s b e := by
  obtain ⟨ec, c0, c1⟩ := parts s c hs
  obtain ⟨ee, e0, e1⟩ := parts s e hs
  obtain ⟨eb, b0, b1⟩ := parts s b hs
  have hCc := C_of hs ec c0 c1
  have hCb := C_of hs eb b0 b1
  have m1 : C s b ≤ C s c := C_le hs h1
  have m2 : c / s ≤ e / s := Int.ediv_le_ediv (by omega) h2
  have m3 : b / s ≤ c / s := Int.ediv_le_ediv (by omega) h1
  unfold cntM
  -- quotients: qb qc qe
  generalize hqb : b / s = qb at *
  generalize hqc : c / s = qc at *
  generalize hqe : e / s = qe at *
  have k1 : b ≤ c - c % s ↔ C s b ≤ qc := by
    have t : c - c % s = s * qc := by omega
    rw [t, hCb]
    constructor
    · intro h
      by_cases z : b % s = 0
      · rw [if_pos z]
        exact m3
      · rw [if_neg z]
        refine Int.not_lt.mp fun hn => ?_
        have : qc = qb := by omega
        rw [this] at h
        omega
    · intro h
      by_cases z : b % s = 0
      · rw [if_pos z] at h
        have := Int.mul_le_mul_of_nonneg_left h (show (0 : Int) ≤ s by omega)
        omega
      · rw [if_neg z] at h
        have := Int.mul_le_mul_of_nonneg_left h (show (0 : Int) ≤ s by omega)
        rw [Int.mul_add, Int.mul_one] at this
        omega
  have k2 : c - c % s + s ≤ e ↔ qc + 1 ≤ qe := by
    have t : c - c % s + s = s * (qc + 1) := by rw [Int.mul_add, Int.mul_one]; omega
    rw [t]
    constructor
    · intro h
      refine Int.not_lt.mp fun hn => ?_
      have := Int.mul_le_mul_of_nonneg_left (show qe ≤ qc by omega) (show (0 : Int) ≤ s by omega)
      have : s * (qc + 1) = s * qc + s := by rw [Int.mul_add, Int.mul_one]
      omega
    · intro h
      have := Int.mul_le_mul_of_nonneg_left h (show (0 : Int) ≤ s by omega)
      omega
  have hI : (if b ≤ c - c % s ∧ c - c % s < c ∧ c - c % s + s ≤ e ∧ c % s ≠ 0 then (1 : Int) else 0) = if c % s ≠ 0 ∧ C s b ≤ qc ∧ qc + 1 ≤ qe then 1 else 0 := by
    by_cases y : c % s ≠ 0 ∧ C s b ≤ qc ∧ qc + 1 ≤ qe
    · rw [if_pos y, if_pos ⟨k1.mpr y.2.1, by omega, k2.mpr y.2.2, y.1⟩]
    · rw [if_neg y, if_neg fun q => y ⟨q.2.2.2, k1.mp q.1, k2.mp q.2.2.1⟩]
  rw [hI]
  have hc3 : C s c = qc ∧ c % s = 0 ∨ C s c = qc + 1 ∧ c % s ≠ 0 := by
    by_cases z : c % s = 0
    · rw [if_pos z] at hCc
      exact .inl ⟨hCc, z⟩
    · rw [if_neg z] at hCc
      exact .inr ⟨hCc, z⟩
  clear hCc hCb k1 k2 hI
  generalize C s b = cb at *
  generalize C s c = cc at *
  rcases hc3 with ⟨rfl, z⟩ | ⟨rfl, z⟩
  · rw [if_neg (c := c % s ≠ 0 ∧ cb ≤ cc ∧ cc + 1 ≤ qe) fun q => q.1 z]
    split <;> split <;> split <;> omega
  · by_cases y : cb ≤ qc ∧ qc + 1 ≤ qe
    · rw [if_pos (c := c % s ≠ 0 ∧ cb ≤ qc ∧ qc + 1 ≤ qe) ⟨z, y.1, y.2⟩]
      split <;> split <;> split <;> omega
    · rw [if_neg (c := c % s ≠ 0 ∧ cb ≤ qc ∧ qc + 1 ≤ qe) fun q => y q.2]
      split <;> split <;> split <;> omega
end M15

set_option Elab.async false
set_option linter.all false
set_option maxRecDepth 100000
set_option maxHeartbeats 4000000
/-! Own layer: data of any depth, dicts among it, as repr shows it. -/
namespace Ex
open PySem PySem.Spec PyProof.Rows L2 Gu
mutual
inductive Dq (K : PySem.W.Frag) (H : Hp) : V → PyData → Prop
  | non : Dq K H .non .none
  | bl (b : Bool) : Dq K H (.bl b) (.bool b)
  | int (i : Int) : Dq K H (.int i) (.int i)
  | str (x : Str) : Dq K H (.str x) (.str x)
  | lst {a : Addr} {xs : List V} {ds : List PyData} : SqL K H a xs → DqAll K H xs ds → Dq K H (.ref a) (.list ds)
  | tup {a : Addr} {xs : List V} {ds : List PyData} : SqT K H a xs → DqAll K H xs ds → Dq K H (.ref a) (.tuple ds)
  | dct {a : Addr} {kvs : List (Key × V)} {ds : List (PyData × PyData)} : H a = some (.dK kvs) → DqAll K H (kvs.map fun p => kV p.1) (ds.map (·.1)) → DqAll K H (kvs.map (·.2)) (ds.map (·.2)) → Dq K H (.ref a) (.dict ds)
inductive DqAll (K : PySem.W.Frag) (H : Hp) : List V → List PyData → Prop
  | nil : DqAll K H [] []
  | cons {v : V} {vs : List V} {d : PyData} {ds : List PyData} : Dq K H v d → DqAll K H vs ds → DqAll K H (v :: vs) (d :: ds)
end
/-- the table of modules stands in the written part: no list lies there -/
def SysOk (K : PySem.W.Frag) : Prop := ∃ o, K.lookup sysModules = some o ∧ o.cls ≠ .type "list"
section
variable {X : Cx} {pins : List (Addr × Obj)} {σ : L2.St} {H : Hp} {s : Shared}
theorem key_rel {k : Key} {v : Value} (h : keyIs k v = true) : RelV (kV k) v := by
  rcases keyIs_shape h with ⟨i, t, rfl, rfl⟩ | ⟨x, t, rfl, rfl⟩
  · exact ⟨t, rfl⟩
  · exact ⟨t, rfl⟩
theorem not_sys {a : Addr} {o : Obj} (hs : SysOk X.K) (I : Inv X pins σ H s) (ho : s.heap.get? a = some o) (hc : o.cls = .type "list") : a ≠ sysModules := fun z => by
  obtain ⟨u, e, n⟩ := hs
  have h2 := I.kIn _ _ e
  rw [z, h2] at ho
  rw [Option.some.inj ho] at n
  exact n hc
theorem pairs_rel {es : List DictEntry} {vs : List (Key × Value)} (h : Pairs (mixKind X.prog X.w) es vs) : ∀ {kvs : List (Key × V)}, KV kvs vs → Vals (kvs.map fun p => kV p.1) (es.map (·.key)) ∧ Vals (kvs.map (·.2)) (es.map (·.val)) := by
  induction h with
  | nil =>
    intro kvs r
    cases r
    exact ⟨.nil, .nil⟩
  | @cons e kv es vs h1 h2 h3 ih =>
    intro kvs r
    cases r with
    | @cons p _ l _ r1 r2 =>
      obtain ⟨i1, i2⟩ := ih r2
      have k1 : RelV (kV p.1) e.key := by
        rw [r1.1]
        exact key_rel h1
      have k2 : RelV p.2 e.val := by
        rw [h2]
        exact r1.2
      exact ⟨.cons k1 i1, .cons k2 i2⟩
mutual
theorem Dq.reads (hs : SysOk X.K) (I : Inv X pins σ H s) : ∀ {v : V} {d : PyData}, Dq X.K H v d → ∀ u, RelV v u → ∃ as, Reads s.heap u d as ∧ sysModules ∉ as
  | _, _, .non, u, r => by
    cases r
    exact ⟨_, Reads.none, List.not_mem_nil⟩
  | _, _, .bl b, u, r => by
    cases r
    exact ⟨_, Reads.bool b, List.not_mem_nil⟩
  | _, _, .int i, u, r => by
    obtain ⟨t, rfl⟩ := r
    exact ⟨_, Reads.int i t, List.not_mem_nil⟩
  | _, _, .str x, u, r => by
    obtain ⟨t, rfl⟩ := r
    exact ⟨_, Reads.str x t, List.not_mem_nil⟩
  | _, _, .lst (a := a) hq ha, u, r => by
    cases r
    obtain ⟨its, rv, ⟨o, n, ho, hc, _, hd⟩, _⟩ := I.list hq
    obtain ⟨as, hr, na⟩ := Dq.readsAll hs I ha its rv
    refine ⟨_, Reads.list ho hc hd hr, fun hm => ?_⟩
    rcases List.mem_cons.mp hm with z | z
    · exact not_sys hs I ho hc z.symm
    · exact na z
  | _, _, .tup (a := a) hq ha, u, r => by
    cases r
    obtain ⟨its, rv, ⟨o, ho, hc, n, hd⟩, _⟩ := I.tuple hq
    obtain ⟨as, hr, na⟩ := Dq.readsAll hs I ha its rv
    exact ⟨_, Reads.tuple ho hc hd hr, na⟩
  | _, _, .dct (a := a) (kvs := kvs) hq h1 h2, u, r => by
    cases r
    obtain ⟨_, ns, vs, rk, o, es, ep, ho, hx, hd, _, hp, _⟩ := (show ObjOk X.prog X.w H s.heap a (.dK kvs) from I.hok a _ hq)
    obtain ⟨r1, r2⟩ := pairs_rel hp rk
    obtain ⟨as, q1, n1⟩ := Dq.readsAll hs I h1 _ r1
    obtain ⟨bs, q2, n2⟩ := Dq.readsAll hs I h2 _ r2
    refine ⟨_, Reads.dict ho hx.1 hd q1 q2, fun hm => ?_⟩
    rcases List.mem_append.mp hm with z | z
    · rcases List.mem_cons.mp z with z | z
      · rw [← z, beq_self_eq_true] at ns
        cases ns
      · exact n1 z
    · exact n2 z
theorem Dq.readsAll (hs : SysOk X.K) (I : Inv X pins σ H s) : ∀ {vs : List V} {ds : List PyData}, DqAll X.K H vs ds → ∀ us : List Value, Vals vs us → ∃ as, ReadsAll s.heap us ds as ∧ sysModules ∉ as
  | _, _, .nil, us, r => by
    cases r
    exact ⟨_, ReadsAll.nil, List.not_mem_nil⟩
  | _, _, .cons h1 h2, us, r => by
    cases r with
    | cons r1 r2 =>
      obtain ⟨as, q1, n1⟩ := Dq.reads hs I h1 _ r1
      obtain ⟨bs, q2, n2⟩ := Dq.readsAll hs I h2 _ r2
      refine ⟨_, ReadsAll.cons q1 q2, fun hm => ?_⟩
      rcases List.mem_append.mp hm with z | z
      · exact n1 z
      · exact n2 z
end
end
section
variable {X : Cx} {k : Nat}
/-- repr of any data -/
def rReprQ (K : PySem.W.Frag) : List V → Hp → VK → Prop := fun xs H Q => ∃ (v : V) (d : PyData), xs = [v] ∧ Dq K H v d ∧ d.showable = true ∧ d.depth ≤ 60 ∧ d.shown.length ≤ sizeLine ∧ Q (.str d.shown) H
theorem call_reprQ (hr : RoomG k X.A) (hs : SysOk X.K) : CallR X (.builtin "repr") (rReprQ X.K) := by
  intro pins s σ H xs us Q I r h
  obtain ⟨v, d, rfl, hd, hsh, hdep, hz, q⟩ := h
  obtain ⟨u, rfl, ru⟩ := vals1 r
  obtain ⟨as, rd, na⟩ := Dq.reads hs I hd u ru
  have hu := hr.r.units
  cases hd with
  | non =>
    cases ru
    exact PySem.P.repr_of_none ⟨.str _, H, I.tok _, ⟨_, rfl⟩, by simpa only [PyData.shown] using q⟩
  | bl b =>
    cases ru
    exact PySem.P.repr_of_bool ⟨.str _, H, I.tok _, ⟨_, rfl⟩, by simpa only [PyData.shown] using q⟩
  | int i =>
    obtain ⟨t, rfl⟩ := ru
    exact PySem.P.repr_of_int (by simpa [PyData.showable] using hsh) ⟨.str _, H, I.tok _, ⟨_, rfl⟩, by simpa only [PyData.shown] using q⟩
  | str x =>
    obtain ⟨t, rfl⟩ := ru
    exact PySem.P.repr_of_str ⟨.str _, H, I.tok _, ⟨_, rfl⟩, by simpa only [PyData.shown] using q⟩ (by simpa only [PyData.shown] using hz)
  | @lst a xs ds hq ha =>
    obtain rfl : u = Value.ref a := ru
    exact repr_of_reads' rd hsh (fun _ => na) hr.g (by omega) (fun _ _ e => e) (fun h' u tk hk => ⟨.str _, H, I.kept hk, ⟨u, rfl⟩, q⟩) hz
  | @tup a xs ds hq ha =>
    obtain rfl : u = Value.ref a := ru
    exact repr_of_reads' rd hsh (fun _ => na) hr.g (by omega) (fun _ _ e => e) (fun h' u tk hk => ⟨.str _, H, I.kept hk, ⟨u, rfl⟩, q⟩) hz
  | @dct a kvs ds hq h1 h2 =>
    obtain rfl : u = Value.ref a := ru
    exact repr_of_reads' rd hsh (fun _ => na) hr.g (by omega) (fun _ _ e => e) (fun h' u tk hk => ⟨.str _, H, I.kept hk, ⟨u, rfl⟩, q⟩) hz
/-- x is not True, x is not False, of any scalar -/
def rNotBA : R2 := fun x y H Q => ∃ b : Bool, y = .bl b ∧ ((∃ a : Bool, x = .bl a ∧ Q (.bl (!decide (a = b))) H) ∨ (∃ i : Int, x = .int i ∧ Q (.bl true) H))
theorem op_notBA : OpR X (compareOp .IsNot) rNotBA := by
  intro pins s σ H x y v u Q I rx ry h
  obtain ⟨b, rfl, h⟩ := h
  rcases h with ⟨a, rfl, q⟩ | ⟨i, rfl, q⟩
  · exact op_notBl pins s σ H _ _ v u Q I rx ry ⟨a, b, rfl, rfl, q⟩
  · cases (show u = Value.bool b from ry)
    obtain ⟨t, rfl⟩ := (show ∃ t, v = Value.int i t from rx)
    exact wpAny_isNot_other rfl (fun z => nomatch z) ⟨.bl true, H, I, rfl, q⟩
end
end Ex

set_option Elab.async false
set_option linter.all false
set_option maxRecDepth 100000
set_option maxHeartbeats 4000000
/-! Own layer: isinstance of a caught error that has a dict of its own; errors with fields, raised. -/
namespace Ex
open PySem PySem.Spec PySem.Calls PyProof.Rows L2 Gu
section
variable {prog : Program} {w : World} {A : Around} {E : Value → Shared → Prop} {s : Shared} {K : PySem.W.Frag} {x D : Addr} {ox od : Obj}
theorem class_of_exc {Q : Option Value → Shared → Prop} (c : ExcC K D) (X : K.In s.heap) (I : PySem.W.InstAt s.heap x ox D (some od)) (h : Q (some (.ref D)) { s with toks := s.toks + 1 }) :
    wpAny (model prog w) A (getAttr? (.ref x) "__class__") Q E s := by
  have found : PySem.W.findObj K D (some od) "__class__" = some (.bind (.builtin "getset_descriptor.__get__") (.builtin "object.__class__")) :=
    PySem.W.findObj_data (by obtain ⟨cd, e, _⟩ := PySem.W.any_some c.hd; rw [e]; rfl) c.ha c.hn c.ht
  obtain ⟨hp, g, d, t, os⟩ := s
  have lt := I.type (M := model prog w)
  have lg := PySem.W.looks_findIn (M := model prog w) X c.hg
  have lk := PySem.W.looks_findIn (M := model prog w) X c.hk
  have lf := PySem.W.looks_find (M := model prog w) X I found
  have other : (onTheHeap (Value.ref D) && Value.builtin "BaseException.__getattribute__" == Value.builtin "object.__getattribute__") = false := by
    rw [show (Value.builtin "BaseException.__getattribute__" == Value.builtin "object.__getattribute__") = false by decide +kernel]
    rfl
  unfold getAttr? getAttrBy? getAttrBy
  refine wpAny_bind (wpAny_mkText (wpAny_bind (wpAny_attempt (wpAny_holding (wpAny_bind (lt.at (wpAny_bind (lg.at ?own))))))))
  case own =>
    show wpAny _ _ (if (onTheHeap (Value.ref D) && Value.builtin "BaseException.__getattribute__" == Value.builtin "object.__getattribute__") = true then _ else _) _ _ _
    rw [other, if_neg Bool.false_ne_true]
    unfold getAttrByItsOwn hookBefore
    refine wpAny_bind ?_
    rw [if_pos (show onTheHeap (Value.ref D) = true from rfl)]
    refine lk.at (wpAny_bind (wpAny_attempt (wpAny_holding ?_)))
    unfold callGetattribute
    rw [show (false && onTheHeap (Value.builtin "BaseException.__getattribute__")) = false from rfl, if_neg Bool.false_ne_true]
    unfold boundAndCalled
    rw [PySem.F.excAttr_ValueError.ga.bind (.ref x)]
    refine wpAny_bind (wpAny_pure ?_)
    show wpAny _ _ (call (.builtin "BaseException.__getattribute__") [.ref x, .str "__class__" t]) _ _ _
    refine wpAny_call (codeAny_call_builtin PySem.F.excAttr_ValueError.ga.plain PySem.F.entry_bexc_ga
      (@PySem.W.check_slot (model prog w) _ _ ⟨hp, g, d, t + 1, os⟩ "BaseException.__getattribute__" "BaseException" "__getattribute__" (.ref x) [.str "__class__" t] [] _
        (by decide +kernel) (by decide +kernel) (lt.andThen (PySem.W.looks_subIn X c.hs)) (PySem.F.args_bexc_ga (.ref x) (.str "__class__" t)) ?_))
    unfold Builtin.«object.__getattribute__»
    refine wpAny_bind (wpAny_of_eq (a := ((Value.ref x : Value), [Value.str "__class__" t])) (by first | rfl | (simp only [slotArgs]; rfl)) (wpAny_bind (wpAny_pure (wpAny_bind (lt.at (wpAny_bind (lf.at ?_)))))))
    show wpAny _ _ (holding [Value.builtin "object.__class__"] (call (.builtin "getset_descriptor.__get__") [.builtin "object.__class__", .ref x, .ref D]) >>= ret) _ _ _
    refine wpAny_bind (wpAny_holding (wpAny_call (PySem.W.class_get (s := ⟨hp, g, d, t + 1, os⟩) (ox := ox) (od := some od) X I c.hm (wpAny_pure ?_))))
    show wpAny _ _ (handedOut (.ref D)) _ _ _
    rw [PySem.W.handedOut_of (v := .ref D) rfl]
    first
      | exact wpAny_pure (wpAny_pure h)
      | exact wpAny_pure h
      | exact wpAny_pure (wpAny_bind (wpAny_pure (wpAny_pure h)))
theorem kitx_exc (c : ExcC K D) : PySem.W.KitX K (.ref x) (.ref D) (fun h => PySem.W.InstAt h x ox D (some od)) where
  ty := fun _ _ _ I => I.type
  it := fun _ _ X _ => by
    obtain ⟨cd, e, _⟩ := PySem.W.any_some c.hd
    unfold PySem.W.clsIn at e
    split at e
    · rename_i ho
      exact fun A' Q' E' s' k q => by
        unfold isType loadHead
        exact wpAny_bind (wpAny_loadPart (k _ _ (X _ _ ho)) (wpAny_pure q))
    · cases e
  ne := fun h tp dd its n sl X htp => by
    obtain ⟨cd, e, _⟩ := PySem.W.any_some c.hd
    cases q : (Value.ref D == Value.ref tp) with
    | false => rfl
    | true =>
      have z : D = tp := Value.ref.inj (beq_iff_eq.mp q)
      rw [← z] at htp
      unfold PySem.W.clsIn at e
      split at e
      · rename_i ho
        have y := (X _ _ ho).symm.trans htp
        cases y
      · cases e
  ca := fun X I k => class_of_exc c X I k
end
section
variable {X : Cx} {a D : Addr} {oe : Obj} {d : Addr} {pn : List (Addr × Obj)}
/-- the caught error as the machine sees it -/
theorem inst_exc {pins : List (Addr × Obj)} {σ : L2.St} {H : Hp} {s : Shared} {fs : List (Str × V)} (I : Inv (X.suite a ((a, oe) :: pn)) pins σ H s) (hz : Zc (.ref D) (some d) oe) (hf : ∃ vs, oe.data = .fields vs) (hd : H d = some (.xd fs)) :
    ∃ od, PySem.W.InstAt s.heap a oe D (some od) := by
  obtain ⟨hget, _⟩ := I.pin (a, oe) (List.mem_append_left _ List.mem_cons_self)
  obtain ⟨vs, hv⟩ := hf
  obtain ⟨mA, hns, _⟩ := (show ObjOk X.prog X.w H s.heap d (.xd fs) from I.hok d _ hd)
  obtain ⟨od, ho, _⟩ := lookIn_ns hns
  exact ⟨od, hget, hz.1, by unfold PySem.W.notCls; rw [hv] <;> rfl, by rw [hz.2]; exact ho⟩
/-- isinstance(e, c) -/
def rIsX (K : PySem.W.Frag) (D a : Addr) (cls : Value) (d : Option Addr) : List V → Hp → VK → Prop := fun xs H Q => ∃ (c : V) (u : Value) (b : Bool) (dd : Addr) (fs : List (Str × V)), xs = [.ref a, c] ∧ cls = .ref D ∧ d = some dd ∧ ClsV c u ∧ H dd = some (.xd fs) ∧ PySem.W.kitOne K (.ref D) u = some b ∧ Q (.bl b) H
theorem call_isX {cls : Value} {d : Option Addr} (c : ExcC X.K D) (hz : Zc cls d oe) (hf : ∃ vs, oe.data = .fields vs) : CallR (X.suite a ((a, oe) :: pn)) (.builtin "isinstance") (rIsX X.K D a cls d) := by
  intro pins s σ H xs us Q I r h
  obtain ⟨cv, u, b, dd, fs, rfl, rfl, rfl, k, hd, e, q⟩ := h
  obtain ⟨u1, u2, rfl, r1, r2⟩ := vals2 r
  obtain rfl : u1 = Value.ref a := r1
  have e2 := k.eq r2
  subst e2
  obtain ⟨od, J⟩ := inst_exc I hz hf hd
  exact PySem.W.kia_one (kitx_exc c) I.kIn J e (fun z => nomatch z) fun tk => ⟨.bl b, H, I.tok tk, rfl, q⟩
/-- isinstance(e, (c1, c2, ..)) -/
def rIsXT (K : PySem.W.Frag) (D a : Addr) (cls : Value) (d : Option Addr) : List V → Hp → VK → Prop := fun xs H Q => ∃ (tp : Addr) (cs : List V) (us : List Value) (b : Bool) (dd : Addr) (fs : List (Str × V)), xs = [.ref a, .ref tp] ∧ cls = .ref D ∧ d = some dd ∧
  H tp = some (.tup cs) ∧ Paired ClsV cs us ∧ H dd = some (.xd fs) ∧ PySem.W.kitAny K (.ref D) us = some b ∧ Q (.bl b) H
theorem call_isXT {cls : Value} {d : Option Addr} (c : ExcC X.K D) (hz : Zc cls d oe) (hf : ∃ vs, oe.data = .fields vs) : CallR (X.suite a ((a, oe) :: pn)) (.builtin "isinstance") (rIsXT X.K D a cls d) := by
  intro pins s σ H xs us Q I r h
  obtain ⟨tp, cs, ws, b, dd, fs, rfl, rfl, rfl, hT, k, hd, e, q⟩ := h
  obtain ⟨u1, u2, rfl, r1, r2⟩ := vals2 r
  obtain rfl : u1 = Value.ref a := r1
  obtain rfl : u2 = Value.ref tp := r2
  obtain ⟨od, J⟩ := inst_exc I hz hf hd
  obtain ⟨_, its, rv, o, h1, h2, n, h3⟩ := (show ObjOk X.prog X.w H s.heap tp (.tup cs) from I.hok tp _ hT)
  have e3 := ClsV.all k rv
  subst e3
  obtain ⟨oc, odd, dt, sl⟩ := o
  simp only at h2 h3
  subst h2 h3
  exact PySem.W.kia_tup (kitx_exc c) I.kIn J h1 e (fun z => nomatch z) fun tk => ⟨.bl b, H, I.tok tk, rfl, q⟩
end
section
variable {X : Cx}
/-- repr of any data, also while an error is handled -/
theorem call_reprH (hg : X.A.guards = some []) (hu : X.A.units + 64 < cLine) (hs : SysOk X.K) : CallR X (.builtin "repr") (rReprQ X.K) := by
  intro pins s σ H xs us Q I r h
  obtain ⟨v, d, rfl, hd, hsh, hdep, hz, q⟩ := h
  obtain ⟨u, rfl, ru⟩ := vals1 r
  obtain ⟨as, rd, na⟩ := Dq.reads hs I hd u ru
  have viaRef : ∀ {a : Addr}, u = Value.ref a → wpAny (model X.prog X.w) X.A (call (.builtin "repr") [u]) (EP X pins σ Q) X.xe s := fun {a} e => by
    subst e
    exact repr_of_reads' rd hsh (fun _ => na) hg (by omega) (fun _ _ e => e) (fun h' u tk hk => ⟨.str _, H, I.kept hk, ⟨u, rfl⟩, q⟩) hz
  cases hd with
  | non =>
    cases ru
    exact PySem.P.repr_of_none ⟨.str _, H, I.tok _, ⟨_, rfl⟩, by simpa only [PyData.shown] using q⟩
  | bl b =>
    cases ru
    exact PySem.P.repr_of_bool ⟨.str _, H, I.tok _, ⟨_, rfl⟩, by simpa only [PyData.shown] using q⟩
  | int i =>
    obtain ⟨t, rfl⟩ := ru
    exact PySem.P.repr_of_int (by simpa [PyData.showable] using hsh) ⟨.str _, H, I.tok _, ⟨_, rfl⟩, by simpa only [PyData.shown] using q⟩
  | str x =>
    obtain ⟨t, rfl⟩ := ru
    exact PySem.P.repr_of_str ⟨.str _, H, I.tok _, ⟨_, rfl⟩, by simpa only [PyData.shown] using q⟩ (by simpa only [PyData.shown] using hz)
  | lst hq ha => exact viaRef ru
  | tup hq ha => exact viaRef ru
  | dct hq h1 h2 => exact viaRef ru
end
end Ex

set_option Elab.async false
set_option linter.all false
set_option maxRecDepth 100000
set_option maxHeartbeats 4000000
/-! Own layer: len(o) by an own __len__; what repr shows, within bounds; both law-free. -/
namespace Ex
open PySem PySem.Spec PySem.Calls PyProof.Rows L2 Gu
section
variable {X : Cx} {k j : Nat} {c : Str} {ps : List Str} {sp : Sp}
/-- len(o) by the class's own __len__ -/
def rLenO (C : Addr) (sp : Sp) : List V → Hp → VK → Prop := fun xs H Q => ∃ (a dx : Addr) (fs : List (Str × V)), xs = [.ref a] ∧ H a = some (.ins C dx fs) ∧ sp [.ref a] H (fun v H' => ∃ n : Nat, v = .int n ∧ n ≤ sizeLine ∧ Q (.int n) H') E0
theorem call_lenO (D : Mf X.prog X.w X.K X.mg X.base k c "__len__" ps sp) (hr : Room j X.A) (hj : k + 1 ≤ j := by decide) : CallR X (.builtin "len") (rLenO (He.ga X.K c) sp) := by
  intro pins s σ H xs us Q I r h
  obtain ⟨a, dx, fs, rfl, ha, hq⟩ := h
  obtain ⟨u, rfl, ru⟩ := vals1 r
  obtain rfl : u = Value.ref a := ru
  obtain ⟨fd, F, b⟩ := D.ex
  obtain ⟨mA, J, _⟩ := ins_get I.hok ha
  obtain ⟨od, J, _⟩ := J.look
  have rm : Room k X.A.in1 := (hr.mono hj).in1
  refine Calls.call_function_entry kind_len plain_len entry_len (args_len1 _) ?_
  unfold Builtin.«len»
  refine wpAny_bind (m := oneArg "len" _) (wpAny_pure ?_)
  refine wpAny_bind (m := callSpecial? (.ref a) (Str.ofString "__len__")) (PySem.W.special_fn (name := Str.ofString "__len__") (args := []) I.kIn J D.me.at_ (beq_iff_eq.mp D.me.fn) ?_)
  have e0 : Env0 X.prog X.w X.K X.mg X.base X.A.in1 X.stack s H := by
    have e := I.env0
    exact ⟨e.frames, e.mod, e.bs, e.bsz, e.funs, e.frf, e.hok, e.bare⟩
  have hl := F.len _ _ _ _ hq
  refine wpAny_call (codeAny_mono (F.run X.A.in1 X.stack s H ⟨[.ref a], []⟩ [.ref a] [.ref a] _ E0 rm e0 (by
    have := b s [.ref a] I.kIn (by simpa using hl)
    simpa using this) (.cons rfl .nil) hq) fun r s' hq' => ?_)
  match r, hq' with
  | .ok (.ret u), hq' =>
    obtain ⟨v, H', I', rv, n, rfl, hn, q⟩ := I.after hq'
    obtain ⟨t, rfl⟩ := rv
    have hs : sizeLine = 16777216 := sizeLine_eq
    refine wpAny_bind (wpAny_holding (wpAny_pure ?_))
    refine wpAny_bind (wpAny_letGo ?_)
    show wpAny _ _ (if ((n : Nat) : Int) < 0 then _ else _) _ _ _
    rw [if_neg (by omega)]
    show wpAny _ _ (if ((n : Nat) : Int) ≥ 2 ^ 63 then _ else _) _ _ _
    rw [if_neg (by omega)]
    exact wpAny_bind (wpAny_mkInt (wpAny_pure ⟨_, rfl, ⟨.int n, H', I'.tok _, ⟨_, rfl⟩, q⟩⟩))
end
theorem seqT {K : PySem.W.Frag} {H H' : Hp} {a : Addr} {xs : List V} (e : Same H H') (h : SqT K H a xs) : SqT K H' a xs := by
  rcases h with (h | ⟨o, h⟩) | h
  · exact .inl (.inl (e _ _ h))
  · exact .inl (.inr ⟨o, e _ _ h⟩)
  · exact .inr h
mutual
theorem dq_same {K : PySem.W.Frag} {H H' : Hp} (e : Same H H') : ∀ {v : V} {d : PyData}, Dq K H v d → Dq K H' v d
  | _, _, .non => .non
  | _, _, .bl b => .bl b
  | _, _, .int i => .int i
  | _, _, .str x => .str x
  | _, _, .lst hq ha => .lst (e.seq hq) (dqAll_same e ha)
  | _, _, .tup hq ha => .tup (seqT e hq) (dqAll_same e ha)
  | _, _, .dct hq h1 h2 => .dct (e _ _ hq) (dqAll_same e h1) (dqAll_same e h2)
theorem dqAll_same {K : PySem.W.Frag} {H H' : Hp} (e : Same H H') : ∀ {vs : List V} {ds : List PyData}, DqAll K H vs ds → DqAll K H' vs ds
  | _, _, .nil => .nil
  | _, _, .cons h1 h2 => .cons (dq_same e h1) (dqAll_same e h2)
end
/-- a value as repr shows it: nested at most n deep, at most m signs -/
structure Tq (K : PySem.W.Frag) (H : Hp) (v : V) (d : PyData) (n m : Nat) : Prop where
  dq : Dq K H v d
  sh : d.showable = true
  dp : d.depth ≤ n
  ln : d.shown.length ≤ m
structure TqAll (K : PySem.W.Frag) (H : Hp) (xs : List V) (ds : List PyData) (n m : Nat) : Prop where
  dq : DqAll K H xs ds
  sh : PyData.showableAll ds = true
  dp : PyData.depthAll ds ≤ n
  ln : ((PyData.shownAll ds).map (·.length)).sum + 2 * (PyData.shownAll ds).length ≤ xs.length * (m + 2)
section
variable {K : PySem.W.Frag} {H H' : Hp} {n m : Nat}
theorem Tq.same {v : V} {d : PyData} (t : Tq K H v d n m) (e : Same H H') : Tq K H' v d n m := ⟨dq_same e t.dq, t.sh, t.dp, t.ln⟩
theorem Tq.mono {v : V} {d : PyData} {n' m' : Nat} (t : Tq K H v d n m) (h1 : n ≤ n') (h2 : m ≤ m') : Tq K H v d n' m' := ⟨t.dq, t.sh, Nat.le_trans t.dp h1, Nat.le_trans t.ln h2⟩
theorem TqAll.same {xs : List V} {ds : List PyData} (t : TqAll K H xs ds n m) (e : Same H H') : TqAll K H' xs ds n m := ⟨dqAll_same e t.dq, t.sh, t.dp, t.ln⟩
theorem tq_all : ∀ {xs : List V}, (∀ v ∈ xs, ∃ d, Tq K H v d n m) → ∃ ds, TqAll K H xs ds n m
  | [], _ => ⟨[], .nil, rfl, Nat.zero_le _, Nat.zero_le _⟩
  | v :: xs, h => by
    obtain ⟨d, t⟩ := h v List.mem_cons_self
    obtain ⟨ds, a, b, c, e⟩ := tq_all (xs := xs) fun u hu => h u (List.mem_cons_of_mem _ hu)
    refine ⟨d :: ds, .cons t.dq a, ?_, ?_, ?_⟩
    · show (d.showable && PyData.showableAll ds) = true
      rw [t.sh, b]
      rfl
    · show max d.depth (PyData.depthAll ds) ≤ n
      have := t.dp
      omega
    · show (d.shown.length + ((PyData.shownAll ds).map (·.length)).sum) + 2 * ((PyData.shownAll ds).length + 1) ≤ (xs.length + 1) * (m + 2)
      have := t.ln
      rw [Nat.add_mul, Nat.one_mul]
      omega
theorem TqAll.lst {a : Addr} {xs : List V} {ds : List PyData} (t : TqAll K H xs ds n m) (h : H a = some (.lst xs)) : Tq K H (.ref a) (.list ds) (n + 1) (xs.length * (m + 2) + 3) := by
  refine ⟨.lst (SqL.of h) t.dq, t.sh, ?_, ?_⟩
  · show PyData.depthAll ds + 1 ≤ n + 1
    have := t.dp
    omega
  · have e := listText_len_le (PyData.shownAll ds)
    show (listText (PyData.shownAll ds)).length ≤ _
    have := t.ln
    omega
theorem TqAll.tup {a : Addr} {xs : List V} {ds : List PyData} (t : TqAll K H xs ds n m) (h : H a = some (.tup xs)) : Tq K H (.ref a) (.tuple ds) (n + 1) (xs.length * (m + 2) + 3) := by
  refine ⟨.tup (SqT.of h) t.dq, t.sh, ?_, ?_⟩
  · show PyData.depthAll ds + 1 ≤ n + 1
    have := t.dp
    omega
  · have e := tupleText_len_le (PyData.shownAll ds)
    show (tupleText (PyData.shownAll ds)).length ≤ _
    have := t.ln
    omega
theorem tq_non : Tq K H .non .none 0 41 := ⟨.non, rfl, Nat.le_refl _, by decide +kernel⟩
theorem tq_bl (b : Bool) : Tq K H (.bl b) (.bool b) 0 41 := ⟨.bl b, rfl, Nat.le_refl _, by cases b <;> decide +kernel⟩
theorem tq_int {i : Int} (h1 : -(10 ^ 39) ≤ i) (h2 : i ≤ 10 ^ 39) : Tq K H (.int i) (.int i) 0 41 := by
  have b39 : (10 : Int) ^ 39 = 1000000000000000000000000000000000000000 := by decide
  have e : i.natAbs < 10 ^ 40 := by
    have z : (10 : Nat) ^ 40 = 10000000000000000000000000000000000000000 := by decide
    omega
  have a : i.natAbs.log2 < 1920 := Nat.lt_of_lt_of_le (PySem.Flt.log2_lt_of (k := 200) (by decide) (Nat.lt_trans e (by decide))) (by decide)
  refine ⟨.int i, decide_eq_true a, Nat.le_refl _, ?_⟩
  have z := int_text_length_le10 (k := 40) (by decide) e
  show (Str.ofString (toString i)).length ≤ 41
  rw [PySem.ofString_length]
  exact z
theorem tq_text (z : String) (h : (reprText (Str.ofString z)).length ≤ 41) : Tq K H (.str (Str.ofString z)) (.str (Str.ofString z)) 0 41 := ⟨.str _, rfl, Nat.le_refl _, h⟩
theorem tq_dct {a : Addr} (h : H a = some (.dK [])) : Tq K H (.ref a) (.dict []) 1 41 := ⟨.dct h .nil .nil, rfl, by decide, by decide +kernel⟩
end
theorem code_lt {z : String} {c : Nat} (hc : c ∈ (Str.ofString z).cps.toList) : c < 1114112 := by
  have hc2 : c ∈ z.toList.map Char.toNat := by
    rw [← cpsOfBytes_string]
    simpa [Str.ofString] using hc
  obtain ⟨ch, _, rfl⟩ := List.mem_map.mp hc2
  have v : ch.val.toNat < 55296 ∨ (57343 < ch.val.toNat ∧ ch.val.toNat < 1114112) := ch.valid
  show ch.val.toNat < 1114112
  omega
/-- repr of such a value -/
theorem repr_tq {K : PySem.W.Frag} {H : Hp} {v : V} {d : PyData} {n m : Nat} {Q : VK} (t : Tq K H v d n m) (q : Q (.str d.shown) H) (hn : n ≤ 60 := by decide) (hm : m ≤ sizeLine := by decide) : rReprQ K [v] H Q :=
  ⟨v, d, rfl, t.dq, t.sh, Nat.le_trans t.dp hn, Nat.le_trans t.ln hm, q⟩
end Ex

set_option Elab.async false
set_option linter.all false
set_option maxRecDepth 100000
set_option maxHeartbeats 4000000
/-! Own layer: range(a, b, c) of any whole numbers a, b and a step from 1 to 2^30; a comprehension over it. -/
namespace Ex
open PySem PySem.Spec PyProof.Rows L2 Gu
theorem turn_longC {P : Program} {w : World} {K : PySem.W.Frag} {tg : Expr} (it : Addr) (lo c : Int) (n : Nat) :
    Turn P w K tg (Itc lo c n) [it] it (fun i h => IsLongIter h it (lo + (i : Nat) * c) ((n : Int) - (i : Nat)) c) where
  mem := List.mem_singleton.mpr rfl
  obj := fun i h st b hb => by
    obtain rfl := List.mem_singleton.mp hb
    exact ⟨_, st, fun v z => nomatch (show Data.fields _ = Data.cell v from z)⟩
  keep := fun i h h' st k => k it (List.mem_singleton.mpr rfl) _ st
  item := by
    rintro X rfl rfl rfl hc i pins s σ H E I hf st hg
    obtain ⟨f0, f1, f2, f3, f4, f5⟩ := hf it (List.mem_singleton.mpr rfl)
    refine (Walks.longrange (prog := X.prog) (w := X.w) (I.ok.hd hc) it lo c n).item i s _ _ hg st fun v h' tk hv st' kk => ?_
    obtain ⟨t, rfl⟩ := hv
    have J : Inv X pins σ H { s with heap := h', toks := tk } := I.turned (fun b o hb e => kk b o (fun z => hb (List.mem_singleton.mp z)) e) f0 f1 f3 f4 f5
    exact ⟨_, rfl, go_of (s := { s with heap := h', toks := tk }) (n := "longrange_iterator") st' rfl rfl (by decide) ⟨.int (lo + (i : Nat) * c), H, J, ⟨t, rfl⟩, ⟨rfl, rfl⟩, st', fun b hb => (hf b hb).1⟩⟩
  done := by
    rintro X rfl rfl rfl hc i pins s σ H E I hf st hg
    obtain ⟨f0, f1, f2, f3, f4, f5⟩ := hf it (List.mem_singleton.mpr rfl)
    have hn : n ≤ i := hg
    exact wpAny_pyNext_long_end (I.ok.hd hc) st (by omega) fun h' eb => ⟨rfl, I.turned (t' := s.toks) (fun b o hb e => eb b o hb e) f0 f1 f3 f4 f5⟩
  self := fun _ _ _ _ _ st h => wpAny_pyIter_longiter st h
section
variable {X : Cx} {tg : Expr}
theorem range_anyC {pins : List (Addr × Obj)} {σ : L2.St} {H : Hp} {s : Shared} {R : It → Hp → Prop} {E : Value → Shared → Prop} {lo hi c : Int} {t u v : Tok} {tk : Nat} (I : Inv X pins σ H s) (q : R (Itc lo c (Builtin.Range.rangeSize lo hi c).toNat) H) :
    wpAny (model X.prog X.w) X.A (pyIter (.ref s.heap.objs.size)) (PIE X pins σ tg R) E { s with heap := s.heap.push { cls := .type "range", data := .fields #[.int lo t, .int hi u, .int c v] }, toks := tk } := by
  have J : Inv X pins σ H { s with heap := s.heap.push { cls := .type "range", data := .fields #[.int lo t, .int hi u, .int c v] }, toks := tk } := I.kept fun b o e => Heap.get?_push_of_some _ e
  have e1 : lo + ((0 : Nat) : Int) * c = lo := by simp
  have e2 : (((Builtin.Range.rangeSize lo hi c).toNat : Nat) : Int) - ((0 : Nat) : Int) = Builtin.Range.rangeSize lo hi c := by
    rw [← rangeSize_toNat]
    simp
  have fr : ∀ b ∈ [(s.heap.push { cls := .type "range", data := .fields #[.int lo t, .int hi u, .int c v] }).objs.size], _ := fun b hb => by
    obtain rfl := List.mem_singleton.mp hb
    exact J.fpOk (Nat.le_refl _) (J.hok.fresh (Nat.le_refl _))
  cases hs : Builtin.Range.small lo hi c with
  | true =>
    refine wpAny_pyIter_range (IsRange.new ..) hs ⟨_, [_], _, _, H, rfl, J.kept (t' := tk) fun b o e => Heap.get?_push_of_some _ e, turn_rangeC _ lo c (Builtin.Range.rangeSize lo hi c).toNat, ?_, fr, q⟩
    show IsRangeIter _ _ (lo + ((0 : Nat) : Int) * c) ((((Builtin.Range.rangeSize lo hi c).toNat : Nat) : Int) - ((0 : Nat) : Int)) c
    rw [e1, e2]
    exact Heap.get?_push_size _ rfl
  | false =>
    refine wpAny_pyIter_longrange (IsRange.new ..) hs ⟨_, [_], _, _, H, rfl, J.kept (t' := tk) fun b o e => Heap.get?_push_of_some _ e, turn_longC _ lo c (Builtin.Range.rangeSize lo hi c).toNat, ?_, fr, q⟩
    show IsLongIter _ _ (lo + ((0 : Nat) : Int) * c) ((((Builtin.Range.rangeSize lo hi c).toNat : Nat) : Int) - ((0 : Nat) : Int)) c
    rw [e1, e2]
    exact Heap.get?_push_size _ rfl
/-- how many turns range(i, j, c) has -/
def stepsN (i j c : Int) : Nat := (Builtin.Range.rangeSize i j c).toNat
def iRngS (ta : TA) : TI := fun σ H R => ta σ H fun vs H1 => ∃ i j c : Int, vs = [.int i, .int j, .int c] ∧ 1 ≤ c ∧ c < 1073741824 ∧ R (Itc i c (stepsN i j c)) H1
theorem pi_rangeS {a b c : Expr} {ta : TA} {p pos : Pos} (hg : Gl X "range") (hm : X.mg "range" = none) (ha : PA X [a, b, c] ta)
    (hs : starEach [a, b, c] X.env = (false, eval a X.env) :: starEach [b, c] X.env := by rfl) (hpl : (backTo pos (starEach [b, c] X.env)).any (·.1) = false := by rfl) :
    PI X tg (.Call (.Name "range" p) [a, b, c] [] pos) (iRngS ta) := by
  refine ⟨fun pins s σ H R I h => ?_⟩
  refine Call_ (ld_blt I hg hm boot_range (PyProof.Rows.callWith_type1 (thn (ha.run pos pins s σ H _ I h) fun us s1 ⟨vs, H1, I1, r1, q1⟩ => ?_) hs hpl))
  obtain ⟨i, j, k, e, c0, c1, q⟩ := q1
  subst e
  cases r1 with
  | cons r rr =>
    cases rr with
    | cons r' rr =>
      cases rr with
      | cons r'' rr =>
        cases rr
        obtain ⟨t, rfl⟩ := r
        obtain ⟨t', rfl⟩ := r'
        obtain ⟨t'', rfl⟩ := r''
        exact call_range_3 (by omega) (range_anyC (tk := s1.toks) I1 q) (.inl (PyProof.noPylong_small (by omega)))
end
theorem steps_le {i j c : Int} (hc : 1 ≤ c) (h : j - i ≤ 100) : stepsN i j c ≤ 100 := by
  unfold stepsN Builtin.Range.rangeSize
  rw [if_pos (by omega)]
  split
  · have h1 := Int.ediv_le_self c (show (0 : Int) ≤ j - i - 1 by omega)
    omega
  · decide
/-- the turns reach every step below the end, and no other -/
theorem steps_lt {i j c : Int} (hc : 1 ≤ c) (n : Nat) : n < stepsN i j c ↔ i + (n : Int) * c < j := by
  unfold stepsN Builtin.Range.rangeSize
  rw [if_pos (by omega)]
  by_cases hij : i < j
  · rw [if_pos hij]
    have d0 : 0 ≤ (j - i - 1) / c := Int.ediv_nonneg (by omega) (by omega)
    have e1 := Int.mul_ediv_add_emod (j - i - 1) c
    have e2 := Int.emod_nonneg (j - i - 1) (show c ≠ 0 by omega)
    have e3 := Int.emod_lt_of_pos (j - i - 1) (show 0 < c by omega)
    generalize (j - i - 1) / c = q at *
    constructor
    · intro h
      have h2 : (n : Int) ≤ q := by omega
      have h3 := Int.mul_le_mul_of_nonneg_left h2 (show 0 ≤ c by omega)
      have h4 : (n : Int) * c = c * n := Int.mul_comm _ _
      omega
    · intro h
      have h4 : (n : Int) * c = c * n := Int.mul_comm _ _
      have h2 : (n : Int) ≤ q := by
        refine Int.not_lt.mp fun z => ?_
        have h3 := Int.mul_le_mul_of_nonneg_left (show q + 1 ≤ (n : Int) by omega) (show 0 ≤ c by omega)
        rw [Int.mul_add, Int.mul_one] at h3
        omega
      omega
  · rw [if_neg hij]
    have : 0 ≤ (n : Int) * c := Int.mul_nonneg (by omega) (by omega)
    constructor
    · intro h
      have : n < (0 : Int).toNat := h
      exact absurd this (Nat.not_lt_zero _)
    · intro h
      omega
/-- a comprehension over such a range -/
theorem lc_rangeC {lo c : Int} {n : Nat} {g : TG} {tt : TT} {te : TE} {vs : List Nat} {σ : L2.St} {H1 : Hp} {D : Addr} {Qd : Hp → Prop} (Pv : Nat → Hp → Prop) (h0 : Pv 0 (upd H1 D (.lst [])))
    (hs : ∀ i H, i < n → Pv i H → g (.int (lo + (i : Nat) * c)) (wipe σ vs) H fun σ2 H2 => wipe σ2 vs = wipe σ vs ∧ tt σ2 H2 fun b H3 =>
      if b = true then te σ2 H3 fun y H4 => ∃ acc, H4 D = some (.lst acc) ∧ acc.length < sizeLine ∧ Pv (i + 1) (upd H4 D (.lst (acc ++ [y]))) else Pv (i + 1) H3) (hd : ∀ H, Pv n H → Qd H) :
    ∃ W : Nat → Nat → Hp → Prop, (∃ m, W 0 m (upd H1 D (.lst []))) ∧ ∀ i m H, W i m H →
      ((Itc lo c n).stop i H ∧ Qd H) ∨ ((Itc lo c n).go i H ∧ ∃ Nx : Hp → Prop, (∀ H', Nx H' → ∃ m', m' < m ∧ W (i + 1) m' H') ∧ ∀ x H', (Itc lo c n).yld i H x H' → g x (wipe σ vs) H' fun σ2 H2 => wipe σ2 vs = wipe σ vs ∧ tt σ2 H2 fun b H3 =>
        if b = true then te σ2 H3 fun y H4 => ∃ acc, H4 D = some (.lst acc) ∧ acc.length < sizeLine ∧ Nx (upd H4 D (.lst (acc ++ [y]))) else Nx H3) := by
  refine ⟨fun i m H => m = n - i ∧ i ≤ n ∧ Pv i H, ⟨n, by simp, Nat.zero_le _, h0⟩, ?_⟩
  rintro i m H ⟨rfl, hi, p⟩
  by_cases hlt : i < n
  · refine .inr ⟨hlt, Pv (i + 1), fun H' p' => ⟨n - (i + 1), by omega, rfl, hlt, p'⟩, fun x H' y => ?_⟩
    obtain ⟨e, y⟩ := y
    subst e y
    exact hs i _ hlt p
  · have e : i = n := by omega
    subst e
    exact .inl ⟨Nat.le_refl _, hd H p⟩
end Ex

set_option Elab.async false
set_option linter.all false
/-! The mathematics of maximal regions: sizes that divide each other, a range from lo to hi. -/
namespace M16
structure Ch (s : Nat → Int) (m : Nat) : Prop where
  m1 : 1 ≤ m
  one : s 0 = 1
  pos : ∀ k, k < m → 1 ≤ s k
  dv : ∀ k, k + 1 < m → s k ∣ s (k + 1)
theorem Ch.dvd {s : Nat → Int} {m : Nat} (c : Ch s m) {j : Nat} : ∀ {k : Nat}, j ≤ k → k < m → s j ∣ s k
  | 0, h, _ => by
    rw [show j = 0 by omega]
    exact Int.dvd_refl _
  | k + 1, h, hk => by
    by_cases e : j = k + 1
    · rw [e]
      exact Int.dvd_refl _
    · exact Int.dvd_trans (Ch.dvd c (show j ≤ k by omega) (by omega)) (c.dv k hk)
theorem gap {z q e : Int} (h1 : z ∣ q) (h2 : z ∣ e) (h : q < e) : q + z ≤ e := by
  have := Int.le_of_dvd (by omega) (Int.dvd_sub h2 h1)
  omega
theorem mod0 {z x : Int} (h : z ∣ x) : x % z = 0 := Int.emod_eq_zero_of_dvd h
theorem dvd0 {z x : Int} (h : x % z = 0) : z ∣ x := Int.dvd_of_emod_eq_zero h
theorem fl_dvd (z x : Int) : z ∣ x - x % z := ⟨x / z, by have := Int.mul_ediv_add_emod x z; omega⟩
theorem fl_le {z : Int} (x : Int) (hz : 1 ≤ z) : x - x % z ≤ x := by
  have := Int.emod_nonneg x (show z ≠ 0 by omega)
  omega
theorem fl_lt {z : Int} (x : Int) (hz : 1 ≤ z) : x < x - x % z + z := by
  have := Int.emod_lt_of_pos x (show 0 < z by omega)
  omega
theorem fl_eq {z q x : Int} (hz : 1 ≤ z) (h : z ∣ q) (h1 : q ≤ x) (h2 : x < q + z) : x - x % z = q := by
  have a := fl_le x hz
  have b := fl_lt x hz
  have d := fl_dvd z x
  rcases Int.lt_trichotomy (x - x % z) q with e | e | e
  · have := gap d h e
    omega
  · exact e
  · have := gap h d e
    omega
theorem fl_ge {z q x : Int} (hz : 1 ≤ z) (h : z ∣ q) (h1 : q ≤ x) : q ≤ x - x % z := by
  have b := fl_lt x hz
  refine Int.not_lt.mp fun e => ?_
  have := gap (fl_dvd z x) h e
  omega
/-- the least multiple from a on -/
def nx (z a : Int) : Int := -(-a / z) * z
theorem nx_is (z a : Int) : nx z a = a + (-a) % z := by
  have e := Int.mul_ediv_add_emod (-a) z
  have h : nx z a = -(z * (-a / z)) := by
    unfold nx
    rw [Int.neg_mul, Int.mul_comm]
  omega
theorem nx_dvd (z a : Int) : z ∣ nx z a := ⟨-(-a / z), by unfold nx; rw [Int.mul_comm]⟩
theorem nx_ge {z : Int} (a : Int) (hz : 1 ≤ z) : a ≤ nx z a := by
  have := Int.emod_nonneg (-a) (show z ≠ 0 by omega)
  rw [nx_is]
  omega
theorem nx_lt {z : Int} (a : Int) (hz : 1 ≤ z) : nx z a < a + z := by
  have := Int.emod_lt_of_pos (-a) (show 0 < z by omega)
  rw [nx_is]
  omega
theorem nx_least {z a q : Int} (hz : 1 ≤ z) (h : z ∣ q) (ha : a ≤ q) : nx z a ≤ q := by
  refine Int.not_lt.mp fun e => ?_
  have := gap h (nx_dvd z a) e
  have := nx_lt a hz
  omega
theorem nx_self {z a : Int} (hz : 1 ≤ z) (h : z ∣ a) : nx z a = a := by
  have := nx_ge a hz
  have := nx_least hz h (Int.le_refl a)
  omega
/-- count_regions is positive just if the first region ends by b -/
theorem cnt_pos {z a b : Int} (hz : 1 ≤ z) : 0 < ((b - b % z) - nx z a) / z ↔ nx z a + z ≤ b := by
  have h : (1 : Int) ≤ ((b - b % z) - nx z a) / z ↔ 1 * z ≤ (b - b % z) - nx z a := Int.le_ediv_iff_mul_le (by omega)
  rw [Int.one_mul] at h
  have l := fl_le b hz
  constructor
  · intro k
    have := h.mp (by omega)
    omega
  · intro k
    have d : z ∣ nx z a + z := Int.dvd_add (nx_dvd z a) (Int.dvd_refl z)
    have := fl_ge hz d k
    have := h.mpr (by omega)
    omega
section
variable (s : Nat → Int) (m : Nat) (hi : Int)
def Lies (a : Int) (k : Nat) : Prop := a % s k = 0 ∧ a + s k ≤ hi
instance (a : Int) (k : Nat) : Decidable (Lies s hi a k) := inferInstanceAs (Decidable (a % s k = 0 ∧ a + s k ≤ hi))
/-- the highest level of a region at a, sought from n down -/
def lev (a : Int) : Nat → Nat
  | 0 => 0
  | n + 1 => if Lies s hi a (n + 1) then n + 1 else lev a n
def L (a : Int) : Nat := lev s hi a (m - 1)
def en (a : Int) : Int := if L s m hi a + 1 < m ∧ nx (s (L s m hi a + 1)) a + s (L s m hi a + 1) ≤ hi then nx (s (L s m hi a + 1)) a else hi - hi % s (L s m hi a)
/-- no region that lies in the range goes across a -/
def B (lo a : Int) : Prop := ∀ j, j < m → a % s j ≠ 0 → ¬ (lo ≤ a - a % s j ∧ a - a % s j + s j ≤ hi)
abbrev Run : Type := Nat × Int × Int
def run (a : Int) : Run := (L s m hi a, a, (en s m hi a - a) / s (L s m hi a))
def lay : Nat → Int → List Run
  | 0, _ => []
  | n + 1, a => if a < hi then run s m hi a :: lay n (en s m hi a) else []
def R (a : Int) : List Run := lay s m hi (hi - a).toNat a
end
section
variable {s : Nat → Int} {m : Nat} {hi a lo : Int}
theorem lev_le : ∀ n, lev s hi a n ≤ n
  | 0 => Nat.le_refl _
  | n + 1 => by
    show (if Lies s hi a (n + 1) then n + 1 else lev s hi a n) ≤ n + 1
    split
    · exact Nat.le_refl _
    · have := lev_le n
      omega
theorem lev_lies (h0 : Lies s hi a 0) : ∀ n, Lies s hi a (lev s hi a n)
  | 0 => h0
  | n + 1 => by
    show Lies s hi a (if Lies s hi a (n + 1) then n + 1 else lev s hi a n)
    split
    · assumption
    · exact lev_lies h0 n
theorem lev_max : ∀ n j, j ≤ n → lev s hi a n < j → ¬ Lies s hi a j
  | 0, j, h, h2 => by
    have : lev s hi a 0 = 0 := rfl
    omega
  | n + 1, j, h, h2 => by
    have e : lev s hi a (n + 1) = if Lies s hi a (n + 1) then n + 1 else lev s hi a n := rfl
    by_cases hl : Lies s hi a (n + 1)
    · rw [e, if_pos hl] at h2
      omega
    · rw [e, if_neg hl] at h2
      by_cases ej : j = n + 1
      · rw [ej]
        exact hl
      · exact lev_max n j (by omega) h2
theorem lies0 (c : Ch s m) (h : a < hi) : Lies s hi a 0 := by
  unfold Lies
  rw [c.one]
  exact ⟨Int.emod_one a, by omega⟩
theorem L_lt (c : Ch s m) : L s m hi a < m := by
  have := lev_le (s := s) (hi := hi) (a := a) (m - 1)
  have := c.m1
  show lev s hi a (m - 1) < m
  omega
theorem L_lies (c : Ch s m) (h : a < hi) : Lies s hi a (L s m hi a) := lev_lies (lies0 c h) _
theorem L_max (c : Ch s m) {j : Nat} (hj : j < m) (h : L s m hi a < j) : ¬ Lies s hi a j := lev_max (m - 1) j (by omega) h
theorem lies_down (c : Ch s m) {j k : Nat} (h : j ≤ k) (hk : k < m) (x : Lies s hi a k) : Lies s hi a j := by
  have d := c.dvd h hk
  have p := c.pos k hk
  have l := Int.le_of_dvd (by omega) d
  exact ⟨mod0 (Int.dvd_trans d (dvd0 x.1)), by have := x.2; omega⟩
theorem en1 (c1 : L s m hi a + 1 < m ∧ nx (s (L s m hi a + 1)) a + s (L s m hi a + 1) ≤ hi) : en s m hi a = nx (s (L s m hi a + 1)) a := if_pos c1
theorem en2 (c2 : ¬ (L s m hi a + 1 < m ∧ nx (s (L s m hi a + 1)) a + s (L s m hi a + 1) ≤ hi)) : en s m hi a = hi - hi % s (L s m hi a) := if_neg c2
theorem en_gt (c : Ch s m) (h : a < hi) : a < en s m hi a := by
  have hl := L_lies c h
  have hm := L_lt (a := a) (hi := hi) c
  by_cases c1 : L s m hi a + 1 < m ∧ nx (s (L s m hi a + 1)) a + s (L s m hi a + 1) ≤ hi
  · rw [en1 c1]
    have z := c.pos _ c1.1
    have g := nx_ge a z
    refine Int.not_le.mp fun hle => ?_
    have e : a = nx (s (L s m hi a + 1)) a := by omega
    refine L_max c c1.1 (Nat.lt_succ_self _) ⟨mod0 ?_, ?_⟩
    · have d := nx_dvd (s (L s m hi a + 1)) a
      rw [← e] at d
      exact d
    · have := c1.2
      rw [← e] at this
      exact this
  · rw [en2 c1]
    have z := c.pos _ hm
    have := fl_ge (x := hi) z (Int.dvd_add (dvd0 hl.1) (Int.dvd_refl _)) hl.2
    omega
theorem en_le (c : Ch s m) : en s m hi a ≤ hi := by
  by_cases c1 : L s m hi a + 1 < m ∧ nx (s (L s m hi a + 1)) a + s (L s m hi a + 1) ≤ hi
  · rw [en1 c1]
    have := c.pos _ c1.1
    have := c1.2
    omega
  · rw [en2 c1]
    exact fl_le hi (c.pos _ (L_lt c))
theorem en_dvd (c : Ch s m) : s (L s m hi a) ∣ en s m hi a := by
  by_cases c1 : L s m hi a + 1 < m ∧ nx (s (L s m hi a + 1)) a + s (L s m hi a + 1) ≤ hi
  · rw [en1 c1]
    exact Int.dvd_trans (c.dv _ c1.1) (nx_dvd _ _)
  · rw [en2 c1]
    exact fl_dvd _ _
/-- one way up, the other down -/
theorem up (c : Ch s m) (c1 : L s m hi a + 1 < m ∧ nx (s (L s m hi a + 1)) a + s (L s m hi a + 1) ≤ hi) : en s m hi a < hi ∧ L s m hi a < L s m hi (en s m hi a) := by
  have z := c.pos _ c1.1
  have e := en1 c1
  have h2 := c1.2
  rw [← e] at h2
  refine ⟨by omega, Nat.lt_of_not_le fun hle => ?_⟩
  refine L_max (a := en s m hi a) c c1.1 (by omega) ⟨mod0 ?_, h2⟩
  rw [e]
  exact nx_dvd _ _
def NoHi (s : Nat → Int) (m : Nat) (hi a : Int) : Prop := ¬ (L s m hi a + 1 < m ∧ nx (s (L s m hi a + 1)) a + s (L s m hi a + 1) ≤ hi)
theorem down (c : Ch s m) (c2 : NoHi s m hi a) (h : en s m hi a < hi) : L s m hi (en s m hi a) < L s m hi a ∧ NoHi s m hi (en s m hi a) := by
  have e := en2 c2
  have hm := L_lt (a := a) (hi := hi) c
  have z := c.pos _ hm
  have l := fl_lt hi z
  have dk : s (L s m hi a) ∣ en s m hi a := en_dvd c
  have lt : L s m hi (en s m hi a) < L s m hi a := Nat.lt_of_not_le fun hle => by
    have x := lies_down c hle (L_lt c) (L_lies c h)
    have := x.2
    omega
  refine ⟨lt, fun c1 => ?_⟩
  have d := Int.dvd_trans (c.dvd (show L s m hi (en s m hi a) + 1 ≤ L s m hi a by omega) hm) dk
  have n := nx_self (c.pos _ c1.1) d
  have k := c1.2
  rw [n] at k
  exact L_max (a := en s m hi a) c c1.1 (Nat.lt_succ_self _) ⟨mod0 d, k⟩
theorem other (c : Ch s m) (h : en s m hi a < hi) : L s m hi a ≠ L s m hi (en s m hi a) := by
  by_cases c1 : L s m hi a + 1 < m ∧ nx (s (L s m hi a + 1)) a + s (L s m hi a + 1) ≤ hi
  · have := (up c c1).2
    omega
  · have := (down c c1 h).1
    omega
theorem B_lo (c : Ch s m) : B s m hi lo lo := fun j hj n h => by
  have := Int.emod_nonneg lo (show s j ≠ 0 by have := c.pos j hj; omega)
  omega
theorem B_next (c : Ch s m) (h : a < hi) (b : B s m hi lo a) : B s m hi lo (en s m hi a) := fun j hj n ⟨h1, h2⟩ => by
  have hm := L_lt (a := a) (hi := hi) c
  have zj := c.pos j hj
  have q0 := fl_dvd (s j) (en s m hi a)
  have q1 := fl_le (en s m hi a) zj
  have q2 := fl_lt (en s m hi a) zj
  have gt := en_gt c h
  have nq : en s m hi a - en s m hi a % s j < en s m hi a := by
    have := Int.emod_nonneg (en s m hi a) (show s j ≠ 0 by omega)
    omega
  generalize en s m hi a - en s m hi a % s j = q at *
  have hk : L s m hi a < j := Nat.lt_of_not_le fun hle => n (mod0 (Int.dvd_trans (c.dvd hle hm) (en_dvd c)))
  have k1 : L s m hi a + 1 < m := by omega
  have z1 := c.pos _ k1
  have dq : s (L s m hi a + 1) ∣ q := Int.dvd_trans (c.dvd (by omega) hj) q0
  have lz : s (L s m hi a + 1) ≤ s j := Int.le_of_dvd (by omega) (c.dvd (by omega) hj)
  have qa : q < a := by
    by_cases c1 : L s m hi a + 1 < m ∧ nx (s (L s m hi a + 1)) a + s (L s m hi a + 1) ≤ hi
    · have e := en1 c1
      have l := nx_lt a z1
      have d := nx_dvd (s (L s m hi a + 1)) a
      rw [← e] at l d
      have := gap dq d nq
      omega
    · refine Int.not_le.mp fun ha => c1 ⟨k1, ?_⟩
      have := nx_least z1 dq ha
      omega
  have f := fl_eq zj q0 (show q ≤ a by omega) (by omega)
  refine b j hj ?_ ?_
  · omega
  · rw [f]
    exact ⟨h1, h2⟩
/-- no higher region around an address of the run lies in the range -/
theorem no_high (c : Ch s m) (h : a < hi) (b : B s m hi lo a) (k1 : L s m hi a + 1 < m) {x : Int} (x1 : a ≤ x) (x2 : x < en s m hi a) :
    ¬ (lo ≤ x - x % s (L s m hi a + 1) ∧ x - x % s (L s m hi a + 1) + s (L s m hi a + 1) ≤ hi) := fun ⟨h1, h2⟩ => by
  have z1 := c.pos _ k1
  have q0 := fl_dvd (s (L s m hi a + 1)) x
  have q1 := fl_le x z1
  have q2 := fl_lt x z1
  generalize x - x % s (L s m hi a + 1) = q at *
  by_cases qa : q < a
  · have f := fl_eq z1 q0 (show q ≤ a by omega) (by omega)
    refine b _ k1 ?_ ?_
    · omega
    · rw [f]
      exact ⟨h1, h2⟩
  · have n := nx_least z1 q0 (show a ≤ q by omega)
    by_cases c1 : L s m hi a + 1 < m ∧ nx (s (L s m hi a + 1)) a + s (L s m hi a + 1) ≤ hi
    · rw [en1 c1] at x2
      omega
    · exact c1 ⟨k1, by omega⟩
theorem top_in (c : Ch s m) (h : a < hi) {x : Int} (x1 : a ≤ x) (x2 : x < en s m hi a) : a ≤ x - x % s (L s m hi a) ∧ x - x % s (L s m hi a) + s (L s m hi a) ≤ en s m hi a := by
  have z := c.pos _ (L_lt (a := a) (hi := hi) c)
  have l := fl_le x z
  refine ⟨fl_ge z (dvd0 (L_lies c h).1) x1, gap (fl_dvd _ _) (en_dvd c) (by omega)⟩
theorem top_max (c : Ch s m) (h : a < hi) (b : B s m hi lo a) {x : Int} (x1 : a ≤ x) (x2 : x < en s m hi a) {j : Nat} (hj : j < m) (h1 : lo ≤ x - x % s j) (h2 : x - x % s j + s j ≤ hi) : j ≤ L s m hi a := by
  refine Nat.le_of_not_lt fun hlt => ?_
  have k1 : L s m hi a + 1 < m := by omega
  have z1 := c.pos _ k1
  have zj := c.pos j hj
  have d := c.dvd (show L s m hi a + 1 ≤ j by omega) hj
  have g1 := fl_ge (x := x) z1 (Int.dvd_trans d (fl_dvd (s j) x)) (fl_le x zj)
  have g2 := gap (fl_dvd (s (L s m hi a + 1)) x) (Int.dvd_add (Int.dvd_trans d (fl_dvd (s j) x)) d) (show x - x % s (L s m hi a + 1) < x - x % s j + s j by
    have := fl_le x z1
    have := fl_lt x zj
    omega)
  exact no_high c h b k1 x1 x2 ⟨by omega, by omega⟩
theorem lay_eq (c : Ch s m) : ∀ n n' a, (hi - a).toNat ≤ n → (hi - a).toNat ≤ n' → lay s m hi n a = lay s m hi n' a
  | 0, 0, _, _, _ => rfl
  | 0, n' + 1, a, h, _ => by
    show ([] : List Run) = if a < hi then run s m hi a :: lay s m hi n' (en s m hi a) else []
    rw [if_neg (by omega)]
  | n + 1, 0, a, _, h => by
    show (if a < hi then run s m hi a :: lay s m hi n (en s m hi a) else []) = []
    rw [if_neg (by omega)]
  | n + 1, n' + 1, a, h, h' => by
    show (if a < hi then run s m hi a :: lay s m hi n (en s m hi a) else []) = if a < hi then run s m hi a :: lay s m hi n' (en s m hi a) else []
    by_cases e : a < hi
    · have g := en_gt c e
      rw [if_pos e, if_pos e, lay_eq c n n' (en s m hi a) (by omega) (by omega)]
    · rw [if_neg e, if_neg e]
theorem R_end (h : ¬ a < hi) : R s m hi a = [] := by
  unfold R
  rw [show (hi - a).toNat = 0 by omega]
  rfl
theorem R_step (c : Ch s m) (h : a < hi) : R s m hi a = run s m hi a :: R s m hi (en s m hi a) := by
  unfold R
  obtain ⟨n, e⟩ : ∃ n, (hi - a).toNat = n + 1 := ⟨(hi - a).toNat - 1, by omega⟩
  rw [e]
  show (if a < hi then run s m hi a :: lay s m hi n (en s m hi a) else []) = _
  have g := en_gt c h
  rw [if_pos h, lay_eq c n (hi - en s m hi a).toNat (en s m hi a) (by omega) (Nat.le_refl _)]
theorem R_down (c : Ch s m) : ∀ (n : Nat) (a : Int), (hi - a).toNat ≤ n → a < hi → NoHi s m hi a → (R s m hi a).length ≤ L s m hi a + 1
  | 0, a, h, h2, _ => by omega
  | n + 1, a, h, h2, c2 => by
    rw [R_step c h2, List.length_cons]
    by_cases e : en s m hi a < hi
    · obtain ⟨d1, d2⟩ := down c c2 e
      have g := en_gt c h2
      have := R_down c n (en s m hi a) (by omega) e d2
      omega
    · rw [R_end e]
      simp
theorem R_len (c : Ch s m) : ∀ (n : Nat) (a : Int), (hi - a).toNat ≤ n → a < hi → (R s m hi a).length + L s m hi a ≤ 2 * m
  | 0, a, h, h2 => by omega
  | n + 1, a, h, h2 => by
    have l := L_lt (a := a) (hi := hi) c
    by_cases c1 : L s m hi a + 1 < m ∧ nx (s (L s m hi a + 1)) a + s (L s m hi a + 1) ≤ hi
    · obtain ⟨u1, u2⟩ := up c c1
      have g := en_gt c h2
      have := R_len c n (en s m hi a) (by omega) u1
      rw [R_step c h2, List.length_cons]
      omega
    · have := R_down c (n + 1) a h h2 c1
      omega
theorem R_short (c : Ch s m) (h8 : m ≤ 8) : (R s m hi a).length ≤ 16 := by
  by_cases h : a < hi
  · have := R_len c _ a (Nat.le_refl _) h
    omega
  · rw [R_end h]
    simp
/-- a place between two runs -/
structure Mid (s : Nat → Int) (m : Nat) (hi lo a : Int) (done : List Run) : Prop where
  eq : R s m hi lo = done ++ R s m hi a
  lo_le : lo ≤ a
  le_hi : a ≤ hi
  bd : B s m hi lo a
  last : a < hi → ∀ t, done.getLast? = some t → t.1 ≠ L s m hi a
theorem mid0 (c : Ch s m) (h : lo ≤ hi) : Mid s m hi lo lo [] := ⟨rfl, Int.le_refl _, h, B_lo c, fun _ t e => by cases e⟩
theorem Mid.next {done : List Run} (c : Ch s m) (M : Mid s m hi lo a done) (h : a < hi) : Mid s m hi lo (en s m hi a) (done ++ [run s m hi a]) := by
  have g := en_gt c h
  have l := M.lo_le
  refine ⟨?_, by omega, en_le c, B_next c h M.bd, fun h2 t e => ?_⟩
  · rw [M.eq, R_step c h, List.append_assoc]
    rfl
  · rw [List.getLast?_concat] at e
    cases e
    exact other c h2
/-- the number of cells of a run -/
theorem run_cells (c : Ch s m) (h : a < hi) : (en s m hi a - a) / s (L s m hi a) * s (L s m hi a) = en s m hi a - a := Int.ediv_mul_cancel (Int.dvd_sub (en_dvd c) (dvd0 (L_lies c h).1))
theorem run_one (c : Ch s m) (h : a < hi) : 1 ≤ (en s m hi a - a) / s (L s m hi a) := by
  have z := c.pos _ (L_lt (a := a) (hi := hi) c)
  have g := gap (dvd0 (L_lies c h).1) (en_dvd c) (en_gt c h)
  exact (Int.le_ediv_iff_mul_le (by omega)).mpr (by omega)
/-- multiples of z below y, from 0 on -/
def cd (z y : Int) : Int := (y + z - 1) / z
theorem cd_zero {z : Int} (hz : 1 ≤ z) : cd z 0 = 0 := by
  unfold cd
  exact Int.ediv_eq_zero_of_lt (by omega) (by omega)
theorem cd_mul {z y : Int} (hz : 1 ≤ z) (h : z ∣ y) : cd z y = y / z := by
  obtain ⟨q, rfl⟩ := h
  unfold cd
  rw [show z * q + z - 1 = (z - 1) + z * q by omega, Int.add_mul_ediv_left _ _ (by omega), Int.mul_ediv_cancel_left _ (by omega), Int.ediv_eq_zero_of_lt (by omega) (by omega)]
  omega
theorem cd_next {z y : Int} (hz : 1 ≤ z) (h : z ∣ y) : cd z (y + 1) = y / z + 1 := by
  obtain ⟨q, rfl⟩ := h
  unfold cd
  rw [show z * q + 1 + z - 1 = z * (q + 1) by rw [Int.mul_add]; omega, Int.mul_ediv_cancel_left _ (by omega), Int.mul_ediv_cancel_left _ (by omega)]
theorem cd_stay {z y : Int} (hz : 1 ≤ z) (h : ¬ z ∣ y) : cd z (y + 1) = cd z y := by
  unfold cd
  have e := Int.mul_ediv_add_emod y z
  have e1 := Int.emod_nonneg y (show z ≠ 0 by omega)
  have e2 := Int.emod_lt_of_pos y (show 0 < z by omega)
  have n : y % z ≠ 0 := fun q => h (dvd0 q)
  have a1 : (y + 1 + z - 1) / z = y / z + 1 := by
    rw [show y + 1 + z - 1 = (y % z) + z * (y / z + 1) by rw [Int.mul_add]; omega, Int.add_mul_ediv_left _ _ (by omega), Int.ediv_eq_zero_of_lt e1 e2]
    omega
  have a2 : (y + z - 1) / z = y / z + 1 := by
    rw [show y + z - 1 = (y % z - 1) + z * (y / z + 1) by rw [Int.mul_add]; omega, Int.add_mul_ediv_left _ _ (by omega), Int.ediv_eq_zero_of_lt (by omega) (by omega)]
    omega
  rw [a1, a2]
end
end M16

set_option Elab.async false
set_option linter.all false
set_option maxRecDepth 100000
set_option maxHeartbeats 4000000
namespace K23
open PySem PySem.Spec PyProof.Rows L2 Gu Ex
def top (i : Nat) : Stmt := PySem.Challenge.pw_exactroom_k23_whole_slack_by_all_regions.main.body.getD i (.Pass ⟨0, 0, 0, 0⟩)
abbrev FnP (K : PySem.W.Frag) (x qual : Str) (st : Stmt) (f : Addr) (fd : FuncData) : Prop := FunD K x qual (defArgs st) (defBody st) (defScope st) [] [] f fd
/-- what the top has left -/
structure Tx (K : PySem.W.Frag) (mg : Str → Option Value) : Prop where
  n_len : mg "len" = none
  n_isinstance : mg "isinstance" = none
  n_int : mg "int" = none
  n_bool : mg "bool" = none
  n_list : mg "list" = none
  n_range : mg "range" = none
  n_divmod : mg "divmod" = none
  n_abs : mg "abs" = none
  n_max : mg "max" = none
  n_min : mg "min" = none
  n_enumerate : mg "enumerate" = none
  n_all : mg "all" = none
  n_sum : mg "sum" = none
  n_tuple : mg "tuple" = none
  n_sorted : mg "sorted" = none
  n_repr : mg "repr" = none
  g_Sizes : mg "Sizes" = some (.ref (He.ga K "Sizes"))
  cl : Cls K (He.ga K "Sizes")
  nSL : NoAttr K (He.ga K "Sizes") "size_list"
  rd : ClX.CRead K (He.ga K "Sizes") (.type "type")
  cS : ∃ u, ClX.CVal K (He.ga K "Sizes") (.type "type") "MAX_SIZE" (.int 1000000000) u
  cN : ∃ u, ClX.CVal K (He.ga K "Sizes") (.type "type") "MAX_SIZES" (.int 8) u
  sys : SysOk K
  cC : ∃ u, ClX.CVal K (He.ga K "Sizes") (.type "type") "MAX_CELLS" (.int 1000000000000) u
  g_Layout : mg "Layout" = some (.ref (He.ga K "Layout"))
  ly : Cls K (He.ga K "Layout")
  nST : NoAttr K (He.ga K "Layout") "size_table"
  nCC : NoAttr K (He.ga K "Layout") "cell_count"
  nFC : NoAttr K (He.ga K "Layout") "free_count"
  nBL : NoAttr K (He.ga K "Layout") "block_list"
/-- a list of sizes -/
structure Good (ns : List Int) : Prop where
  len : 1 ≤ ns.length ∧ ns.length ≤ 8
  one : ns[0]? = some 1
  rng : ∀ (i : Nat) x, ns[i]? = some x → 1 ≤ x ∧ x ≤ 1000000000
  up : ∀ (i : Nat) x y, ns[i]? = some x → ns[i + 1]? = some y → x < y ∧ y % x = 0
section
variable {P : Program} {w : World} {K : PySem.W.Frag} {mg : Str → Option Value} {base : Heap} {f : Addr} {fd : FuncData}
theorem bT {c : Prop} [Decidable c] (h : c) : V.bl (decide c) = V.bl true := congrArg V.bl (decide_eq_true h)
theorem bF {c : Prop} [Decidable c] (h : ¬ c) : V.bl (decide c) = V.bl false := congrArg V.bl (decide_eq_false h)
theorem ifT {c : Bool} {A B : Prop} (h : c = true) (x : A) : if c = true then A else B := by rw [h]; exact iteT x
theorem ifF {c : Bool} {A B : Prop} (h : c = false) (x : B) : if c = true then A else B := by rw [h]; exact iteF x
theorem vT {a b : Int} (h : a = b) : decide (V.int a = V.int b) = true := decide_eq_true (by rw [h])
theorem vF {a b : Int} (h : a ≠ b) : decide (V.int a = V.int b) = false := decide_eq_false fun z => h (V.int.inj z)
def spInt : Sp := fun vs H Q _ => ∃ i : Int, vs = [.int i] ∧ Q (.bl true) H
theorem sc_is_integer : FnScope ["value"] ["value"] (defScope (top 12)) := ⟨rfl, rfl, rfl, by decide +kernel, rfl, by decide +kernel, by decide +kernel⟩
theorem ok_is_integer (T : Tx K mg) (F : FnP K "is_integer" "is_integer" (top 12) f fd) : FnOk P w K mg base CX0 1 f fd ["value"] spInt := by
  refine F.ok sc_is_integer (fun vs H Q E h => ?_) (fun cdv A outer s H vs Q E hr h => ⟨_, PSs.nox (pss_one (ps_ret (pe_and (pe_callB call_isi (by rfl) T.n_isinstance (by decide +kernel) (pa_cons (pv 0) (pa_cons (pe_bltn (v := .ty "int") (by rfl) T.n_int (by decide +kernel) rfl) pa_nil))) (pe_one (pe_not (pe_callB call_isi (by rfl) T.n_isinstance (by decide +kernel) (pa_cons (pv 0) (pa_cons (pe_bltn (v := .ty "bool") (by rfl) T.n_bool (by decide +kernel) rfl) pa_nil)))))))), ?_⟩)
  · obtain ⟨i, rfl, _⟩ := h
    rfl
  · obtain ⟨i, rfl, q⟩ := h
    refine ⟨_, rfl, _, _, _, _, true, rfl, .ty "int", .base (.int i), kit_ty (by decide +kernel), _, rfl, iteT ?_⟩
    exact ⟨_, rfl, _, _, _, _, false, rfl, .ty "bool", .base (.int i), kit_ty (by decide +kernel), _, rfl, q⟩
/-- a good list at a, a place in it -/
def spProblem (K : PySem.W.Frag) : Sp := fun vs H Q _ => ∃ (a : Addr) (ns : List Int) (p : Nat), vs = [.ref a, .int p] ∧ SqL K H a (ns.map V.int) ∧ Good ns ∧ p < ns.length ∧ Q .non H
theorem at_map {ns : List Int} {p : Nat} {x : Int} (h : ns[p]? = some x) : atI (ns.map V.int) (p : Int) = some (.int x) := atI_nat (by rw [List.getElem?_map, h]; rfl)
theorem sc_size_problem : FnScope ["values", "position", "size", "before"] ["values", "position"] (defScope (top 16)) := ⟨rfl, rfl, rfl, by decide +kernel, rfl, by decide +kernel, by decide +kernel⟩
theorem ok_size_problem (T : Tx K mg) (D_is_integer : Df P w K mg base 1 "is_integer" ["value"] spInt) (F : FnP K "size_problem" "size_problem" (top 16) f fd) :
    FnOk P w K mg base CX0 2 f fd ["values", "position"] (spProblem K) := by
  refine F.ok sc_size_problem (fun vs H Q E h => ?_) (fun cdv A outer s H vs Q E hr h => ⟨_, PSs.nox (pss_cons (ps_set (i := 2) sc_size_problem.nd rfl (by first | exact Or.inl rfl | exact Or.inr rfl) (pe_ix ix_list (pv 0) (pv 1) (fun _ _ => rfl))) (pss_cons (ps_if (PW.pt (pw_or (pt_not (pt_val (pcall D_is_integer hr (pa_cons (pv 2) pa_nil)))) (pw_or1 (pt_not (pt_chain op_le op_le pe_int (pv 2) (ClX.pe_cval (pe_glob (v := .ref _) rfl T.g_Sizes rfl))))))) (pss_one (ps_ret pe_str)) pss_nil) (pss_cons (ps_if (pt_cmpR op_eq (pv 1) pe_int (nomark _)) (pss_one (ps_ret (pe_ifExp (pt_cmpR op_eq (pv 2) pe_int (nomark _)) pe_non pe_str))) pss_nil) (pss_cons (ps_set (i := 3) sc_size_problem.nd rfl (by first | exact Or.inl rfl | exact Or.inr rfl) (pe_ix ix_list (pv 0) (pe_op op_sub (pv 1) pe_int) (fun _ _ => rfl))) (pss_cons (ps_if (PW.pt (pw_or (pt_cmpR op_le (pv 2) (pv 3) (nomark _)) (pw_or1 (pt_cmpR op_ne (pe_op op_mod (pv 2) (pv 3)) pe_int (nomark _))))) (pss_one (ps_ret pe_str)) pss_nil) (pss_one (ps_ret pe_non))))))), ?_⟩)
  · obtain ⟨a, ns, p, rfl, _⟩ := h
    rfl
  · obtain ⟨a, ns, p, rfl, hS, g, hp, q⟩ := h
    have hx : ns[p]? = some ns[p] := List.getElem?_eq_getElem hp
    obtain ⟨b1, b2⟩ := g.rng p _ hx
    obtain ⟨u, cS⟩ := T.cS
    refine ⟨_, rfl, _, rfl, a, _, _, _, rfl, rfl, hS, at_map hx, ?_⟩
    refine ⟨_, rfl, _, rfl, true, rfl, iteF ?_⟩
    refine ⟨_, rfl, _, _, rfl, rfl, true, bT b1, iteT ?_⟩
    refine ⟨_, _, _, _, rfl, T.rd, cS, _, _, rfl, rfl, true, bT b2, iteF ?_⟩
    by_cases h0 : p = 0
    · subst h0
      have e1 : ns[0] = 1 := Option.some.inj (hx.symm.trans g.one)
      exact ⟨_, rfl, rfl, _, rfl, ifT (vT rfl) ⟨_, rfl, rfl, _, rfl, ifT (vT e1) q⟩⟩
    · refine ⟨_, rfl, rfl, _, rfl, ifF (vF (by omega)) ?_⟩
      have hp1 : p - 1 < ns.length := by omega
      have hy : ns[p - 1]? = some ns[p - 1] := List.getElem?_eq_getElem hp1
      have hx2 : ns[p - 1 + 1]? = some ns[p] := by rw [show p - 1 + 1 = p by omega]; exact hx
      obtain ⟨u1, u2⟩ := g.up (p - 1) _ _ hy hx2
      have u3 := (g.rng _ _ hy).1
      refine ⟨_, rfl, _, rfl, _, _, rfl, rfl, a, _, _, _, rfl, rfl, hS, (by rw [show ((p : Int) - 1) = ((p - 1 : Nat) : Int) by omega]; exact at_map hy), ?_⟩
      refine ⟨_, rfl, _, rfl, _, _, rfl, rfl, false, bF (by omega), iteF ?_⟩
      refine ⟨_, rfl, _, rfl, _, _, rfl, rfl, (by show (0 : Int) < _; omega), rfl, false, ?_, iteF q⟩
      exact congrArg V.bl (by rw [vT u2]; rfl)
/-- a good list -/
def spCheck (K : PySem.W.Frag) : Sp := fun vs H Q _ => ∃ (a : Addr) (ns : List Int), vs = [.ref a] ∧ SqL K H a (ns.map V.int) ∧ TyX K H (.ref a) (.type "list") ∧ Good ns ∧ Q .non H
theorem sc_check_sizes : FnScope ["values", "position", "problem"] ["values"] (defScope (top 17)) := ⟨rfl, rfl, rfl, by decide +kernel, rfl, by decide +kernel, by decide +kernel⟩
theorem ok_check_sizes (T : Tx K mg) (D_size_problem : Df P w K mg base 2 "size_problem" ["values", "position"] (spProblem K)) (F : FnP K "check_sizes" "check_sizes" (top 17) f fd) :
    FnOk P w K mg base CX0 3 f fd ["values"] (spCheck K) := by
  refine F.ok sc_check_sizes (fun vs H Q E h => ?_) (fun cdv A outer s H vs Q E hr h => ⟨_, PSs.nox (pss_cons (ps_if (pt_not (pt_val (pe_callB call_isi (by rfl) T.n_isinstance (by decide +kernel) (pa_cons (pv 0) (pa_cons (pe_bltn (v := .ty "list") (by rfl) T.n_list (by decide +kernel) rfl) pa_nil))))) (pss_one ps_never) pss_nil) (pss_cons (ps_for PassesOwn.never rfl (pi_range1 rfl T.n_range (pa_cons (pe_callB call_len_seq (by rfl) T.n_len (by decide +kernel) (pa_cons (pv 0) pa_nil)) pa_nil)) (pg_name (i := 1) sc_check_sizes.nd rfl (by first | exact Or.inl rfl | exact Or.inr rfl)) (pss_cons (ps_set (i := 2) sc_check_sizes.nd rfl (by first | exact Or.inl rfl | exact Or.inr rfl) (pcall D_size_problem hr (pa_cons (pv 0) (pa_cons (pv 1) pa_nil)))) (pss_one (ps_if (pt_cmpR op_notN (pv 2) pe_non (nomark _)) (pss_one ps_never) pss_nil)))) (pss_one (ps_if (pt_not (pt_chain op_le op_le pe_int (pe_callB call_len_seq (by rfl) T.n_len (by decide +kernel) (pa_cons (pv 0) pa_nil)) (ClX.pe_cval (pe_glob (v := .ref _) rfl T.g_Sizes rfl)))) (pss_one ps_never) pss_nil)))), ?_⟩)
  · obtain ⟨a, ns, rfl, _⟩ := h
    rfl
  · obtain ⟨a, ns, rfl, hS, ty, g, q⟩ := h
    obtain ⟨u, cN⟩ := T.cN
    obtain ⟨l1, l2⟩ := g.len
    refine ⟨_, rfl, _, _, _, _, true, rfl, .ty "list", ty, kit_ty (by decide +kernel), true, rfl, iteF ?_⟩
    refine ⟨_, rfl, a, _, rfl, .inl hS, _, rfl, (by simp only [List.length_map]; omega), (by simp only [List.length_map]; omega), ?_⟩
    refine for_range (fun i σ H' => H' = H ∧ ∃ x y, σ = [some (.ref a), x, y]) ⟨rfl, none, none, rfl⟩ ?_ ?_
    · rintro i σ H' hi ⟨rfl, x, y, rfl⟩
      have hi2 : i < ns.length := by simpa using hi
      refine ⟨_, rfl, _, rfl, a, ns, i, (by rw [Int.zero_add]; rfl), hS, g, hi2, ?_⟩
      exact ⟨_, rfl, rfl, false, rfl, iteF ⟨rfl, _, _, rfl⟩⟩
    · rintro σ H' ⟨rfl, x, y, rfl⟩
      refine ⟨_, rfl, a, _, rfl, .inl hS, _, _, rfl, rfl, true, bT (by simp only [List.length_map]; omega), iteT ?_⟩
      exact ⟨_, _, _, _, rfl, T.rd, cN, _, _, rfl, rfl, true, bT (by simp only [List.length_map]; omega), iteF q⟩
end
end K23

set_option Elab.async false
set_option linter.all false
set_option maxRecDepth 100000
set_option maxHeartbeats 4000000
namespace K23
open PySem PySem.Spec PyProof.Rows L2 Gu Ex
def szF (l : Addr) : List (Str × V) := [("size_list", V.ref l)]
theorem szF_get (l : Addr) : (szF l).lookup ("size_list" : Str) = some (.ref l) := by simp [szF, List.lookup]
theorem szF_no (l : Addr) {m : Str} (h : (m == ("size_list" : Str)) = false) : (szF l).lookup m = none := by simp [szF, List.lookup, h]
/-- at p an object of Sizes with the list ns -/
def SzAt (C : Addr) (H : Hp) (p : Addr) (ns : List Int) : Prop := ∃ dx l, H p = some (.ins C dx (szF l)) ∧ H l = some (.lst (ns.map V.int))
theorem putF_new (l : Addr) : putF "size_list" (V.ref l) [] = szF l := rfl
section
variable {P : Program} {w : World} {K : PySem.W.Frag} {mg : Str → Option Value} {base : Heap} {f : Addr} {fd : FuncData}
def spMade (K : PySem.W.Frag) : Sp := fun vs H Q _ => ∃ (x dx a : Addr) (ns : List Int), vs = [.ref x, .ref a] ∧ H x = some (.ins (He.ga K "Sizes") dx []) ∧ SqL K H a (ns.map V.int) ∧ TyX K H (.ref a) (.type "list") ∧ Good ns ∧
  ∀ l, H l = none → Q .non (upd (upd H l (.lst (ns.map V.int))) x (.ins (He.ga K "Sizes") dx (szF l)))
theorem sc___init__ : FnScope ["self", "values"] ["self", "values"] (defScope (inClass (top 18) 4)) := ⟨rfl, rfl, rfl, by decide +kernel, rfl, by decide +kernel, by decide +kernel⟩
theorem ok_init (T : Tx K mg) (D_check_sizes : Df P w K mg base 3 "check_sizes" ["values"] (spCheck K)) (F : FnP K "__init__" "Sizes.__init__" (inClass (top 18) 4) f fd) :
    FnOk P w K mg base CX0 4 f fd ["self", "values"] (spMade K) := by
  refine F.ok sc___init__ (fun vs H Q E h => ?_) (fun cdv A outer s H vs Q E hr h => ⟨_, PSs.nox (pss_cons (ps_expr (pcall D_check_sizes hr (pa_cons (pv 1) pa_nil))) (pss_one (ps_fld (pv 0) (pe_callTy call_list_of (by rfl) T.n_list (by decide +kernel) (pa_cons (pv 1) pa_nil)) rfl))), ?_⟩)
  · obtain ⟨x, dx, a, ns, rfl, _⟩ := h
    rfl
  · obtain ⟨x, dx, a, ns, rfl, hx, hS, ty, g, q⟩ := h
    refine ⟨_, rfl, a, ns, rfl, hS, ty, g, ?_⟩
    refine ⟨_, rfl, a, _, rfl, .inl hS, fun l hl => ?_⟩
    refine ⟨_, rfl, x, He.ga K "Sizes", dx, [], rfl, (by rw [upd_ne (ne_of_none hx hl)]; exact hx), T.cl, T.nSL, (by show 0 < 1000; decide), ?_⟩
    exact q l hl
def spTop (K : PySem.W.Frag) : Sp := fun vs H Q _ => ∃ (p : Addr) (ns : List Int), vs = [.ref p] ∧ SzAt (He.ga K "Sizes") H p ns ∧ Q (.int ((ns.length : Int) - 1)) H
theorem sc_top : FnScope ["self"] ["self"] (defScope (inClass (top 18) 10)) := ⟨rfl, rfl, rfl, by decide +kernel, rfl, by decide +kernel, by decide +kernel⟩
theorem ok_top (T : Tx K mg) (F : FnP K "top" "Sizes.top" (inClass (top 18) 10) f fd) : FnOk P w K mg base CX0 1 f fd ["self"] (spTop K) := by
  refine F.ok sc_top (fun vs H Q E h => ?_) (fun cdv A outer s H vs Q E hr h => ⟨_, PSs.nox (pss_one (ps_ret (pe_op op_sub (pe_callB call_len_seq (by rfl) T.n_len (by decide +kernel) (pa_cons (pe_fld (pv 0) rfl) pa_nil)) pe_int))), ?_⟩)
  · obtain ⟨p, ns, rfl, _⟩ := h
    rfl
  · obtain ⟨p, ns, rfl, ⟨dx, l, h1, h2⟩, q⟩ := h
    refine ⟨_, rfl, p, _, dx, _, _, rfl, h1, T.cl, T.nSL, szF_get l, l, _, rfl, .inl (SqL.of h2), _, _, rfl, rfl, ?_⟩
    rw [List.length_map]
    exact q
def spHas (K : PySem.W.Frag) : Sp := fun vs H Q _ => ∃ (p : Addr) (ns : List Int) (i : Nat), vs = [.ref p, .int i] ∧ SzAt (He.ga K "Sizes") H p ns ∧ i < ns.length ∧ Q (.bl true) H
theorem sc_has_level : FnScope ["self", "level"] ["self", "level"] (defScope (inClass (top 18) 12)) := ⟨rfl, rfl, rfl, by decide +kernel, rfl, by decide +kernel, by decide +kernel⟩
theorem ok_has (T : Tx K mg) (D_is_integer : Df P w K mg base 1 "is_integer" ["value"] spInt) (P_top : Pf P w K mg base 1 "Sizes" "top" (spTop K)) (F : FnP K "has_level" "Sizes.has_level" (inClass (top 18) 12) f fd) :
    FnOk P w K mg base CX0 3 f fd ["self", "level"] (spHas K) := by
  refine F.ok sc_has_level (fun vs H Q E h => ?_) (fun cdv A outer s H vs Q E hr h => ⟨_, PSs.nox (pss_one (ps_ret (pe_and (pcall D_is_integer hr (pa_cons (pv 1) pa_nil)) (pe_one (pe_chain op_le op_le pe_int (pv 1) (pprop P_top hr (pv 0))))))), ?_⟩)
  · obtain ⟨p, ns, i, rfl, _⟩ := h
    rfl
  · obtain ⟨p, ns, i, rfl, hz, hi, q⟩ := h
    obtain ⟨dx, l, h1, h2⟩ := id hz
    refine ⟨_, rfl, _, rfl, true, rfl, iteT ?_⟩
    refine ⟨_, rfl, _, _, rfl, rfl, true, bT (by omega), iteT ?_⟩
    refine ⟨_, rfl, p, dx, _, rfl, h1, p, ns, rfl, hz, _, _, rfl, rfl, ?_⟩
    have e : decide ((i : Int) ≤ (ns.length : Int) - 1) = true := decide_eq_true (by omega)
    show Q (.bl (decide ((i : Int) ≤ (ns.length : Int) - 1))) H
    rw [e]
    exact q
def spCheckL (K : PySem.W.Frag) : Sp := fun vs H Q _ => ∃ (p : Addr) (ns : List Int) (i : Nat), vs = [.ref p, .int i] ∧ SzAt (He.ga K "Sizes") H p ns ∧ i < ns.length ∧ Q .non H
theorem sc_check_level : FnScope ["self", "level"] ["self", "level"] (defScope (inClass (top 18) 13)) := ⟨rfl, rfl, rfl, by decide +kernel, rfl, by decide +kernel, by decide +kernel⟩
theorem ok_check_level (T : Tx K mg) (M_has_level : Mf P w K mg base 3 "Sizes" "has_level" ["self", "level"] (spHas K)) (F : FnP K "check_level" "Sizes.check_level" (inClass (top 18) 13) f fd) :
    FnOk P w K mg base CX0 4 f fd ["self", "level"] (spCheckL K) := by
  refine F.ok sc_check_level (fun vs H Q E h => ?_) (fun cdv A outer s H vs Q E hr h => ⟨_, PSs.nox (pss_one (ps_if (pt_not (pt_val (pmeth M_has_level hr (pv 0) (pa_cons (pv 1) pa_nil)))) (pss_one ps_never) pss_nil)), ?_⟩)
  · obtain ⟨p, ns, i, rfl, _⟩ := h
    rfl
  · obtain ⟨p, ns, i, rfl, hz, hi, q⟩ := h
    obtain ⟨dx, l, h1, h2⟩ := id hz
    exact ⟨_, rfl, p, dx, _, rfl, h1, szF_no l (by decide +kernel), _, rfl, p, ns, i, rfl, hz, hi, true, rfl, iteF q⟩
def spSize (K : PySem.W.Frag) : Sp := fun vs H Q _ => ∃ (p : Addr) (ns : List Int) (i : Nat) (x : Int), vs = [.ref p, .int i] ∧ SzAt (He.ga K "Sizes") H p ns ∧ ns[i]? = some x ∧ Q (.int x) H
theorem sc_size : FnScope ["self", "level"] ["self", "level"] (defScope (inClass (top 18) 14)) := ⟨rfl, rfl, rfl, by decide +kernel, rfl, by decide +kernel, by decide +kernel⟩
theorem ok_size (T : Tx K mg) (M_check_level : Mf P w K mg base 4 "Sizes" "check_level" ["self", "level"] (spCheckL K)) (F : FnP K "size" "Sizes.size" (inClass (top 18) 14) f fd) :
    FnOk P w K mg base CX0 5 f fd ["self", "level"] (spSize K) := by
  refine F.ok sc_size (fun vs H Q E h => ?_) (fun cdv A outer s H vs Q E hr h => ⟨_, PSs.nox (pss_cons (ps_expr (pmeth M_check_level hr (pv 0) (pa_cons (pv 1) pa_nil))) (pss_one (ps_ret (pe_ix ix_list (pe_fld (pv 0) rfl) (pv 1) (fun _ _ => rfl))))), ?_⟩)
  · obtain ⟨p, ns, i, x, rfl, _⟩ := h
    rfl
  · obtain ⟨p, ns, i, x, rfl, hz, hx, q⟩ := h
    obtain ⟨dx, l, h1, h2⟩ := id hz
    refine ⟨_, rfl, p, dx, _, rfl, h1, szF_no l (by decide +kernel), _, rfl, p, ns, i, rfl, hz, (List.getElem?_eq_some_iff.mp hx).1, ?_⟩
    exact ⟨_, rfl, p, _, dx, _, _, rfl, h1, T.cl, T.nSL, szF_get l, _, rfl, l, _, _, _, rfl, rfl, SqL.of h2, at_map hx, q⟩
def spAddr : Sp := fun vs H Q _ => ∃ i : Int, vs = [.int i] ∧ 0 ≤ i ∧ Q (.bl true) H
theorem sc_is_address : FnScope ["value"] ["value"] (defScope (top 20)) := ⟨rfl, rfl, rfl, by decide +kernel, rfl, by decide +kernel, by decide +kernel⟩
theorem ok_is_address (T : Tx K mg) (D_is_integer : Df P w K mg base 1 "is_integer" ["value"] spInt) (F : FnP K "is_address" "is_address" (top 20) f fd) : FnOk P w K mg base CX0 2 f fd ["value"] spAddr := by
  refine F.ok sc_is_address (fun vs H Q E h => ?_) (fun cdv A outer s H vs Q E hr h => ⟨_, PSs.nox (pss_one (ps_ret (pe_and (pcall D_is_integer hr (pa_cons (pv 0) pa_nil)) (pe_one (pe_cmpR op_ge (pv 0) pe_int (nomark _)))))), ?_⟩)
  · obtain ⟨i, rfl, _⟩ := h
    rfl
  · obtain ⟨i, rfl, hi, q⟩ := h
    refine ⟨_, rfl, _, rfl, true, rfl, iteT ⟨_, rfl, _, _, rfl, rfl, ?_⟩⟩
    have e : decide ((0 : Int) ≤ i) = true := decide_eq_true hi
    show Q (.bl (decide ((0 : Int) ≤ i))) H
    rw [e]
    exact q
def spRange : Sp := fun vs H Q _ => ∃ a b : Int, vs = [.int a, .int b] ∧ 0 ≤ a ∧ a ≤ b ∧ Q .non H
theorem sc_check_range : FnScope ["low", "high"] ["low", "high"] (defScope (top 21)) := ⟨rfl, rfl, rfl, by decide +kernel, rfl, by decide +kernel, by decide +kernel⟩
theorem ok_check_range (T : Tx K mg) (D_is_integer : Df P w K mg base 1 "is_integer" ["value"] spInt) (D_is_address : Df P w K mg base 2 "is_address" ["value"] spAddr) (F : FnP K "check_range" "check_range" (top 21) f fd) :
    FnOk P w K mg base CX0 3 f fd ["low", "high"] spRange := by
  refine F.ok sc_check_range (fun vs H Q E h => ?_) (fun cdv A outer s H vs Q E hr h => ⟨_, PSs.nox (pss_cons (ps_if (pt_not (pt_val (pcall D_is_address hr (pa_cons (pv 0) pa_nil)))) (pss_one ps_never) pss_nil) (pss_one (ps_if (PW.pt (pw_or (pt_not (pt_val (pcall D_is_integer hr (pa_cons (pv 1) pa_nil)))) (pw_or1 (pt_cmpR op_lt (pv 1) (pv 0) (nomark _))))) (pss_one ps_never) pss_nil))), ?_⟩)
  · obtain ⟨a, b, rfl, _⟩ := h
    rfl
  · obtain ⟨a, b, rfl, ha, hb, q⟩ := h
    refine ⟨_, rfl, _, rfl, ha, true, rfl, iteF ?_⟩
    exact ⟨_, rfl, _, rfl, true, rfl, iteF ⟨_, rfl, _, rfl, _, _, rfl, rfl, false, bF (by omega), iteF q⟩⟩
/-- the least multiple of s from a on -/
def nextI (s a : Int) : Int := -(-a / s) * s
def spNext : Sp := fun vs H Q _ => ∃ s a : Int, vs = [.int s, .int a] ∧ 1 ≤ s ∧ s ≤ 1000000000 ∧ Q (.int (nextI s a)) H
theorem div_ok {i s : Int} (h1 : 1 ≤ s) (h2 : s ≤ 1000000000) : CDivW i s := wide_div (b := 64) (by omega) (by omega) (by decide) (by decide)
theorem sc_next_start : FnScope ["size", "address"] ["size", "address"] (defScope (top 22)) := ⟨rfl, rfl, rfl, by decide +kernel, rfl, by decide +kernel, by decide +kernel⟩
theorem ok_next_start (T : Tx K mg) (F : FnP K "next_start" "next_start" (top 22) f fd) : FnOk P w K mg base CX0 1 f fd ["size", "address"] spNext := by
  refine F.ok sc_next_start (fun vs H Q E h => ?_) (fun cdv A outer s H vs Q E hr h => ⟨_, PSs.nox (pss_one (ps_ret (pe_op op_mul (pe_un un_neg (pe_op op_fdivW (pe_un un_neg (pv 1)) (pv 0))) (pv 0)))), ?_⟩)
  · obtain ⟨s, a, rfl, _⟩ := h
    rfl
  · obtain ⟨s, a, rfl, h1, h2, q⟩ := h
    exact ⟨_, rfl, _, rfl, _, rfl, _, _, rfl, rfl, div_ok h1 h2, _, rfl, _, rfl, _, _, rfl, rfl, .inr ⟨by omega, by omega⟩, q⟩
def spStart (K : PySem.W.Frag) : Sp := fun vs H Q _ => ∃ (p : Addr) (ns : List Int) (i : Nat) (x a : Int), vs = [.ref p, .int i, .int a] ∧ SzAt (He.ga K "Sizes") H p ns ∧ ns[i]? = some x ∧ 1 ≤ x ∧ 0 ≤ a ∧ Q (.int (a - a % x)) H
theorem sc_region_start : FnScope ["sizes", "level", "address", "size"] ["sizes", "level", "address"] (defScope (top 26)) := ⟨rfl, rfl, rfl, by decide +kernel, rfl, by decide +kernel, by decide +kernel⟩
theorem ok_region_start (T : Tx K mg) (D_is_address : Df P w K mg base 2 "is_address" ["value"] spAddr) (M_size : Mf P w K mg base 5 "Sizes" "size" ["self", "level"] (spSize K)) (F : FnP K "region_start" "region_start" (top 26) f fd) :
    FnOk P w K mg base CX0 6 f fd ["sizes", "level", "address"] (spStart K) := by
  refine F.ok sc_region_start (fun vs H Q E h => ?_) (fun cdv A outer s H vs Q E hr h => ⟨_, PSs.nox (pss_cons (ps_set (i := 3) sc_region_start.nd rfl (by first | exact Or.inl rfl | exact Or.inr rfl) (pmeth M_size hr (pv 0) (pa_cons (pv 1) pa_nil))) (pss_cons (ps_if (pt_not (pt_val (pcall D_is_address hr (pa_cons (pv 2) pa_nil)))) (pss_one ps_never) pss_nil) (pss_one (ps_ret (pe_op op_sub (pv 2) (pe_op op_mod (pv 2) (pv 3))))))), ?_⟩)
  · obtain ⟨p, ns, i, x, a, rfl, _⟩ := h
    rfl
  · obtain ⟨p, ns, i, x, a, rfl, hz, hx, x1, ha, q⟩ := h
    obtain ⟨dx, l, h1, h2⟩ := id hz
    refine ⟨_, rfl, p, dx, _, rfl, h1, szF_no l (by decide +kernel), _, rfl, p, ns, i, x, rfl, hz, hx, ?_⟩
    refine ⟨_, rfl, _, rfl, ha, true, rfl, iteF ?_⟩
    exact ⟨_, rfl, _, rfl, _, rfl, _, _, rfl, rfl, (by show (0 : Int) < x; omega), _, _, rfl, rfl, q⟩
/-- what count_regions reckons -/
def cntI (s lo hi : Int) : Int := if ((hi - hi % s) - nextI s lo) / s > 0 then ((hi - hi % s) - nextI s lo) / s else 0
def spCount (K : PySem.W.Frag) : Sp := fun vs H Q _ => ∃ (p : Addr) (ns : List Int) (i : Nat) (x a b : Int), vs = [.ref p, .int i, .int a, .int b] ∧ SzAt (He.ga K "Sizes") H p ns ∧ ns[i]? = some x ∧ 1 ≤ x ∧ x ≤ 1000000000 ∧ 0 ≤ a ∧ a ≤ b ∧ Q (.int (cntI x a b)) H
theorem sc_count_regions : FnScope ["sizes", "level", "low", "high", "size"] ["sizes", "level", "low", "high"] (defScope (top 27)) := ⟨rfl, rfl, rfl, by decide +kernel, rfl, by decide +kernel, by decide +kernel⟩
theorem ok_count_regions (T : Tx K mg) (D_check_range : Df P w K mg base 3 "check_range" ["low", "high"] spRange) (D_region_start : Df P w K mg base 6 "region_start" ["sizes", "level", "address"] (spStart K))
    (D_next_start : Df P w K mg base 1 "next_start" ["size", "address"] spNext) (M_size : Mf P w K mg base 5 "Sizes" "size" ["self", "level"] (spSize K)) (F : FnP K "count_regions" "count_regions" (top 27) f fd) :
    FnOk P w K mg base CX0 7 f fd ["sizes", "level", "low", "high"] (spCount K) := by
  refine F.ok sc_count_regions (fun vs H Q E h => ?_) (fun cdv A outer s H vs Q E hr h => ⟨_, PSs.nox (pss_cons (ps_set (i := 4) sc_count_regions.nd rfl (by first | exact Or.inl rfl | exact Or.inr rfl) (pmeth M_size hr (pv 0) (pa_cons (pv 1) pa_nil))) (pss_cons (ps_expr (pcall D_check_range hr (pa_cons (pv 2) (pa_cons (pv 3) pa_nil)))) (pss_one (ps_ret (pe_callB (call_max2 rfl) (by rfl) T.n_max (by decide +kernel) (pa_cons pe_int (pa_cons (pe_op op_fdivW (pe_op op_sub (pcall D_region_start hr (pa_cons (pv 0) (pa_cons (pv 1) (pa_cons (pv 3) pa_nil)))) (pcall D_next_start hr (pa_cons (pv 4) (pa_cons (pv 2) pa_nil)))) (pv 4)) pa_nil))))))), ?_⟩)
  · obtain ⟨p, ns, i, x, a, b, rfl, _⟩ := h
    rfl
  · obtain ⟨p, ns, i, x, a, b, rfl, hz, hx, x1, x2, ha, hb, q⟩ := h
    obtain ⟨dx, l, h1, h2⟩ := id hz
    refine ⟨_, rfl, p, dx, _, rfl, h1, szF_no l (by decide +kernel), _, rfl, p, ns, i, x, rfl, hz, hx, ?_⟩
    refine ⟨_, rfl, _, rfl, a, b, rfl, ha, hb, ?_⟩
    refine ⟨_, rfl, _, rfl, _, rfl, p, ns, i, x, b, rfl, hz, hx, x1, by omega, _, rfl, _, rfl, x, a, rfl, x1, x2, _, _, rfl, rfl, _, rfl, _, _, rfl, rfl, div_ok x1 x2, _, _, rfl, ?_⟩
    exact q
end
end K23

set_option Elab.async false
set_option linter.all false
set_option maxRecDepth 100000
set_option maxHeartbeats 4000000
namespace K23
open PySem PySem.Spec PyProof.Rows L2 Gu Ex
/-- the drawing list at r -/
def Rng (H : Hp) (r : Addr) : Prop := ∃ a b : Int, H r = some (.lst [.int a, .int b]) ∧ 0 ≤ a ∧ 0 ≤ b ∧ b < 2147483587
/-- only the drawing list at r may have changed -/
def Stp (r : Addr) (H H' : Hp) : Prop := Rng H' r ∧ ∀ b o, b ≠ r → H b = some o → H' b = some o
theorem Stp.trans {r : Addr} {H H1 H2 : Hp} (a : Stp r H H1) (b : Stp r H1 H2) : Stp r H H2 := ⟨b.1, fun c o n e => b.2 c o n (a.2 c o n e)⟩
theorem Stp.refl {r : Addr} {H : Hp} (h : Rng H r) : Stp r H H := ⟨h, fun _ _ _ e => e⟩
/-- the ways of a choice come together: what holds of every value -/
theorem join {α : Type} {G : Prop} (Pc : α → Prop) {R : α → Prop} (h1 : (∀ c, Pc c → R c) → G) (h2 : ∀ c, Pc c → R c) : G := h1 h2
theorem Rng.ne {H : Hp} {r p : Addr} (h : Rng H r) (hp : H p = none) : r ≠ p := fun z => by
  obtain ⟨_, _, e, _⟩ := h
  rw [z, hp] at e
  cases e
theorem Stp.new {r p : Addr} {H H1 : Hp} {o : HO} (a : Stp r H H1) (hp : H1 p = none) : Stp r H (upd H1 p o) := by
  obtain ⟨⟨x, y, e, z⟩, k⟩ := a
  refine ⟨⟨x, y, ?_, z⟩, fun b u n e2 => ?_⟩
  · rw [upd_ne (ne_of_none e hp)]
    exact e
  · rw [upd_ne (ne_of_none (k b u n e2) hp)]
    exact k b u n e2
theorem Stp.free {r p : Addr} {H H1 : Hp} (a : Stp r H H1) (h : H1 p = none) : H p = none := by
  cases e : H p with
  | none => rfl
  | some o =>
    have n : p ≠ r := fun z => (a.1.ne h) z.symm
    rw [a.2 p o n e] at h
    cases h
section
variable {P : Program} {w : World} {K : PySem.W.Frag} {mg : Str → Option Value} {base : Heap} {f : Addr} {fd : FuncData}
def spRng (K : PySem.W.Frag) : Sp := fun vs H Q _ => ∃ (a : Addr) (ns : List Int) (k : Nat), vs = [.ref a, .int k] ∧ SqL K H a (ns.map V.int) ∧ k ≤ 63 ∧ ∀ p H', H p = none → Same H H' → Rng H' p → Q (.ref p) H'
theorem sc__law_rng : FnScope ["_law_script", "_law_k", "_law_cell"] ["_law_script", "_law_k"] (defScope (top 31)) := ⟨rfl, rfl, rfl, by decide +kernel, rfl, by decide +kernel, by decide +kernel⟩
theorem ok_rng (T : Tx K mg) (F : FnP K "_law_rng" "_law_rng" (top 31) f fd) : FnOk P w K mg base CX0 1 f fd ["_law_script", "_law_k"] (spRng K) := by
  refine F.ok sc__law_rng (fun vs H Q E h => ?_) (fun cdv A outer s H vs Q E hr h => ⟨_, PSs.nox (pss_cons (ps_set (i := 2) sc__law_rng.nd rfl (by first | exact Or.inl rfl | exact Or.inr rfl) (pe_ifExp (pt_cmpR op_lt (pv 1) (pe_callB call_len_seq (by rfl) T.n_len (by decide +kernel) (pa_cons (pv 0) pa_nil)) (nomark _)) (pe_callB call_abs (by rfl) T.n_abs (by decide +kernel) (pa_cons (pe_ix ix_list (pv 0) (pv 1) (fun _ _ => rfl)) pa_nil)) pe_int)) (pss_one (ps_ret (pe_lst (pa_cons (pe_callB (call_max2 rfl) (by rfl) T.n_max (by decide +kernel) (pa_cons pe_int (pa_cons (pe_op op_sub (pv 2) (pe_op op_pow pe_int pe_int)) pa_nil))) (pa_cons (pe_op op_add (pe_op op_mod (pe_op op_pow (pe_op op_add (pe_op op_add (pe_op op_mod (pv 2) pe_int) (pe_op op_mul pe_int (pv 1))) pe_int) pe_int) pe_int) pe_int) pa_nil)))))), ?_⟩)
  · obtain ⟨a, ns, k, rfl, _⟩ := h
    rfl
  · obtain ⟨a, ns, k, rfl, hS, hk, q⟩ := h
    refine join (fun c : Int => 0 ≤ c) (R := ?R) (fun tail => ?main) ?tl
    case main =>
      refine ⟨_, rfl, _, rfl, a, _, rfl, .inl hS, _, _, rfl, rfl, _, rfl, ?_⟩
      by_cases hl : (k : Int) < (((ns.map V.int).length : Nat) : Int)
      · have hk2 : k < ns.length := by rw [List.length_map] at hl; omega
        refine ifT (decide_eq_true hl) ?_
        refine ⟨_, rfl, _, rfl, a, _, _, _, rfl, rfl, hS, at_map (List.getElem?_eq_getElem hk2), _, rfl, ?_⟩
        obtain ⟨c, hc, ec⟩ : ∃ c : Int, 0 ≤ c ∧ (if ns[k] < 0 then -ns[k] else ns[k]) = c := ⟨if ns[k] < 0 then -ns[k] else ns[k], by split <;> omega, rfl⟩
        rw [ec]
        exact tail c hc
      · refine ifF (decide_eq_false hl) ?_
        exact tail 0 (by decide)
    case tl =>
      intro c hc
      have c0 := Int.emod_nonneg c (show (2147483543 : Int) ≠ 0 by decide)
      have c1 := Int.emod_lt_of_pos c (show (0 : Int) < 2147483543 by decide)
      refine ⟨_, rfl, _, _, rfl, rfl, ⟨by decide, by decide, by decide⟩, _, _, rfl, rfl, _, _, rfl, ?_⟩
      refine ⟨_, rfl, _, _, rfl, rfl, (by show (0 : Int) < 2147483543; decide), _, rfl, _, _, rfl, rfl, .inl ⟨by decide, by decide⟩, _, _, rfl, rfl, _, _, rfl, rfl, _, _, rfl, rfl, ⟨by decide, by decide, by omega⟩, _, _, rfl, rfl, (by show (0 : Int) < 2147483497; decide), _, _, rfl, rfl, ?_⟩
      refine ⟨(by show 2 ≤ sizeLine; decide), fun p hp => q p _ hp (fun b o e => by rw [upd_ne (ne_of_none e hp)]; exact e) ⟨_, _, upd_same, ?_, ?_, ?_⟩⟩
      · split <;> omega
      · have := Int.emod_nonneg ((c % 2147483543 + 101 * (k : Int) + 7) ^ (2 : Int).toNat) (show (2147483497 : Int) ≠ 0 by decide)
        omega
      · have := Int.emod_lt_of_pos ((c % 2147483543 + 101 * (k : Int) + 7) ^ (2 : Int).toNat) (show (0 : Int) < 2147483497 by decide)
        omega
def spDraw : Sp := fun vs H Q _ => ∃ (r : Addr) (m : Int), vs = [.ref r, .int m] ∧ Rng H r ∧ 1 ≤ m ∧ m ≤ 10 ^ 40 ∧ ∀ d H', 0 ≤ d → d < m → Stp r H H' → Q (.int d) H'
theorem sc__law_draw : FnScope ["_law_rng_here", "_law_many", "_law_mixed", "_law_digit"] ["_law_rng_here", "_law_many"] (defScope (top 32)) := ⟨rfl, rfl, rfl, by decide +kernel, rfl, by decide +kernel, by decide +kernel⟩
theorem ok_draw (T : Tx K mg) (F : FnP K "_law_draw" "_law_draw" (top 32) f fd) : FnOk P w K mg base CX0 1 f fd ["_law_rng_here", "_law_many"] spDraw := by
  refine F.ok sc__law_draw (fun vs H Q E h => ?_) (fun cdv A outer s H vs Q E hr h => ⟨_, PSs.nox (pss_cons (ps_if (pt_cmpR op_gt (pe_ix ix_list (pv 0) pe_int (fun _ _ => rfl)) pe_int (nomark _)) (pss_cons (ps_asg (pe_callB call_divmodW (by rfl) T.n_divmod (by decide +kernel) (pa_cons (pe_ix ix_list (pv 0) pe_int (fun _ _ => rfl)) (pa_cons (pv 1) pa_nil))) (pg_tup (by rfl) (pgs_cons (pg_sub (pv 0) pe_int set_list) (pgs_cons (pg_name (i := 3) sc__law_draw.nd rfl (by first | exact Or.inl rfl | exact Or.inr rfl)) pgs_nil)))) (pss_one (ps_ret (pv 3)))) pss_nil) (pss_cons (ps_asg (pe_op op_mod (pe_op op_add (pe_op op_mul (pe_ix ix_list (pv 0) pe_int (fun _ _ => rfl)) pe_int) pe_int) pe_int) (pg_sub (pv 0) pe_int set_list)) (pss_cons (ps_set (i := 2) sc__law_draw.nd rfl (by first | exact Or.inl rfl | exact Or.inr rfl) (pe_op op_fdivW (pe_op op_mod (pe_op op_mul (pe_ix ix_list (pv 0) pe_int (fun _ _ => rfl)) (pe_ix ix_list (pv 0) pe_int (fun _ _ => rfl))) pe_int) pe_int)) (pss_one (ps_ret (pe_ifExp (pt_cmpR op_lt (pv 1) (pe_op op_pow pe_int pe_int) (nomark _)) (pe_op op_mod (pv 2) (pv 1)) (pe_op op_mod (pe_op op_mul (pe_op op_add (pe_op op_mul (pv 2) pe_int) (pe_ix ix_list (pv 0) pe_int (fun _ _ => rfl))) pe_int) (pv 1)))))))), ?_⟩)
  · obtain ⟨r, m, rfl, _⟩ := h
    rfl
  · obtain ⟨r, m, rfl, ⟨a, b, hR, ha, hb, hb2⟩, m1, m2, q⟩ := h
    have mb : m.natAbs < 2 ^ 200 := by
      have : (10 : Int) ^ 40 < 2 ^ 200 := by decide
      have e : ((2 : Nat) ^ 200 : Nat) = ((2 : Int) ^ 200).natAbs := by decide
      omega
    refine ⟨_, rfl, r, _, _, _, rfl, rfl, SqL.of hR, rfl, _, _, rfl, rfl, _, rfl, ?_⟩
    by_cases h0 : 0 < a
    · refine ifT (decide_eq_true h0) ?_
      refine ⟨_, rfl, r, _, _, _, rfl, rfl, SqL.of hR, rfl, _, rfl, _, _, rfl, ⟨by omega, PyProof.noPylong_of_log2 (Nat.lt_of_lt_of_le (PySem.Flt.log2_lt_of (by decide) mb) (by decide))⟩, fun p hp => ?_⟩
      have nrp : r ≠ p := ne_of_none hR hp
      have hR2 : (upd H p (.tup [.int (a / m), .int (a % m)])) r = some (.lst [.int a, .int b]) := by rw [upd_ne nrp]; exact hR
      refine ⟨p, _, rfl, .inl (.inl upd_same), rfl, _, _, rfl, _, rfl, r, _, _, 0, rfl, rfl, hR2, rfl, _, _, rfl, rfl, ?_⟩
      refine ⟨_, rfl, q _ _ (Int.emod_nonneg _ (by omega)) (Int.emod_lt_of_pos _ (by omega)) ⟨⟨a / m, b, upd_same, Int.ediv_nonneg (by omega) (by omega), hb, hb2⟩, fun c o n e => ?_⟩⟩
      rw [upd_ne n, upd_ne (ne_of_none e hp)]
      exact e
    · refine ifF (decide_eq_false h0) ?_
      have b0 := Int.emod_nonneg (b * 48271 + 10007) (show (2147483587 : Int) ≠ 0 by decide)
      have b1 := Int.emod_lt_of_pos (b * 48271 + 10007) (show (0 : Int) < 2147483587 by decide)
      refine ⟨_, rfl, r, _, _, _, rfl, rfl, SqL.of hR, rfl, _, _, rfl, rfl, .inr ⟨by decide, by decide⟩, _, _, rfl, rfl, _, _, rfl, rfl, (by show (0 : Int) < 2147483587; decide), _, rfl, r, _, _, 1, rfl, rfl, hR, rfl, ?_⟩
      dsimp only
      generalize hB : (b * 48271 + 10007) % 2147483587 = B at *
      have hR2 : (upd H r (.lst [.int a, .int B])) r = some (.lst [.int a, .int B]) := upd_same
      have st : Stp r H (upd H r (.lst [.int a, .int B])) := ⟨⟨a, B, upd_same, ha, b0, b1⟩, fun c o n e => by rw [upd_ne n]; exact e⟩
      refine ⟨_, rfl, r, _, _, _, rfl, rfl, SqL.of hR2, rfl, _, rfl, r, _, _, _, rfl, rfl, SqL.of hR2, rfl, _, _, rfl, rfl, .inl ⟨by omega, by omega⟩, _, _, rfl, rfl, (by show (0 : Int) < 2147483549; decide), _, _, rfl, rfl, wide_div (b := 64) (by decide) (by decide) (by decide) (by decide), ?_⟩
      refine ⟨_, rfl, _, _, rfl, rfl, ⟨by decide, by decide, by decide⟩, _, _, rfl, rfl, _, rfl, ite2 (fun _ => ?_) (fun _ => ?_)⟩
      · exact ⟨_, rfl, _, rfl, _, _, rfl, rfl, (by show (0 : Int) < m; omega), q _ _ (Int.emod_nonneg _ (by omega)) (Int.emod_lt_of_pos _ (by omega)) st⟩
      · refine ⟨_, rfl, _, _, rfl, rfl, .inr ⟨by decide, by decide⟩, _, rfl, r, _, _, _, rfl, rfl, SqL.of hR2, rfl, _, _, rfl, rfl, _, _, rfl, rfl, .inr ⟨by decide, by decide⟩, _, rfl, _, _, rfl, rfl, (by show (0 : Int) < m; omega), ?_⟩
        exact q _ _ (Int.emod_nonneg _ (by omega)) (Int.emod_lt_of_pos _ (by omega)) st
end
end K23

set_option Elab.async false
set_option linter.all false
set_option maxRecDepth 100000
set_option maxHeartbeats 4000000
namespace K23
open PySem PySem.Spec PyProof.Rows L2 Gu Ex
section
variable {P : Program} {w : World} {K : PySem.W.Frag} {mg : Str → Option Value} {base : Heap} {f : Addr} {fd : FuncData}
theorem at_of {xs : List V} {d : Int} (h0 : 0 ≤ d) (h1 : d < xs.length) : ∃ v, atI xs d = some v ∧ v ∈ xs := by
  obtain ⟨n, rfl⟩ := Int.eq_ofNat_of_zero_le h0
  have hn : n < xs.length := by omega
  exact ⟨xs[n], atI_nat (List.getElem?_eq_getElem hn), List.getElem_mem hn⟩
def spChoice : Sp := fun vs H Q _ => ∃ (r o : Addr) (xs : List V), vs = [.ref r, .ref o] ∧ Rng H r ∧ H o = some (.lst xs) ∧ o ≠ r ∧ 1 ≤ xs.length ∧ xs.length ≤ 1000 ∧ ∀ v H', v ∈ xs → Stp r H H' → Q v H'
theorem sc__law_choice : FnScope ["_law_rng_here", "_law_options"] ["_law_rng_here", "_law_options"] (defScope (top 33)) := ⟨rfl, rfl, rfl, by decide +kernel, rfl, by decide +kernel, by decide +kernel⟩
theorem ok_choice (T : Tx K mg) (D__law_draw : Df P w K mg base 1 "_law_draw" ["_law_rng_here", "_law_many"] spDraw) (F : FnP K "_law_choice" "_law_choice" (top 33) f fd) : FnOk P w K mg base CX0 2 f fd ["_law_rng_here", "_law_options"] spChoice := by
  refine F.ok sc__law_choice (fun vs H Q E h => ?_) (fun cdv A outer s H vs Q E hr h => ⟨_, PSs.nox (pss_one (ps_ret (pe_ix ix_list (pv 1) (pcall D__law_draw hr (pa_cons (pv 0) (pa_cons (pe_callB call_len_seq (by rfl) T.n_len (by decide +kernel) (pa_cons (pv 1) pa_nil)) pa_nil))) (fun _ _ => rfl)))), ?_⟩)
  · obtain ⟨r, o, xs, rfl, _⟩ := h
    rfl
  · obtain ⟨r, o, xs, rfl, hR, hO, ne, l1, l2, q⟩ := h
    refine ⟨_, rfl, _, rfl, _, rfl, o, _, rfl, .inl (SqL.of hO), r, _, rfl, hR, by omega, ?_, fun d H1 d0 d1 st => ?_⟩
    · have : (1000 : Int) ≤ 10 ^ 40 := by decide
      omega
    · obtain ⟨v, hv, hm⟩ := at_of d0 d1
      exact ⟨o, _, _, v, rfl, rfl, SqL.of (st.2 o _ ne hO), hv, q v H1 hm st⟩
theorem good_one : Good [1] := ⟨⟨by decide, by decide⟩, rfl, fun i x h => by
    cases i with
    | zero => cases h; decide
    | succ i => simp at h, fun i x y h1 h2 => by
    cases i with
    | zero => simp at h2
    | succ i => simp at h1⟩
theorem good_more {ns : List Int} {x k : Int} (g : Good ns) (hl : ns.length < 8) (hx : ns[ns.length - 1]? = some x) (hk : 2 ≤ k) (hm : x * k ≤ 1000000000) : Good (ns ++ [x * k]) := by
  have l := g.len
  have xr := g.rng _ _ hx
  have gt : x < x * k := by
    have := Int.mul_le_mul_of_nonneg_left hk (show (0 : Int) ≤ x by omega)
    omega
  refine ⟨⟨by rw [List.length_append, List.length_singleton]; omega, by rw [List.length_append, List.length_singleton]; omega⟩, ?_, fun i y h => ?_, fun i y z h1 h2 => ?_⟩
  · rw [List.getElem?_append_left (by omega)]
    exact g.one
  · by_cases hi : i < ns.length
    · rw [List.getElem?_append_left hi] at h
      exact g.rng i y h
    · rw [List.getElem?_append_right (by omega)] at h
      have hi2 : i - ns.length = 0 := by
        cases e : i - ns.length with
        | zero => rfl
        | succ n => rw [e] at h; simp at h
      rw [hi2] at h
      have e : x * k = y := Option.some.inj h
      omega
  · by_cases hi : i + 1 < ns.length
    · rw [List.getElem?_append_left hi] at h2
      rw [List.getElem?_append_left (by omega)] at h1
      exact g.up i y z h1 h2
    · by_cases hi2 : i + 1 = ns.length
      · rw [List.getElem?_append_left (by omega)] at h1
        rw [List.getElem?_append_right (by omega), hi2, Nat.sub_self] at h2
        have e : x * k = z := Option.some.inj h2
        rw [show i = ns.length - 1 by omega, hx] at h1
        have e2 : x = y := Option.some.inj h1
        rw [← e, ← e2]
        exact ⟨gt, Int.mul_emod_right x k⟩
      · rw [List.getElem?_append_right (by omega)] at h2
        cases e : i + 1 - ns.length with
        | zero => omega
        | succ n => rw [e] at h2; simp at h2
def spSizes : Sp := fun vs H Q _ => ∃ (r : Addr) (lv gr : Int), vs = [.ref r, .int lv, .int gr] ∧ Rng H r ∧ 1 ≤ lv ∧ lv ≤ 8 ∧ 2 ≤ gr ∧ gr ≤ 1000000 ∧
  ∀ l ns H', Good ns → H l = none → H' l = some (.lst (ns.map V.int)) → Stp r H H' → Q (.ref l) H'
theorem at_last (ys : List Int) (x : Int) : atI ((ys ++ [x]).map V.int) (-1) = some (.int x) := by
  rw [List.map_append]
  exact atI_last _ _
theorem last_of : ∀ {ns : List Int}, 1 ≤ ns.length → ∃ ys x, ns = ys ++ [x]
  | [], h => absurd h (by decide)
  | [x], _ => ⟨[], x, rfl⟩
  | a :: b :: r, _ => by
    obtain ⟨ys, x, e⟩ := last_of (ns := b :: r) (by simp)
    exact ⟨a :: ys, x, by rw [e]; rfl⟩
theorem last_get (ys : List Int) (x : Int) : (ys ++ [x])[(ys ++ [x]).length - 1]? = some x := by
  rw [List.length_append, List.length_singleton, Nat.add_sub_cancel, List.getElem?_append_right (Nat.le_refl _), Nat.sub_self]
  rfl
theorem sc__law_sizes : FnScope ["_law_rng_here", "_law_levels", "_law_greatest", "_law_result", "_law_k", "_law_factor"] ["_law_rng_here", "_law_levels", "_law_greatest"] (defScope (top 34)) := ⟨rfl, rfl, rfl, by decide +kernel, rfl, by decide +kernel, by decide +kernel⟩
theorem ok_sizes (T : Tx K mg) (D__law_draw : Df P w K mg base 1 "_law_draw" ["_law_rng_here", "_law_many"] spDraw) (F : FnP K "_law_sizes" "_law_sizes" (top 34) f fd) :
    FnOk P w K mg base CX0 2 f fd ["_law_rng_here", "_law_levels", "_law_greatest"] spSizes := by
  refine F.ok sc__law_sizes (fun vs H Q E h => ?_) (fun cdv A outer s H vs Q E hr h => ⟨_, PSs.nox (pss_cons (ps_set (i := 3) sc__law_sizes.nd rfl (by first | exact Or.inl rfl | exact Or.inr rfl) (pe_lst (pa_cons pe_int pa_nil))) (pss_cons (ps_for PassesOwn.never rfl (pi_range1 rfl T.n_range (pa_cons (pcall D__law_draw hr (pa_cons (pv 0) (pa_cons (pv 1) pa_nil))) pa_nil)) (pg_name (i := 4) sc__law_sizes.nd rfl (by first | exact Or.inl rfl | exact Or.inr rfl)) (pss_cons (ps_set (i := 5) sc__law_sizes.nd rfl (by first | exact Or.inl rfl | exact Or.inr rfl) (pe_ix ix_list (pe_lst (pa_cons pe_int (pa_cons pe_int (pa_cons pe_int (pa_cons pe_int (pa_cons (pe_op op_add pe_int (pcall D__law_draw hr (pa_cons (pv 0) (pa_cons (pe_op op_sub (pv 2) pe_int) pa_nil)))) pa_nil)))))) (pcall D__law_draw hr (pa_cons (pv 0) (pa_cons pe_int pa_nil))) (fun _ _ => rfl))) (pss_one (ps_if (PW.pt (pw_and (pt_cmpR op_le (pe_op op_mul (pe_ix ix_list (pv 3) (pe_un un_neg pe_int) (fun _ _ => rfl)) (pv 5)) (pe_op op_pow pe_int pe_int) (nomark _)) (pw_and1 (pt_cmpR op_le (pv 5) (pv 2) (nomark _))))) (pss_one (ps_expr (pe_bm PySem.F.plainAttrs_list PySem.F.slot_list_append PySem.F.type_list_append mt_append (pv 3) (pa_cons (pe_op op_mul (pe_ix ix_list (pv 3) (pe_un un_neg pe_int) (fun _ _ => rfl)) (pv 5)) pa_nil)))) pss_nil)))) (pss_one (ps_ret (pv 3))))), ?_⟩)
  · obtain ⟨r, lv, gr, rfl, _⟩ := h
    rfl
  · obtain ⟨r, lv, gr, rfl, hR, l1, l2, g1, g2, q⟩ := h
    have big : (10 : Int) ^ 40 = 10000000000000000000000000000000000000000 := by decide
    refine ⟨(by show 1 ≤ sizeLine; decide), fun l hl => ?_⟩
    have nrl : r ≠ l := hR.ne hl
    have s0 : Stp r H (upd H l (.lst [.int 1])) := (Stp.refl hR).new hl
    refine ⟨_, rfl, _, rfl, r, lv, rfl, s0.1, l1, by omega, fun d H1 d0 d1 s1 => ?_⟩
    refine ⟨d, rfl, by omega, by omega, ?_⟩
    have s01 := s0.trans s1
    refine for_range (fun i σ H' => ∃ ns x y, σ = [some (.ref r), some (.int lv), some (.int gr), some (.ref l), x, y] ∧ Good ns ∧ ns.length ≤ i + 1 ∧ H' l = some (.lst (ns.map V.int)) ∧ Stp r H H') ⟨[1], none, none, rfl, good_one, by simp, s1.2 l _ nrl.symm upd_same, s01⟩ ?_ ?_
    · rintro i σ H' hi ⟨ns, x, y, rfl, g, hlen, hL, st⟩
      have hi8 : i < 8 := by omega
      obtain ⟨ys, z, rfl⟩ := last_of g.len.1
      have zr := g.rng _ _ (last_get ys z)
      refine ⟨_, rfl, _, rfl, _, _, rfl, rfl, r, gr - 1, rfl, st.1, by omega, by omega, fun d1 H1 a0 a1 t1 => ?_⟩
      have st1 := st.trans t1
      have hL1 : H1 l = some (.lst ((ys ++ [z]).map V.int)) := t1.2 l _ nrl.symm hL
      refine ⟨_, _, rfl, rfl, (by show 5 ≤ sizeLine; decide), fun t ht => ?_⟩
      have st2 := st1.new (o := .lst [.int 2, .int 2, .int 3, .int 4, .int (2 + d1)]) ht
      have nrt : r ≠ t := st1.1.ne ht
      have hL2 : (upd H1 t (.lst [.int 2, .int 2, .int 3, .int 4, .int (2 + d1)])) l = some (.lst ((ys ++ [z]).map V.int)) := by rw [upd_ne (ne_of_none hL1 ht)]; exact hL1
      refine ⟨_, rfl, r, 5, rfl, st2.1, by decide, by omega, fun d2 H3 b0 b1 t3 => ?_⟩
      have st3 := st2.trans t3
      have hL3 : H3 l = some (.lst ((ys ++ [z]).map V.int)) := t3.2 l _ nrl.symm hL2
      obtain ⟨v, hv, hm⟩ := at_of (xs := [.int 2, .int 2, .int 3, .int 4, .int (2 + d1)]) b0 b1
      obtain ⟨k, rfl, k2⟩ : ∃ k : Int, v = .int k ∧ 2 ≤ k := by
        simp only [List.mem_cons, List.not_mem_nil, or_false] at hm
        rcases hm with rfl | rfl | rfl | rfl | rfl
        · exact ⟨_, rfl, by omega⟩
        · exact ⟨_, rfl, by omega⟩
        · exact ⟨_, rfl, by omega⟩
        · exact ⟨_, rfl, by omega⟩
        · exact ⟨_, rfl, by omega⟩
      refine ⟨t, _, _, _, rfl, rfl, SqL.of (t3.2 t _ nrt.symm upd_same), hv, ?_⟩
      refine ⟨_, rfl, _, rfl, l, _, _, _, rfl, rfl, SqL.of hL3, at_last ys z, _, rfl, _, _, rfl, rfl, .inl ⟨by omega, by omega⟩, _, _, rfl, rfl, ⟨by decide, by decide, by decide⟩, _, _, rfl, rfl, _, rfl, ?_⟩
      by_cases hc : z * k ≤ 10 ^ (9 : Int).toNat
      · refine ifT (decide_eq_true hc) ?_
        refine ⟨_, rfl, _, rfl, _, _, rfl, rfl, _, rfl, ite2 (fun hk => ?_) (fun _ => ?_)⟩
        · refine ⟨_, rfl, .inl ⟨rfl, _, SqL.of hL3⟩, _, rfl, _, rfl, l, _, _, _, rfl, rfl, SqL.of hL3, at_last ys z, _, rfl, _, _, rfl, rfl, .inl ⟨by omega, by omega⟩, l, _, _, rfl, rfl, hL3, ?_, ?_⟩
          · exact small1000 (by rw [List.length_map]; omega)
          · have hc2 : z * k ≤ 1000000000 := hc
            refine ⟨(ys ++ [z]) ++ [z * k], _, _, rfl, good_more g (by omega) (last_get ys z) k2 hc2, by rw [List.length_append (bs := [z * k]), List.length_singleton]; omega, ?_, ?_⟩
            · rw [upd_same, List.map_append (l₂ := [z * k])]
              rfl
            · obtain ⟨⟨x1, x2, e1, e2⟩, kk⟩ := st3
              refine ⟨⟨x1, x2, by rw [upd_ne nrl]; exact e1, e2⟩, fun b o n e => ?_⟩
              rw [upd_ne (ne_of_none e hl)]
              exact kk b o n e
        · exact ⟨_, _, _, rfl, g, by omega, hL3, st3⟩
      · exact ifF (decide_eq_false hc) ⟨_, _, _, rfl, g, by omega, hL3, st3⟩
    · rintro σ H' ⟨ns, x, y, rfl, g, hlen, hL, st⟩
      exact ⟨_, rfl, q l ns H' g hl hL st⟩
end
end K23

set_option Elab.async false
set_option linter.all false
set_option maxRecDepth 100000
set_option maxHeartbeats 4000000
namespace K23
open PySem PySem.Spec PyProof.Rows L2 Gu Ex
theorem same_upd {H : Hp} {p : Addr} {o : HO} (h : H p = none) : Same H (upd H p o) := fun b x e => by
  rw [upd_ne (ne_of_none e h)]
  exact e
theorem SzAt.same {C p : Addr} {H H' : Hp} {ns : List Int} (h : SzAt C H p ns) (s : Same H H') : SzAt C H' p ns := by
  obtain ⟨dx, l, a, b⟩ := h
  exact ⟨dx, l, s _ _ a, s _ _ b⟩
def sz (ns : List Int) (k : Nat) : Int := ns.getD k 0
theorem sz_at {ns : List Int} {k : Nat} (h : k < ns.length) : ns[k]? = some (sz ns k) := by
  unfold sz
  rw [List.getD_eq_getElem?_getD, List.getElem?_eq_getElem h]
  rfl
theorem chain {ns : List Int} (g : Good ns) : M16.Ch (sz ns) ns.length := by
  refine ⟨g.len.1, ?_, fun k h => (g.rng k _ (sz_at h)).1, fun k h => Int.dvd_of_emod_eq_zero (g.up k _ _ (sz_at (by omega)) (sz_at h)).2⟩
  have := (sz_at (ns := ns) (k := 0) (by have := g.len.1; omega)).symm.trans g.one
  exact Option.some.inj this
theorem sz_le {ns : List Int} (g : Good ns) {k : Nat} (h : k < ns.length) : sz ns k ≤ 1000000000 := (g.rng k _ (sz_at h)).2
theorem at_sz {ns : List Int} {k : Nat} (h : k < ns.length) : atI (ns.map V.int) (k : Int) = some (.int (sz ns k)) := at_map (sz_at h)
/-- objects at these addresses, told by f -/
inductive Refs {α : Type} (f : α → List V) (H : Hp) : List Addr → List α → Prop
  | nil : Refs f H [] []
  | cons {p : Addr} {ps : List Addr} {t : α} {ts : List α} : H p = some (.tup (f t)) → Refs f H ps ts → Refs f H (p :: ps) (t :: ts)
section
variable {α : Type} {f : α → List V} {H H' : Hp} {ps qs : List Addr} {ts us : List α}
theorem Refs.mono (h : Refs f H ps ts) (k : ∀ p xs, H p = some (.tup xs) → H' p = some (.tup xs)) : Refs f H' ps ts := by
  induction h with
  | nil => exact .nil
  | cons a _ ih => exact .cons (k _ _ a) ih
theorem Refs.same (h : Refs f H ps ts) (k : Same H H') : Refs f H' ps ts := h.mono fun p xs e => k p _ e
theorem Refs.app (h : Refs f H ps ts) (h2 : Refs f H qs us) : Refs f H (ps ++ qs) (ts ++ us) := by
  induction h with
  | nil => exact h2
  | cons b _ ih => exact .cons b ih
theorem Refs.one {p : Addr} {t : α} (h : H p = some (.tup (f t))) : Refs f H [p] [t] := .cons h .nil
theorem Refs.len (h : Refs f H ps ts) : ps.length = ts.length := by
  induction h with
  | nil => rfl
  | cons _ _ ih => rw [List.length_cons, List.length_cons, ih]
theorem Refs.get (h : Refs f H ps ts) : ∀ {i : Nat} {p : Addr}, ps[i]? = some p → ∃ t, ts[i]? = some t ∧ H p = some (.tup (f t)) := by
  induction h with
  | nil => intro i p e; cases e
  | cons a _ ih =>
    intro i p e
    cases i with
    | zero =>
      cases e
      exact ⟨_, rfl, a⟩
    | succ i => exact ih e
theorem Refs.at_ (h : Refs f H ps ts) {i : Nat} {t : α} (ht : ts[i]? = some t) : ∃ p, ps[i]? = some p ∧ H p = some (.tup (f t)) := by
  have hi : i < ts.length := (List.getElem?_eq_some_iff.mp ht).1
  have hi2 : i < ps.length := by rw [h.len]; exact hi
  obtain ⟨u, e1, e2⟩ := h.get (List.getElem?_eq_getElem hi2)
  rw [ht] at e1
  cases e1
  exact ⟨_, List.getElem?_eq_getElem hi2, e2⟩
theorem Refs.take (h : Refs f H ps ts) : ∀ n, Refs f H (ps.take n) (ts.take n) := by
  induction h with
  | nil => intro n; simp; exact .nil
  | cons a _ ih =>
    intro n
    cases n with
    | zero => exact .nil
    | succ n => exact .cons a (ih n)
theorem Refs.drop (h : Refs f H ps ts) : ∀ n, Refs f H (ps.drop n) (ts.drop n) := by
  induction h with
  | nil => intro n; simp; exact .nil
  | cons a b ih =>
    intro n
    cases n with
    | zero => exact .cons a b
    | succ n => exact ih n
theorem Refs.map_at {i : Nat} {p : Addr} (h : ps[i]? = some p) : atI (ps.map V.ref) (i : Int) = some (.ref p) := atI_nat (by rw [List.getElem?_map, h]; rfl)
end
section
variable {P : Program} {w : World} {K : PySem.W.Frag} {mg : Str → Option Value} {base : Heap} {f : Addr} {fd : FuncData}
def spCells : Sp := fun vs H Q _ => ∃ i : Int, vs = [.int i] ∧ 1 ≤ i ∧ i ≤ 1000000000000 ∧ Q (.bl true) H
theorem sc_is_cells : FnScope ["value"] ["value"] (defScope (top 13)) := ⟨rfl, rfl, rfl, by decide +kernel, rfl, by decide +kernel, by decide +kernel⟩
theorem ok_is_cells (T : Tx K mg) (D_is_integer : Df P w K mg base 1 "is_integer" ["value"] spInt) (F : FnP K "is_cells" "is_cells" (top 13) f fd) : FnOk P w K mg base CX0 2 f fd ["value"] spCells := by
  refine F.ok sc_is_cells (fun vs H Q E h => ?_) (fun cdv A outer s H vs Q E hr h => ⟨_, PSs.nox (pss_one (ps_ret (pe_and (pcall D_is_integer hr (pa_cons (pv 0) pa_nil)) (pe_one (pe_chain op_le op_le pe_int (pv 0) (ClX.pe_cval (pe_glob (v := .ref _) rfl T.g_Sizes rfl))))))), ?_⟩)
  · obtain ⟨i, rfl, _⟩ := h
    rfl
  · obtain ⟨i, rfl, h1, h2, q⟩ := h
    obtain ⟨u, cC⟩ := T.cC
    refine ⟨_, rfl, _, rfl, true, rfl, iteT ⟨_, rfl, _, _, rfl, rfl, _, rfl, ifT (decide_eq_true h1) ⟨_, _, _, _, rfl, T.rd, cC, _, _, rfl, rfl, ?_⟩⟩⟩
    have e : decide (i ≤ 1000000000000) = true := decide_eq_true h2
    show Q (.bl (decide (i ≤ 1000000000000))) H
    rw [e]
    exact q
def spCellsC : Sp := fun vs H Q _ => ∃ i : Int, vs = [.int i] ∧ 1 ≤ i ∧ i ≤ 1000000000000 ∧ Q .non H
theorem sc_check_cells : FnScope ["value"] ["value"] (defScope (top 14)) := ⟨rfl, rfl, rfl, by decide +kernel, rfl, by decide +kernel, by decide +kernel⟩
theorem ok_check_cells (T : Tx K mg) (D_is_cells : Df P w K mg base 2 "is_cells" ["value"] spCells) (F : FnP K "check_cells" "check_cells" (top 14) f fd) : FnOk P w K mg base CX0 3 f fd ["value"] spCellsC := by
  refine F.ok sc_check_cells (fun vs H Q E h => ?_) (fun cdv A outer s H vs Q E hr h => ⟨_, PSs.nox (pss_one (ps_if (pt_not (pt_val (pcall D_is_cells hr (pa_cons (pv 0) pa_nil)))) (pss_one ps_never) pss_nil)), ?_⟩)
  · obtain ⟨i, rfl, _⟩ := h
    rfl
  · obtain ⟨i, rfl, h1, h2, q⟩ := h
    exact ⟨_, rfl, _, rfl, h1, h2, true, rfl, iteF q⟩
def spWhole (K : PySem.W.Frag) : Sp := fun vs H Q _ => ∃ (p : Addr) (ns : List Int) (i : Nat) (x c : Int), vs = [.ref p, .int c, .int i] ∧ SzAt (He.ga K "Sizes") H p ns ∧ ns[i]? = some x ∧ 1 ≤ x ∧ 1 ≤ c ∧ c ≤ 1000000000000 ∧ Q (.int (c - c % x)) H
theorem sc_whole : FnScope ["self", "cells", "level"] ["self", "cells", "level"] (defScope (inClass (top 18) 16)) := ⟨rfl, rfl, rfl, by decide +kernel, rfl, by decide +kernel, by decide +kernel⟩
theorem ok_whole (T : Tx K mg) (D_check_cells : Df P w K mg base 3 "check_cells" ["value"] spCellsC) (M_size : Mf P w K mg base 5 "Sizes" "size" ["self", "level"] (spSize K)) (F : FnP K "whole" "Sizes.whole" (inClass (top 18) 16) f fd) :
    FnOk P w K mg base CX0 6 f fd ["self", "cells", "level"] (spWhole K) := by
  refine F.ok sc_whole (fun vs H Q E h => ?_) (fun cdv A outer s H vs Q E hr h => ⟨_, PSs.nox (pss_cons (ps_expr (pcall D_check_cells hr (pa_cons (pv 1) pa_nil))) (pss_one (ps_ret (pe_op op_sub (pv 1) (pe_op op_mod (pv 1) (pmeth M_size hr (pv 0) (pa_cons (pv 2) pa_nil))))))), ?_⟩)
  · obtain ⟨p, ns, i, x, c, rfl, _⟩ := h
    rfl
  · obtain ⟨p, ns, i, x, c, rfl, hz, hx, x1, c1, c2, q⟩ := h
    obtain ⟨dx, l, h1, h2⟩ := id hz
    refine ⟨_, rfl, c, rfl, c1, c2, ?_⟩
    exact ⟨_, rfl, _, rfl, _, rfl, p, dx, _, rfl, h1, szF_no l (by decide +kernel), _, rfl, p, ns, i, x, rfl, hz, hx, _, _, rfl, rfl, (by show (0 : Int) < x; omega), _, _, rfl, rfl, q⟩
def spBelow (K : PySem.W.Frag) : Sp := fun vs H Q _ => ∃ (p : Addr) (ns : List Int) (i : Nat) (x a e : Int), vs = [.ref p, .int i, .int a, .int e] ∧ SzAt (He.ga K "Sizes") H p ns ∧ ns[i]? = some x ∧ 1 ≤ x ∧ Q (.bl (decide (a % x = 0 ∧ a + x ≤ e))) H
theorem sc_lies_below : FnScope ["sizes", "level", "address", "end", "size"] ["sizes", "level", "address", "end"] (defScope (top 24)) := ⟨rfl, rfl, rfl, by decide +kernel, rfl, by decide +kernel, by decide +kernel⟩
theorem ok_below (T : Tx K mg) (M_size : Mf P w K mg base 5 "Sizes" "size" ["self", "level"] (spSize K)) (F : FnP K "lies_below" "lies_below" (top 24) f fd) : FnOk P w K mg base CX0 6 f fd ["sizes", "level", "address", "end"] (spBelow K) := by
  refine F.ok sc_lies_below (fun vs H Q E h => ?_) (fun cdv A outer s H vs Q E hr h => ⟨_, PSs.nox (pss_cons (ps_set (i := 4) sc_lies_below.nd rfl (by first | exact Or.inl rfl | exact Or.inr rfl) (pmeth M_size hr (pv 0) (pa_cons (pv 1) pa_nil))) (pss_one (ps_ret (pe_and (pe_cmpR op_eq (pe_op op_mod (pv 2) (pv 4)) pe_int (nomark _)) (pe_one (pe_cmpR op_le (pe_op op_add (pv 2) (pv 4)) (pv 3) (nomark _))))))), ?_⟩)
  · obtain ⟨p, ns, i, x, a, e, rfl, _⟩ := h
    rfl
  · obtain ⟨p, ns, i, x, a, e, rfl, hz, hx, x1, q⟩ := h
    obtain ⟨dx, l, h1, h2⟩ := id hz
    refine ⟨_, rfl, p, dx, _, rfl, h1, szF_no l (by decide +kernel), _, rfl, p, ns, i, x, rfl, hz, hx, ?_⟩
    refine ⟨_, rfl, _, rfl, _, _, rfl, rfl, (by show (0 : Int) < x; omega), rfl, _, rfl, ?_⟩
    by_cases hm : a % x = 0
    · refine ifT (vT hm) ⟨_, rfl, _, rfl, _, _, rfl, rfl, _, rfl, _, _, rfl, rfl, ?_⟩
      have e2 : decide (a % x = 0 ∧ a + x ≤ e) = decide (a + x ≤ e) := by
        by_cases z : a + x ≤ e
        · rw [decide_eq_true z, decide_eq_true ⟨hm, z⟩]
        · rw [decide_eq_false z, decide_eq_false fun y => z y.2]
      rw [e2] at q
      exact q
    · have e2 : decide (a % x = 0 ∧ a + x ≤ e) = false := decide_eq_false fun y => hm y.1
      rw [e2] at q
      exact ifF (vF hm) q
/-- a right region -/
def spRegion (K : PySem.W.Frag) : Sp := fun vs H Q _ => ∃ (p : Addr) (ns : List Int) (i : Nat) (n a : Int), vs = [.ref p, .int n, .int i, .int a] ∧ SzAt (He.ga K "Sizes") H p ns ∧ Good ns ∧ i < ns.length ∧ 1 ≤ n ∧ n ≤ 1000000000000 ∧ 0 ≤ a ∧ a % sz ns i = 0 ∧ a + sz ns i ≤ n ∧ Q (.bl true) H
theorem sc_is_region : FnScope ["sizes", "length", "level", "address"] ["sizes", "length", "level", "address"] (defScope (top 25)) := ⟨rfl, rfl, rfl, by decide +kernel, rfl, by decide +kernel, by decide +kernel⟩
theorem ok_is_region (T : Tx K mg) (D_check_cells : Df P w K mg base 3 "check_cells" ["value"] spCellsC) (M_has_level : Mf P w K mg base 3 "Sizes" "has_level" ["self", "level"] (spHas K)) (D_is_address : Df P w K mg base 2 "is_address" ["value"] spAddr)
    (D_lies_below : Df P w K mg base 6 "lies_below" ["sizes", "level", "address", "end"] (spBelow K)) (F : FnP K "is_region" "is_region" (top 25) f fd) : FnOk P w K mg base CX0 7 f fd ["sizes", "length", "level", "address"] (spRegion K) := by
  refine F.ok sc_is_region (fun vs H Q E h => ?_) (fun cdv A outer s H vs Q E hr h => ⟨_, PSs.nox (pss_cons (ps_expr (pcall D_check_cells hr (pa_cons (pv 1) pa_nil))) (pss_one (ps_ret (pe_and (pmeth M_has_level hr (pv 0) (pa_cons (pv 2) pa_nil)) (pe_and (pcall D_is_address hr (pa_cons (pv 3) pa_nil)) (pe_one (pcall D_lies_below hr (pa_cons (pv 0) (pa_cons (pv 2) (pa_cons (pv 3) (pa_cons (pv 1) pa_nil))))))))))), ?_⟩)
  · obtain ⟨p, ns, i, n, a, rfl, _⟩ := h
    rfl
  · obtain ⟨p, ns, i, n, a, rfl, hz, g, hi, n1, n2, a0, a1, a2, q⟩ := h
    obtain ⟨dx, l, h1, h2⟩ := id hz
    refine ⟨_, rfl, n, rfl, n1, n2, ?_⟩
    refine ⟨_, rfl, p, dx, _, rfl, h1, szF_no l (by decide +kernel), _, rfl, p, ns, i, rfl, hz, hi, true, rfl, iteT ⟨_, rfl, a, rfl, a0, true, rfl, iteT ?_⟩⟩
    refine ⟨_, rfl, _, rfl, _, rfl, _, rfl, p, ns, i, _, a, n, rfl, hz, sz_at hi, (chain g).pos i hi, ?_⟩
    rw [decide_eq_true (show a % sz ns i = 0 ∧ a + sz ns i ≤ n from ⟨a1, a2⟩)]
    exact q
end
end K23

set_option Elab.async false
set_option linter.all false
set_option maxRecDepth 100000
set_option maxHeartbeats 4000000
namespace K23
open PySem PySem.Spec PyProof.Rows L2 Gu Ex
def layF (zp : Addr) (n fr : Int) (bl : Addr) : List (Str × V) := [("size_table", .ref zp), ("cell_count", .int n), ("free_count", .int fr), ("block_list", .ref bl)]
section
variable (zp bl : Addr) (n fr : Int)
theorem lay_st : (layF zp n fr bl).lookup ("size_table" : Str) = some (.ref zp) := by simp [layF, List.lookup]
theorem lay_cc : (layF zp n fr bl).lookup ("cell_count" : Str) = some (.int n) := by
  have e : (("cell_count" : Str) == ("size_table" : Str)) = false := by decide +kernel
  simp [layF, List.lookup, e]
theorem lay_fc : (layF zp n fr bl).lookup ("free_count" : Str) = some (.int fr) := by
  have e : (("free_count" : Str) == ("size_table" : Str)) = false := by decide +kernel
  have e2 : (("free_count" : Str) == ("cell_count" : Str)) = false := by decide +kernel
  simp [layF, List.lookup, e, e2]
theorem lay_bl : (layF zp n fr bl).lookup ("block_list" : Str) = some (.ref bl) := by
  have e : (("block_list" : Str) == ("size_table" : Str)) = false := by decide +kernel
  have e2 : (("block_list" : Str) == ("cell_count" : Str)) = false := by decide +kernel
  have e3 : (("block_list" : Str) == ("free_count" : Str)) = false := by decide +kernel
  simp [layF, List.lookup, e, e2, e3]
theorem lay_no {m : Str} (h1 : (m == ("size_table" : Str)) = false) (h2 : (m == ("cell_count" : Str)) = false) (h3 : (m == ("free_count" : Str)) = false) (h4 : (m == ("block_list" : Str)) = false) : (layF zp n fr bl).lookup m = none := by
  simp [layF, List.lookup, h1, h2, h3, h4]
theorem lay_put (z : Int) : putF "free_count" (.int z) (layF zp n fr bl) = layF zp n z bl := by
  have e : (("size_table" : Str) = ("free_count" : Str)) = False := by
    simp only [eq_iff_iff, iff_false]
    decide +kernel
  have e2 : (("cell_count" : Str) = ("free_count" : Str)) = False := by
    simp only [eq_iff_iff, iff_false]
    decide +kernel
  simp [layF, putF, e, e2]
end
/-- a block: address, level, is it pinned -/
abbrev Blk : Type := Int × Nat × Bool
def blkV (b : Blk) : List V := [.int b.1, .int (b.2.1 : Nat), .bl b.2.2]
def bEnd (ns : List Int) (b : Blk) : Int := b.1 + sz ns b.2.1
structure Wf (ns : List Int) (n : Int) (bs : List Blk) : Prop where
  ok : ∀ b ∈ bs, b.2.1 < ns.length ∧ 0 ≤ b.1 ∧ sz ns b.2.1 ∣ b.1 ∧ bEnd ns b ≤ n
  so : bs.Pairwise fun b c => bEnd ns b ≤ c.1
def tot (ns : List Int) (bs : List Blk) : Int := (bs.map fun b => sz ns b.2.1).sum
structure Ly (K : PySem.W.Frag) (H : Hp) (y zp bl dx : Addr) (ps : List Addr) (ns : List Int) (n : Int) (bs : List Blk) : Prop where
  at_ : H y = some (.ins (He.ga K "Layout") dx (layF zp n (n - tot ns bs) bl))
  szs : SzAt (He.ga K "Sizes") H zp ns
  lst : H bl = some (.lst (ps.map V.ref))
  rf : Refs blkV H ps bs
  wf : Wf ns n bs
  gd : Good ns
  n1 : 1 ≤ n
  n2 : n ≤ 1000000000000
  ln : bs.length ≤ 1000
  ap : ∃ dz l, H zp = some (.ins (He.ga K "Sizes") dz (szF l)) ∧ H l = some (.lst (ns.map V.int)) ∧ l ≠ bl
section
variable {K : PySem.W.Frag} {H H' : Hp} {y zp bl dx : Addr} {ps : List Addr} {ns : List Int} {n : Int} {bs : List Blk}
theorem Ly.same (h : Ly K H y zp bl dx ps ns n bs) (s : Same H H') : Ly K H' y zp bl dx ps ns n bs := ⟨s _ _ h.at_, h.szs.same s, s _ _ h.lst, h.rf.same s, h.wf, h.gd, h.n1, h.n2, h.ln, h.ap.elim fun dz z => z.elim fun l z => ⟨dz, l, s _ _ z.1, s _ _ z.2.1, z.2.2⟩⟩
theorem Wf.pos (w : Wf ns n bs) (g : Good ns) {b : Blk} (h : b ∈ bs) : 1 ≤ sz ns b.2.1 := (chain g).pos _ (w.ok b h).1
/-- the addresses rise -/
theorem Wf.lt (w : Wf ns n bs) (g : Good ns) {i j : Nat} {b c : Blk} (hi : bs[i]? = some b) (hj : bs[j]? = some c) (h : i < j) : bEnd ns b ≤ c.1 ∧ b.1 < c.1 := by
  obtain ⟨h1, e1⟩ := List.getElem?_eq_some_iff.mp hi
  obtain ⟨h2, e2⟩ := List.getElem?_eq_some_iff.mp hj
  have p := List.pairwise_iff_getElem.mp w.so i j h1 h2 h
  rw [e1, e2] at p
  have z := w.pos g (List.mem_of_getElem? hi)
  unfold bEnd at p
  exact ⟨p, by omega⟩
/-- the layout's own objects lie apart from the sizes -/
theorem Ly.far (L : Ly K H y zp bl dx ps ns n bs) : ∃ dz l, H zp = some (.ins (He.ga K "Sizes") dz (szF l)) ∧ H l = some (.lst (ns.map V.int)) ∧ zp ≠ y ∧ zp ≠ bl ∧ l ≠ bl ∧ l ≠ y ∧ y ≠ bl := by
  obtain ⟨dz, l, z1, z2, nb⟩ := L.ap
  refine ⟨dz, l, z1, z2, fun e => ?_, fun e => ?_, nb, fun e => ?_, fun e => ?_⟩
  · rw [e, L.at_] at z1
    have z3 := congrArg List.length (HO.ins.inj (Option.some.inj z1)).2.2
    cases z3
  · rw [e, L.lst] at z1
    cases z1
  · rw [e, L.at_] at z2
    cases z2
  · have a := L.at_
    rw [e, L.lst] at a
    cases a
/-- how many blocks start below a -/
def Below (bs : List Blk) (a : Int) (i : Nat) : Prop := i ≤ bs.length ∧ ∀ j b, bs[j]? = some b → (j < i ↔ b.1 < a)
end
section
variable {P : Program} {w : World} {K : PySem.W.Frag} {mg : Str → Option Value} {base : Heap} {f : Addr} {fd : FuncData}
def spNew (K : PySem.W.Frag) : Sp := fun vs H Q _ => ∃ (y zp dx : Addr) (ns : List Int) (n : Int), vs = [.ref y, .ref zp, .int n] ∧ H y = some (.ins (He.ga K "Layout") dx []) ∧ SzAt (He.ga K "Sizes") H zp ns ∧ Good ns ∧ 1 ≤ n ∧ n ≤ 1000000000000 ∧
  ∀ bl H', H bl = none → (∀ c o, c ≠ y → H c = some o → H' c = some o) → Ly K H' y zp bl dx [] ns n [] → Q .non H'
theorem sc_Layout_init : FnScope ["self", "sizes", "length"] ["self", "sizes", "length"] (defScope (inClass (top 29) 0)) := ⟨rfl, rfl, rfl, by decide +kernel, rfl, by decide +kernel, by decide +kernel⟩
theorem ok_new (T : Tx K mg) (D_check_cells : Df P w K mg base 3 "check_cells" ["value"] spCellsC) (F : FnP K "__init__" "Layout.__init__" (inClass (top 29) 0) f fd) : FnOk P w K mg base CX0 4 f fd ["self", "sizes", "length"] (spNew K) := by
  refine F.ok sc_Layout_init (fun vs H Q E h => ?_) (fun cdv A outer s H vs Q E hr h => ⟨_, PSs.nox (pss_cons (ps_expr (pcall D_check_cells hr (pa_cons (pv 2) pa_nil))) (pss_cons (ps_fld (pv 0) (pv 1) rfl) (pss_cons (ps_fld (pv 0) (pv 2) rfl) (pss_cons (ps_fld (pv 0) (pv 2) rfl) (pss_one (ps_fld (pv 0) (pe_lst pa_nil) rfl)))))), ?_⟩)
  · obtain ⟨y, zp, dx, ns, n, rfl, _⟩ := h
    rfl
  · obtain ⟨y, zp, dx, ns, n, rfl, hy, hz, g, n1, n2, q⟩ := h
    have few : ∀ k, k < 10 → k < 1000 := fun k h => by omega
    refine ⟨_, rfl, n, rfl, n1, n2, ?_⟩
    refine ⟨_, rfl, _, rfl, y, _, dx, _, rfl, hy, T.ly, T.nST, (by show 0 < 1000; decide), ?_⟩
    refine ⟨_, rfl, _, rfl, y, _, dx, _, rfl, upd_same, T.ly, T.nCC, (by show 1 < 1000; decide), ?_⟩
    refine ⟨_, rfl, _, rfl, y, _, dx, _, rfl, upd_same, T.ly, T.nFC, (by show 2 < 1000; decide), ?_⟩
    refine ⟨Nat.zero_le _, fun bl hbl => ⟨_, rfl, y, _, dx, _, rfl, (by rw [upd_ne (ne_of_none (o := .ins (He.ga K "Layout") dx (putF "free_count" (.int n) (putF "cell_count" (.int n) (putF "size_table" (.ref zp) []))))  upd_same hbl)]; exact upd_same), T.ly, T.nBL, (by show 3 < 1000; decide), ?_⟩⟩
    have nyb : y ≠ bl := ne_of_none (o := .ins (He.ga K "Layout") dx (putF "free_count" (.int n) (putF "cell_count" (.int n) (putF "size_table" (.ref zp) [])))) upd_same hbl
    have nb : H bl = none := by
      rw [upd_ne nyb.symm, upd_ne nyb.symm, upd_ne nyb.symm] at hbl
      exact hbl
    have keep : ∀ {c : Addr} {o : HO}, c ≠ y → H c = some o → (upd (upd (upd (upd (upd H y (.ins (He.ga K "Layout") dx (putF "size_table" (.ref zp) []))) y (.ins (He.ga K "Layout") dx (putF "cell_count" (.int n) (putF "size_table" (.ref zp) [])))) y (.ins (He.ga K "Layout") dx (putF "free_count" (.int n) (putF "cell_count" (.int n) (putF "size_table" (.ref zp) []))))) bl (.lst [])) y (.ins (He.ga K "Layout") dx (putF "block_list" (.ref bl) (putF "free_count" (.int n) (putF "cell_count" (.int n) (putF "size_table" (.ref zp) [])))))) c = some o := fun {c o} hc e => by
      rw [upd_ne hc, upd_ne (ne_of_none e nb), upd_ne hc, upd_ne hc, upd_ne hc]
      exact e
    obtain ⟨dz, l, z1, z2⟩ := id hz
    have ny1 : zp ≠ y := fun e => by
      rw [e, hy] at z1
      have z3 := (HO.ins.inj (Option.some.inj z1)).2.2
      cases z3
    have ny2 : l ≠ y := fun e => by
      rw [e, hy] at z2
      cases z2
    refine q bl _ nb (fun c o hc e => keep hc e) ⟨?_, ⟨dz, l, keep ny1 z1, keep ny2 z2⟩, ?_, .nil, ⟨fun b hb => absurd hb List.not_mem_nil, .nil⟩, g, n1, n2, Nat.zero_le _, ⟨dz, l, keep ny1 z1, keep ny2 z2, ne_of_none z2 nb⟩⟩
    · rw [upd_same]
      have e : n - tot ns [] = n := by simp [tot]
      rw [e]
      rfl
    · rw [upd_ne nyb.symm, upd_same]
      rfl
def spCB (K : PySem.W.Frag) : Sp := fun vs H Q _ => ∃ (y zp bl dx : Addr) (ps : List Addr) (ns : List Int) (n a : Int) (bs : List Blk), vs = [.ref y, .int a] ∧ Ly K H y zp bl dx ps ns n bs ∧ ∀ i : Nat, Below bs a i → Q (.int i) H
theorem sc_count_below : FnScope ["self", "address", "low", "high", "middle"] ["self", "address"] (defScope (inClass (top 29) 9)) := ⟨rfl, rfl, rfl, by decide +kernel, rfl, by decide +kernel, by decide +kernel⟩
theorem ok_cb (T : Tx K mg) (F : FnP K "count_below" "Layout.count_below" (inClass (top 29) 9) f fd) : FnOk P w K mg base CX0 1 f fd ["self", "address"] (spCB K) := by
  refine F.ok sc_count_below (fun vs H Q E h => ?_) (fun cdv A outer s H vs Q E hr h => ⟨_, PSs.nox (pss_cons (ps_set (i := 2) sc_count_below.nd rfl (by first | exact Or.inl rfl | exact Or.inr rfl) pe_int) (pss_cons (ps_set (i := 3) sc_count_below.nd rfl (by first | exact Or.inl rfl | exact Or.inr rfl) (pe_callB call_len_seq (by rfl) T.n_len (by decide +kernel) (pa_cons (pe_fld (pv 0) rfl) pa_nil))) (pss_cons (ps_while PassesOwn.never (pt_cmpR op_lt (pv 2) (pv 3) (nomark _)) (pss_cons (ps_set (i := 4) sc_count_below.nd rfl (by first | exact Or.inl rfl | exact Or.inr rfl) (pe_op op_fdivW (pe_op op_add (pv 2) (pv 3)) pe_int)) (pss_one (ps_if (pt_cmpR op_lt (pe_ix ix_tup (pe_ix ix_list (pe_fld (pv 0) rfl) (pv 4) (fun _ _ => rfl)) pe_int (fun _ _ => rfl)) (pv 1) (nomark _)) (pss_one (ps_set (i := 2) sc_count_below.nd rfl (by first | exact Or.inl rfl | exact Or.inr rfl) (pe_op op_add (pv 4) pe_int))) (pss_one (ps_set (i := 3) sc_count_below.nd rfl (by first | exact Or.inl rfl | exact Or.inr rfl) (pv 4))))))) (pss_one (ps_ret (pv 2)))))), ?_⟩)
  · obtain ⟨y, zp, bl, dx, ps, ns, n, a, bs, rfl, _⟩ := h
    rfl
  · obtain ⟨y, zp, bl, dx, ps, ns, n, a, bs, rfl, L, q⟩ := h
    have pl := L.rf.len
    have sl : sizeLine = 16777216 := sizeLine_eq
    refine ⟨_, rfl, y, _, dx, _, _, rfl, L.at_, T.ly, T.nBL, lay_bl .., bl, _, rfl, .inl (SqL.of L.lst), ?_⟩
    refine ⟨fun m σ G => ∃ (lo hi : Nat) (x : Option V), m = hi - lo ∧ G = H ∧ σ = [some (.ref y), some (.int a), some (.int (lo : Nat)), some (.int (hi : Nat)), x] ∧ lo ≤ hi ∧ hi ≤ bs.length ∧ (∀ j b, bs[j]? = some b → j < lo → b.1 < a) ∧ (∀ j b, bs[j]? = some b → hi ≤ j → a ≤ b.1),
      ⟨_, 0, bs.length, none, rfl, rfl, (by rw [List.length_map, pl]; rfl), Nat.zero_le _, Nat.le_refl _, fun j b _ h => absurd h (Nat.not_lt_zero _), fun j b hb h => by
        have := (List.getElem?_eq_some_iff.mp hb).1
        omega⟩, ?_⟩
    rintro m σ G ⟨lo, hi, x, rfl, rfl, rfl, h1, h2, h3, h4⟩
    refine ⟨_, rfl, _, rfl, _, _, rfl, rfl, _, rfl, ?_⟩
    by_cases hc : (lo : Int) < (hi : Int)
    · refine ifT (decide_eq_true hc) ?_
      have em : ((lo : Int) + (hi : Int)) / 2 = (((lo + hi) / 2 : Nat) : Int) := by omega
      have mlt : (lo + hi) / 2 < bs.length := by omega
      obtain ⟨b, hb⟩ : ∃ b, bs[(lo + hi) / 2]? = some b := ⟨_, List.getElem?_eq_getElem mlt⟩
      obtain ⟨p, hp, hT⟩ := L.rf.at_ hb
      refine ⟨fun σ' G' => ∃ (lo' hi' : Nat) (x : Option V), hi' - lo' < hi - lo ∧ G' = G ∧ σ' = [some (.ref y), some (.int a), some (.int (lo' : Nat)), some (.int (hi' : Nat)), x] ∧ lo' ≤ hi' ∧ hi' ≤ bs.length ∧ (∀ j b, bs[j]? = some b → j < lo' → b.1 < a) ∧ (∀ j b, bs[j]? = some b → hi' ≤ j → a ≤ b.1),
        fun σ' G' ⟨lo', hi', x, hl, r⟩ => ⟨hi' - lo', hl, lo', hi', x, rfl, r⟩, ?_⟩
      refine ⟨_, rfl, _, rfl, _, _, rfl, rfl, _, _, rfl, rfl, wide_div (b := 64) (by decide) (by decide) (by decide) (by decide), ?_⟩
      refine ⟨_, rfl, y, _, dx, _, _, rfl, L.at_, T.ly, T.nBL, lay_bl .., _, rfl, bl, _, _, _, rfl, rfl, SqL.of L.lst, (by rw [em]; exact Refs.map_at hp), p, _, _, _, rfl, rfl, SqT.of hT, rfl, _, rfl, _, _, rfl, rfl, _, rfl, ?_⟩
      by_cases hb2 : b.1 < a
      · refine ifT (decide_eq_true hb2) ⟨_, rfl, _, _, rfl, rfl, (lo + hi) / 2 + 1, hi, some (.int (((lo : Int) + (hi : Int)) / 2)), by omega, rfl, ?_, by omega, h2, fun j c hj hlt => ?_, h4⟩
        · show [some (V.ref y), some (V.int a), some (V.int (((lo : Int) + (hi : Int)) / 2 + 1)), some (V.int hi), some (V.int (((lo : Int) + (hi : Int)) / 2))] = _
          rw [em]
          rfl
        · by_cases e : j = (lo + hi) / 2
          · rw [e, hb] at hj
            cases hj
            exact hb2
          · have := (L.wf.lt L.gd hj hb (by omega)).2
            omega
      · refine ifF (decide_eq_false hb2) ⟨_, rfl, lo, (lo + hi) / 2, some (.int (((lo : Int) + (hi : Int)) / 2)), by omega, rfl, ?_, by omega, by omega, h3, fun j c hj hle => ?_⟩
        · show [some (V.ref y), some (V.int a), some (V.int lo), some (V.int (((lo : Int) + (hi : Int)) / 2)), some (V.int (((lo : Int) + (hi : Int)) / 2))] = _
          rw [em]
        · by_cases e : j = (lo + hi) / 2
          · rw [e, hb] at hj
            cases hj
            omega
          · have := (L.wf.lt L.gd hb hj (by omega)).2
            omega
    · refine ifF (decide_eq_false hc) ⟨_, rfl, q lo ⟨by omega, fun j b hb => ⟨h3 j b hb, fun hlt => ?_⟩⟩⟩
      have := h4 j b hb
      omega
end
end K23

set_option Elab.async false
set_option linter.all false
set_option maxRecDepth 100000
set_option maxHeartbeats 4000000
namespace K23
open PySem PySem.Spec PyProof.Rows L2 Gu Ex
theorem lay_nm {zp bl : Addr} {n fr : Int} {m : Str} (h : (m == ("size_table" : Str) || (m == ("cell_count" : Str) || (m == ("free_count" : Str) || m == ("block_list" : Str)))) = false) : (layF zp n fr bl).lookup m = none := by
  obtain ⟨h1, h⟩ := Bool.or_eq_false_iff.mp h
  obtain ⟨h2, h⟩ := Bool.or_eq_false_iff.mp h
  obtain ⟨h3, h4⟩ := Bool.or_eq_false_iff.mp h
  exact lay_no zp bl n fr h1 h2 h3 h4
section
variable {ns : List Int} {n : Int} {bs : List Blk}
/-- the place of a block that starts at a -/
theorem Below.at_ {a : Int} {i j : Nat} {b : Blk} (w : Wf ns n bs) (g : Good ns) (h : Below bs a i) (hj : bs[j]? = some b) (e : b.1 = a) : i = j := by
  have h1 := (h.2 j b hj)
  by_cases hij : i < j
  · have hi : i < bs.length := by
      have := (List.getElem?_eq_some_iff.mp hj).1
      omega
    have h2 := h.2 i _ (List.getElem?_eq_getElem hi)
    have h3 := (w.lt g (List.getElem?_eq_getElem hi) hj hij).2
    omega
  · omega
/-- the block that may contain a -/
theorem Below.holds {a : Int} {i : Nat} {c : Blk} (w : Wf ns n bs) (g : Good ns) (h : Below bs (a + 1) i) (hc : c ∈ bs) (h1 : c.1 ≤ a) (h2 : a < bEnd ns c) : 0 < i ∧ bs[i - 1]? = some c := by
  obtain ⟨j, hj, rfl⟩ := List.getElem_of_mem hc
  have ej := List.getElem?_eq_getElem hj
  have k := (h.2 j _ ej).mpr (by omega)
  refine ⟨by omega, ?_⟩
  have l := h.1
  by_cases e : j = i - 1
  · rw [← e]
    exact ej
  · have hi : i - 1 < bs.length := by omega
    have p := (w.lt g ej (List.getElem?_eq_getElem hi) (by omega)).1
    have k2 := (h.2 (i - 1) _ (List.getElem?_eq_getElem hi)).mp (by omega)
    omega
end
section
variable {P : Program} {w : World} {K : PySem.W.Frag} {mg : Str → Option Value} {base : Heap} {f : Addr} {fd : FuncData}
def spIx (K : PySem.W.Frag) : Sp := fun vs H Q _ => ∃ (y zp bl dx : Addr) (ps : List Addr) (ns : List Int) (n a : Int) (bs : List Blk) (j : Nat) (b : Blk), vs = [.ref y, .int a] ∧ Ly K H y zp bl dx ps ns n bs ∧ bs[j]? = some b ∧ b.1 = a ∧ Q (.int j) H
theorem sc_index_of : FnScope ["self", "address", "index"] ["self", "address"] (defScope (inClass (top 29) 10)) := ⟨rfl, rfl, rfl, by decide +kernel, rfl, by decide +kernel, by decide +kernel⟩
theorem ok_ix (T : Tx K mg) (D_is_integer : Df P w K mg base 1 "is_integer" ["value"] spInt) (M_count_below : Mf P w K mg base 1 "Layout" "count_below" ["self", "address"] (spCB K)) (F : FnP K "index_of" "Layout.index_of" (inClass (top 29) 10) f fd) :
    FnOk P w K mg base CX0 2 f fd ["self", "address"] (spIx K) := by
  refine F.ok sc_index_of (fun vs H Q E h => ?_) (fun cdv A outer s H vs Q E hr h => ⟨_, PSs.nox (pss_cons (ps_if (pt_val (pcall D_is_integer hr (pa_cons (pv 1) pa_nil))) (pss_cons (ps_set (i := 2) sc_index_of.nd rfl (by first | exact Or.inl rfl | exact Or.inr rfl) (pmeth M_count_below hr (pv 0) (pa_cons (pv 1) pa_nil))) (pss_one (ps_if (PW.pt (pw_and (pt_cmpR op_lt (pv 2) (pe_callB call_len_seq (by rfl) T.n_len (by decide +kernel) (pa_cons (pe_fld (pv 0) rfl) pa_nil)) (nomark _)) (pw_and1 (pt_cmpR op_eq (pe_ix ix_tup (pe_ix ix_list (pe_fld (pv 0) rfl) (pv 2) (fun _ _ => rfl)) pe_int (fun _ _ => rfl)) (pv 1) (nomark _))))) (pss_one (ps_ret (pv 2))) pss_nil))) pss_nil) (pss_one ps_never)), ?_⟩)
  · obtain ⟨y, zp, bl, dx, ps, ns, n, a, bs, j, b, rfl, _⟩ := h
    rfl
  · obtain ⟨y, zp, bl, dx, ps, ns, n, a, bs, j, b, rfl, L, hj, hb, q⟩ := h
    refine ⟨_, rfl, a, rfl, true, rfl, iteT ?_⟩
    refine ⟨_, rfl, y, dx, _, rfl, L.at_, lay_nm (by decide +kernel), _, rfl, y, zp, bl, dx, ps, ns, n, a, bs, rfl, L, fun i hi => ?_⟩
    obtain rfl := hi.at_ L.wf L.gd hj hb
    obtain ⟨p, hp, hT⟩ := L.rf.at_ hj
    have jl := (List.getElem?_eq_some_iff.mp hj).1
    have pl := L.rf.len
    refine ⟨_, rfl, _, rfl, y, _, dx, _, _, rfl, L.at_, T.ly, T.nBL, lay_bl .., bl, _, rfl, .inl (SqL.of L.lst), _, _, rfl, rfl, _, rfl, ifT (decide_eq_true (by rw [List.length_map]; omega)) ?_⟩
    exact ⟨_, rfl, y, _, dx, _, _, rfl, L.at_, T.ly, T.nBL, lay_bl .., _, rfl, bl, _, _, _, rfl, rfl, SqL.of L.lst, Refs.map_at hp, p, _, _, _, rfl, rfl, SqT.of hT, rfl, _, rfl, rfl, _, rfl, ifT (vT hb) ⟨_, rfl, q⟩⟩
def spAt (K : PySem.W.Frag) : Sp := fun vs H Q _ => ∃ (y zp bl dx : Addr) (ps : List Addr) (ns : List Int) (n a : Int) (bs : List Blk), vs = [.ref y, .int a] ∧ Ly K H y zp bl dx ps ns n bs ∧ 0 ≤ a ∧ a < n ∧
  ((∀ b ∈ bs, ¬ (b.1 ≤ a ∧ a < bEnd ns b)) → Q .non H) ∧ (∀ b ∈ bs, b.1 ≤ a → a < bEnd ns b → ∀ t, H t = none → Q (.ref t) (upd H t (.tup (blkV b))))
theorem sc_block_at : FnScope ["self", "address", "index", "start", "level", "is_pinned"] ["self", "address"] (defScope (inClass (top 29) 11)) := ⟨rfl, rfl, rfl, by decide +kernel, rfl, by decide +kernel, by decide +kernel⟩
theorem ok_at (T : Tx K mg) (D_is_address : Df P w K mg base 2 "is_address" ["value"] spAddr) (M_count_below : Mf P w K mg base 1 "Layout" "count_below" ["self", "address"] (spCB K)) (M_size : Mf P w K mg base 5 "Sizes" "size" ["self", "level"] (spSize K))
    (F : FnP K "block_at" "Layout.block_at" (inClass (top 29) 11) f fd) : FnOk P w K mg base CX0 6 f fd ["self", "address"] (spAt K) := by
  refine F.ok sc_block_at (fun vs H Q E h => ?_) (fun cdv A outer s H vs Q E hr h => ⟨_, PSs.nox (pss_cons (ps_if (PW.pt (pw_or (pt_not (pt_val (pcall D_is_address hr (pa_cons (pv 1) pa_nil)))) (pw_or1 (pt_cmpR op_ge (pv 1) (pe_fld (pv 0) rfl) (nomark _))))) (pss_one ps_never) pss_nil) (pss_cons (ps_set (i := 2) sc_block_at.nd rfl (by first | exact Or.inl rfl | exact Or.inr rfl) (pe_op op_sub (pmeth M_count_below hr (pv 0) (pa_cons (pe_op op_add (pv 1) pe_int) pa_nil)) pe_int)) (pss_cons (ps_if (pt_cmpR op_lt (pv 2) pe_int (nomark _)) (pss_one (ps_ret pe_non)) pss_nil) (pss_cons (ps_asg (pe_ix ix_list (pe_fld (pv 0) rfl) (pv 2) (fun _ _ => rfl)) (pg_tup (by rfl) (pgs_cons (pg_name (i := 3) sc_block_at.nd rfl (by first | exact Or.inl rfl | exact Or.inr rfl)) (pgs_cons (pg_name (i := 4) sc_block_at.nd rfl (by first | exact Or.inl rfl | exact Or.inr rfl)) (pgs_cons (pg_name (i := 5) sc_block_at.nd rfl (by first | exact Or.inl rfl | exact Or.inr rfl)) pgs_nil))))) (pss_one (ps_ret (pe_ifExp (pt_cmpR op_lt (pv 1) (pe_op op_add (pv 3) (pmeth M_size hr (pe_fld (pv 0) rfl) (pa_cons (pv 4) pa_nil))) (nomark _)) (pe_tup (pa_cons (pv 3) (pa_cons (pv 4) (pa_cons (pv 5) pa_nil)))) pe_non))))))), ?_⟩)
  · obtain ⟨y, zp, bl, dx, ps, ns, n, a, bs, rfl, _⟩ := h
    rfl
  · obtain ⟨y, zp, bl, dx, ps, ns, n, a, bs, rfl, L, a0, a1, q1, q2⟩ := h
    refine ⟨_, rfl, a, rfl, a0, true, rfl, iteF ⟨_, rfl, _, rfl, y, _, dx, _, _, rfl, L.at_, T.ly, T.nCC, lay_cc .., _, _, rfl, rfl, _, rfl, ifF (decide_eq_false (by omega)) ?_⟩⟩
    refine ⟨_, rfl, y, dx, _, rfl, L.at_, lay_nm (by decide +kernel), _, rfl, _, _, rfl, rfl, y, zp, bl, dx, ps, ns, n, a + 1, bs, rfl, L, fun i hi => ⟨_, _, rfl, rfl, ?_⟩⟩
    refine ⟨_, rfl, _, _, rfl, rfl, _, rfl, ?_⟩
    by_cases h0 : ((i : Int) - 1) < 0
    · refine ifT (decide_eq_true h0) (q1 fun b hb hh => ?_)
      have := (hi.holds L.wf L.gd hb hh.1 hh.2).1
      omega
    · refine ifF (decide_eq_false h0) ?_
      have e : ((i : Int) - 1) = ((i - 1 : Nat) : Int) := by omega
      have il : i - 1 < bs.length := by have := hi.1; omega
      obtain ⟨b, hb⟩ : ∃ b, bs[i - 1]? = some b := ⟨_, List.getElem?_eq_getElem il⟩
      have bm := List.mem_of_getElem? hb
      obtain ⟨p, hp, hT⟩ := L.rf.at_ hb
      have b1 := (hi.2 _ _ hb).mp (by omega)
      have bk := (L.wf.ok b bm).1
      obtain ⟨dz, l, z1, z2⟩ := id L.szs
      have hT' : H p = some (.tup [.int b.1, .int (b.2.1 : Nat), .bl b.2.2]) := hT
      refine ⟨_, rfl, y, _, dx, _, _, rfl, L.at_, T.ly, T.nBL, lay_bl .., _, rfl, bl, _, _, _, rfl, rfl, SqL.of L.lst, (by rw [e]; exact Refs.map_at hp), p, _, rfl, .inl (.inl hT'), rfl, _, _, rfl, _, _, rfl, _, _, rfl, rfl, ?_⟩
      refine ⟨_, rfl, _, rfl, _, rfl, y, _, dx, _, _, rfl, L.at_, T.ly, T.nST, lay_st .., zp, dz, _, rfl, z1, szF_no l (by decide +kernel), _, rfl, zp, ns, b.2.1, _, rfl, L.szs, sz_at bk, _, _, rfl, rfl, _, _, rfl, rfl, _, rfl, ?_⟩
      by_cases hc : a < b.1 + sz ns b.2.1
      · exact ifT (decide_eq_true hc) ⟨_, rfl, _, rfl, _, rfl, (by show 3 ≤ sizeLine; decide), fun t ht => q2 b bm (by omega) hc t ht⟩
      · refine ifF (decide_eq_false hc) (q1 fun c hcm hh => ?_)
        have e2 := (hi.holds L.wf L.gd hcm hh.1 hh.2).2
        rw [hb] at e2
        cases e2
        exact hc hh.2
/-- a range without a block -/
def FreeR (ns : List Int) (bs : List Blk) (lo hi : Int) : Prop := ∀ b ∈ bs, bEnd ns b ≤ lo ∨ hi ≤ b.1
def spFirst (K : PySem.W.Frag) : Sp := fun vs H Q _ => ∃ (y zp bl dx : Addr) (ps : List Addr) (ns : List Int) (n lo hi : Int) (bs : List Blk), vs = [.ref y, .int lo, .int hi] ∧ Ly K H y zp bl dx ps ns n bs ∧ 0 ≤ lo ∧ lo < hi ∧ hi ≤ n ∧ FreeR ns bs lo hi ∧ Q .non H
theorem sc_first_taken : FnScope ["self", "low", "high", "index"] ["self", "low", "high"] (defScope (inClass (top 29) 12)) := ⟨rfl, rfl, rfl, by decide +kernel, rfl, by decide +kernel, by decide +kernel⟩
theorem ok_first (T : Tx K mg) (M_block_at : Mf P w K mg base 6 "Layout" "block_at" ["self", "address"] (spAt K)) (M_count_below : Mf P w K mg base 1 "Layout" "count_below" ["self", "address"] (spCB K)) (F : FnP K "first_taken" "Layout.first_taken" (inClass (top 29) 12) f fd) :
    FnOk P w K mg base CX0 7 f fd ["self", "low", "high"] (spFirst K) := by
  refine F.ok sc_first_taken (fun vs H Q E h => ?_) (fun cdv A outer s H vs Q E hr h => ⟨_, PSs.nox (pss_cons (ps_if (pt_cmpR op_notN (pmeth M_block_at hr (pv 0) (pa_cons (pv 1) pa_nil)) pe_non (nomark _)) (pss_one (ps_ret (pv 1))) pss_nil) (pss_cons (ps_set (i := 3) sc_first_taken.nd rfl (by first | exact Or.inl rfl | exact Or.inr rfl) (pmeth M_count_below hr (pv 0) (pa_cons (pv 1) pa_nil))) (pss_cons (ps_if (PW.pt (pw_and (pt_cmpR op_lt (pv 3) (pe_callB call_len_seq (by rfl) T.n_len (by decide +kernel) (pa_cons (pe_fld (pv 0) rfl) pa_nil)) (nomark _)) (pw_and1 (pt_cmpR op_lt (pe_ix ix_tup (pe_ix ix_list (pe_fld (pv 0) rfl) (pv 3) (fun _ _ => rfl)) pe_int (fun _ _ => rfl)) (pv 2) (nomark _))))) (pss_one (ps_ret (pe_ix ix_tup (pe_ix ix_list (pe_fld (pv 0) rfl) (pv 3) (fun _ _ => rfl)) pe_int (fun _ _ => rfl)))) pss_nil) (pss_one (ps_ret pe_non))))), ?_⟩)
  · obtain ⟨y, zp, bl, dx, ps, ns, n, lo, hi, bs, rfl, _⟩ := h
    rfl
  · obtain ⟨y, zp, bl, dx, ps, ns, n, lo, hi, bs, rfl, L, l0, l1, l2, fr, q⟩ := h
    refine ⟨_, rfl, y, dx, _, rfl, L.at_, lay_nm (by decide +kernel), _, rfl, y, zp, bl, dx, ps, ns, n, lo, bs, rfl, L, l0, by omega, fun _ => ?_, fun b hb h1 h2 => ?_⟩
    · refine ⟨rfl, _, rfl, iteF ?_⟩
      refine ⟨_, rfl, y, dx, _, rfl, L.at_, lay_nm (by decide +kernel), _, rfl, y, zp, bl, dx, ps, ns, n, lo, bs, rfl, L, fun i hb0 => ?_⟩
      have pl := L.rf.len
      refine ⟨_, rfl, _, rfl, y, _, dx, _, _, rfl, L.at_, T.ly, T.nBL, lay_bl .., bl, _, rfl, .inl (SqL.of L.lst), _, _, rfl, rfl, _, rfl, ?_⟩
      by_cases hc : ((i : Nat) : Int) < (((ps.map V.ref).length : Nat) : Int)
      · have il : i < bs.length := by rw [List.length_map] at hc; omega
        obtain ⟨b, hb⟩ : ∃ b, bs[i]? = some b := ⟨_, List.getElem?_eq_getElem il⟩
        obtain ⟨p, hp, hT⟩ := L.rf.at_ hb
        have bm := List.mem_of_getElem? hb
        have z := L.wf.pos L.gd bm
        have nb : ¬ b.1 < hi := by
          have k := (hb0.2 i b hb)
          have r := fr b bm
          unfold bEnd at r
          omega
        refine ifT (decide_eq_true hc) ⟨_, rfl, y, _, dx, _, _, rfl, L.at_, T.ly, T.nBL, lay_bl .., _, rfl, bl, _, _, _, rfl, rfl, SqL.of L.lst, Refs.map_at hp, p, _, _, _, rfl, rfl, SqT.of hT, rfl, _, rfl, _, _, rfl, rfl, _, rfl, ifF (decide_eq_false nb) q⟩
      · exact ifF (decide_eq_false hc) q
    · exact absurd (fr b hb) (by unfold bEnd at *; omega)
end
end K23

set_option Elab.async false
set_option linter.all false
set_option maxRecDepth 100000
set_option maxHeartbeats 4000000
namespace K23
open PySem PySem.Spec PyProof.Rows L2 Gu Ex
abbrev FnK (K : PySem.W.Frag) (x qual : Str) (st : Stmt) (kws : List (Str × V)) (f : Addr) (fd : FuncData) : Prop := FunD K x qual (defArgs st) (defBody st) (defScope st) [] kws f fd
section
variable {ns : List Int} {n : Int} {bs : List Blk}
theorem mem_take_at {i : Nat} {c : Blk} (h : c ∈ bs.take i) : ∃ j, j < i ∧ bs[j]? = some c := by
  obtain ⟨j, hj, e⟩ := List.getElem_of_mem h
  rw [List.length_take] at hj
  refine ⟨j, by omega, ?_⟩
  rw [List.getElem_take] at e
  rw [← e]
  exact List.getElem?_eq_getElem (by omega)
theorem mem_drop_at {i : Nat} {c : Blk} (h : c ∈ bs.drop i) : ∃ j, i ≤ j ∧ bs[j]? = some c := by
  obtain ⟨j, hj, e⟩ := List.getElem_of_mem h
  rw [List.length_drop] at hj
  refine ⟨i + j, by omega, ?_⟩
  rw [List.getElem_drop] at e
  rw [← e]
  exact List.getElem?_eq_getElem (by omega)
/-- a block put in at its place -/
def insB (bs : List Blk) (i : Nat) (b : Blk) : List Blk := bs.take i ++ [b] ++ bs.drop i
theorem ins_wf {i : Nat} {b : Blk} (w : Wf ns n bs) (g : Good ns) (h : Below bs b.1 i) (k : b.2.1 < ns.length) (h0 : 0 ≤ b.1) (hd : sz ns b.2.1 ∣ b.1) (he : bEnd ns b ≤ n) (fr : FreeR ns bs b.1 (bEnd ns b)) : Wf ns n (insB bs i b) := by
  have z := (chain g).pos _ k
  have left : ∀ c ∈ bs.take i, bEnd ns c ≤ b.1 := fun c hc => by
    obtain ⟨j, hj, e⟩ := mem_take_at hc
    have h1 := (h.2 j c e).mp hj
    have r := fr c (List.mem_of_getElem? e)
    unfold bEnd at *
    omega
  have right : ∀ c ∈ bs.drop i, bEnd ns b ≤ c.1 := fun c hc => by
    obtain ⟨j, hj, e⟩ := mem_drop_at hc
    have h1 := h.2 j c e
    have r := fr c (List.mem_of_getElem? e)
    have zc := w.pos g (List.mem_of_getElem? e)
    unfold bEnd at *
    omega
  refine ⟨fun c hc => ?_, ?_⟩
  · unfold insB at hc
    rcases List.mem_append.mp hc with hc | hc
    · rcases List.mem_append.mp hc with hc | hc
      · exact w.ok c (List.mem_of_mem_take hc)
      · rw [List.mem_singleton.mp hc]
        exact ⟨k, h0, hd, he⟩
    · exact w.ok c (List.mem_of_mem_drop hc)
  · unfold insB
    rw [List.append_assoc]
    refine List.pairwise_append.mpr ⟨w.so.sublist (List.take_sublist _ _), ?_, fun c hc d hd => ?_⟩
    · refine List.pairwise_append.mpr ⟨List.pairwise_singleton _ _, w.so.sublist (List.drop_sublist _ _), fun c hc d hd => ?_⟩
      rw [List.mem_singleton.mp hc]
      exact right d hd
    · rcases List.mem_append.mp hd with hd | hd
      · rw [List.mem_singleton.mp hd]
        exact left c hc
      · have a1 := left c hc
        have a2 := right d hd
        unfold bEnd at *
        omega
theorem tot_app (xs ys : List Blk) : tot ns (xs ++ ys) = tot ns xs + tot ns ys := by
  unfold tot
  rw [List.map_append, List.sum_append]
theorem tot_one (b : Blk) : tot ns [b] = sz ns b.2.1 := by simp [tot]
theorem tot_ins (bs : List Blk) (i : Nat) (b : Blk) : tot ns (insB bs i b) = tot ns bs + sz ns b.2.1 := by
  unfold insB
  have e := congrArg (tot ns) (List.take_append_drop i bs)
  rw [tot_app] at e
  rw [tot_app, tot_app, tot_one]
  omega
theorem tot_era {j : Nat} {b : Blk} (h : bs[j]? = some b) : tot ns (bs.eraseIdx j) = tot ns bs - sz ns b.2.1 := by
  have e := congrArg (tot ns) (List.take_append_drop j bs)
  obtain ⟨hj, eb⟩ := List.getElem?_eq_some_iff.mp h
  rw [List.eraseIdx_eq_take_drop_succ, tot_app]
  rw [List.drop_eq_getElem_cons hj, tot_app, ← List.singleton_append, tot_app, tot_one, eb] at e
  omega
theorem era_wf {j : Nat} (w : Wf ns n bs) : Wf ns n (bs.eraseIdx j) := ⟨fun b hb => w.ok b (List.mem_of_mem_eraseIdx hb), w.so.sublist (List.eraseIdx_sublist _ _)⟩
/-- a block with another pin -/
def pinB (bs : List Blk) (j : Nat) (b : Blk) (p : Bool) : List Blk := bs.set j (b.1, b.2.1, p)
theorem pin_wf {j : Nat} {b : Blk} {p : Bool} (w : Wf ns n bs) (h : bs[j]? = some b) : Wf ns n (pinB bs j b p) := by
  obtain ⟨hj, eb⟩ := List.getElem?_eq_some_iff.mp h
  refine ⟨fun c hc => ?_, ?_⟩
  · rcases List.mem_or_eq_of_mem_set hc with z | z
    · exact w.ok c z
    · rw [z]
      exact w.ok b (List.mem_of_getElem? h)
  · refine List.pairwise_iff_getElem.mpr fun i k hi hk hik => ?_
    unfold pinB at hi hk ⊢
    rw [List.length_set] at hi hk
    have p0 := List.pairwise_iff_getElem.mp w.so i k hi hk hik
    rw [List.getElem_set, List.getElem_set]
    split
    · rename_i e
      subst e
      rw [if_neg (by omega)]
      rw [eb] at p0
      exact p0
    · split
      · rename_i e
        subst e
        rw [eb] at p0
        exact p0
      · exact p0
theorem tot_pin {j : Nat} {b : Blk} {p : Bool} (h : bs[j]? = some b) : tot ns (pinB bs j b p) = tot ns bs := by
  obtain ⟨hj, eb⟩ := List.getElem?_eq_some_iff.mp h
  unfold pinB tot
  rw [List.map_set]
  congr 1
  have e : sz ns b.2.1 = (bs.map fun b => sz ns b.2.1)[j]'(by rw [List.length_map]; exact hj) := by rw [List.getElem_map, eb]
  show (bs.map fun b => sz ns b.2.1).set j (sz ns b.2.1) = _
  rw [e, List.set_getElem_self]
end
/-- all but the layout's own two objects stay -/
def But2 (y bl : Addr) (H H' : Hp) : Prop := ∀ c o, c ≠ y → c ≠ bl → H c = some o → H' c = some o
theorem Refs.ins {α : Type} {f : α → List V} {H : Hp} {ps : List Addr} {ts : List α} {p : Addr} {t : α} (h : Refs f H ps ts) (i : Nat) (hp : H p = some (.tup (f t))) : Refs f H (ps.take i ++ [p] ++ ps.drop i) (ts.take i ++ [t] ++ ts.drop i) := ((h.take i).app (.one hp)).app (h.drop i)
theorem Refs.era {α : Type} {f : α → List V} {H : Hp} {ps : List Addr} {ts : List α} (h : Refs f H ps ts) (j : Nat) : Refs f H (ps.eraseIdx j) (ts.eraseIdx j) := by
  rw [List.eraseIdx_eq_take_drop_succ, List.eraseIdx_eq_take_drop_succ]
  exact (h.take j).app (h.drop (j + 1))
theorem Refs.set {α : Type} {f : α → List V} {H : Hp} {p : Addr} {t : α} (hp : H p = some (.tup (f t))) : ∀ {ps : List Addr} {ts : List α}, Refs f H ps ts → ∀ j, Refs f H (ps.set j p) (ts.set j t)
  | _, _, .nil, _ => .nil
  | _, _, .cons a b, 0 => .cons hp b
  | _, _, .cons a b, j + 1 => .cons a (Refs.set hp b j)
section
variable {P : Program} {w : World} {K : PySem.W.Frag} {mg : Str → Option Value} {base : Heap} {f : Addr} {fd : FuncData}
def spPut (K : PySem.W.Frag) : Sp := fun vs H Q _ => ∃ (y zp bl dx : Addr) (ps : List Addr) (ns : List Int) (n a : Int) (bs : List Blk) (k : Nat) (p : Bool), vs = [.ref y, .int k, .int a, .bl p] ∧ Ly K H y zp bl dx ps ns n bs ∧ bs.length < 900 ∧ k < ns.length ∧ 0 ≤ a ∧ a % sz ns k = 0 ∧ a + sz ns k ≤ n ∧ FreeR ns bs a (a + sz ns k) ∧
  ∀ i ps' H', Below bs a i → Ly K H' y zp bl dx ps' ns n (insB bs i (a, k, p)) → But2 y bl H H' → Q .non H'
theorem sc_put : FnScope ["self", "level", "address", "pinned", "size", "taken"] ["self", "level", "address", "pinned"] (defScope (inClass (top 29) 13)) := ⟨rfl, rfl, rfl, by decide +kernel, rfl, by decide +kernel, by decide +kernel⟩
theorem ok_put (T : Tx K mg) (M_size : Mf P w K mg base 5 "Sizes" "size" ["self", "level"] (spSize K)) (D_is_region : Df P w K mg base 7 "is_region" ["sizes", "length", "level", "address"] (spRegion K)) (M_first_taken : Mf P w K mg base 7 "Layout" "first_taken" ["self", "low", "high"] (spFirst K))
    (M_count_below : Mf P w K mg base 1 "Layout" "count_below" ["self", "address"] (spCB K)) (F : FnK K "put" "Layout.put" (inClass (top 29) 13) [("pinned", .bl false)] f fd) : FnOk P w K mg base CX0 8 f fd ["self", "level", "address", "pinned"] (spPut K) := by
  refine F.ok sc_put (fun vs H Q E h => ?_) (fun cdv A outer s H vs Q E hr h => ⟨_, PSs.nox (pss_cons (ps_set (i := 4) sc_put.nd rfl (by first | exact Or.inl rfl | exact Or.inr rfl) (pmeth M_size hr (pe_fld (pv 0) rfl) (pa_cons (pv 1) pa_nil))) (pss_cons (ps_if (pt_not (pt_val (pcall D_is_region hr (pa_cons (pe_fld (pv 0) rfl) (pa_cons (pe_fld (pv 0) rfl) (pa_cons (pv 1) (pa_cons (pv 2) pa_nil))))))) (pss_one ps_never) pss_nil) (pss_cons (ps_set (i := 5) sc_put.nd rfl (by first | exact Or.inl rfl | exact Or.inr rfl) (pmeth M_first_taken hr (pv 0) (pa_cons (pv 2) (pa_cons (pe_op op_add (pv 2) (pv 4)) pa_nil)))) (pss_cons (ps_if (pt_cmpR op_notN (pv 5) pe_non (nomark _)) (pss_one ps_never) pss_nil) (pss_cons (ps_expr (pe_bm PySem.F.plainAttrs_list PySem.F.slot_list_insert PySem.F.type_list_insert mt_insert (pe_fld (pv 0) rfl) (pa_cons (pmeth M_count_below hr (pv 0) (pa_cons (pv 2) pa_nil)) (pa_cons (pe_tup (pa_cons (pv 2) (pa_cons (pv 1) (pa_cons (pv 3) pa_nil)))) pa_nil)))) (pss_one (ps_fldaug (pv 0) (pv 4) in_sub))))))), ?_⟩)
  · obtain ⟨y, zp, bl, dx, ps, ns, n, a, bs, k, p, rfl, _⟩ := h
    rfl
  · obtain ⟨y, zp, bl, dx, ps, ns, n, a, bs, k, p, rfl, L, l900, hk, a0, a1, a2, fr, q⟩ := h
    obtain ⟨dz, l, zz, zl, zy, zb, lb, ly, nyb⟩ := L.far
    have z := (chain L.gd).pos _ hk
    have pl := L.rf.len
    have sl : sizeLine = 16777216 := sizeLine_eq
    refine ⟨_, rfl, y, _, dx, _, _, rfl, L.at_, T.ly, T.nST, lay_st .., zp, dz, _, rfl, zz, szF_no l (by decide +kernel), _, rfl, zp, ns, k, _, rfl, L.szs, sz_at hk, ?_⟩
    refine ⟨_, rfl, y, _, dx, _, _, rfl, L.at_, T.ly, T.nST, lay_st .., _, rfl, y, _, dx, _, _, rfl, L.at_, T.ly, T.nCC, lay_cc .., _, rfl, _, rfl, zp, ns, k, n, a, rfl, L.szs, L.gd, hk, L.n1, L.n2, a0, a1, a2, true, rfl, iteF ?_⟩
    refine ⟨_, rfl, y, dx, _, rfl, L.at_, lay_nm (by decide +kernel), _, rfl, _, rfl, _, rfl, _, _, rfl, rfl, y, zp, bl, dx, ps, ns, n, a, a + sz ns k, bs, rfl, L, a0, by omega, a2, fr, ?_⟩
    refine ⟨_, rfl, rfl, _, rfl, iteF ?_⟩
    refine ⟨_, rfl, y, _, dx, _, _, rfl, L.at_, T.ly, T.nBL, lay_bl .., .inl ⟨rfl, _, SqL.of L.lst⟩, _, rfl, y, dx, _, rfl, L.at_, lay_nm (by decide +kernel), _, rfl, y, zp, bl, dx, ps, ns, n, a, bs, rfl, L, fun i hi => ?_⟩
    refine ⟨_, rfl, _, rfl, _, rfl, (by show 3 ≤ sizeLine; decide), fun t ht => ?_⟩
    have ntb : bl ≠ t := ne_of_none L.lst ht
    have nty : y ≠ t := ne_of_none L.at_ ht
    refine ⟨bl, _, i, _, rfl, rfl, (by rw [upd_ne ntb]; exact L.lst), (by rw [List.length_map]; omega), by omega, (by have := hi.1; have := L.ln; omega), ?_⟩
    have keep : ∀ {c : Addr} {o : HO} {u v : HO}, c ≠ y → c ≠ bl → H c = some o → (upd (upd (upd H t (.tup (blkV (a, k, p)))) bl u) y v) c = some o := fun {c o u v} c1 c2 e => by
      rw [upd_ne c1, upd_ne c2, upd_ne (ne_of_none e ht)]
      exact e
    refine ⟨_, rfl, y, _, dx, _, _, rfl, (by rw [upd_ne nyb, upd_ne nty]; exact L.at_), T.ly, T.nFC, lay_fc .., _, rfl, _, _, rfl, rfl, dx, _, (by rw [upd_ne nyb, upd_ne nty]; exact L.at_), (by show 4 < 1000; decide), ?_⟩
    refine q i (ps.take i ++ [t] ++ ps.drop i) _ hi ⟨?_, ?_, ?_, ?_, ins_wf L.wf L.gd hi hk a0 (M16.dvd0 a1) a2 fr, L.gd, L.n1, L.n2, ?_, ⟨dz, l, keep zy zb zz, keep ly lb zl, lb⟩⟩ fun c o c1 c2 e => keep c1 c2 e
    · rw [upd_same, lay_put, tot_ins]
      have e : n - tot ns bs - sz ns k = n - (tot ns bs + sz ns k) := by omega
      exact congrArg (fun z => some (HO.ins (He.ga K "Layout") dx (layF zp n z bl))) e
    · exact ⟨dz, l, keep zy zb zz, keep ly lb zl⟩
    · rw [upd_ne nyb.symm, upd_same, List.map_append, List.map_append, List.map_take, List.map_drop]
      rfl
    · refine Refs.ins (L.rf.mono fun c xs e => ?_) i ?_
      · exact keep (fun z => by rw [z, L.at_] at e; cases e) (fun z => by rw [z, L.lst] at e; cases e) e
      · rw [upd_ne nty.symm, upd_ne ntb.symm, upd_same]
        rfl
    · unfold insB
      rw [List.length_append, List.length_append, List.length_take, List.length_drop, List.length_singleton]
      omega
theorem era_map (ps : List Addr) (j : Nat) : (ps.map V.ref).eraseIdx j = (ps.eraseIdx j).map V.ref := by
  rw [List.eraseIdx_eq_take_drop_succ, List.eraseIdx_eq_take_drop_succ, List.map_append, List.map_take, List.map_drop]
theorem ix_nat {k n : Nat} (h : k < n) : ixN n (k : Int) = some k := by
  unfold ixN
  rw [if_pos (by omega), if_pos (by omega), Int.toNat_natCast]
def spTake (K : PySem.W.Frag) : Sp := fun vs H Q _ => ∃ (y zp bl dx : Addr) (ps : List Addr) (ns : List Int) (n a : Int) (bs : List Blk) (j : Nat) (b : Blk), vs = [.ref y, .int a] ∧ Ly K H y zp bl dx ps ns n bs ∧ bs[j]? = some b ∧ b.1 = a ∧
  ∀ t ps' H', H t = none → Ly K H' y zp bl dx ps' ns n (bs.eraseIdx j) → H' t = some (.tup [.int (b.2.1 : Nat), .bl b.2.2]) → But2 y bl H H' → Q (.ref t) H'
theorem sc_take_out : FnScope ["self", "address", "start", "level", "is_pinned"] ["self", "address"] (defScope (inClass (top 29) 14)) := ⟨rfl, rfl, rfl, by decide +kernel, rfl, by decide +kernel, by decide +kernel⟩
theorem ok_take (T : Tx K mg) (M_index_of : Mf P w K mg base 2 "Layout" "index_of" ["self", "address"] (spIx K)) (M_size : Mf P w K mg base 5 "Sizes" "size" ["self", "level"] (spSize K)) (F : FnP K "take_out" "Layout.take_out" (inClass (top 29) 14) f fd) :
    FnOk P w K mg base CX0 6 f fd ["self", "address"] (spTake K) := by
  refine F.ok sc_take_out (fun vs H Q E h => ?_) (fun cdv A outer s H vs Q E hr h => ⟨_, PSs.nox (pss_cons (ps_asg (pe_bm PySem.F.plainAttrs_list PySem.F.slot_list_pop PySem.F.type_list_pop mt_popAt (pe_fld (pv 0) rfl) (pa_cons (pmeth M_index_of hr (pv 0) (pa_cons (pv 1) pa_nil)) pa_nil)) (pg_tup (by rfl) (pgs_cons (pg_name (i := 2) sc_take_out.nd rfl (by first | exact Or.inl rfl | exact Or.inr rfl)) (pgs_cons (pg_name (i := 3) sc_take_out.nd rfl (by first | exact Or.inl rfl | exact Or.inr rfl)) (pgs_cons (pg_name (i := 4) sc_take_out.nd rfl (by first | exact Or.inl rfl | exact Or.inr rfl)) pgs_nil))))) (pss_cons (ps_fldaug (pv 0) (pmeth M_size hr (pe_fld (pv 0) rfl) (pa_cons (pv 3) pa_nil)) in_add) (pss_one (ps_ret (pe_tup (pa_cons (pv 3) (pa_cons (pv 4) pa_nil))))))), ?_⟩)
  · obtain ⟨y, zp, bl, dx, ps, ns, n, a, bs, j, b, rfl, _⟩ := h
    rfl
  · obtain ⟨y, zp, bl, dx, ps, ns, n, a, bs, j, b, rfl, L, hj, hb, q⟩ := h
    obtain ⟨dz, l, zz, zl, zy, zb, lb, ly, nyb⟩ := L.far
    have pl := L.rf.len
    have bn := L.ln
    have jl := (List.getElem?_eq_some_iff.mp hj).1
    have hk := (L.wf.ok b (List.mem_of_getElem? hj)).1
    obtain ⟨p, hp, hT⟩ := L.rf.at_ hj
    have hT' : H p = some (.tup [.int b.1, .int (b.2.1 : Nat), .bl b.2.2]) := hT
    refine ⟨_, rfl, y, _, dx, _, _, rfl, L.at_, T.ly, T.nBL, lay_bl .., .inl ⟨rfl, _, SqL.of L.lst⟩, _, rfl, y, dx, _, rfl, L.at_, lay_nm (by decide +kernel), _, rfl, y, zp, bl, dx, ps, ns, n, a, bs, j, b, rfl, L, hj, hb, ?_⟩
    refine ⟨bl, _, j, j, .ref p, rfl, rfl, L.lst, by omega, by omega, (by rw [List.length_map]; exact (seqIndex_at (by omega) (by omega)).trans (by rw [Int.toNat_natCast])), (by rw [List.getElem?_map, hp]; rfl), ?_⟩
    have keep0 : ∀ {c : Addr} {o : HO} {u : HO}, c ≠ bl → H c = some o → (upd H bl u) c = some o := fun {c o u} c2 e => by
      rw [upd_ne c2]
      exact e
    have pb : p ≠ bl := fun z => by rw [z, L.lst] at hT'; cases hT'
    have py : p ≠ y := fun z => by rw [z, L.at_] at hT'; cases hT'
    refine ⟨p, _, rfl, .inl (.inl (keep0 pb hT')), rfl, _, _, rfl, _, _, rfl, _, _, rfl, rfl, ?_⟩
    refine ⟨_, rfl, y, _, dx, _, _, rfl, keep0 nyb L.at_, T.ly, T.nFC, lay_fc .., _, rfl, y, _, dx, _, _, rfl, keep0 nyb L.at_, T.ly, T.nST, lay_st .., zp, dz, _, rfl, keep0 zb zz, szF_no l (by decide +kernel), _, rfl, zp, ns, b.2.1, _, rfl, ⟨dz, l, keep0 zb zz, keep0 lb zl⟩, sz_at hk, _, _, rfl, rfl, dx, _, keep0 nyb L.at_, (by show 4 < 1000; decide), ?_⟩
    refine ⟨_, rfl, _, rfl, (by show 2 ≤ sizeLine; decide), fun t ht => ?_⟩
    have keep : ∀ {c : Addr} {o : HO} {u v v' : HO}, c ≠ y → c ≠ bl → H c = some o → (upd (upd (upd H bl u) y v) t v') c = some o ∨ c = t := fun {c o u v v'} c1 c2 e => by
      by_cases ct : c = t
      · exact .inr ct
      · rw [upd_ne ct, upd_ne c1, upd_ne c2]
        exact .inl e
    have ty : t ≠ y := fun z => by
      rw [z, upd_same] at ht
      cases ht
    have tb : t ≠ bl := fun z => by
      rw [z, upd_ne nyb.symm, upd_same] at ht
      cases ht
    have tn : H t = none := by
      rw [upd_ne ty, upd_ne tb] at ht
      exact ht
    have kp : ∀ {c : Addr} {o : HO} {u v v' : HO}, c ≠ y → c ≠ bl → H c = some o → (upd (upd (upd H bl u) y v) t v') c = some o := fun {c o u v v'} c1 c2 e => by
      rw [upd_ne (ne_of_none e tn), upd_ne c1, upd_ne c2]
      exact e
    refine q t (ps.eraseIdx j) _ tn ⟨?_, ⟨dz, l, kp zy zb zz, kp ly lb zl⟩, ?_, (L.rf.mono fun c xs e => ?_).era j, era_wf L.wf, L.gd, L.n1, L.n2, ?_, ⟨dz, l, kp zy zb zz, kp ly lb zl, lb⟩⟩ upd_same fun c o c1 c2 e => kp c1 c2 e
    · rw [upd_ne ty.symm, upd_same, lay_put, tot_era hj]
      have e : n - tot ns bs + sz ns b.2.1 = n - (tot ns bs - sz ns b.2.1) := by omega
      exact congrArg (fun z => some (HO.ins (He.ga K "Layout") dx (layF zp n z bl))) e
    · rw [upd_ne tb.symm, upd_ne nyb.symm, upd_same, era_map]
    · exact kp (fun z => by rw [z, L.at_] at e; cases e) (fun z => by rw [z, L.lst] at e; cases e) e
    · have := List.length_eraseIdx_le bs j
      omega
def spPin (K : PySem.W.Frag) : Sp := fun vs H Q _ => ∃ (y zp bl dx : Addr) (ps : List Addr) (ns : List Int) (n a : Int) (bs : List Blk) (j : Nat) (b : Blk) (p : Bool), vs = [.ref y, .int a, .bl p] ∧ Ly K H y zp bl dx ps ns n bs ∧ bs[j]? = some b ∧ b.1 = a ∧
  ∀ ps' H', Ly K H' y zp bl dx ps' ns n (pinB bs j b p) → But2 y bl H H' → Q .non H'
theorem sc_set_pinned : FnScope ["self", "address", "pinned", "index", "start", "level", "was_pinned"] ["self", "address", "pinned"] (defScope (inClass (top 29) 15)) := ⟨rfl, rfl, rfl, by decide +kernel, rfl, by decide +kernel, by decide +kernel⟩
theorem ok_pin (T : Tx K mg) (M_index_of : Mf P w K mg base 2 "Layout" "index_of" ["self", "address"] (spIx K)) (F : FnP K "set_pinned" "Layout.set_pinned" (inClass (top 29) 15) f fd) :
    FnOk P w K mg base CX0 3 f fd ["self", "address", "pinned"] (spPin K) := by
  refine F.ok sc_set_pinned (fun vs H Q E h => ?_) (fun cdv A outer s H vs Q E hr h => ⟨_, PSs.nox (pss_cons (ps_set (i := 3) sc_set_pinned.nd rfl (by first | exact Or.inl rfl | exact Or.inr rfl) (pmeth M_index_of hr (pv 0) (pa_cons (pv 1) pa_nil))) (pss_cons (ps_asg (pe_ix ix_list (pe_fld (pv 0) rfl) (pv 3) (fun _ _ => rfl)) (pg_tup (by rfl) (pgs_cons (pg_name (i := 4) sc_set_pinned.nd rfl (by first | exact Or.inl rfl | exact Or.inr rfl)) (pgs_cons (pg_name (i := 5) sc_set_pinned.nd rfl (by first | exact Or.inl rfl | exact Or.inr rfl)) (pgs_cons (pg_name (i := 6) sc_set_pinned.nd rfl (by first | exact Or.inl rfl | exact Or.inr rfl)) pgs_nil))))) (pss_one (ps_asg (pe_tup (pa_cons (pv 4) (pa_cons (pv 5) (pa_cons (pv 2) pa_nil)))) (pg_sub (pe_fld (pv 0) rfl) (pv 3) set_list))))), ?_⟩)
  · obtain ⟨y, zp, bl, dx, ps, ns, n, a, bs, j, b, p, rfl, _⟩ := h
    rfl
  · obtain ⟨y, zp, bl, dx, ps, ns, n, a, bs, j, b, pp, rfl, L, hj, hb, q⟩ := h
    obtain ⟨dz, l, zz, zl, zy, zb, lb, ly, nyb⟩ := L.far
    have pl := L.rf.len
    have bn := L.ln
    have jl := (List.getElem?_eq_some_iff.mp hj).1
    obtain ⟨p, hp, hT⟩ := L.rf.at_ hj
    have hT' : H p = some (.tup [.int b.1, .int (b.2.1 : Nat), .bl b.2.2]) := hT
    refine ⟨_, rfl, y, dx, _, rfl, L.at_, lay_nm (by decide +kernel), _, rfl, y, zp, bl, dx, ps, ns, n, a, bs, j, b, rfl, L, hj, hb, ?_⟩
    refine ⟨_, rfl, y, _, dx, _, _, rfl, L.at_, T.ly, T.nBL, lay_bl .., _, rfl, bl, _, _, _, rfl, rfl, SqL.of L.lst, Refs.map_at hp, p, _, rfl, .inl (.inl hT'), rfl, _, _, rfl, _, _, rfl, _, _, rfl, rfl, ?_⟩
    refine ⟨_, rfl, _, rfl, _, rfl, (by show 3 ≤ sizeLine; decide), fun t ht => ?_⟩
    have sm := same_upd (o := .tup [.int b.1, .int (b.2.1 : Nat), .bl pp]) ht
    have ntb : bl ≠ t := ne_of_none L.lst ht
    have kp : ∀ {c : Addr} {o : HO} {u : HO}, c ≠ bl → H c = some o → (upd (upd H t (.tup [.int b.1, .int (b.2.1 : Nat), .bl pp])) bl u) c = some o := fun {c o u} c2 e => by
      rw [upd_ne c2]
      exact sm _ _ e
    refine ⟨_, rfl, y, _, dx, _, _, rfl, sm _ _ L.at_, T.ly, T.nBL, lay_bl .., _, rfl, bl, _, _, j, rfl, rfl, sm _ _ L.lst, ?_, ?_⟩
    · rw [List.length_map]
      exact ix_nat (by omega)
    · refine q (ps.set j t) _ ⟨?_, ⟨dz, l, kp zb zz, kp lb zl⟩, ?_, Refs.set (t := (b.1, b.2.1, pp)) ?_ (L.rf.mono fun c xs e => ?_) j, pin_wf L.wf hj, L.gd, L.n1, L.n2, ?_, ⟨dz, l, kp zb zz, kp lb zl, lb⟩⟩ fun c o _ c2 e => kp c2 e
      · rw [tot_pin hj]
        exact kp nyb L.at_
      · rw [upd_same, List.map_set]
      · rw [upd_ne ntb.symm, upd_same]
        rfl
      · exact kp (fun z => by rw [z, L.lst] at e; cases e) e
      · unfold pinB
        rw [List.length_set]
        exact bn
end
end K23

set_option Elab.async false
set_option linter.all false
set_option maxRecDepth 100000
set_option maxHeartbeats 4000000
/-! Own layer: fields and methods within a comprehension's block; methods called with keywords; a dict's comprehension over a list. -/
namespace Ex
open PySem PySem.Spec PySem.Calls PyProof.Rows L2 Gu
section
variable {X : Cx} {k j : Nat} {c m : Str} {ps ks : List Str} {sp : Sp} {p pos apos : Pos} {e o : Expr} {es : List Expr} {kws : List Keyword} {t tk : TA} {ta : TE} {f : Str}
theorem pfldB (K : PySem.W.Frag) (he : PE X o ta) (hK : X.K = K := by rfl) (hb : attributeBase o f X.env (eval o X.env) = eval o X.env := by rfl) : PE X (.Attribute o f pos) (tFld K ta f) := by
  subst hK
  exact pe_fld he hb
theorem pmethB {pl : Sem Bool} (K : PySem.W.Frag) (D : Mf X.prog X.w X.K X.mg X.base k c m ps sp) (hr : Room j X.A) (he : PE X o ta) (ha : PA X (e :: es) t) (hj : k ≤ j := by decide) (hK : X.K = K := by rfl)
    (hst : starEach (e :: es) X.env = (false, eval e X.env) :: starEach es X.env := by rfl) (hpl : (backTo pos (starEach es X.env)).any (·.1) = false := by rfl)
    (ht : eval (.Call (.Attribute o m apos) (e :: es) [] pos) X.env = (do
      let ov ← eval o X.env
      standAt apos.atName
      let (f, first) ← holding [ov] (getMethod ov m pl)
      callWith pos f first (backTo pos (starEach (e :: es) X.env)) (backToKw pos (keywordEach [] X.env))) := by rfl) :
    PE X (.Call (.Attribute o m apos) (e :: es) [] pos) (tMeth (He.ga K c) m sp [] E0 ta t) := by
  subst hK
  exact pmeth D hr he ha hj hst hpl ht
/-- a method that is called with n values by position (self among them) and the keywords ks behind them -/
structure MfK (P : Program) (w : World) (K : PySem.W.Frag) (mg : Str → Option Value) (base : Heap) (k : Nat) (c m : Str) (ps : List Str) (n : Nat) (ks : List Str) (sp : Sp) : Prop where
  ex : ∃ fd, FnOk P w K mg base CX0 k (He.ma K (He.ga K c) m) fd ps sp ∧ ∀ (s : Shared) (us ws : List Value), us.length = n → ws.length = ks.length → K.In s.heap → BindsTo s fd ⟨us, ks.zip ws⟩ (ps.zip (us ++ ws))
  cl : Cls K (He.ga K c)
  me : Meth K (He.ga K c) m (He.ma K (He.ga K c) m)
def tMethK (C : Addr) (m : Str) (sp : Sp) (n q : Nat) (ta : TE) (t tk : TA) : TE := fun σ H Q => ta σ H fun x H1 => ∃ a dx fs, x = .ref a ∧ H1 a = some (.ins C dx fs) ∧ fs.lookup m = none ∧
  t σ H1 fun vs H2 => tk σ H2 fun zs H3 => vs.length + 1 = n ∧ zs.length = q ∧ sp (x :: vs ++ zs) H3 Q E0
theorem pmethK {pl : Sem Bool} {n : Nat} (D : MfK X.prog X.w X.K X.mg X.base k c m ps n ks sp) (hr : Room j X.A) (he : PE X o ta) (ha : PA X (e :: es) t) (hkw : PK X kws tk) (hj : k ≤ j := by decide)
    (hst : starEach (e :: es) X.env = (false, eval e X.env) :: starEach es X.env := by rfl)
    (hall : (backToKw pos (keywordEach kws X.env)).all (·.1.isSome) = true := by rfl) (hks : (backToKw pos (keywordEach kws X.env)).filterMap (·.1) = ks := by rfl)
    (hpl : ((backTo pos (starEach (e :: es) X.env)).any (·.1) || (backToKw pos (keywordEach kws X.env)).any (·.1.isNone)) = false := by rfl)
    (ht : eval (.Call (.Attribute o m apos) (e :: es) kws pos) X.env = (do
      let ov ← eval o X.env
      standAt apos.atName
      let (f, first) ← holding [ov] (getMethod ov m pl)
      callWith pos f first (backTo pos (starEach (e :: es) X.env)) (backToKw pos (keywordEach kws X.env))) := by rfl) :
    PE X (.Call (.Attribute o m apos) (e :: es) kws pos) (tMethK (He.ga X.K c) m sp n ks.length ta t tk) := by
  obtain ⟨fd, F, b⟩ := D.ex
  refine ⟨fun pins s σ H Q I h => ?_⟩
  refine PySem.W.methodCall_KW (pl := pl) (thn (he.run pins s σ H _ I h) fun u s1 ⟨x, H1, I1, rx, a, dx, fs, ex, ea, l, q⟩ => ?_) ht
  subst ex
  obtain rfl : u = Value.ref a := rx
  refine getmeth_ok I1 ea D.cl D.me l ?_
  refine PySem.W.callWith_KW (first := [.ref a]) (h₀ := X.base) I.ok.mod.kin D.me.kp hall (thn (ha.run pos pins s1 σ H1 _ I1 q) fun us s2 ⟨vs, H2, I2, r, q2⟩ => thn (hkw.run pos pins s2 σ H2 _ I2 q2) fun ws s3 ⟨zs, H3, I3, rz, hn, hz, q3⟩ => ⟨I3.kIn, ?_⟩) hpl hst
  rw [hks]
  have r2 : Vals (V.ref a :: vs) (Value.ref a :: us) := .cons rfl r
  have r3 : Vals (V.ref a :: vs ++ zs) (Value.ref a :: us ++ ws) := r2.append rz
  have l1 : (Value.ref a :: us).length = n := by
    rw [← r2.length]
    exact hn
  have l2 : ws.length = ks.length := by
    rw [← rz.length]
    exact hz
  refine wpAny_call (codeAny_mono (F.run X.A X.stack s3 H3 ⟨Value.ref a :: us, ks.zip ws⟩ _ _ Q E0 (hr.mono hj) I3.env0 (b s3 (Value.ref a :: us) ws l1 l2 I3.kIn) r3 q3) fun r s' hq => ?_)
  match r, hq with
  | .ok (.ret u), hq => exact I3.after hq
end
/-- a dict's comprehension over a list that stays -/
theorem dc_list {K : PySem.W.Frag} {a : Addr} {xs : List V} {g : TG} {tt : TT} {tk tv : TE} {vs : List Nat} {σ : L2.St} {H1 : Hp} {D : Addr} {Qd : Hp → Prop} (Pv : Nat → Hp → Prop) (h0 : Pv 0 (upd H1 D (.dK []))) (hl : ∀ i H, i ≤ xs.length → Pv i H → SqL K H a xs)
    (hs : ∀ i x H, xs[i]? = some x → Pv i H → g x (wipe σ vs) H fun σ2 H2 => wipe σ2 vs = wipe σ vs ∧ tt σ2 H2 fun b H3 =>
      if b = true then tk σ2 H3 fun y H4 => tv σ2 H4 fun z H5 => ∃ kvs k, y = kV k ∧ H5 D = some (.dK kvs) ∧ kvs.length < sizeLine ∧ Pv (i + 1) (upd H5 D (.dK (putK kvs k z))) else Pv (i + 1) H3) (hd : ∀ H, Pv xs.length H → Qd H) :
    ∃ W : Nat → Nat → Hp → Prop, (∃ m, W 0 m (upd H1 D (.dK []))) ∧ ∀ i m H, W i m H →
      ((Itl K a).stop i H ∧ Qd H) ∨ ((Itl K a).go i H ∧ ∃ Nx : Hp → Prop, (∀ H', Nx H' → ∃ m', m' < m ∧ W (i + 1) m' H') ∧ ∀ x H', (Itl K a).yld i H x H' → g x (wipe σ vs) H' fun σ2 H2 => wipe σ2 vs = wipe σ vs ∧ tt σ2 H2 fun b H3 =>
        if b = true then tk σ2 H3 fun y H4 => tv σ2 H4 fun z H5 => ∃ kvs k, y = kV k ∧ H5 D = some (.dK kvs) ∧ kvs.length < sizeLine ∧ Nx (upd H5 D (.dK (putK kvs k z))) else Nx H3) := by
  refine ⟨fun i m H => m = xs.length - i ∧ i ≤ xs.length ∧ Pv i H, ⟨xs.length, by simp, Nat.zero_le _, h0⟩, ?_⟩
  rintro i m H ⟨rfl, hi, p⟩
  have q := hl i H hi p
  by_cases hlt : i < xs.length
  · refine .inr ⟨⟨xs, xs[i], q, by simp [hlt]⟩, Pv (i + 1), fun H' p' => ⟨xs.length - (i + 1), by omega, rfl, hlt, p'⟩, fun x H' y => ?_⟩
    obtain ⟨e, y⟩ := y
    subst e
    exact hs i x _ (y xs q) p
  · have e : i = xs.length := by omega
    subst e
    exact .inl ⟨⟨xs, q, Nat.le_refl _⟩, hd H p⟩
end Ex

set_option Elab.async false
set_option linter.all false
set_option maxRecDepth 100000
set_option maxHeartbeats 4000000
namespace K23
open PySem PySem.Spec PyProof.Rows L2 Gu Ex
def prV (p : Int × Int) : List V := [.int p.1, .int p.2]
def gapsI (n : Int) : Int → List (Int × Int) → List (Int × Int)
  | low, [] => if low < n then [(low, n)] else []
  | low, (s, e) :: r => (if low < s then [(low, s)] else []) ++ gapsI n e r
def rngB (ns : List Int) (b : Blk) : Int × Int := (b.1, bEnd ns b)
theorem drop_at {α : Type} {rs : List α} {i : Nat} {t : α} (h : rs[i]? = some t) : rs.drop i = t :: rs.drop (i + 1) := by
  obtain ⟨hi, e⟩ := List.getElem?_eq_some_iff.mp h
  rw [List.drop_eq_getElem_cons hi, e]
theorem take_at {α : Type} {rs : List α} {i : Nat} {t : α} (h : rs[i]? = some t) : rs.take (i + 1) = rs.take i ++ [t] := by
  rw [List.take_add_one, h]
  rfl
/-- appending a new tuple to a new list -/
theorem Refs.more {α : Type} {f : α → List V} {H : Hp} {ps : List Addr} {ts : List α} {M t : Addr} {u : α} {xs : List V} (h : Refs f H ps ts) (hM : H M = some (.lst xs)) (ht : H t = none) : Refs f (upd (upd H t (.tup (f u))) M (.lst (xs ++ [.ref t]))) (ps ++ [t]) (ts ++ [u]) := by
  have nM : M ≠ t := ne_of_none hM ht
  refine (h.mono fun b ys e => ?_).app (.one ?_)
  · rw [upd_ne (fun z => by rw [z, hM] at e; cases e), upd_ne (ne_of_none e ht)]
    exact e
  · rw [upd_ne nM.symm, upd_same]
theorem ref_of {ps : List Addr} {i : Nat} {x : V} (h : (ps.map V.ref)[i]? = some x) : ∃ p, ps[i]? = some p ∧ x = .ref p := by
  rw [List.getElem?_map] at h
  cases e : ps[i]? with
  | none => rw [e] at h; cases h
  | some p => rw [e] at h; exact ⟨p, rfl, (Option.some.inj h).symm⟩
section
variable {P : Program} {w : World} {K : PySem.W.Frag} {mg : Str → Option Value} {base : Heap} {f : Addr} {fd : FuncData}
def spGaps : Sp := fun vs H Q _ => ∃ (L : Addr) (n : Int) (ps : List Addr) (rs : List (Int × Int)), vs = [.ref L, .int n] ∧ H L = some (.lst (ps.map V.ref)) ∧ Refs prV H ps rs ∧ rs.length ≤ 1000 ∧
  ∀ M qs H', H M = none → Same H H' → H' M = some (.lst (qs.map V.ref)) → Refs prV H' qs (gapsI n 0 rs) → Q (.ref M) H'
theorem sc_gaps_between : FnScope ["ranges", "length", "gaps", "low", "start", "end"] ["ranges", "length"] (defScope (top 23)) := ⟨rfl, rfl, rfl, by decide +kernel, rfl, by decide +kernel, by decide +kernel⟩
theorem ok_gaps (T : Tx K mg) (F : FnP K "gaps_between" "gaps_between" (top 23) f fd) : FnOk P w K mg base CX0 1 f fd ["ranges", "length"] spGaps := by
  refine F.ok sc_gaps_between (fun vs H Q E h => ?_) (fun cdv A outer s H vs Q E hr h => ⟨_, PSs.nox (pss_cons (ps_set (i := 2) sc_gaps_between.nd rfl (by first | exact Or.inl rfl | exact Or.inr rfl) (pe_lst pa_nil)) (pss_cons (ps_set (i := 3) sc_gaps_between.nd rfl (by first | exact Or.inl rfl | exact Or.inr rfl) pe_int) (pss_cons (ps_for PassesOwn.never rfl (pi_list (pv 0)) (pg_tup (by rfl) (pgs_cons (pg_name (i := 4) sc_gaps_between.nd rfl (by first | exact Or.inl rfl | exact Or.inr rfl)) (pgs_cons (pg_name (i := 5) sc_gaps_between.nd rfl (by first | exact Or.inl rfl | exact Or.inr rfl)) pgs_nil))) (pss_cons (ps_if (pt_cmpR op_lt (pv 3) (pv 4) (nomark _)) (pss_one (ps_expr (pe_bm PySem.F.plainAttrs_list PySem.F.slot_list_append PySem.F.type_list_append mt_append (pv 2) (pa_cons (pe_tup (pa_cons (pv 3) (pa_cons (pv 4) pa_nil))) pa_nil)))) pss_nil) (pss_one (ps_set (i := 3) sc_gaps_between.nd rfl (by first | exact Or.inl rfl | exact Or.inr rfl) (pv 5))))) (pss_cons (ps_if (pt_cmpR op_lt (pv 3) (pv 1) (nomark _)) (pss_one (ps_expr (pe_bm PySem.F.plainAttrs_list PySem.F.slot_list_append PySem.F.type_list_append mt_append (pv 2) (pa_cons (pe_tup (pa_cons (pv 3) (pa_cons (pv 1) pa_nil))) pa_nil)))) pss_nil) (pss_one (ps_ret (pv 2))))))), ?_⟩)
  · obtain ⟨L, n, ps, rs, rfl, _⟩ := h
    rfl
  · obtain ⟨L, n, ps, rs, rfl, hL, rf, r1000, q⟩ := h
    have sl : sizeLine = 16777216 := sizeLine_eq
    have two : 2 ≤ sizeLine := by decide
    refine ⟨Nat.zero_le _, fun M hM => ?_⟩
    refine ⟨_, rfl, L, rfl, ⟨_, SqL.of (same_upd hM _ _ hL)⟩, ?_⟩
    have pl := rf.len
    refine for_list (K := K) (a := L) (xs := ps.map V.ref) (fun i σ G => ∃ (low : Int) (acc : List (Int × Int)) (qs : List Addr) (y4 y5 : Option V), σ = [some (.ref L), some (.int n), some (.ref M), some (.int low), y4, y5] ∧ Same H G ∧ G M = some (.lst (qs.map V.ref)) ∧ Refs prV G qs acc ∧ acc.length ≤ i ∧ gapsI n 0 rs = acc ++ gapsI n low (rs.drop i))
      ⟨0, [], [], none, none, rfl, same_upd hM, upd_same, .nil, Nat.le_refl _, rfl⟩ (fun i σ G _ ⟨_, _, _, _, _, _, sm, _⟩ => SqL.of (sm _ _ hL)) ?_ ?_
    · rintro i x σ G hx ⟨low, acc, qs, y4, y5, rfl, sm, hG, ra, al, eq⟩
      obtain ⟨p, hp, rfl⟩ := ref_of hx
      obtain ⟨t, ht, hT⟩ := (rf.same sm).get hp
      have hT' : G p = some (.tup [.int t.1, .int t.2]) := hT
      have il : i < rs.length := (List.getElem?_eq_some_iff.mp ht).1
      rw [drop_at ht] at eq
      have eq2 : gapsI n 0 rs = acc ++ ((if low < t.1 then [(low, t.1)] else []) ++ gapsI n t.2 (rs.drop (i + 1))) := eq
      have ql := ra.len
      refine ⟨p, _, rfl, .inl (.inl hT'), rfl, _, _, rfl, _, _, rfl, rfl, ?_⟩
      refine ⟨_, rfl, _, rfl, _, _, rfl, rfl, _, rfl, ?_⟩
      by_cases hc : low < t.1
      · rw [if_pos hc] at eq2
        refine ifT (decide_eq_true hc) ⟨_, rfl, .inl ⟨rfl, _, SqL.of hG⟩, _, rfl, _, rfl, two, fun u hu => ?_⟩
        have nM : M ≠ u := ne_of_none hG hu
        refine ⟨M, _, _, rfl, rfl, (by rw [upd_ne nM]; exact hG), (by rw [List.length_map]; omega), _, rfl, t.2, acc ++ [(low, t.1)], qs ++ [u], _, _, rfl, fun b o e => ?_, ?_, Refs.more (u := (low, t.1)) ra hG hu, ?_, ?_⟩
        · rw [upd_ne (ne_of_none e hM), upd_ne (ne_of_none (sm b o e) hu)]
          exact sm b o e
        · rw [upd_same, List.map_append]
          rfl
        · rw [List.length_append, List.length_singleton]
          omega
        · rw [eq2, List.append_assoc]
      · rw [if_neg hc] at eq2
        exact ifF (decide_eq_false hc) ⟨_, rfl, t.2, acc, qs, _, _, rfl, sm, hG, ra, by omega, eq2⟩
    · rintro σ G ⟨low, acc, qs, y4, y5, rfl, sm, hG, ra, al, eq⟩
      rw [List.length_map, pl, List.drop_length] at eq
      have eq2 : gapsI n 0 rs = acc ++ (if low < n then [(low, n)] else []) := eq
      have ql := ra.len
      rw [List.length_map] at al
      refine ⟨_, rfl, _, rfl, _, _, rfl, rfl, _, rfl, ?_⟩
      by_cases hc : low < n
      · rw [if_pos hc] at eq2
        refine ifT (decide_eq_true hc) ⟨_, rfl, .inl ⟨rfl, _, SqL.of hG⟩, _, rfl, _, rfl, two, fun u hu => ?_⟩
        have nM : M ≠ u := ne_of_none hG hu
        refine ⟨M, _, _, rfl, rfl, (by rw [upd_ne nM]; exact hG), (by rw [List.length_map]; omega), _, rfl, q M (qs ++ [u]) _ hM (fun b o e => ?_) ?_ ?_⟩
        · rw [upd_ne (ne_of_none e hM), upd_ne (ne_of_none (sm b o e) hu)]
          exact sm b o e
        · rw [upd_same, List.map_append]
          rfl
        · rw [eq2]
          exact Refs.more (u := (low, n)) ra hG hu
      · rw [if_neg hc, List.append_nil] at eq2
        refine ifF (decide_eq_false hc) ⟨_, rfl, q M qs G hM sm hG ?_⟩
        rw [eq2]
        exact ra
def spRanges (K : PySem.W.Frag) : Sp := fun vs H Q _ => ∃ (y zp bl dx : Addr) (ps : List Addr) (ns : List Int) (n : Int) (bs : List Blk) (M : Addr) (qs : List Addr) (cs : List Blk), vs = [.ref y, .ref M] ∧ Ly K H y zp bl dx ps ns n bs ∧ H M = some (.lst (qs.map V.ref)) ∧ Refs blkV H qs cs ∧ cs.length ≤ 1000 ∧ (∀ b ∈ cs, b.2.1 < ns.length) ∧
  ∀ D rs H', H D = none → Same H H' → H' D = some (.lst (rs.map V.ref)) → Refs prV H' rs (cs.map (rngB ns)) → Q (.ref D) H'
theorem sc_ranges_of : FnScope ["self", "blocks", "address", "level", "is_pinned"] ["self", "blocks"] (defScope (inClass (top 29) 16)) := ⟨rfl, rfl, rfl, by decide +kernel, rfl, by decide +kernel, by decide +kernel⟩
theorem ok_ranges (T : Tx K mg) (M_size : Mf P w K mg base 5 "Sizes" "size" ["self", "level"] (spSize K)) (F : FnP K "ranges_of" "Layout.ranges_of" (inClass (top 29) 16) f fd) : FnOk P w K mg base CX0 6 f fd ["self", "blocks"] (spRanges K) := by
  refine F.ok sc_ranges_of (fun vs H Q E h => ?_) (fun cdv A outer s H vs Q E hr h => ⟨_, PSs.nox (pss_one (ps_ret (pe_lc (own := [("address", 2), ("level", 3), ("is_pinned", 4)]) (g := gTup K 3 (gCons (gName 2) (gCons (gName 3) (gCons (gName 4) gNil)))) rfl sc_ranges_of.nd (pi_list (pv 1)) (blkOk_by (own := [("address", 2), ("level", 3), ("is_pinned", 4)]) (N := ["self", "blocks", "address", "level", "is_pinned"]) (sc := defScope (inClass (top 29) 16)) (by decide +kernel)) (fun _ _ _ _ _ => pg_tup rfl (pgs_cons (pg_name (i := 2) sc_ranges_of.nd rfl (Or.inl rfl)) (pgs_cons (pg_name (i := 3) sc_ranges_of.nd rfl (Or.inl rfl)) (pgs_cons (pg_name (i := 4) sc_ranges_of.nd rfl (Or.inl rfl)) pgs_nil)))) (fun _ _ _ _ _ => pts_nil) (fun _ _ _ _ _ => (pe_tup (pa_cons (pv 2) (pa_cons (pe_op op_add (pv 2) (pmethB K M_size hr (pfldB K (pv 0)) (pa_cons (pv 3) pa_nil))) pa_nil))))))), ?_⟩)
  · obtain ⟨y, zp, bl, dx, ps, ns, n, bs, M, qs, cs, rfl, _⟩ := h
    rfl
  · obtain ⟨y, zp, bl, dx, ps, ns, n, bs, M, qs, cs, rfl, L, hM, rf, c1000, hc, q⟩ := h
    have sl : sizeLine = 16777216 := sizeLine_eq
    have two : 2 ≤ sizeLine := by decide
    have ql := rf.len
    refine ⟨_, rfl, M, rfl, ⟨_, SqL.of hM⟩, fun D hD => ?_⟩
    refine lc_list (K := K) (a := M) (xs := qs.map V.ref) (fun i G => ∃ rs, G D = some (.lst (rs.map V.ref)) ∧ Refs prV G rs ((cs.take i).map (rngB ns)) ∧ Same H G) ⟨[], upd_same, .nil, same_upd hD⟩ (fun i G _ ⟨_, _, _, sm⟩ => SqL.of (sm _ _ hM)) ?_ ?_
    · rintro i x G hx ⟨rs, hG, rr, sm⟩
      obtain ⟨p, hp, rfl⟩ := ref_of hx
      obtain ⟨b, hb, hT⟩ := (rf.same sm).get hp
      have hT' : G p = some (.tup [.int b.1, .int (b.2.1 : Nat), .bl b.2.2]) := hT
      have il : i < cs.length := (List.getElem?_eq_some_iff.mp hb).1
      have bk := hc b (List.mem_of_getElem? hb)
      have LG := L.same sm
      obtain ⟨dz, l, z1, z2⟩ := id LG.szs
      have rl := rr.len
      rw [List.length_map, List.length_take] at rl
      refine ⟨p, _, rfl, .inl (.inl hT'), rfl, _, _, rfl, _, _, rfl, _, _, rfl, rfl, rfl, ?_⟩
      refine ⟨_, rfl, _, rfl, _, rfl, y, _, dx, _, _, rfl, LG.at_, T.ly, T.nST, lay_st .., zp, dz, _, rfl, z1, szF_no l (by decide +kernel), _, rfl, zp, ns, b.2.1, _, rfl, LG.szs, sz_at bk, _, _, rfl, rfl, two, fun t ht => ?_⟩
      have nD : D ≠ t := ne_of_none hG ht
      refine ⟨_, (by rw [upd_ne nD]; exact hG), (by rw [List.length_map]; omega), rs ++ [t], ?_, ?_, fun c o e => ?_⟩
      · rw [upd_same, List.map_append]
        rfl
      · rw [take_at hb, List.map_append]
        exact Refs.more (u := rngB ns b) rr hG ht
      · rw [upd_ne (ne_of_none e hD), upd_ne (ne_of_none (sm c o e) ht)]
        exact sm c o e
    · rintro G ⟨rs, hG, rr, sm⟩
      rw [List.length_map, ql, List.take_length] at rr
      exact q D rs G hD sm hG rr
end
end K23

set_option Elab.async false
set_option linter.all false
set_option maxRecDepth 100000
set_option maxHeartbeats 4000000
namespace K23
open PySem PySem.Spec PyProof.Rows L2 Gu Ex
theorem filter_at {bs : List Blk} {i : Nat} {b : Blk} (p : Blk → Bool) (h : bs[i]? = some b) : (bs.take (i + 1)).filter p = (bs.take i).filter p ++ (if p b = true then [b] else []) := by
  rw [take_at h, List.filter_append, List.filter_cons, List.filter_nil]
/-- the gaps are right ranges -/
theorem gaps_ok {n : Int} : ∀ {rs : List (Int × Int)} {low : Int}, 0 ≤ low → (∀ r ∈ rs, 0 ≤ r.2) → ∀ g ∈ gapsI n low rs, 0 ≤ g.1 ∧ g.1 ≤ g.2
  | [], low, h, _, g, hg => by
    have hg2 : g ∈ (if low < n then [(low, n)] else []) := hg
    split at hg2
    · rw [List.mem_singleton.mp hg2]
      exact ⟨h, by show low ≤ n; omega⟩
    · cases hg2
  | (s, e) :: r, low, h, hr, g, hg => by
    rcases List.mem_append.mp (show g ∈ (if low < s then [(low, s)] else []) ++ gapsI n e r from hg) with z | z
    · split at z
      · rw [List.mem_singleton.mp z]
        exact ⟨h, by show low ≤ s; omega⟩
      · cases z
    · exact gaps_ok (hr (s, e) List.mem_cons_self) (fun x hx => hr x (List.mem_cons_of_mem _ hx)) g z
/-- the clear cells, as reckoned -/
def pinR (ns : List Int) (bs : List Blk) : List (Int × Int) := (bs.filter fun b => b.2.2).map (rngB ns)
def regI (ns : List Int) (k : Nat) (gs : List (Int × Int)) : Int := (gs.map fun g => cntI (sz ns k) g.1 g.2).sum
def clrI (ns : List Int) (n : Int) (bs : List Blk) (k : Nat) : Int := regI ns k (gapsI n 0 (pinR ns bs)) * sz ns k
theorem gaps_len {n : Int} : ∀ (rs : List (Int × Int)) (low : Int), (gapsI n low rs).length ≤ rs.length + 1
  | [], low => by
    show (if low < n then [(low, n)] else []).length ≤ 1
    split <;> simp
  | (s, e) :: r, low => by
    show ((if low < s then [(low, s)] else []) ++ gapsI n e r).length ≤ r.length + 1 + 1
    have := gaps_len (n := n) r e
    rw [List.length_append]
    split
    · rw [List.length_singleton]
      omega
    · rw [List.length_nil]
      omega
section
variable {P : Program} {w : World} {K : PySem.W.Frag} {mg : Str → Option Value} {base : Heap} {f : Addr} {fd : FuncData}
def spPinned (K : PySem.W.Frag) : Sp := fun vs H Q _ => ∃ (y zp bl dx : Addr) (ps : List Addr) (ns : List Int) (n : Int) (bs : List Blk), vs = [.ref y] ∧ Ly K H y zp bl dx ps ns n bs ∧
  ∀ D rs H', H D = none → Same H H' → H' D = some (.lst (rs.map V.ref)) → Refs prV H' rs (pinR ns bs) → Q (.ref D) H'
theorem sc_pinned_ranges : FnScope ["self", "block"] ["self"] (defScope (inClass (top 29) 18)) := ⟨rfl, rfl, rfl, by decide +kernel, rfl, by decide +kernel, by decide +kernel⟩
theorem ok_pinned (T : Tx K mg) (M_ranges_of : Mf P w K mg base 6 "Layout" "ranges_of" ["self", "blocks"] (spRanges K)) (F : FnP K "pinned_ranges" "Layout.pinned_ranges" (inClass (top 29) 18) f fd) : FnOk P w K mg base CX0 7 f fd ["self"] (spPinned K) := by
  refine F.ok sc_pinned_ranges (fun vs H Q E h => ?_) (fun cdv A outer s H vs Q E hr h => ⟨_, PSs.nox (pss_one (ps_ret (pmeth M_ranges_of hr (pv 0) (pa_cons (pe_lc (own := [("block", 1)]) (g := gName 1) rfl sc_pinned_ranges.nd (pi_list (pe_fld (pv 0) rfl)) (blkOk_by (own := [("block", 1)]) (N := ["self", "block"]) (sc := defScope (inClass (top 29) 18)) (by decide +kernel)) (fun _ _ _ _ _ => pg_name (i := 1) sc_pinned_ranges.nd rfl (Or.inl rfl)) (fun _ _ _ _ _ => (pts_one (pt_val (pe_ix (r := rIxT K) ix_tup (pv 1) pe_int (fun _ _ => rfl))))) (fun _ _ _ _ _ => (pv 1))) pa_nil)))), ?_⟩)
  · obtain ⟨y, zp, bl, dx, ps, ns, n, bs, rfl, _⟩ := h
    rfl
  · obtain ⟨y, zp, bl, dx, ps, ns, n, bs, rfl, L, q⟩ := h
    have sl : sizeLine = 16777216 := sizeLine_eq
    have pl := L.rf.len
    have bn := L.ln
    refine ⟨_, rfl, y, dx, _, rfl, L.at_, lay_nm (by decide +kernel), _, rfl, y, _, dx, _, _, rfl, L.at_, T.ly, T.nBL, lay_bl .., bl, rfl, ⟨_, SqL.of L.lst⟩, fun D hD => ?_⟩
    refine lc_list (K := K) (a := bl) (xs := ps.map V.ref) (fun i G => ∃ qs, G D = some (.lst (qs.map V.ref)) ∧ Refs blkV G qs ((bs.take i).filter fun b => b.2.2) ∧ Same H G) ⟨[], upd_same, .nil, same_upd hD⟩ (fun i G _ ⟨_, _, _, sm⟩ => SqL.of (sm _ _ L.lst)) ?_ ?_
    · rintro i x G hx ⟨qs, hG, rr, sm⟩
      obtain ⟨p, hp, rfl⟩ := ref_of hx
      obtain ⟨b, hb, hT⟩ := (L.rf.same sm).get hp
      have il : i < bs.length := (List.getElem?_eq_some_iff.mp hb).1
      have rl := rr.len
      have fl := List.length_filter_le (fun b : Blk => b.2.2) (bs.take i)
      rw [List.length_take] at fl
      have hT' : G p = some (.tup [.int b.1, .int (b.2.1 : Nat), .bl b.2.2]) := hT
      refine ⟨rfl, _, rfl, p, _, _, _, rfl, rfl, SqT.of hT', rfl, _, rfl, ?_⟩
      have fa := filter_at (fun b => b.2.2) hb
      cases hq : b.2.2 with
      | true =>
        rw [hq] at fa
        refine iteT ⟨_, rfl, _, hG, (by rw [List.length_map]; omega), qs ++ [p], ?_, ?_, fun c o e => ?_⟩
        · rw [upd_same, List.map_append]
          rfl
        · rw [fa]
          refine (rr.mono fun c xs e => ?_).app (.one ?_)
          · rw [upd_ne (fun z => by rw [z, hG] at e; cases e)]
            exact e
          · rw [upd_ne (fun z => by rw [z, hG] at hT; cases hT)]
            exact hT
        · rw [upd_ne (ne_of_none e hD)]
          exact sm c o e
      | false =>
        rw [hq] at fa
        refine iteF ⟨qs, hG, ?_, sm⟩
        rw [fa]
        simpa using rr
    · rintro G ⟨qs, hG, rr, sm⟩
      rw [List.length_map, pl, List.take_length] at rr
      refine ⟨y, zp, bl, dx, ps, ns, n, bs, D, qs, _, rfl, L.same sm, hG, rr, Nat.le_trans (List.length_filter_le _ _) bn, fun b hb => (L.wf.ok b ((List.mem_filter.mp hb).1)).1, fun D2 rs H' hD2 sm2 h2 r2 => q D2 rs H' (sm.free hD2) (sm.trans sm2) h2 r2⟩
def spRegIn (K : PySem.W.Frag) : Sp := fun vs H Q _ => ∃ (y zp bl dx : Addr) (ps : List Addr) (ns : List Int) (n : Int) (bs : List Blk) (M : Addr) (qs : List Addr) (gs : List (Int × Int)) (k : Nat), vs = [.ref y, .ref M, .int k] ∧ Ly K H y zp bl dx ps ns n bs ∧ H M = some (.lst (qs.map V.ref)) ∧ Refs prV H qs gs ∧ gs.length ≤ 2000 ∧ (∀ g ∈ gs, 0 ≤ g.1 ∧ g.1 ≤ g.2) ∧ k < ns.length ∧
  ∀ H', Same H H' → Q (.int (regI ns k gs)) H'
theorem sc_regions_in : FnScope ["self", "gaps", "level", "low", "high"] ["self", "gaps", "level"] (defScope (inClass (top 29) 21)) := ⟨rfl, rfl, rfl, by decide +kernel, rfl, by decide +kernel, by decide +kernel⟩
theorem ok_regin (T : Tx K mg) (M_check_level : Mf P w K mg base 4 "Sizes" "check_level" ["self", "level"] (spCheckL K)) (D_count_regions : Df P w K mg base 7 "count_regions" ["sizes", "level", "low", "high"] (spCount K)) (F : FnP K "regions_in" "Layout.regions_in" (inClass (top 29) 21) f fd) :
    FnOk P w K mg base CX0 8 f fd ["self", "gaps", "level"] (spRegIn K) := by
  refine F.ok sc_regions_in (fun vs H Q E h => ?_) (fun cdv A outer s H vs Q E hr h => ⟨_, PSs.nox (pss_cons (ps_expr (pmeth M_check_level hr (pe_fld (pv 0) rfl) (pa_cons (pv 2) pa_nil))) (pss_one (ps_ret (pe_callB (cr_sum rfl) (by rfl) T.n_sum (by decide +kernel) (pa_cons (pe_lc (own := [("low", 3), ("high", 4)]) (g := gTup K 2 (gCons (gName 3) (gCons (gName 4) gNil))) rfl sc_regions_in.nd (pi_list (pv 1)) (blkOk_by (own := [("low", 3), ("high", 4)]) (N := ["self", "gaps", "level", "low", "high"]) (sc := defScope (inClass (top 29) 21)) (by decide +kernel)) (fun _ _ _ _ _ => pg_tup rfl (pgs_cons (pg_name (i := 3) sc_regions_in.nd rfl (Or.inl rfl)) (pgs_cons (pg_name (i := 4) sc_regions_in.nd rfl (Or.inl rfl)) pgs_nil))) (fun _ _ _ _ _ => pts_nil) (fun _ _ _ _ _ => (pcall D_count_regions hr (pa_cons (pfldB K (pv 0)) (pa_cons (pv 2) (pa_cons (pv 3) (pa_cons (pv 4) pa_nil))))))) pa_nil))))), ?_⟩)
  · obtain ⟨y, zp, bl, dx, ps, ns, n, bs, M, qs, gs, k, rfl, _⟩ := h
    rfl
  · obtain ⟨y, zp, bl, dx, ps, ns, n, bs, M, qs, gs, k, rfl, L, hM, rf, g2000, gk, hk, q⟩ := h
    have sl : sizeLine = 16777216 := sizeLine_eq
    have ql := rf.len
    obtain ⟨dz, l, z1, z2⟩ := id L.szs
    refine ⟨_, rfl, y, _, dx, _, _, rfl, L.at_, T.ly, T.nST, lay_st .., zp, dz, _, rfl, z1, szF_no l (by decide +kernel), _, rfl, zp, ns, k, rfl, L.szs, hk, ?_⟩
    refine ⟨_, rfl, M, rfl, ⟨_, SqL.of hM⟩, fun D hD => ?_⟩
    refine lc_list (K := K) (a := M) (xs := qs.map V.ref) (fun i G => G D = some (.lst (((gs.take i).map fun g => cntI (sz ns k) g.1 g.2).map V.int)) ∧ Same H G) ⟨upd_same, same_upd hD⟩ (fun i G _ ⟨_, sm⟩ => SqL.of (sm _ _ hM)) ?_ ?_
    · rintro i x G hx ⟨hG, sm⟩
      obtain ⟨p, hp, rfl⟩ := ref_of hx
      obtain ⟨g, hg, hT⟩ := (rf.same sm).get hp
      have hT' : G p = some (.tup [.int g.1, .int g.2]) := hT
      have il : i < gs.length := (List.getElem?_eq_some_iff.mp hg).1
      have LG := L.same sm
      obtain ⟨g1, g2⟩ := gk g (List.mem_of_getElem? hg)
      refine ⟨p, _, rfl, .inl (.inl hT'), rfl, _, _, rfl, _, _, rfl, rfl, rfl, ?_⟩
      refine ⟨_, rfl, y, _, dx, _, _, rfl, LG.at_, T.ly, T.nST, lay_st .., _, rfl, _, rfl, _, rfl, zp, ns, k, _, g.1, g.2, rfl, LG.szs, sz_at hk, (chain L.gd).pos _ hk, sz_le L.gd hk, g1, g2, ?_⟩
      refine ⟨_, hG, (by rw [List.length_map, List.length_map, List.length_take]; omega), ?_, fun c o e => ?_⟩
      · rw [upd_same, take_at hg, List.map_append, List.map_append]
        rfl
      · rw [upd_ne (ne_of_none e hD)]
        exact sm c o e
    · rintro G ⟨hG, sm⟩
      rw [List.length_map, ql, List.take_length] at hG
      exact ⟨D, _, rfl, SqL.of hG, q G sm⟩
def spClear (K : PySem.W.Frag) : Sp := fun vs H Q _ => ∃ (y zp bl dx : Addr) (ps : List Addr) (ns : List Int) (n : Int) (bs : List Blk) (k : Nat), vs = [.ref y, .int k] ∧ Ly K H y zp bl dx ps ns n bs ∧ k < ns.length ∧ ∀ H', Same H H' → Q (.int (clrI ns n bs k)) H'
theorem sc_clear_cells : FnScope ["self", "level", "gaps"] ["self", "level"] (defScope (inClass (top 29) 24)) := ⟨rfl, rfl, rfl, by decide +kernel, rfl, by decide +kernel, by decide +kernel⟩
theorem ok_clear (T : Tx K mg) (M_pinned_ranges : Mf P w K mg base 7 "Layout" "pinned_ranges" ["self"] (spPinned K)) (D_gaps_between : Df P w K mg base 1 "gaps_between" ["ranges", "length"] spGaps) (M_regions_in : Mf P w K mg base 8 "Layout" "regions_in" ["self", "gaps", "level"] (spRegIn K))
    (M_size : Mf P w K mg base 5 "Sizes" "size" ["self", "level"] (spSize K)) (F : FnP K "clear_cells" "Layout.clear_cells" (inClass (top 29) 24) f fd) : FnOk P w K mg base CX0 9 f fd ["self", "level"] (spClear K) := by
  refine F.ok sc_clear_cells (fun vs H Q E h => ?_) (fun cdv A outer s H vs Q E hr h => ⟨_, PSs.nox (pss_cons (ps_set (i := 2) sc_clear_cells.nd rfl (by first | exact Or.inl rfl | exact Or.inr rfl) (pcall D_gaps_between hr (pa_cons (pmeth0 M_pinned_ranges hr (pv 0)) (pa_cons (pe_fld (pv 0) rfl) pa_nil)))) (pss_one (ps_ret (pe_op op_mul (pmeth M_regions_in hr (pv 0) (pa_cons (pv 2) (pa_cons (pv 1) pa_nil))) (pmeth M_size hr (pe_fld (pv 0) rfl) (pa_cons (pv 1) pa_nil)))))), ?_⟩)
  · obtain ⟨y, zp, bl, dx, ps, ns, n, bs, k, rfl, _⟩ := h
    rfl
  · obtain ⟨y, zp, bl, dx, ps, ns, n, bs, k, rfl, L, hk, q⟩ := h
    have bn := L.ln
    have pr : (pinR ns bs).length ≤ 1000 := by
      unfold pinR
      rw [List.length_map]
      exact Nat.le_trans (List.length_filter_le _ _) bn
    refine ⟨_, rfl, y, dx, _, rfl, L.at_, lay_nm (by decide +kernel), y, zp, bl, dx, ps, ns, n, bs, rfl, L, fun D rs H1 hD s1 h1 r1 => ?_⟩
    have L1 := L.same s1
    refine ⟨_, rfl, y, _, dx, _, _, rfl, L1.at_, T.ly, T.nCC, lay_cc .., D, n, rs, _, rfl, h1, r1, pr, fun M qs H2 hM s2 h2 r2 => ?_⟩
    have L2 := L1.same s2
    refine ⟨_, rfl, y, dx, _, rfl, L2.at_, lay_nm (by decide +kernel), _, rfl, _, rfl, y, zp, bl, dx, ps, ns, n, bs, M, qs, _, k, rfl, L2, h2, r2, (by have := gaps_len (n := n) (pinR ns bs) 0; omega), gaps_ok (Int.le_refl 0) (fun r hr => ?_), hk, fun H3 s3 => ?_⟩
    · unfold pinR at hr
      obtain ⟨b, hb, rfl⟩ := List.mem_map.mp hr
      have bm := (List.mem_filter.mp hb).1
      have := (L.wf.ok b bm).2.1
      have := L.wf.pos L.gd bm
      show 0 ≤ b.1 + sz ns b.2.1
      omega
    · have L3 := L2.same s3
      obtain ⟨dz, l, z1, z2⟩ := id L3.szs
      have z := (chain L.gd).pos _ hk
      have zz := sz_le L.gd hk
      have w3 : -(2 ^ 64) < sz ns k := by omega
      have w4 : sz ns k < 2 ^ 64 := by omega
      exact ⟨_, rfl, y, _, dx, _, _, rfl, L3.at_, T.ly, T.nST, lay_st .., zp, dz, _, rfl, z1, szF_no l (by decide +kernel), _, rfl, zp, ns, k, _, rfl, L3.szs, sz_at hk, _, _, rfl, rfl, .inr ⟨w3, w4⟩, q H3 ((s1.trans s2).trans s3)⟩
end
end K23

set_option Elab.async false
set_option linter.all false
set_option maxRecDepth 100000
set_option maxHeartbeats 4000000
namespace K23
open PySem PySem.Spec PyProof.Rows L2 Gu Ex
def unpB (bs : List Blk) : List Blk := bs.filter fun b => !b.2.2
def lvK (cs : List Blk) : List (Key × V) := cs.map fun b => (Sum.inl b.1, V.int (b.2.1 : Nat))
theorem lvK_none {a : Int} : ∀ {cs : List Blk}, (∀ c ∈ cs, c.1 ≠ a) → valV (lvK cs) (Sum.inl a) = none
  | [], _ => rfl
  | c :: cs, h => by
    show valV ((Sum.inl c.1, V.int (c.2.1 : Nat)) :: lvK cs) (Sum.inl a) = none
    rw [valV_neg (fun e => h c List.mem_cons_self (Sum.inl.inj e))]
    exact lvK_none fun d hd => h d (List.mem_cons_of_mem _ hd)
theorem lvK_get : ∀ {cs : List Blk} {b : Blk}, cs.Pairwise (fun b c => b.1 < c.1) → b ∈ cs → valV (lvK cs) (Sum.inl b.1) = some (.int (b.2.1 : Nat))
  | c :: cs, b, hp, hb => by
    show valV ((Sum.inl c.1, V.int (c.2.1 : Nat)) :: lvK cs) (Sum.inl b.1) = _
    have hp2 := List.pairwise_cons.mp hp
    rcases List.mem_cons.mp hb with e | e
    · subst e
      exact valV_pos rfl
    · rw [valV_neg (fun z => by
        have h1 := hp2.1 b e
        have h2 : c.1 = b.1 := Sum.inl.inj z
        omega)]
      exact lvK_get hp2.2 e
theorem Wf.rise {ns : List Int} {n : Int} {bs : List Blk} (w : Wf ns n bs) (g : Good ns) : bs.Pairwise (fun b c => b.1 < c.1) := by
  refine List.pairwise_iff_getElem.mpr fun i j hi hj hij => ?_
  exact (w.lt g (List.getElem?_eq_getElem hi) (List.getElem?_eq_getElem hj) hij).2
/-- the cells of the unpinned blocks of level k or higher -/
def lseI (ns : List Int) (bs : List Blk) (k : Nat) : Int := (((unpB bs).filter fun b => decide (k ≤ b.2.1)).map fun b => sz ns b.2.1).sum
section
variable {P : Program} {w : World} {K : PySem.W.Frag} {mg : Str → Option Value} {base : Heap} {f : Addr} {fd : FuncData}
def spLevels (K : PySem.W.Frag) : Sp := fun vs H Q _ => ∃ (y zp bl dx : Addr) (ps : List Addr) (ns : List Int) (n : Int) (bs : List Blk), vs = [.ref y] ∧ Ly K H y zp bl dx ps ns n bs ∧ ∀ D H', H D = none → Same H H' → H' D = some (.dK (lvK (unpB bs))) → Q (.ref D) H'
theorem sc_unpinned_levels : FnScope ["self", "address", "level", "is_pinned"] ["self"] (defScope (inClass (top 29) 19)) := ⟨rfl, rfl, rfl, by decide +kernel, rfl, by decide +kernel, by decide +kernel⟩
theorem ok_levels (T : Tx K mg) (F : FnP K "unpinned_levels" "Layout.unpinned_levels" (inClass (top 29) 19) f fd) : FnOk P w K mg base CX0 1 f fd ["self"] (spLevels K) := by
  refine F.ok sc_unpinned_levels (fun vs H Q E h => ?_) (fun cdv A outer s H vs Q E hr h => ⟨_, PSs.nox (pss_one (ps_ret (pe_dc (own := [("address", 1), ("level", 2), ("is_pinned", 3)]) (g := gTup K 3 (gCons (gName 1) (gCons (gName 2) (gCons (gName 3) gNil)))) rfl sc_unpinned_levels.nd (pi_list (pe_fld (pv 0) rfl)) (blkOk_by (own := [("address", 1), ("level", 2), ("is_pinned", 3)]) (N := ["self", "address", "level", "is_pinned"]) (sc := defScope (inClass (top 29) 19)) (by decide +kernel)) (fun _ _ _ _ _ => pg_tup rfl (pgs_cons (pg_name (i := 1) sc_unpinned_levels.nd rfl (Or.inl rfl)) (pgs_cons (pg_name (i := 2) sc_unpinned_levels.nd rfl (Or.inl rfl)) (pgs_cons (pg_name (i := 3) sc_unpinned_levels.nd rfl (Or.inl rfl)) pgs_nil)))) (fun _ _ _ _ _ => (pts_one (pt_not (pt_val (pv 3))))) (fun _ _ _ _ _ => (pv 1)) (fun _ _ _ _ _ => (pv 2))))), ?_⟩)
  · obtain ⟨y, zp, bl, dx, ps, ns, n, bs, rfl, _⟩ := h
    rfl
  · obtain ⟨y, zp, bl, dx, ps, ns, n, bs, rfl, L, q⟩ := h
    have sl : sizeLine = 16777216 := sizeLine_eq
    have pl := L.rf.len
    have bn := L.ln
    refine ⟨_, rfl, y, _, dx, _, _, rfl, L.at_, T.ly, T.nBL, lay_bl .., bl, rfl, ⟨_, SqL.of L.lst⟩, fun D hD => ?_⟩
    refine dc_list (K := K) (a := bl) (xs := ps.map V.ref) (fun i G => G D = some (.dK (lvK ((bs.take i).filter fun b => !b.2.2))) ∧ Same H G) ⟨upd_same, same_upd hD⟩ (fun i G _ ⟨_, sm⟩ => SqL.of (sm _ _ L.lst)) ?_ ?_
    · rintro i x G hx ⟨hG, sm⟩
      obtain ⟨p, hp, rfl⟩ := ref_of hx
      obtain ⟨b, hb, hT⟩ := (L.rf.same sm).get hp
      have il : i < bs.length := (List.getElem?_eq_some_iff.mp hb).1
      have hT' : G p = some (.tup [.int b.1, .int (b.2.1 : Nat), .bl b.2.2]) := hT
      have fa := filter_at (fun b => !b.2.2) hb
      have fl := List.length_filter_le (fun b : Blk => !b.2.2) (bs.take i)
      rw [List.length_take] at fl
      refine ⟨p, _, rfl, .inl (.inl hT'), rfl, _, _, rfl, _, _, rfl, _, _, rfl, rfl, rfl, ?_⟩
      refine ⟨_, rfl, _, rfl, ?_⟩
      cases hq : b.2.2 with
      | true =>
        rw [hq] at fa
        refine iteF ⟨?_, sm⟩
        rw [fa]
        simpa using hG
      | false =>
        rw [hq] at fa
        have no : valV (lvK ((bs.take i).filter fun b => !b.2.2)) (Sum.inl b.1) = none := lvK_none fun c hc => by
          obtain ⟨j, hj, ej⟩ := mem_take_at (List.mem_filter.mp hc).1
          have := (L.wf.lt L.gd ej hb hj).2
          omega
        refine iteT ⟨_, rfl, _, rfl, _, Sum.inl b.1, rfl, hG, (by unfold lvK; rw [List.length_map]; omega), ?_, fun c o e => ?_⟩
        · rw [upd_same, putK_new _ no, fa]
          show _ = some (HO.dK (lvK (((bs.take i).filter fun b => !b.2.2) ++ [b])))
          unfold lvK
          rw [List.map_append]
          rfl
        · rw [upd_ne (ne_of_none e hD)]
          exact sm c o e
    · rintro G ⟨hG, sm⟩
      rw [List.length_map, pl, List.take_length] at hG
      exact q D G hD sm hG
def spLoose (K : PySem.W.Frag) : Sp := fun vs H Q _ => ∃ (y zp bl dx : Addr) (ps : List Addr) (ns : List Int) (n : Int) (bs : List Blk) (k : Nat), vs = [.ref y, .int k] ∧ Ly K H y zp bl dx ps ns n bs ∧ k < ns.length ∧ ∀ H', Same H H' → Q (.int (lseI ns bs k)) H'
theorem sc_unpinned_cells : FnScope ["self", "level", "levels", "address"] ["self", "level"] (defScope (inClass (top 29) 25)) := ⟨rfl, rfl, rfl, by decide +kernel, rfl, by decide +kernel, by decide +kernel⟩
theorem ok_loose (T : Tx K mg) (M_check_level : Mf P w K mg base 4 "Sizes" "check_level" ["self", "level"] (spCheckL K)) (M_unpinned_levels : Mf P w K mg base 1 "Layout" "unpinned_levels" ["self"] (spLevels K)) (M_size : Mf P w K mg base 5 "Sizes" "size" ["self", "level"] (spSize K))
    (F : FnP K "unpinned_cells" "Layout.unpinned_cells" (inClass (top 29) 25) f fd) : FnOk P w K mg base CX0 6 f fd ["self", "level"] (spLoose K) := by
  refine F.ok sc_unpinned_cells (fun vs H Q E h => ?_) (fun cdv A outer s H vs Q E hr h => ⟨_, PSs.nox (pss_cons (ps_expr (pmeth M_check_level hr (pe_fld (pv 0) rfl) (pa_cons (pv 1) pa_nil))) (pss_cons (ps_set (i := 2) sc_unpinned_cells.nd rfl (by first | exact Or.inl rfl | exact Or.inr rfl) (pmeth0 M_unpinned_levels hr (pv 0))) (pss_one (ps_ret (pe_callB (cr_sum rfl) (by rfl) T.n_sum (by decide +kernel) (pa_cons (pe_lock (pe_lc (own := [("address", 3)]) (g := gName 3) rfl sc_unpinned_cells.nd (pi_keys (pv 2)) (blkOk_by (own := [("address", 3)]) (N := ["self", "level", "levels", "address"]) (sc := defScope (inClass (top 29) 25)) (by decide +kernel)) (fun _ _ _ _ _ => pg_name (i := 3) sc_unpinned_cells.nd rfl (Or.inl rfl)) (fun _ _ _ _ _ => (pts_one (pt_cmpR op_ge (pe_dget (hu_of hr) (pv 2) (pv 3) (fun _ _ => rfl)) (pv 1) (nomark _)))) (fun _ _ _ _ _ => (pmethB K M_size hr (pfldB K (pv 0)) (pa_cons (pe_dget (hu_of hr) (pv 2) (pv 3) (fun _ _ => rfl)) pa_nil))))) pa_nil)))))), ?_⟩)
  · obtain ⟨y, zp, bl, dx, ps, ns, n, bs, k, rfl, _⟩ := h
    rfl
  · obtain ⟨y, zp, bl, dx, ps, ns, n, bs, k, rfl, L, hk, q⟩ := h
    have sl : sizeLine = 16777216 := sizeLine_eq
    have bn := L.ln
    obtain ⟨dz, l, z1, z2⟩ := id L.szs
    refine ⟨_, rfl, y, _, dx, _, _, rfl, L.at_, T.ly, T.nST, lay_st .., zp, dz, _, rfl, z1, szF_no l (by decide +kernel), _, rfl, zp, ns, k, rfl, L.szs, hk, ?_⟩
    refine ⟨_, rfl, y, dx, _, rfl, L.at_, lay_nm (by decide +kernel), y, zp, bl, dx, ps, ns, n, bs, rfl, L, fun d H1 hd s1 h1 => ?_⟩
    have pw : (unpB bs).Pairwise (fun b c => b.1 < c.1) := (L.wf.rise L.gd).sublist List.filter_sublist
    have ul : (unpB bs).length ≤ 1000 := Nat.le_trans (List.length_filter_le _ _) bn
    refine ⟨d, _, h1, trivial, fun od => ?_⟩
    refine ⟨_, rfl, d, od, rfl, .inl ⟨_, upd_same, fun D hD => ?_⟩⟩
    have nDd : D ≠ d := fun z => by
      rw [z, upd_same] at hD
      cases hD
    have hD1 : H1 D = none := by
      rw [upd_ne nDd] at hD
      exact hD
    have nDH : H D = none := s1.free hD1
    refine lc_it (walk_keys (kvs := lvK (unpB bs))) (fun i G => G D = some (.lst (((((unpB bs).take i).filter fun b => decide (k ≤ b.2.1)).map fun b => sz ns b.2.1).map V.int)) ∧ G d = some (.frz od (.dK (lvK (unpB bs)))) ∧ Same H G)
      ⟨upd_same, (by rw [upd_ne nDd.symm, upd_same]), fun c o e => by rw [upd_ne (ne_of_none e nDH), upd_ne (ne_of_none e hd)]; exact s1 c o e⟩ (fun i G _ hh => hh.2.1) ?_ ?_
    · rintro i x G G' hi ⟨hG, hfz, sm⟩ ⟨rfl, ky, v, hkv, rfl⟩
      have il : i < (unpB bs).length := by
        unfold lvK at hi
        rw [List.length_map] at hi
        exact hi
      obtain ⟨b, hb⟩ : ∃ b, (unpB bs)[i]? = some b := ⟨_, List.getElem?_eq_getElem il⟩
      have ek : ky = Sum.inl b.1 := by
        unfold lvK at hkv
        rw [List.getElem?_map, hb] at hkv
        exact (Prod.mk.inj (Option.some.inj hkv)).1.symm
      subst ek
      have bm := List.mem_of_getElem? hb
      have bk := (L.wf.ok b (List.mem_filter.mp bm).1).1
      have dg : DGet G' d (kV (Sum.inl b.1)) (some (.int (b.2.1 : Nat))) := .inl ⟨_, Sum.inl b.1, .inr ⟨od, hfz⟩, rfl, (lvK_get pw bm).symm⟩
      have LG := L.same sm
      obtain ⟨dz, l, z1, z2⟩ := id LG.szs
      have fa : ((unpB bs).take (i + 1)).filter (fun b => decide (k ≤ b.2.1)) = ((unpB bs).take i).filter (fun b => decide (k ≤ b.2.1)) ++ (if decide (k ≤ b.2.1) = true then [b] else []) := filter_at (fun b => decide (k ≤ b.2.1)) hb
      have fl := List.length_filter_le (fun b : Blk => decide (k ≤ b.2.1)) ((unpB bs).take i)
      rw [List.length_take] at fl
      refine ⟨rfl, _, rfl, _, rfl, d, _, rfl, dg, _, rfl, _, _, rfl, rfl, _, rfl, ?_⟩
      by_cases hc : k ≤ b.2.1
      · rw [if_pos (decide_eq_true hc)] at fa
        refine ifT (decide_eq_true (by omega)) ?_
        refine ⟨_, rfl, y, _, dx, _, _, rfl, LG.at_, T.ly, T.nST, lay_st .., zp, dz, _, rfl, z1, szF_no l (by decide +kernel), _, rfl, _, rfl, d, _, rfl, dg, zp, ns, b.2.1, _, rfl, LG.szs, sz_at bk, ?_⟩
        refine ⟨_, hG, (by rw [List.length_map, List.length_map]; omega), ?_, (by rw [upd_ne nDd.symm]; exact hfz), fun c o e => ?_⟩
        · rw [upd_same, fa, List.map_append, List.map_append]
          rfl
        · rw [upd_ne (ne_of_none e nDH)]
          exact sm c o e
      · rw [if_neg (fun z => hc (of_decide_eq_true z)), List.append_nil] at fa
        refine ifF (decide_eq_false (by omega)) ⟨?_, hfz, sm⟩
        rw [fa]
        exact hG
    · rintro G ⟨hG, hfz, sm⟩
      have e : (lvK (unpB bs)).length = (unpB bs).length := by
        unfold lvK
        rw [List.length_map]
      rw [e, List.take_length] at hG
      refine ⟨hfz, D, _, rfl, SqL.of (show (upd G d (.dK (lvK (unpB bs)))) D = _ by rw [upd_ne nDd]; exact hG), q _ fun c o ec => ?_⟩
      rw [upd_ne (ne_of_none ec hd)]
      exact sm c o ec
end
end K23

set_option Elab.async false
set_option linter.all false
set_option maxRecDepth 100000
set_option maxHeartbeats 4000000
namespace K23
open PySem PySem.Spec PyProof.Rows L2 Gu Ex
/-- a list of blocks at a -/
structure Bl (ns : List Int) (H : Hp) (a : Addr) (ps : List Addr) (bs : List Blk) : Prop where
  at_ : H a = some (.lst (ps.map V.ref))
  rf : Refs blkV H ps bs
  lv : ∀ b ∈ bs, b.2.1 < ns.length
  ln : bs.length ≤ 1000
theorem Bl.same {ns : List Int} {H H' : Hp} {a : Addr} {ps : List Addr} {bs : List Blk} (h : Bl ns H a ps bs) (s : Same H H') : Bl ns H' a ps bs := ⟨s _ _ h.at_, h.rf.same s, h.lv, h.ln⟩
def hitB (ns : List Int) (lo hi : Int) (b : Blk) : Bool := b.2.2 && (decide (b.1 < hi) && decide (lo < bEnd ns b))
def clearB (ns : List Int) (bs : List Blk) (lo hi : Int) : Bool := bs.all fun b => !hitB ns lo hi b
theorem all_at {bs : List Blk} {p : Blk → Bool} {i : Nat} {b : Blk} (h : bs[i]? = some b) (k : (bs.take i).all p = true) (hp : p b = true) : (bs.take (i + 1)).all p = true := by
  rw [take_at h, List.all_append, k]
  simp [hp]
theorem all_no {bs : List Blk} {p : Blk → Bool} {b : Blk} (h : b ∈ bs) (hp : p b = false) : bs.all p = false := by
  cases e : bs.all p with
  | false => rfl
  | true =>
    have := List.all_eq_true.mp e b h
    rw [hp] at this
    cases this
section
variable {P : Program} {w : World} {K : PySem.W.Frag} {mg : Str → Option Value} {base : Heap} {f : Addr} {fd : FuncData}
def spIsClear : Sp := fun vs H Q _ => ∃ (s a : Addr) (ns : List Int) (ps : List Addr) (bs : List Blk) (lo hi : Int), vs = [.ref s, .ref a, .int lo, .int hi] ∧ H s = some (.lst (ns.map V.int)) ∧ Bl ns H a ps bs ∧ Q (.bl (clearB ns bs lo hi)) H
theorem sc__law_is_clear : FnScope ["_law_sizes_here", "_law_blocks_here", "_law_start", "_law_end", "_law_address", "_law_level", "_law_is_pinned"] ["_law_sizes_here", "_law_blocks_here", "_law_start", "_law_end"] (defScope (top 38)) := ⟨rfl, rfl, rfl, by decide +kernel, rfl, by decide +kernel, by decide +kernel⟩
theorem ok_isclear (T : Tx K mg) (F : FnP K "_law_is_clear" "_law_is_clear" (top 38) f fd) : FnOk P w K mg base CX0 1 f fd ["_law_sizes_here", "_law_blocks_here", "_law_start", "_law_end"] spIsClear := by
  refine F.ok sc__law_is_clear (fun vs H Q E h => ?_) (fun cdv A outer s H vs Q E hr h => ⟨_, PSs.nox (pss_cons (ps_for PassesOwn.never rfl (pi_list (pv 1)) (pg_tup (by rfl) (pgs_cons (pg_name (i := 4) sc__law_is_clear.nd rfl (by first | exact Or.inl rfl | exact Or.inr rfl)) (pgs_cons (pg_name (i := 5) sc__law_is_clear.nd rfl (by first | exact Or.inl rfl | exact Or.inr rfl)) (pgs_cons (pg_name (i := 6) sc__law_is_clear.nd rfl (by first | exact Or.inl rfl | exact Or.inr rfl)) pgs_nil)))) (pss_one (ps_if (PW.pt (pw_and (pt_val (pv 6)) (pw_and (pt_cmpR op_lt (pv 4) (pv 3) (nomark _)) (pw_and1 (pt_cmpR op_lt (pv 2) (pe_op op_add (pv 4) (pe_ix ix_list (pv 0) (pv 5) (fun _ _ => rfl))) (nomark _)))))) (pss_one (ps_ret pe_bl)) pss_nil))) (pss_one (ps_ret pe_bl))), ?_⟩)
  · obtain ⟨s, a, ns, ps, bs, lo, hi, rfl, _⟩ := h
    rfl
  · obtain ⟨s, a, ns, ps, bs, lo, hi, rfl, hs, B, q⟩ := h
    have pl := B.rf.len
    refine ⟨_, rfl, a, rfl, ⟨_, SqL.of B.at_⟩, ?_⟩
    refine for_list (K := K) (a := a) (xs := ps.map V.ref) (fun i σ G => G = H ∧ (∃ y4 y5 y6, σ = [some (.ref s), some (.ref a), some (.int lo), some (.int hi), y4, y5, y6]) ∧ (bs.take i).all (fun b => !hitB ns lo hi b) = true) ⟨rfl, ⟨none, none, none, rfl⟩, rfl⟩ (fun i σ G _ ⟨e, _, _⟩ => by subst e; exact SqL.of B.at_) ?_ ?_
    · rintro i x σ G hx ⟨rfl, ⟨y4, y5, y6, rfl⟩, al⟩
      obtain ⟨p, hp, rfl⟩ := ref_of hx
      obtain ⟨b, hb, hT⟩ := B.rf.get hp
      have hT' : G p = some (.tup [.int b.1, .int (b.2.1 : Nat), .bl b.2.2]) := hT
      have bk := B.lv b (List.mem_of_getElem? hb)
      refine ⟨p, _, rfl, .inl (.inl hT'), rfl, _, _, rfl, _, _, rfl, _, _, rfl, rfl, ?_⟩
      have go : hitB ns lo hi b = false → (bs.take (i + 1)).all (fun b => !hitB ns lo hi b) = true := fun z => all_at hb al (by rw [z]; rfl)
      have no : hitB ns lo hi b = true → clearB ns bs lo hi = false := fun z => all_no (List.mem_of_getElem? hb) (by rw [z]; rfl)
      refine ⟨_, rfl, _, rfl, ?_⟩
      cases hq : b.2.2 with
      | false =>
        exact iteF ⟨rfl, ⟨_, _, _, rfl⟩, go (by unfold hitB; rw [hq]; rfl)⟩
      | true =>
        refine iteT ⟨_, rfl, _, rfl, _, _, rfl, rfl, _, rfl, ?_⟩
        by_cases h1 : b.1 < hi
        · refine ifT (decide_eq_true h1) ⟨_, rfl, _, rfl, _, rfl, _, rfl, s, _, _, _, rfl, rfl, SqL.of hs, at_sz bk, _, _, rfl, rfl, _, _, rfl, rfl, _, rfl, ?_⟩
          by_cases h2 : lo < b.1 + sz ns b.2.1
          · refine ifT (decide_eq_true h2) ?_
            rw [no (by unfold hitB; rw [hq, decide_eq_true h1, decide_eq_true (show lo < bEnd ns b from h2)]; rfl)] at q
            exact q
          · exact ifF (decide_eq_false h2) ⟨rfl, ⟨_, _, _, rfl⟩, go (by unfold hitB; rw [decide_eq_false (show ¬ lo < bEnd ns b from h2), Bool.and_false, Bool.and_false])⟩
        · exact ifF (decide_eq_false h1) ⟨rfl, ⟨_, _, _, rfl⟩, go (by unfold hitB; rw [decide_eq_false h1, Bool.false_and, Bool.and_false])⟩
    · rintro σ G ⟨rfl, ⟨y4, y5, y6, rfl⟩, al⟩
      rw [List.length_map, pl, List.take_length] at al
      have e : clearB ns bs lo hi = true := al
      rw [e] at q
      exact q
end
end K23

set_option Elab.async false
set_option linter.all false
set_option maxRecDepth 100000
set_option maxHeartbeats 4000000
namespace K23
open PySem PySem.Spec PyProof.Rows L2 Gu Ex
def offB (ns : List Int) (lo hi : Int) (b : Blk) : Bool := decide (hi ≤ b.1) || decide (bEnd ns b ≤ lo)
def spaceB (ns : List Int) (n : Int) (bs : List Blk) (k : Nat) (a : Int) : Bool := decide (sz ns k ∣ a) && (decide (a + sz ns k ≤ n) && bs.all (offB ns a (a + sz ns k)))
section
variable {P : Program} {w : World} {K : PySem.W.Frag} {mg : Str → Option Value} {base : Heap} {f : Addr} {fd : FuncData}
def spSpace : Sp := fun vs H Q _ => ∃ (s a : Addr) (ns : List Int) (n : Int) (ps : List Addr) (bs : List Blk) (k : Nat) (ad : Int), vs = [.ref s, .int n, .ref a, .int k, .int ad] ∧ H s = some (.lst (ns.map V.int)) ∧ Bl ns H a ps bs ∧ Good ns ∧ k < ns.length ∧ 0 ≤ ad ∧ ad ≤ 1000000 ∧ ∀ H', Same H H' → Q (.bl (spaceB ns n bs k ad)) H'
theorem sc__law_has_space : FnScope ["_law_sizes_here", "_law_length", "_law_blocks_here", "_law_level", "_law_address", "_law_end", "_law_one"] ["_law_sizes_here", "_law_length", "_law_blocks_here", "_law_level", "_law_address"] (defScope (top 35)) := ⟨rfl, rfl, rfl, by decide +kernel, rfl, by decide +kernel, by decide +kernel⟩
theorem ok_space (T : Tx K mg) (F : FnP K "_law_has_space" "_law_has_space" (top 35) f fd) : FnOk P w K mg base CX0 1 f fd ["_law_sizes_here", "_law_length", "_law_blocks_here", "_law_level", "_law_address"] spSpace := by
  refine F.ok sc__law_has_space (fun vs H Q E h => ?_) (fun cdv A outer s H vs Q E hr h => ⟨_, PSs.nox (pss_cons (ps_set (i := 5) sc__law_has_space.nd rfl (by first | exact Or.inl rfl | exact Or.inr rfl) (pe_op op_add (pv 4) (pe_ix ix_list (pv 0) (pv 3) (fun _ _ => rfl)))) (pss_cons (ps_if (PW.pt (pw_or (pt_cmpR op_ne (pe_op op_mod (pv 4) (pe_ix ix_list (pv 0) (pv 3) (fun _ _ => rfl))) pe_int (nomark _)) (pw_or1 (pt_cmpR op_gt (pv 5) (pv 1) (nomark _))))) (pss_one (ps_ret pe_bl)) pss_nil) (pss_one (ps_ret (pe_callB (cr_all rfl) (by rfl) T.n_all (by decide +kernel) (pa_cons (pe_lc (own := [("_law_one", 6)]) (g := gName 6) rfl sc__law_has_space.nd (pi_list (pv 2)) (blkOk_by (own := [("_law_one", 6)]) (N := ["_law_sizes_here", "_law_length", "_law_blocks_here", "_law_level", "_law_address", "_law_end", "_law_one"]) (sc := defScope (top 35)) (by decide +kernel)) (fun _ _ _ _ _ => pg_name (i := 6) sc__law_has_space.nd rfl (Or.inl rfl)) (fun _ _ _ _ _ => pts_nil) (fun _ _ _ _ _ => (pe_or (pe_cmpR op_ge (pe_ix (r := rIxT K) ix_tup (pv 6) pe_int (fun _ _ => rfl)) (pv 5) (nomark _)) (pe_one (pe_cmpR op_le (pe_op op_add (pe_ix (r := rIxT K) ix_tup (pv 6) pe_int (fun _ _ => rfl)) (pe_ix (r := rIxL K) ix_list (pv 0) (pe_ix (r := rIxT K) ix_tup (pv 6) pe_int (fun _ _ => rfl)) (fun _ _ => rfl))) (pv 4) (nomark _)))))) pa_nil)))))), ?_⟩)
  · obtain ⟨s, a, ns, n, ps, bs, k, ad, rfl, _⟩ := h
    rfl
  · obtain ⟨s, a, ns, n, ps, bs, k, ad, rfl, hs, B, g, hk, a0, a1, q⟩ := h
    have pl := B.rf.len
    have bn := B.ln
    have sl : sizeLine = 16777216 := sizeLine_eq
    have z1 := (chain g).pos k hk
    refine ⟨_, rfl, _, rfl, _, rfl, s, _, _, _, rfl, rfl, SqL.of hs, at_sz hk, _, _, rfl, rfl, ?_⟩
    refine ⟨_, rfl, _, rfl, _, rfl, s, _, _, _, rfl, rfl, SqL.of hs, at_sz hk, _, _, rfl, rfl, by omega, ?_⟩
    by_cases hd : ad % sz ns k = 0
    case neg =>
      refine ⟨rfl, _, rfl, ifT (by rw [vF hd]; rfl) ?_⟩
      have e : spaceB ns n bs k ad = false := by
        unfold spaceB
        rw [decide_eq_false (fun z => hd (Int.emod_eq_zero_of_dvd z))]
        rfl
      have q' := q H (fun _ _ e => e)
      rw [e] at q'
      exact q'
    refine ⟨rfl, _, rfl, ifF (by rw [vT hd]; rfl) ?_⟩
    refine ⟨_, rfl, _, rfl, _, _, rfl, rfl, _, rfl, ?_⟩
    by_cases hl : n < ad + sz ns k
    · refine ifT (decide_eq_true hl) ?_
      have e : spaceB ns n bs k ad = false := by
        unfold spaceB
        rw [decide_eq_false (show ¬ ad + sz ns k ≤ n by omega), Bool.false_and, Bool.and_false]
      have q' := q H (fun _ _ e => e)
      rw [e] at q'
      exact q'
    refine ifF (decide_eq_false hl) ?_
    have e : spaceB ns n bs k ad = bs.all (offB ns ad (ad + sz ns k)) := by
      unfold spaceB
      rw [decide_eq_true (show ad + sz ns k ≤ n by omega), decide_eq_true (Int.dvd_of_emod_eq_zero hd)]
      rfl
    rw [e] at q
    refine ⟨_, rfl, a, rfl, ⟨_, SqL.of B.at_⟩, fun D hD => ?_⟩
    refine lc_list (K := K) (a := a) (xs := ps.map V.ref) (fun i G => G D = some (.lst (((bs.take i).map (offB ns ad (ad + sz ns k))).map V.bl)) ∧ Same H G) ⟨upd_same, same_upd hD⟩ (fun i G _ ⟨_, sm⟩ => SqL.of (sm _ _ B.at_)) ?_ ?_
    · rintro i x G hx ⟨hG, sm⟩
      obtain ⟨p, hp, rfl⟩ := ref_of hx
      obtain ⟨b, hb, hT⟩ := (B.rf.same sm).get hp
      have hT' : G p = some (.tup [.int b.1, .int (b.2.1 : Nat), .bl b.2.2]) := hT
      have bk := B.lv b (List.mem_of_getElem? hb)
      have il : i < bs.length := (List.getElem?_eq_some_iff.mp hb).1
      have fin : ∀ v : Bool, v = offB ns ad (ad + sz ns k) b → ∃ xs, G D = some (.lst xs) ∧ xs.length < sizeLine ∧ (upd G D (.lst (xs ++ [.bl v]))) D = some (.lst (((bs.take (i + 1)).map (offB ns ad (ad + sz ns k))).map V.bl)) ∧ Same H (upd G D (.lst (xs ++ [.bl v]))) := by
        rintro v rfl
        refine ⟨_, hG, (by rw [List.length_map, List.length_map, List.length_take]; omega), ?_, fun c o e => ?_⟩
        · rw [upd_same, take_at hb, List.map_append, List.map_append]
          rfl
        · rw [upd_ne (ne_of_none e hD)]
          exact sm c o e
      refine ⟨rfl, _, rfl, p, _, _, _, rfl, rfl, .inl (.inl hT'), rfl, _, rfl, _, _, rfl, rfl, _, rfl, ?_⟩
      by_cases h1 : ad + sz ns k ≤ b.1
      · refine ifT (decide_eq_true h1) ?_
        exact fin true (by unfold offB; rw [decide_eq_true h1]; rfl)
      · refine ifF (decide_eq_false h1) ?_
        refine ⟨_, rfl, p, _, _, _, rfl, rfl, .inl (.inl hT'), rfl, _, rfl, _, rfl, p, _, _, _, rfl, rfl, .inl (.inl hT'), rfl, s, _, _, _, rfl, rfl, SqL.of (sm _ _ hs), at_sz bk, _, _, rfl, rfl, _, rfl, _, _, rfl, rfl, ?_⟩
        exact fin _ (by unfold offB; rw [decide_eq_false h1]; rfl)
    · rintro G ⟨hG, sm⟩
      rw [List.length_map, pl, List.take_length] at hG
      refine ⟨D, _, rfl, SqL.of hG, ?_⟩
      rw [List.all_map]
      exact q G sm
end
end K23

set_option Elab.async false
set_option linter.all false
set_option maxRecDepth 100000
set_option maxHeartbeats 4000000
namespace K23
open PySem PySem.Spec PyProof.Rows L2 Gu Ex
def clearAt (ns : List Int) (bs : List Blk) (k : Nat) (i : Nat) : Bool := clearB ns bs ((i : Int) * sz ns k) ((i : Int) * sz ns k + sz ns k)
def cntC (ns : List Int) (bs : List Blk) (k : Nat) (m : Nat) : Nat := ((List.range m).filter (clearAt ns bs k)).length
def dueI (ns : List Int) (n : Int) (bs : List Blk) (k : Nat) : Int := sz ns k * (cntC ns bs k (n / sz ns k).toNat : Nat)
theorem cntC_succ (ns : List Int) (bs : List Blk) (k m : Nat) : cntC ns bs k (m + 1) = cntC ns bs k m + (if clearAt ns bs k m = true then 1 else 0) := by
  unfold cntC
  rw [List.range_succ, List.filter_append, List.length_append]
  cases h : clearAt ns bs k m <;> simp [List.filter, h]
theorem cntC_le (ns : List Int) (bs : List Blk) (k m : Nat) : cntC ns bs k m ≤ m := by
  unfold cntC
  exact Nat.le_trans (List.length_filter_le _ _) (by simp)
section
variable {P : Program} {w : World} {K : PySem.W.Frag} {mg : Str → Option Value} {base : Heap} {f : Addr} {fd : FuncData}
def spDue : Sp := fun vs H Q _ => ∃ (s a : Addr) (ns : List Int) (n : Int) (ps : List Addr) (bs : List Blk) (k : Nat), vs = [.ref s, .int n, .ref a, .int k] ∧ H s = some (.lst (ns.map V.int)) ∧ Bl ns H a ps bs ∧ Good ns ∧ k < ns.length ∧ 1 ≤ n ∧ n ≤ 1000 ∧ ∀ H', Same H H' → Q (.int (dueI ns n bs k)) H'
theorem sc__law_due_clear : FnScope ["_law_sizes_here", "_law_length", "_law_blocks_here", "_law_level", "_law_size", "_law_k"] ["_law_sizes_here", "_law_length", "_law_blocks_here", "_law_level"] (defScope (top 39)) := ⟨rfl, rfl, rfl, by decide +kernel, rfl, by decide +kernel, by decide +kernel⟩
theorem ok_due (T : Tx K mg) (D__law_is_clear : Df P w K mg base 1 "_law_is_clear" ["_law_sizes_here", "_law_blocks_here", "_law_start", "_law_end"] spIsClear) (F : FnP K "_law_due_clear" "_law_due_clear" (top 39) f fd) : FnOk P w K mg base CX0 2 f fd ["_law_sizes_here", "_law_length", "_law_blocks_here", "_law_level"] spDue := by
  refine F.ok sc__law_due_clear (fun vs H Q E h => ?_) (fun cdv A outer s H vs Q E hr h => ⟨_, PSs.nox (pss_cons (ps_set (i := 4) sc__law_due_clear.nd rfl (by first | exact Or.inl rfl | exact Or.inr rfl) (pe_ix ix_list (pv 0) (pv 3) (fun _ _ => rfl))) (pss_one (ps_ret (pe_op op_mul (pv 4) (pe_callB call_len_seq (by rfl) T.n_len (by decide +kernel) (pa_cons (pe_lc (own := [("_law_k", 5)]) (g := gName 5) rfl sc__law_due_clear.nd (pi_range1 rfl T.n_range (pa_cons (pe_op op_fdivW (pv 1) (pv 4)) pa_nil)) (blkOk_by (own := [("_law_k", 5)]) (N := ["_law_sizes_here", "_law_length", "_law_blocks_here", "_law_level", "_law_size", "_law_k"]) (sc := defScope (top 39)) (by decide +kernel)) (fun _ _ _ _ _ => pg_name (i := 5) sc__law_due_clear.nd rfl (Or.inl rfl)) (fun _ _ _ _ _ => (pts_one (pt_val (pcall D__law_is_clear hr (pa_cons (pv 0) (pa_cons (pv 2) (pa_cons (pe_op op_mul (pv 5) (pv 4)) (pa_cons (pe_op op_add (pe_op op_mul (pv 5) (pv 4)) (pv 4)) pa_nil)))))))) (fun _ _ _ _ _ => (pv 5))) pa_nil)))))), ?_⟩)
  · obtain ⟨s, a, ns, n, ps, bs, k, rfl, _⟩ := h
    rfl
  · obtain ⟨s, a, ns, n, ps, bs, k, rfl, hs, B, g, hk, n1, n2, q⟩ := h
    have sl : sizeLine = 16777216 := sizeLine_eq
    have z1 := (chain g).pos k hk
    have z2 := sz_le g hk
    have j0 : 0 ≤ n / sz ns k := Int.ediv_nonneg (by omega) (by omega)
    have j1 : n / sz ns k ≤ 1000 := Int.le_trans (Int.ediv_le_self _ (by omega)) n2
    refine ⟨_, rfl, _, rfl, s, _, _, _, rfl, rfl, SqL.of hs, at_sz hk, ?_⟩
    refine ⟨_, rfl, _, rfl, _, rfl, _, _, rfl, rfl, wide_div (b := 30) (by omega) (by omega) (by decide) (by decide), n / sz ns k, rfl, by omega, by omega, fun D hD => ?_⟩
    refine lc_range (fun i G => ∃ xs, G D = some (.lst xs) ∧ xs.length = cntC ns bs k i ∧ Same H G) ⟨[], upd_same, rfl, same_upd hD⟩ ?_ ?_
    · rintro i G hi ⟨xs, hG, xl, sm⟩
      have cl := cntC_le ns bs k i
      have B' := B.same sm
      have cs := cntC_succ ns bs k i
      refine ⟨rfl, _, rfl, _, rfl, _, rfl, _, rfl, _, _, rfl, rfl, .inl ⟨by omega, by omega⟩, _, rfl, _, rfl, _, _, rfl, rfl, .inl ⟨by omega, by omega⟩, _, rfl, _, _, rfl, rfl, s, a, ns, ps, bs, _, _, rfl, sm _ _ hs, B', _, rfl, ?_⟩
      rw [show ((0 : Int) + (i : Int)) = (i : Int) from Int.zero_add _]
      by_cases hc : clearAt ns bs k i = true
      · rw [if_pos hc] at cs
        refine ifT hc ⟨_, rfl, _, hG, (by omega), xs ++ [_], upd_same, (by rw [List.length_append, List.length_singleton, xl, cs]), fun c o e => ?_⟩
        rw [upd_ne (ne_of_none e hD)]
        exact sm c o e
      · rw [if_neg hc] at cs
        exact ifF (by cases e : clearAt ns bs k i with | true => exact absurd e hc | false => exact e) ⟨xs, hG, by rw [xl, cs]; rfl, sm⟩
    · rintro G ⟨xs, hG, xl, sm⟩
      refine ⟨D, _, rfl, .inl (SqL.of hG), _, _, rfl, rfl, ?_⟩
      rw [xl]
      have cl := cntC_le ns bs k (n / sz ns k).toNat
      exact ⟨.inl ⟨by omega, by omega⟩, q G sm⟩
end
end K23

set_option Elab.async false
set_option linter.all false
set_option maxRecDepth 100000
set_option maxHeartbeats 4000000
namespace K23
open PySem PySem.Spec PyProof.Rows L2 Gu Ex
theorem sz_lt {ns : List Int} (g : Good ns) {j : Nat} : ∀ {k : Nat}, j < k → k < ns.length → sz ns j < sz ns k
  | 0, h, _ => absurd h (Nat.not_lt_zero _)
  | k + 1, h, hk => by
    have u := (g.up k _ _ (sz_at (by omega)) (sz_at hk)).1
    by_cases e : j = k
    · rw [e]
      exact u
    · have := sz_lt g (j := j) (k := k) (by omega) (by omega)
      omega
/-- what is left and what is found before the turns of the sizes below i -/
def Wl (ns : List Int) (c : Int) (k i : Nat) (r f : Int) : Prop := (i = ns.length ∧ r = c ∧ f = 0) ∨ (i < ns.length ∧ r = c % sz ns i ∧ f = c - c % sz ns (max i k))
theorem Wl.next {ns : List Int} (g : Good ns) {c : Int} {k i : Nat} {r f r2 : Int} (h : Wl ns c k (i + 1) r f) (hk : k < ns.length) (c0 : 0 ≤ c) (r0 : 0 ≤ r2) (r1 : r2 < sz ns i) (rd : sz ns i ∣ r - r2) (hi : i + 1 ≤ ns.length) : Wl ns c k i r2 (f + (if sz ns k ≤ sz ns i then r - r2 else 0)) := by
  have e : c % sz ns i = r2 := by
    have e1 : r % sz ns i = r2 := by
      obtain ⟨q, hq⟩ := rd
      rw [show r = r2 + sz ns i * q by omega, Int.add_mul_emod_self_left]
      exact Int.emod_eq_of_lt r0 r1
    rcases h with ⟨_, h1, _⟩ | ⟨h1, h2, _⟩
    · rw [← h1]
      exact e1
    · rw [← e1, h2]
      exact (Int.emod_emod_of_dvd _ ((chain g).dvd (Nat.le_succ i) h1)).symm
  refine .inr ⟨by omega, e.symm, ?_⟩
  by_cases hc : k ≤ i
  · have le : sz ns k ≤ sz ns i := by
      by_cases z : k = i
      · rw [z]; exact Int.le_refl _
      · exact Int.le_of_lt (sz_lt g (by omega) (by omega))
    rw [if_pos le, show max i k = i by omega, e]
    rcases h with ⟨_, h1, h2⟩ | ⟨h1, h2, h3⟩
    · omega
    · rw [show max (i + 1) k = i + 1 by omega] at h3
      omega
  · have lt := sz_lt g (j := i) (k := k) (by omega) hk
    rw [if_neg (by omega), show max i k = k by omega, Int.add_zero]
    rcases h with ⟨h1, _, _⟩ | ⟨h1, h2, h3⟩
    · omega
    · rw [show max (i + 1) k = k by omega] at h3
      exact h3
section
variable {P : Program} {w : World} {K : PySem.W.Frag} {mg : Str → Option Value} {base : Heap} {f : Addr} {fd : FuncData}
def spWholeL : Sp := fun vs H Q _ => ∃ (s : Addr) (ns : List Int) (c : Int) (k : Nat), vs = [.ref s, .int c, .int k] ∧ H s = some (.lst (ns.map V.int)) ∧ Good ns ∧ k < ns.length ∧ 0 ≤ c ∧ c ≤ 1000 ∧ ∀ H', Same H H' → Q (.int (c - c % sz ns k)) H'
theorem sc__law_due_whole : FnScope ["_law_sizes_here", "_law_cells", "_law_level", "_law_size", "_law_rest", "_law_found"] ["_law_sizes_here", "_law_cells", "_law_level"] (defScope (top 40)) := ⟨rfl, rfl, rfl, by decide +kernel, rfl, by decide +kernel, by decide +kernel⟩
theorem ok_wholeL (T : Tx K mg) (F : FnP K "_law_due_whole" "_law_due_whole" (top 40) f fd) : FnOk P w K mg base CX0 1 f fd ["_law_sizes_here", "_law_cells", "_law_level"] spWholeL := by
  refine F.ok sc__law_due_whole (fun vs H Q E h => ?_) (fun cdv A outer s H vs Q E hr h => ⟨_, PSs.nox (pss_cons (ps_par (by rfl) sc__law_due_whole.nd (i := 4) (j := 5) rfl rfl (by decide) rfl rfl (pa_cons (pv 1) (pa_cons pe_int pa_nil)) (by rfl)) (pss_cons (ps_for PassesOwn.never rfl (pi_list (pe_revL (pv 0))) (pg_name (i := 3) sc__law_due_whole.nd rfl (by first | exact Or.inl rfl | exact Or.inr rfl)) (pss_one (ps_while PassesOwn.never (pt_cmpR op_ge (pv 4) (pv 3) (nomark _)) (pss_cons (ps_set (i := 4) sc__law_due_whole.nd rfl (by first | exact Or.inl rfl | exact Or.inr rfl) (pe_op op_sub (pv 4) (pv 3))) (pss_one (ps_set (i := 5) sc__law_due_whole.nd rfl (by first | exact Or.inl rfl | exact Or.inr rfl) (pe_op op_add (pv 5) (pe_ifExp (pt_cmpR op_ge (pv 3) (pe_ix ix_list (pv 0) (pv 2) (fun _ _ => rfl)) (nomark _)) (pv 3) pe_int)))))))) (pss_one (ps_ret (pv 5))))), ?_⟩)
  · obtain ⟨s, ns, c, k, rfl, _⟩ := h
    rfl
  · obtain ⟨s, ns, c, k, rfl, hs, g, hk, c0, c1, q⟩ := h
    have sl : sizeLine = 16777216 := sizeLine_eq
    refine ⟨_, rfl, _, _, rfl, _, rfl, s, _, rfl, SqL.of hs, fun R hR => ?_⟩
    have hR' : (upd H R (.lst (ns.map V.int).reverse)) R = some (.lst (ns.map V.int).reverse) := upd_same
    have smR : Same H (upd H R (.lst (ns.map V.int).reverse)) := same_upd hR
    generalize upd H R (.lst (ns.map V.int).reverse) = G0 at hR' smR
    refine ⟨R, rfl, ⟨_, SqL.of hR'⟩, ?_⟩
    refine for_list (K := K) (a := R) (xs := (ns.map V.int).reverse) (fun i σ G => G = G0 ∧ ∃ (x : Option V) (r f : Int), σ = [some (.ref s), some (.int c), some (.int k), x, some (.int r), some (.int f)] ∧ Wl ns c k (ns.length - i) r f ∧ 0 ≤ r ∧ r ≤ 1000) ⟨rfl, none, c, 0, rfl, .inl ⟨rfl, rfl, rfl⟩, c0, c1⟩ (fun i σ G _ ⟨e, _⟩ => by subst e; exact SqL.of hR') ?_ ?_
    · rintro i x σ G hx ⟨rfl, x3, r, f, rfl, wl, r0, r1⟩
      obtain ⟨hil, ex⟩ := List.getElem?_eq_some_iff.mp hx
      rw [List.length_reverse, List.length_map] at hil
      have jl : ns.length - 1 - i < ns.length := by omega
      have ex2 : x = .int (sz ns (ns.length - 1 - i)) := by
        rw [List.getElem?_reverse (by rw [List.length_map]; exact hil), List.length_map, List.getElem?_map, sz_at jl] at hx
        exact (Option.some.inj hx).symm
      subst ex2
      have z1 := (chain g).pos _ jl
      rw [show ns.length - i = (ns.length - 1 - i) + 1 by omega] at wl
      refine ⟨fun m σ G' => G' = G ∧ ∃ (r2 : Int), m = r2.toNat ∧ 0 ≤ r2 ∧ r2 ≤ r ∧ sz ns (ns.length - 1 - i) ∣ r - r2 ∧ σ = [some (.ref s), some (.int c), some (.int k), some (.int (sz ns (ns.length - 1 - i))), some (.int r2), some (.int (f + (if sz ns k ≤ sz ns (ns.length - 1 - i) then r - r2 else 0)))], ⟨_, rfl, r, rfl, r0, Int.le_refl _, (by rw [Int.sub_self]; exact Int.dvd_zero _), ?_⟩, ?_⟩
      · rw [Int.sub_self, ite_self, Int.add_zero]
        rfl
      · rintro m σ G' ⟨rfl, r2, rfl, a0, a1, ad, rfl⟩
        refine ⟨_, rfl, _, rfl, _, _, rfl, rfl, _, rfl, ?_⟩
        by_cases hc : sz ns (ns.length - 1 - i) ≤ r2
        · refine ifT (decide_eq_true hc) ?_
          refine ⟨fun σ' H' => H' = G' ∧ σ' = [some (.ref s), some (.int c), some (.int k), some (.int (sz ns (ns.length - 1 - i))), some (.int (r2 - sz ns (ns.length - 1 - i))), some (.int (f + (if sz ns k ≤ sz ns (ns.length - 1 - i) then r - (r2 - sz ns (ns.length - 1 - i)) else 0)))], ?_, ?_⟩
          · rintro σ' H' ⟨rfl, rfl⟩
            refine ⟨(r2 - sz ns (ns.length - 1 - i)).toNat, by omega, rfl, _, rfl, by omega, by omega, ?_, rfl⟩
            rw [show r - (r2 - sz ns (ns.length - 1 - i)) = (r - r2) + sz ns (ns.length - 1 - i) by omega]
            exact Int.dvd_add ad (Int.dvd_refl _)
          · refine ⟨_, rfl, _, rfl, _, _, rfl, rfl, _, rfl, _, rfl, _, rfl, _, rfl, s, _, _, _, rfl, rfl, SqL.of (smR _ _ hs), at_sz hk, _, _, rfl, rfl, _, rfl, ?_⟩
            by_cases hz : sz ns k ≤ sz ns (ns.length - 1 - i)
            · refine ifT (decide_eq_true hz) ⟨_, rfl, _, _, rfl, rfl, rfl, ?_⟩
              rw [if_pos hz, if_pos hz, show r - (r2 - sz ns (ns.length - 1 - i)) = r - r2 + sz ns (ns.length - 1 - i) by omega, ← Int.add_assoc]
              rfl
            · refine ifF (decide_eq_false hz) ⟨_, _, rfl, rfl, rfl, ?_⟩
              rw [if_neg hz, if_neg hz]
              show [some (V.ref s), some (V.int c), some (V.int (k : Nat)), some (V.int (sz ns (ns.length - 1 - i))), some (V.int (r2 - sz ns (ns.length - 1 - i))), some (V.int (f + 0 + 0))] = _
              rw [Int.add_zero, Int.add_zero]
        · refine ifF (decide_eq_false hc) ⟨rfl, _, r2, _, rfl, ?_, a0, by omega⟩
          rw [show ns.length - (i + 1) = ns.length - 1 - i by omega]
          exact wl.next g hk c0 a0 (by omega) ad (by omega)
    · rintro σ G ⟨rfl, x3, r, f, rfl, wl, r0, r1⟩
      rw [List.length_reverse, List.length_map, Nat.sub_self] at wl
      refine ⟨_, rfl, ?_⟩
      rcases wl with ⟨h1, _⟩ | ⟨_, _, h2⟩
      · have := g.len.1
        omega
      · rw [show max 0 k = k by omega] at h2
        rw [h2]
        exact q G smR
end
end K23

set_option Elab.async false
set_option linter.all false
set_option maxRecDepth 100000
set_option maxHeartbeats 4000000
/-! enumerate over a tuple -/
namespace PySem
open Sem (wp)
open AutoSeq1 (wpAny_loadPart')
theorem meets_enumerate_newT (l : Addr) (items : Array Value) (n : Nat) (dct : Option Addr) (sl : Array (Option Value)) :
    Meets (Builtin.«enumerate.__new__» ⟨[.type "enumerate", .ref l], []⟩) (fun _ R s => s.heap.get? l = some { cls := .type "tuple", dict := dct, data := .seq items n, slots := sl } ∧
      R (.ok (.ret (.ref (s.heap.push { cls := .type "tuple_iterator", data := .fields #[.ref l, .int 0 0] }).objs.size)))
        { s with heap := (s.heap.push { cls := .type "tuple_iterator", data := .fields #[.ref l, .int 0 0] }).push { cls := .type "enumerate", data := .fields #[.none, .bool false, .ref s.heap.objs.size, rawInt 0, .none, .none] } }) :=
  .of_wp fun prog w A R s h => by
    obtain ⟨hp, g, d, tk, os⟩ := s; obtain ⟨hl, h⟩ := h
    have hsub := sub_enumerate
    have hL : Heap.IsTuple (Shared.heap ⟨hp, g, d, tk, os⟩) l items := ⟨_, hl, rfl, n, rfl⟩
    wp_walk using wpAny_loadPart' hl
    refine wpAny_stack_any fun st => wpAny_pure ?_
    split
    · rename_i c _ _ _ _ _
      cases (c == Value.type "enumerate")
      · wp_walk using wpAny_loadPart' hl, wpAny_pyIter_tuple hL
        exact ⟨_, rfl, h⟩
      · wp_walk using wpAny_loadPart' hl, wpAny_pyIter_tuple hL
        exact ⟨_, rfl, h⟩
    · wp_walk using wpAny_loadPart' hl, wpAny_pyIter_tuple hL
      exact ⟨_, rfl, h⟩
section
variable {prog : Program} {w : World} {A : Around} {E : Value → Shared → Prop} {s : Shared}
theorem call_enumerate_tuple {l : Addr} {items : Array Value} {Q : Value → Shared → Prop} (hL : s.heap.IsTuple l items)
    (h : ∀ h', IsEnum h' (s.heap.objs.size + 1) s.heap.objs.size 0 .none → h'.IsTupleIter s.heap.objs.size l 0 → h'.objs.size = s.heap.objs.size + 2 →
      (∀ b o, s.heap.get? b = some o → h'.get? b = some o) → Q (.ref (s.heap.objs.size + 1)) { s with heap := h' }) :
    wpAny (model prog w) A (call (.type "enumerate") [.ref l]) Q E s := by
  obtain ⟨⟨c, dct, dt, sl⟩, hl, hc, n, hd⟩ := hL
  replace hc : c = .type "tuple" := hc
  replace hd : dt = .seq items n := hd
  subst hc hd
  refine callType_new F.called_enumerate (by decide) (F.typeCall_enumerate_1 _) (F.newCall_enumerate_1 _) (fun obj => F.args_object_init_2 obj _) F.entry_enumerate_new
    (meets_enumerate_newT l items n dct sl) ⟨hl, ?_⟩
  have hz : (s.heap.push { cls := .type "tuple_iterator", data := .fields #[.ref l, .int 0 0] }).objs.size = s.heap.objs.size + 1 := Heap.size_push ..
  show _ ∧ _
  rw [hz]
  have he : IsEnum ((s.heap.push { cls := .type "tuple_iterator", data := .fields #[.ref l, .int 0 0] }).push
      { cls := .type "enumerate", data := .fields #[.none, .bool false, .ref s.heap.objs.size, rawInt 0, .none, .none] }) (s.heap.objs.size + 1) s.heap.objs.size 0 .none := by
    have := Heap.get?_push_size (s.heap.push { cls := .type "tuple_iterator", data := .fields #[.ref l, .int 0 0] })
      (o := { cls := .type "enumerate", data := .fields #[.none, .bool false, .ref s.heap.objs.size, rawInt 0, .none, .none] }) rfl
    rw [hz] at this; exact this
  refine ⟨⟨_, he, rfl⟩, h _ he ⟨_, Heap.get?_push_of_some _ (Heap.get?_push_size _ rfl), rfl, rfl⟩ (by rw [Heap.size_push, hz]) fun b o x => Heap.get?_push_of_some _ (Heap.get?_push_of_some _ x)⟩
end
theorem Draws.tuple {prog : Program} {w : World} {A : Around} (hh : A.handled = none) (it l : Addr) (hne : l ≠ it) (items : Array Value) :
    Draws prog w A it [it, l] items.size (fun i v => items[i]? = some v) (fun i h => h.IsTupleIter it l i ∧ h.IsTuple l items) where
  live := fun _ _ st => let ⟨o, ho, _⟩ := st.1; ⟨o, ho⟩
  frame := fun _ _ _ st hk => ⟨st.1.at fun o e => hk it (by simp) o e, st.2.at fun o e => hk l (by simp) o e⟩
  item := fun i s Q E hi st hQ => by
    unfold Builtin.SmallTypes.nextOf
    refine wpAny_bind (L2.special_tup_item st.1 st.2 (x := items[i]) (by simp [hi]) fun h' hit' hs' => ?_)
    exact wpAny_pure (hQ _ h' s.toks (by simp [hi]) ⟨hit', st.2.extBut hs'.extBut hne⟩ hs')
  done := fun s Q E st hE => by
    unfold Builtin.SmallTypes.nextOf
    refine wpAny_bind (L2.special_tup_end hh st.1 st.2 (by simp) fun e h' hx hk => ?_)
    obtain ⟨a, o, vs, rfl, ho, hc, _⟩ := hx
    exact hE h' a hk ⟨o, ho, hc⟩
theorem enum_endT {prog : Program} {w : World} {A : Around} {E : Value → Shared → Prop} {s : Shared} {e it l : Addr} {i : Nat} {items : Array Value} {old : Value} {Q : Option Value → Shared → Prop} (hh : A.handled = none)
    (he : IsEnum s.heap e it i old) (hit : s.heap.IsTupleIter it l i) (hl : s.heap.IsTuple l items) (hx : items[i]? = none)
    (hQ : ∀ h', Heap.ExtBut it s.heap h' → Q none { s with heap := h' }) : wpAny (model prog w) A (pyNext (.ref e)) Q E s := by
  have hT : s.TypeIs (.ref e) "enumerate" := ⟨_, he, rfl⟩
  unfold pyNext
  refine wpAny_bind (wpAny_attempt (wpAny_callSpecial?_slot (name := Str.ofString "__next__") hT F.slot_enumerate_next
    (wpAny_call_entry F.slot_enumerate_next hT F.entry_enumerate_next ?_ (F.args_enumerate_next_1 _))))
  show wpAny _ _ (field (.ref e) 2 >>= _) _ _ _
  refine wpAny_bind (wpAny_field he rfl (x := .ref it) rfl ?_)
  refine wpAny_bind ?_
  unfold Builtin.SmallTypes.nextOf
  refine wpAny_bind (L2.special_tup_end (A := A.in1) hh hit hl hx fun x h' hx' hk => ?_)
  obtain ⟨a, o, vs, rfl, ho, hc, _⟩ := hx'
  refine wpAny_bind (wpAny_isInstance (T := "StopIteration") (b := true) ⟨o, ho, hc⟩ isSubtype_stop ?_)
  exact wpAny_pure (hQ _ hk)
end PySem

set_option Elab.async false
set_option linter.all false
set_option maxRecDepth 100000
set_option maxHeartbeats 4000000
namespace L2
open PySem PySem.Spec PyProof.Rows
/-- the tuple at a, each item in a new pair -/
def IteT (K : PySem.W.Frag) (a : Addr) : It :=
  ⟨fun i H => ∃ (xs : List V) (x : V), SqT K H a xs ∧ xs[i]? = some x, fun i H v H' => ∃ T x, v = .ref T ∧ H T = none ∧ H' = upd H T (.tup [.int (i : Nat), x]) ∧ ∀ xs, SqT K H a xs → xs[i]? = some x, fun i H => ∃ xs : List V, SqT K H a xs ∧ xs.length ≤ i⟩
theorem turn_enumT {P : Program} {w : World} {K : PySem.W.Frag} {elts : List Expr} {kk : Nat} {tpos : Pos} (a e it : Addr) :
    Turn P w K (.Tuple elts kk tpos) (IteT K a) [e, it] e (fun i h => (∃ old, IsEnum h e it ((i : Nat) : Int) old) ∧ h.IsTupleIter it a i ∧ e ≠ it) where
  mem := by simp
  obj := fun i h st b hb => by
    obtain ⟨⟨old, he⟩, ⟨o, ho, hc, hd⟩, _⟩ := st
    have e' : b = e ∨ b = it := by simpa using hb
    rcases e' with z | z
    · rw [z]; exact ⟨_, he, fun v q => nomatch q⟩
    · rw [z]; exact ⟨o, ho, fun v q => by rw [hd] at q; cases q⟩
  keep := fun i h h' st k => let ⟨⟨old, he⟩, hi, hne⟩ := st; ⟨⟨old, k e (by simp) _ he⟩, hi.at fun o q => k it (by simp) o q, hne⟩
  item := by
    intro X hP hw hK hc i pins s σ H E I hf st hg
    subst hP hw hK
    obtain ⟨⟨old, he⟩, hit, hne⟩ := st
    obtain ⟨xs, x, hq, hx⟩ := hg
    obtain ⟨its, rv, p, hz⟩ := I.tuple hq
    obtain ⟨u, hu, ru⟩ := rv.get hx
    have hel : e < s.heap.objs.size := Heap.lt_size he
    have hil : it < s.heap.objs.size := by obtain ⟨_, q, _⟩ := hit; exact Heap.lt_size q
    have hT' : s.heap.IsTuple a its.toArray := p
    have nae : e ≠ a := fun z => by
      obtain ⟨o, ho, hc', _⟩ := hT'
      rw [← z] at ho
      have := Option.some.inj (he.symm.trans ho)
      rw [← this] at hc'
      exact absurd (Value.type.inj hc') (by decide)
    have nai : a ≠ it := fun z => by
      obtain ⟨o, ho, hc', _⟩ := hT'
      obtain ⟨o2, ho2, hc2, _⟩ := hit
      rw [z] at ho
      have := Option.some.inj (ho.symm.trans ho2)
      rw [this, hc2] at hc'
      exact absurd (Value.type.inj hc') (by decide)
    have D := Draws.tuple (prog := X.prog) (w := X.w) (A := X.A.in1) (I.ok.hd hc) it a nai its.toArray
    have hul : its.toArray[i]? = some u := by simpa using hu
    have hlt : i < its.toArray.size := (Array.getElem?_eq_some_iff.mp hul).1
    refine wpAny_pyNext_enum_itemD D he ⟨hit, hT'⟩ hlt hne (by simp [hne, nae]) fun y h' tk hy ho hst hT hsz hk => ?_
    have ey : y = u := Option.some.inj (hy.symm.trans hul)
    subst ey
    refine ⟨_, rfl, wpAny_letOwnedTupleGo_enum (s := { s with heap := h', toks := tk + 1 }) ho fun h'' he' sb => ?_⟩
    have hT2 : h''.get? s.heap.objs.size = some { cls := .type "tuple", data := .seq #[.int i tk, y] } := (sb.2 _ (Nat.ne_of_gt hel)).trans hT
    have new : ObjOk X.prog X.w (upd H s.heap.objs.size (.tup [.int (i : Nat), x])) h'' s.heap.objs.size (.tup [.int (i : Nat), x]) :=
      ⟨by show 2 ≤ sizeLine; decide, [.int i tk, y], .cons ⟨_, rfl⟩ (.cons ru .nil), ⟨_, hT2, rfl, _, rfl⟩⟩
    have I1 : Inv X pins σ (upd H s.heap.objs.size (.tup [.int (i : Nat), x])) { s with heap := h'', toks := tk + 1 } :=
      I.turnedNew (ch := [e, it]) (fun b ob hb q => (sb.2 b (fun z => hb (by simp [z]))).trans (hk b ob (fun z => hb (by simp [z])) (fun z => hb (by simp [z])) q)) hf (Nat.le_refl _) new
    refine ⟨.ref s.heap.objs.size, _, I1, rfl, ⟨_, x, rfl, I.hok.fresh (Nat.le_refl _), rfl, fun ys hy => by rw [I.tuple_inj hy hq]; exact hx⟩, ⟨⟨y, ?_⟩, hst.1.at fun o q => (sb.2 it (Ne.symm hne)).trans q, hne⟩, fun b hb => ?_⟩
    · have e1 : ((i + 1 : Nat) : Int) = (i : Int) + 1 := by omega
      rw [e1]; exact he'
    · have hb' : b < s.heap.objs.size := by
        have e' : b = e ∨ b = it := by simpa using hb
        rcases e' with z | z
        · rw [z]; exact hel
        · rw [z]; exact hil
      rw [upd_ne (Nat.ne_of_lt hb')]
      exact (hf b hb).1
  done := by
    intro X hP hw hK hc i pins s σ H E I hf st hg
    subst hP hw hK
    obtain ⟨⟨old, he⟩, hit, hne⟩ := st
    obtain ⟨xs, hq, hx⟩ := hg
    obtain ⟨its, rv, p, hz⟩ := I.tuple hq
    obtain ⟨f0, f1, f2, f3, f4, f5⟩ := hf it (by simp)
    have hl := rv.length
    have hT' : s.heap.IsTuple a its.toArray := p
    have nai : a ≠ it := fun z => by
      obtain ⟨o, ho, hc', _⟩ := hT'
      obtain ⟨o2, ho2, hc2, _⟩ := hit
      rw [z] at ho
      have := Option.some.inj (ho.symm.trans ho2)
      rw [this, hc2] at hc'
      exact absurd (Value.type.inj hc') (by decide)
    have hTn : its.toArray[i]? = none := by simp; omega
    exact enum_endT (I.ok.hd hc) he hit hT' hTn fun h' eb => ⟨rfl, I.turned (t' := s.toks) (fun b o hb q => eb b o hb q) f0 f1 f3 f4 f5⟩
  self := fun A i s Q E st h => let ⟨⟨_, he⟩, _⟩ := st; wpAny_pyIter_enum he h
def iEnumT (K : PySem.W.Frag) (ta : TA) : TI := fun σ H R => ta σ H fun vs H1 => ∃ a xs, vs = [.ref a] ∧ SqT K H1 a xs ∧ R (IteT K a) H1
theorem pi_enumT {X : Cx} {e : Expr} {ta : TA} {p pos tpos : Pos} {elts : List Expr} {kk : Nat} (hg : Gl X "enumerate") (hm : X.mg "enumerate" = none) (ha : PA X [e] ta) (hs : starEach [e] X.env = [(false, eval e X.env)] := by rfl) :
    PI X (.Tuple elts kk tpos) (.Call (.Name "enumerate" p) [e] [] pos) (iEnumT X.K ta) := by
  refine ⟨fun pins s σ H R I h => ?_⟩
  refine Call_ (ld_blt I hg hm boot_enumerate (PyProof.Rows.callWith_type1 (thn (ha.run pos pins s σ H _ I h) fun us s1 ⟨vs, H1, I1, r1, q1⟩ => ?_) hs rfl))
  obtain ⟨a, xs, ex, hq, q⟩ := q1
  subst ex
  cases r1 with
  | cons r rr =>
    cases rr
    cases r
    obtain ⟨its, rv, p', hz⟩ := I1.tuple hq
    refine call_enumerate_tuple (show s1.heap.IsTuple a its.toArray from p') fun h' he hit hsz hk => wpAny_pyIter_enum he ?_
    have I2 : Inv X pins σ H1 { s1 with heap := h' } := I1.kept (t' := s1.toks) hk
    refine ⟨s1.heap.objs.size + 1, [s1.heap.objs.size + 1, s1.heap.objs.size], _, _, H1, rfl, I2, turn_enumT a (s1.heap.objs.size + 1) s1.heap.objs.size, ⟨⟨.none, he⟩, hit, Nat.succ_ne_self _⟩, fun b hb => ?_, q⟩
    have e' : b = s1.heap.objs.size + 1 ∨ b = s1.heap.objs.size := by simpa using hb
    have hle : s1.heap.objs.size ≤ b := by
      rcases e' with z | z
      · rw [z]; exact Nat.le_add_right _ _
      · rw [z]; exact Nat.le_refl _
    exact I1.fpOk hle (I1.hok.fresh hle)
theorem walk_enumT {K : PySem.W.Frag} {a : Addr} {xs : List V} : Walk (IteT K a) xs.length (fun H => SqT K H a xs) (YPair (fun i => some (.int (i : Nat))) (fun i => xs[i]?)) := by
  refine ⟨fun i _ hi q => ⟨xs, xs[i], q, by simp [hi]⟩, fun _ q => ⟨xs, q, Nat.le_refl _⟩, fun i H v H' _ q y => ?_⟩
  obtain ⟨T, x, h1, h2, h3, h4⟩ := y
  exact ⟨T, .int (i : Nat), x, h1, h2, h3, rfl, h4 xs q⟩
/-- the one way or the other -/
def iOr (t1 t2 : TI) : TI := fun σ H R => t1 σ H R ∨ t2 σ H R
theorem pi_or {X : Cx} {tg e : Expr} {t1 t2 : TI} (h1 : PI X tg e t1) (h2 : PI X tg e t2) : PI X tg e (iOr t1 t2) := ⟨fun pins s σ H R I h => h.elim (h1.run pins s σ H R I) (h2.run pins s σ H R I)⟩
end L2

set_option Elab.async false
set_option linter.all false
set_option maxRecDepth 100000
set_option maxHeartbeats 4000000
namespace K23
open PySem PySem.Spec PyProof.Rows L2 Gu Ex
/-- a list or a tuple of whole numbers, also the default () -/
inductive Kept (K : PySem.W.Frag) (H : Hp) (a : Addr) (cs : List Int) : Prop
  | lst (h : H a = some (.lst (cs.map V.int)))
  | tup (h : H a = some (.tup (cs.map V.int)))
  | dft (o : Obj) (n : Nat) (e : cs = []) (h : K.lookup a = some o) (c : o.cls = .type "tuple") (d : o.data = .seq #[] n)
section
variable {K : PySem.W.Frag} {H H' : Hp} {a : Addr} {cs : List Int}
theorem sqT_same {xs : List V} (s : Same H H') (h : SqT K H a xs) : SqT K H' a xs := by
  rcases h with (h | ⟨o, h⟩) | h
  · exact .inl (.inl (s _ _ h))
  · exact .inl (.inr ⟨o, s _ _ h⟩)
  · exact .inr h
theorem Kept.same (h : Kept K H a cs) (s : Same H H') : Kept K H' a cs := by
  cases h with
  | lst h => exact .lst (s _ _ h)
  | tup h => exact .tup (s _ _ h)
  | dft o n e h c d => exact .dft o n e h c d
theorem Kept.seq (h : Kept K H a cs) : SqL K H a (cs.map V.int) ∧ TyX K H (.ref a) (.type "list") ∨ SqT K H a (cs.map V.int) ∧ TyX K H (.ref a) (.type "tuple") := by
  cases h with
  | lst h => exact .inl ⟨SqL.of h, .base (.lst h)⟩
  | tup h => exact .inr ⟨SqT.of h, .base (.tup h)⟩
  | dft o n e h c d =>
    subst e
    exact .inr ⟨.inr ⟨o, #[], n, h, c, d, Nat.zero_le _, .nil⟩, .kTuple h c⟩
end
section
variable {P : Program} {w : World} {K : PySem.W.Frag} {mg : Str → Option Value} {base : Heap} {f : Addr} {fd : FuncData}
def spNums (K : PySem.W.Frag) : Sp := fun vs H Q _ => ∃ (a : Addr) (cs : List Int), vs = [.ref a] ∧ Kept K H a cs ∧ (∀ c ∈ cs, 1 ≤ c ∧ c ≤ 1000000000000) ∧ ∀ H', Same H H' → Q .non H'
theorem sc_check_numbers : FnScope ["value", "position", "cells"] ["value"] (defScope (top 15)) := ⟨rfl, rfl, rfl, by decide +kernel, rfl, by decide +kernel, by decide +kernel⟩
theorem ok_nums (T : Tx K mg) (D_is_cells : Df P w K mg base 2 "is_cells" ["value"] spCells) (F : FnP K "check_numbers" "check_numbers" (top 15) f fd) : FnOk P w K mg base CX0 3 f fd ["value"] (spNums K) := by
  refine F.ok sc_check_numbers (fun vs H Q E h => ?_) (fun cdv A outer s H vs Q E hr h => ⟨_, PSs.nox (pss_cons (ps_if (pt_not (pt_val (pe_callB call_isiT (by rfl) T.n_isinstance (by decide +kernel) (pa_cons (pv 0) (pa_cons (pe_tup (pa_cons (pe_bltn (v := .ty "list") (by rfl) T.n_list (by decide +kernel) rfl) (pa_cons (pe_bltn (v := .ty "tuple") (by rfl) T.n_tuple (by decide +kernel) rfl) pa_nil))) pa_nil))))) (pss_one ps_never) pss_nil) (pss_one (ps_for PassesOwn.never rfl (pi_or (pi_enum rfl T.n_enumerate (pa_cons (pv 0) pa_nil)) (pi_enumT rfl T.n_enumerate (pa_cons (pv 0) pa_nil))) (pg_tup (by rfl) (pgs_cons (pg_name (i := 1) sc_check_numbers.nd rfl (by first | exact Or.inl rfl | exact Or.inr rfl)) (pgs_cons (pg_name (i := 2) sc_check_numbers.nd rfl (by first | exact Or.inl rfl | exact Or.inr rfl)) pgs_nil))) (pss_one (ps_if (pt_not (pt_val (pcall D_is_cells hr (pa_cons (pv 2) pa_nil)))) (pss_one ps_never) pss_nil))))), ?_⟩)
  · obtain ⟨a, cs, rfl, _⟩ := h
    rfl
  · obtain ⟨a, cs, rfl, kp, rg, q⟩ := h
    refine ⟨_, rfl, by show 2 ≤ sizeLine; decide, fun t ht => ?_⟩
    have sm0 : Same H (upd H t (.tup [.ty "list", .ty "tuple"])) := same_upd ht
    have kp0 := kp.same sm0
    have tt : (upd H t (.tup [.ty "list", .ty "tuple"])) t = some (.tup [.ty "list", .ty "tuple"]) := upd_same
    generalize upd H t (.tup [.ty "list", .ty "tuple"]) = H0 at sm0 kp0 tt
    have turn : ∀ (i : Nat) (x1 x2 : Option V) (G : Hp) (T' : Addr) (y2 : V), Same H G → G T' = none → (cs.map V.int)[i]? = some y2 → ∃ c : Int, y2 = .int c ∧ 1 ≤ c ∧ c ≤ 1000000000000 ∧ Same H (upd G T' (.tup [.int (i : Nat), y2])) := by
      intro i x1 x2 G T' y2 sm hT e2
      rw [List.getElem?_map] at e2
      cases e3 : cs[i]? with
      | none => rw [e3] at e2; cases e2
      | some c =>
        rw [e3] at e2
        have r := rg c (List.mem_of_getElem? e3)
        exact ⟨c, (Option.some.inj e2).symm, r.1, r.2, sm.trans (same_upd hT)⟩
    rcases kp0.seq with ⟨sq, ty⟩ | ⟨sq, ty⟩
    · refine ⟨_, t, _, _, [.type "list", .type "tuple"], true, rfl, tt, .cons (.ty "list") (.cons (.ty "tuple") .nil), ty, by rfl, _, rfl, iteF ?_⟩
      refine .inl ⟨_, rfl, a, _, rfl, sq, ?_⟩
      refine for_it (walk_enum (xs := cs.map V.int)) (fun i σ G => Same H0 G ∧ Same H G ∧ (∃ x y, σ = [some (.ref a), x, y])) ⟨Same.refl H0, sm0, none, none, rfl⟩ (fun i σ G _ hh => hh.1.seq sq) ?_ ?_
      · rintro i x σ G G2 hi ⟨s0, sm, ⟨x1, x2, rfl⟩⟩ ⟨T', y1, y2, rfl, hT, rfl, e1, e2⟩
        cases e1
        obtain ⟨c, rfl, c1, c2, sm2⟩ := turn i x1 x2 G T' y2 sm hT e2
        refine ⟨T', _, rfl, .inl (.inl upd_same), rfl, _, _, rfl, _, _, rfl, rfl, ?_⟩
        exact ⟨_, rfl, c, rfl, c1, c2, _, rfl, iteF ⟨s0.trans (same_upd hT), sm2, _, _, rfl⟩⟩
      · rintro σ G ⟨s0, sm, ⟨x1, x2, rfl⟩⟩
        exact q G sm
    · refine ⟨_, t, _, _, [.type "list", .type "tuple"], true, rfl, tt, .cons (.ty "list") (.cons (.ty "tuple") .nil), ty, by rfl, _, rfl, iteF ?_⟩
      refine .inr ⟨_, rfl, a, _, rfl, sq, ?_⟩
      refine for_it (walk_enumT (xs := cs.map V.int)) (fun i σ G => Same H0 G ∧ Same H G ∧ (∃ x y, σ = [some (.ref a), x, y])) ⟨Same.refl H0, sm0, none, none, rfl⟩ (fun i σ G _ hh => ?_) ?_ ?_
      · exact sqT_same hh.1 sq
      · rintro i x σ G G2 hi ⟨s0, sm, ⟨x1, x2, rfl⟩⟩ ⟨T', y1, y2, rfl, hT, rfl, e1, e2⟩
        cases e1
        obtain ⟨c, rfl, c1, c2, sm2⟩ := turn i x1 x2 G T' y2 sm hT e2
        refine ⟨T', _, rfl, .inl (.inl upd_same), rfl, _, _, rfl, _, _, rfl, rfl, ?_⟩
        exact ⟨_, rfl, c, rfl, c1, c2, _, rfl, iteF ⟨s0.trans (same_upd hT), sm2, _, _, rfl⟩⟩
      · rintro σ G ⟨s0, sm, ⟨x1, x2, rfl⟩⟩
        exact q G sm
end
end K23

set_option Elab.async false
set_option linter.all false
set_option maxRecDepth 100000
set_option maxHeartbeats 4000000
namespace Ex
open PySem PySem.Spec PySem.Calls PyProof.Rows L2 Gu
section
variable {X : Cx} {k j : Nat} {c m : Str} {ps : List Str} {dvs : List V} {sp : Sp} {pos apos : Pos} {e o : Expr} {es : List Expr} {t : TA} {ta : TE}
/-- a method called with its defaults -/
structure MfD (P : Program) (w : World) (K : PySem.W.Frag) (mg : Str → Option Value) (base : Heap) (k : Nat) (c m : Str) (ps : List Str) (dvs : List V) (sp : Sp) : Prop where
  ex : ∃ fd ds, FnOk P w K mg base CX0 k (He.ma K (He.ga K c) m) fd ps sp ∧ Vals dvs ds ∧ Binds K fd ps ds
  cl : Cls K (He.ga K c)
  me : Meth K (He.ga K c) m (He.ma K (He.ga K c) m)
theorem pmethD {pl : Sem Bool} (D : MfD X.prog X.w X.K X.mg X.base k c m ps dvs sp) (hr : Room j X.A) (he : PE X o ta) (ha : PA X (e :: es) t) (hj : k ≤ j := by decide)
    (hst : starEach (e :: es) X.env = (false, eval e X.env) :: starEach es X.env := by rfl) (hpl : (backTo pos (starEach es X.env)).any (·.1) = false := by rfl)
    (ht : eval (.Call (.Attribute o m apos) (e :: es) [] pos) X.env = (do
      let ov ← eval o X.env
      standAt apos.atName
      let (f, first) ← holding [ov] (getMethod ov m pl)
      callWith pos f first (backTo pos (starEach (e :: es) X.env)) (backToKw pos (keywordEach [] X.env))) := by rfl) :
    PE X (.Call (.Attribute o m apos) (e :: es) [] pos) (tMeth (He.ga X.K c) m sp dvs E0 ta t) := by
  obtain ⟨fd, ds, F, v, b⟩ := D.ex
  exact pe_meth he D.cl D.me F (hr.mono hj) b v pass0 ha hst hpl ht
end
end Ex
namespace K23
open PySem PySem.Spec PyProof.Rows L2 Gu Ex
def whlI (ns : List Int) (k : Nat) (cs : List Int) : List Int := cs.map fun c => c - c % sz ns k
def slkI (ns : List Int) (n : Int) (bs : List Blk) (k : Nat) (cs : List Int) : Int := clrI ns n bs k - lseI ns bs k - (whlI ns k cs).sum
section
variable {P : Program} {w : World} {K : PySem.W.Frag} {mg : Str → Option Value} {base : Heap} {f : Addr} {fd : FuncData}
def spSlack (K : PySem.W.Frag) : Sp := fun vs H Q _ => ∃ (y zp bl dx : Addr) (ps : List Addr) (ns : List Int) (n : Int) (bs : List Blk) (k : Nat) (a : Addr) (cs : List Int), vs = [.ref y, .int k, .ref a] ∧ Ly K H y zp bl dx ps ns n bs ∧ k < ns.length ∧ Kept K H a cs ∧ (∀ c ∈ cs, 1 ≤ c ∧ c ≤ 1000000000000) ∧ cs.length ≤ 1000 ∧ ∀ H', Same H H' → Q (.int (slkI ns n bs k cs)) H'
theorem sc_slack : FnScope ["self", "level", "kept", "cells", "number"] ["self", "level", "kept"] (defScope (inClass (top 29) 26)) := ⟨rfl, rfl, rfl, by decide +kernel, rfl, by decide +kernel, by decide +kernel⟩
theorem ok_slack {z0 : Addr} (T : Tx K mg) (M_clear_cells : Mf P w K mg base 9 "Layout" "clear_cells" ["self", "level"] (spClear K)) (M_unpinned_cells : Mf P w K mg base 6 "Layout" "unpinned_cells" ["self", "level"] (spLoose K)) (D_check_numbers : Df P w K mg base 3 "check_numbers" ["value"] (spNums K))
    (M_whole : Mf P w K mg base 6 "Sizes" "whole" ["self", "cells", "level"] (spWhole K)) (F : FnK K "slack" "Layout.slack" (inClass (top 29) 26) [("kept", .ref z0)] f fd) : FnOk P w K mg base CX0 10 f fd ["self", "level", "kept"] (spSlack K) := by
  refine F.ok sc_slack (fun vs H Q E h => ?_) (fun cdv A outer s H vs Q E hr h => ⟨_, PSs.nox (pss_cons (ps_set (i := 3) sc_slack.nd rfl (by first | exact Or.inl rfl | exact Or.inr rfl) (pe_op op_sub (pmeth M_clear_cells hr (pv 0) (pa_cons (pv 1) pa_nil)) (pmeth M_unpinned_cells hr (pv 0) (pa_cons (pv 1) pa_nil)))) (pss_cons (ps_expr (pcall D_check_numbers hr (pa_cons (pv 2) pa_nil))) (pss_one (ps_ret (pe_op op_sub (pv 3) (pe_callB (cr_sum rfl) (by rfl) T.n_sum (by decide +kernel) (pa_cons (pe_lc (own := [("number", 4)]) (g := gName 4) rfl sc_slack.nd (pi_or (pi_list (pv 2)) (pi_tup (pv 2))) (blkOk_by (own := [("number", 4)]) (N := ["self", "level", "kept", "cells", "number"]) (sc := defScope (inClass (top 29) 26)) (by decide +kernel)) (fun _ _ _ _ _ => pg_name (i := 4) sc_slack.nd rfl (Or.inl rfl)) (fun _ _ _ _ _ => pts_nil) (fun _ _ _ _ _ => (pmethB K M_whole hr (pfldB K (pv 0)) (pa_cons (pv 4) (pa_cons (pv 1) pa_nil))))) pa_nil))))))), ?_⟩)
  · obtain ⟨y, zp, bl, dx, ps, ns, n, bs, k, a, cs, rfl, _⟩ := h
    rfl
  · obtain ⟨y, zp, bl, dx, ps, ns, n, bs, k, a, cs, rfl, L, hk, kp, rg, cl, q⟩ := h
    have sl : sizeLine = 16777216 := sizeLine_eq
    refine ⟨_, rfl, y, dx, _, rfl, L.at_, lay_nm (by decide +kernel), _, rfl, y, zp, bl, dx, ps, ns, n, bs, k, rfl, L, hk, fun H1 s1 => ?_⟩
    have L1 := L.same s1
    refine ⟨_, rfl, y, dx, _, rfl, L1.at_, lay_nm (by decide +kernel), _, rfl, y, zp, bl, dx, ps, ns, n, bs, k, rfl, L1, hk, fun H2 s2 => ?_⟩
    refine ⟨_, _, rfl, rfl, ?_⟩
    have kp2 := kp.same (s1.trans s2)
    refine ⟨_, rfl, a, cs, rfl, kp2, rg, fun H3 s3 => ?_⟩
    have sH := (s1.trans s2).trans s3
    have kp3 := kp2.same s3
    refine ⟨_, rfl, ?_⟩
    have turn : ∀ (D : Addr) (hD : H3 D = none) (i : Nat) (x : V) (G : Hp), (cs.map V.int)[i]? = some x → (G D = some (.lst ((whlI ns k (cs.take i)).map V.int)) ∧ Same H3 G) → ∃ c, x = .int c ∧ 1 ≤ c ∧ c ≤ 1000000000000 ∧ ∃ acc, G D = some (.lst acc) ∧ acc.length < sizeLine ∧ (upd G D (.lst (acc ++ [.int (c - c % sz ns k)]))) D = some (.lst ((whlI ns k (cs.take (i + 1))).map V.int)) ∧ Same H3 (upd G D (.lst (acc ++ [.int (c - c % sz ns k)]))) := by
      rintro D hD i x G hx ⟨hG, sm⟩
      rw [List.getElem?_map] at hx
      cases e3 : cs[i]? with
      | none => rw [e3] at hx; cases hx
      | some c =>
        rw [e3] at hx
        have r := rg c (List.mem_of_getElem? e3)
        have il := (List.getElem?_eq_some_iff.mp e3).1
        refine ⟨c, (Option.some.inj hx).symm, r.1, r.2, _, hG, (by unfold whlI; rw [List.length_map, List.length_map, List.length_take]; omega), ?_, fun c o e => ?_⟩
        · rw [upd_same, take_at e3]
          unfold whlI
          rw [List.map_append, List.map_append]
          rfl
        · rw [upd_ne (ne_of_none e hD)]
          exact sm c o e
    have z1 := (chain L.gd).pos _ hk
    rcases kp3.seq with ⟨sq, _⟩ | ⟨sq, _⟩
    · refine .inl ⟨_, rfl, a, rfl, ⟨_, sq⟩, fun D hD => ?_⟩
      refine lc_list (K := K) (a := a) (xs := cs.map V.int) (fun i G => G D = some (.lst ((whlI ns k (cs.take i)).map V.int)) ∧ Same H3 G) ⟨upd_same, same_upd hD⟩ (fun i G _ ⟨_, sm⟩ => sm.seq sq) ?_ ?_
      · rintro i x G hx hh
        obtain ⟨c, rfl, c1, c2, fin⟩ := turn D hD i x G hx hh
        have LG := L.same (sH.trans hh.2)
        obtain ⟨dz, l, z3, z4⟩ := id LG.szs
        refine ⟨rfl, _, rfl, y, _, dx, _, _, rfl, LG.at_, T.ly, T.nST, lay_st .., zp, dz, _, rfl, z3, szF_no l (by decide +kernel), _, rfl, _, rfl, zp, ns, k, _, c, rfl, LG.szs, sz_at hk, z1, c1, c2, fin⟩
      · rintro G ⟨hG, sm⟩
        rw [List.length_map, List.take_length] at hG
        exact ⟨D, _, rfl, SqL.of hG, _, _, rfl, rfl, q G (sH.trans sm)⟩
    · refine .inr ⟨_, rfl, a, rfl, ⟨_, sq⟩, fun D hD => ?_⟩
      refine lc_tup (K := K) (a := a) (xs := cs.map V.int) (fun i G => G D = some (.lst ((whlI ns k (cs.take i)).map V.int)) ∧ Same H3 G) ⟨upd_same, same_upd hD⟩ (fun i G _ ⟨_, sm⟩ => sqT_same sm sq) ?_ ?_
      · rintro i x G hx hh
        obtain ⟨c, rfl, c1, c2, fin⟩ := turn D hD i x G hx hh
        have LG := L.same (sH.trans hh.2)
        obtain ⟨dz, l, z3, z4⟩ := id LG.szs
        refine ⟨rfl, _, rfl, y, _, dx, _, _, rfl, LG.at_, T.ly, T.nST, lay_st .., zp, dz, _, rfl, z3, szF_no l (by decide +kernel), _, rfl, _, rfl, zp, ns, k, _, c, rfl, LG.szs, sz_at hk, z1, c1, c2, fin⟩
      · rintro G ⟨hG, sm⟩
        rw [List.length_map, List.take_length] at hG
        exact ⟨D, _, rfl, SqL.of hG, _, _, rfl, rfl, q G (sH.trans sm)⟩
end
end K23

set_option Elab.async false
set_option linter.all false
set_option maxRecDepth 100000
set_option maxHeartbeats 4000000
namespace K23
open PySem PySem.Spec PyProof.Rows L2 Gu Ex
def cn (p : Nat → Bool) : Nat → Nat
  | 0 => 0
  | m + 1 => cn p m + (if p m = true then 1 else 0)
theorem cn_congr {p q : Nat → Bool} : ∀ {m : Nat}, (∀ i, i < m → p i = q i) → cn p m = cn q m
  | 0, _ => rfl
  | m + 1, h => by
    show cn p m + _ = cn q m + _
    rw [cn_congr (m := m) fun i hi => h i (by omega), h m (by omega)]
theorem cn_or {p q r : Nat → Bool} : ∀ {m : Nat}, (∀ i, i < m → p i = (q i || r i)) → (∀ i, i < m → q i = true → r i = false) → cn p m = cn q m + cn r m
  | 0, _, _ => rfl
  | m + 1, h, h2 => by
    show cn p m + _ = (cn q m + _) + (cn r m + _)
    rw [cn_or (m := m) (fun i hi => h i (by omega)) (fun i hi => h2 i (by omega)), h m (by omega)]
    have h3 := h2 m (by omega)
    cases e : q m with
    | true =>
      rw [h3 e]
      simp
      omega
    | false =>
      simp
      omega
theorem cn_le {p q : Nat → Bool} : ∀ {m : Nat}, (∀ i, i < m → p i = true → q i = true) → cn p m ≤ cn q m
  | 0, _ => Nat.le_refl _
  | m + 1, h => by
    show cn p m + _ ≤ cn q m + _
    have ih := cn_le (m := m) fun i hi => h i (by omega)
    have h3 := h m (by omega)
    cases e : p m with
    | true =>
      rw [h3 e]
      simp
      omega
    | false =>
      simp
      omega
theorem cn_zero {p : Nat → Bool} : ∀ {m : Nat}, (∀ i, i < m → p i = false) → cn p m = 0
  | 0, _ => rfl
  | m + 1, h => by
    show cn p m + _ = 0
    rw [cn_zero (m := m) fun i hi => h i (by omega), h m (by omega)]
    rfl
theorem cn_seg {A B : Int} (hA : 0 ≤ A) : ∀ m : Nat, ((cn (fun i => decide (A ≤ (i : Int)) && decide ((i : Int) < B)) m : Nat) : Int) = if min B (m : Int) - A > 0 then min B (m : Int) - A else 0
  | 0 => by
    show (0 : Int) = _
    rw [if_neg (by omega)]
  | m + 1 => by
    show ((cn _ m + _ : Nat) : Int) = _
    rw [Int.natCast_add, cn_seg hA m]
    by_cases h1 : A ≤ (m : Int)
    · by_cases h2 : (m : Int) < B
      · rw [if_pos (show (decide (A ≤ (m : Int)) && decide ((m : Int) < B)) = true by rw [decide_eq_true h1, decide_eq_true h2]; rfl)]
        split <;> split <;> omega
      · rw [if_neg (show ¬ (decide (A ≤ (m : Int)) && decide ((m : Int) < B)) = true by rw [decide_eq_false h2, Bool.and_false]; exact Bool.false_ne_true)]
        split <;> split <;> omega
    · rw [if_neg (show ¬ (decide (A ≤ (m : Int)) && decide ((m : Int) < B)) = true by rw [decide_eq_false h1, Bool.false_and]; exact Bool.false_ne_true)]
      split <;> split <;> omega
theorem up_iff {s b i : Int} (hs : 1 ≤ s) : M15.C s b ≤ i ↔ b ≤ i * s := by
  unfold M15.C
  have h : (b + s - 1) / s < i + 1 ↔ b + s - 1 < (i + 1) * s := Int.ediv_lt_iff_lt_mul (by omega)
  rw [Int.add_mul, Int.one_mul] at h
  omega
theorem dn_iff {s e i : Int} (hs : 1 ≤ s) : i < e / s ↔ i * s + s ≤ e := by
  have h : i + 1 ≤ e / s ↔ (i + 1) * s ≤ e := Int.le_ediv_iff_mul_le (by omega)
  rw [Int.add_mul, Int.one_mul] at h
  omega
def inG (s lo hi : Int) (i : Nat) : Bool := decide (lo ≤ (i : Int) * s) && decide ((i : Int) * s + s ≤ hi)
theorem cntI_is {s a b : Int} (hs : 1 ≤ s) : cntI s a b = M15.cntM s a b := by
  unfold cntI M15.cntM nextI
  rw [M15.quot_is hs]
theorem inG_cn {s lo hi : Int} {m : Nat} (hs : 1 ≤ s) (h0 : 0 ≤ lo) (hm : hi / s ≤ (m : Int)) : ((cn (inG s lo hi) m : Nat) : Int) = cntI s lo hi := by
  have e : cn (inG s lo hi) m = cn (fun i => decide (M15.C s lo ≤ (i : Int)) && decide ((i : Int) < hi / s)) m := cn_congr fun i _ => by
    unfold inG
    rw [decide_eq_decide.mpr (up_iff (b := lo) (i := (i : Int)) hs), decide_eq_decide.mpr (dn_iff (e := hi) (i := (i : Int)) hs)]
  have c0 : 0 ≤ M15.C s lo := by
    unfold M15.C
    exact Int.ediv_nonneg (by omega) (by omega)
  rw [e, cn_seg c0, cntI_is hs, show min (hi / s) (m : Int) = hi / s by omega]
  rfl
def Ord (n : Int) : Int → List (Int × Int) → Prop
  | low, [] => low ≤ n
  | low, r :: rs => low ≤ r.1 ∧ r.1 ≤ r.2 ∧ Ord n r.2 rs
theorem Ord.le {n : Int} : ∀ {rs : List (Int × Int)} {low : Int}, Ord n low rs → low ≤ n ∧ ∀ r ∈ rs, low ≤ r.1
  | [], low, h => ⟨h, fun _ m => nomatch m⟩
  | r :: rs, low, ⟨h1, h2, h3⟩ => by
    obtain ⟨i1, i2⟩ := Ord.le h3
    refine ⟨by omega, fun x hx => ?_⟩
    rcases List.mem_cons.mp hx with e | e
    · rw [e]; exact h1
    · have := i2 x e
      omega
def offR (s : Int) (i : Nat) (r : Int × Int) : Bool := decide ((i : Int) * s + s ≤ r.1) || decide (r.2 ≤ (i : Int) * s)
theorem gaps_cn {n s : Int} {m : Nat} (hs : 1 ≤ s) (hm : n / s ≤ (m : Int)) : ∀ {rs : List (Int × Int)} {low : Int}, 0 ≤ low → Ord n low rs → ((gapsI n low rs).map fun g => cntI s g.1 g.2).sum = ((cn (fun i => inG s low n i && rs.all (offR s i)) m : Nat) : Int)
  | [], low, h0, ho => by
    have e : cn (fun i => inG s low n i && ([] : List (Int × Int)).all (offR s i)) m = cn (inG s low n) m := cn_congr fun i _ => by simp
    rw [e]
    show ((if low < n then [(low, n)] else []).map fun g => cntI s g.1 g.2).sum = _
    by_cases hc : low < n
    · rw [if_pos hc, inG_cn hs h0 hm]
      simp
    · rw [if_neg hc, cn_zero fun i _ => ?_]
      · rfl
      · unfold inG
        by_cases h1 : low ≤ (i : Int) * s
        · rw [decide_eq_false (show ¬ (i : Int) * s + s ≤ n by have : low ≤ n := ho; omega), Bool.and_false]
        · rw [decide_eq_false h1, Bool.false_and]
  | r :: rs, low, h0, ⟨h1, h2, h3⟩ => by
    obtain ⟨o1, o2⟩ := Ord.le h3
    have ih := gaps_cn hs hm (rs := rs) (low := r.2) (by omega) h3
    have dv : r.1 / s ≤ (m : Int) := Int.le_trans (Int.ediv_le_ediv (by omega) (by omega)) hm
    have spl : cn (fun i => inG s low n i && (r :: rs).all (offR s i)) m = cn (inG s low r.1) m + cn (fun i => inG s r.2 n i && rs.all (offR s i)) m := by
      refine cn_or (fun i _ => ?_) (fun i _ hq => ?_)
      · by_cases ha : (i : Int) * s + s ≤ r.1
        · have al : rs.all (offR s i) = true := List.all_eq_true.mpr fun x hx => by
            have := o2 x hx
            unfold offR
            rw [decide_eq_true (show (i : Int) * s + s ≤ x.1 by omega)]
            rfl
          rw [List.all_cons, al]
          unfold inG offR
          rw [decide_eq_true ha, decide_eq_true (show (i : Int) * s + s ≤ n by omega), decide_eq_false (show ¬ r.2 ≤ (i : Int) * s by omega)]
          simp
        · rw [List.all_cons]
          unfold inG offR
          rw [decide_eq_false ha]
          by_cases hb : r.2 ≤ (i : Int) * s
          · rw [decide_eq_true hb, decide_eq_true (show low ≤ (i : Int) * s by omega)]
            simp
          · rw [decide_eq_false hb]
            simp
      · unfold inG at hq ⊢
        have : (i : Int) * s + s ≤ r.1 := by
          have := (Bool.and_eq_true _ _ ▸ hq : _ ∧ _).2
          exact of_decide_eq_true this
        rw [decide_eq_false (show ¬ r.2 ≤ (i : Int) * s by omega)]
        simp
    rw [spl, Int.natCast_add, inG_cn hs h0 dv, ← ih]
    show (((if low < r.1 then [(low, r.1)] else []) ++ gapsI n r.2 rs).map fun g => cntI s g.1 g.2).sum = _
    rw [List.map_append, List.sum_append_int]
    by_cases hc : low < r.1
    · rw [if_pos hc]
      simp
    · rw [if_neg hc]
      have z : cntI s low r.1 = 0 := by
        rw [← inG_cn (m := m) hs h0 dv, cn_zero fun i _ => ?_]
        · rfl
        · unfold inG
          by_cases h4 : low ≤ (i : Int) * s
          · rw [decide_eq_false (show ¬ (i : Int) * s + s ≤ r.1 by omega), Bool.and_false]
          · rw [decide_eq_false h4, Bool.false_and]
      rw [z]
      rfl
end K23

set_option Elab.async false
set_option linter.all false
set_option maxRecDepth 100000
set_option maxHeartbeats 4000000
namespace K23
open PySem PySem.Spec PyProof.Rows L2 Gu Ex
theorem cntC_cn (ns : List Int) (bs : List Blk) (k : Nat) : ∀ m, cntC ns bs k m = cn (clearAt ns bs k) m
  | 0 => rfl
  | m + 1 => by
    rw [cntC_succ, cntC_cn ns bs k m]
    rfl
theorem ord_pin {ns : List Int} {n : Int} : ∀ {bs : List Blk} {low : Int}, (∀ b ∈ bs, low ≤ b.1 ∧ b.1 ≤ bEnd ns b ∧ bEnd ns b ≤ n) → bs.Pairwise (fun b c => bEnd ns b ≤ c.1) → low ≤ n → Ord n low (pinR ns bs)
  | [], low, _, _, h => h
  | b :: bs, low, h1, h2, h3 => by
    have p := List.pairwise_cons.mp h2
    have hb := h1 b List.mem_cons_self
    have rest := fun lo (hl : ∀ c ∈ bs, lo ≤ c.1) (hn : lo ≤ n) => ord_pin (ns := ns) (n := n) (bs := bs) (low := lo) (fun c hc => ⟨hl c hc, (h1 c (List.mem_cons_of_mem _ hc)).2⟩) p.2 hn
    unfold pinR
    cases e : b.2.2 with
    | true =>
      rw [List.filter_cons_of_pos (p := fun b : Blk => b.2.2) (a := b) e, List.map_cons]
      exact ⟨hb.1, hb.2.1, rest _ (fun c hc => p.1 c hc) hb.2.2⟩
    | false =>
      rw [List.filter_cons_of_neg (p := fun b : Blk => b.2.2) (a := b) (by rw [e]; exact Bool.false_ne_true)]
      exact rest _ (fun c hc => (h1 c (List.mem_cons_of_mem _ hc)).1) h3
theorem clear_pin {ns : List Int} {s : Int} {i : Nat} : ∀ bs : List Blk, clearB ns bs ((i : Int) * s) ((i : Int) * s + s) = (pinR ns bs).all (offR s i)
  | [] => rfl
  | b :: bs => by
    have ih := clear_pin (ns := ns) (s := s) (i := i) bs
    unfold clearB at ih ⊢
    unfold pinR at ih ⊢
    rw [List.all_cons, ih]
    cases e : b.2.2 with
    | true =>
      rw [List.filter_cons_of_pos (p := fun b : Blk => b.2.2) (a := b) e, List.map_cons, List.all_cons]
      congr 1
      unfold hitB offR rngB
      rw [e]
      by_cases h1 : b.1 < (i : Int) * s + s
      · by_cases h2 : (i : Int) * s < bEnd ns b
        · rw [decide_eq_true h1, decide_eq_true h2, decide_eq_false (show ¬ (i : Int) * s + s ≤ b.1 by omega), decide_eq_false (show ¬ bEnd ns b ≤ (i : Int) * s by omega)]
          rfl
        · rw [decide_eq_true h1, decide_eq_false h2, decide_eq_true (show bEnd ns b ≤ (i : Int) * s by omega), Bool.or_true]
          rfl
      · rw [decide_eq_false h1, decide_eq_true (show (i : Int) * s + s ≤ b.1 by omega)]
        rfl
    | false =>
      rw [List.filter_cons_of_neg (by rw [e]; exact Bool.false_ne_true)]
      unfold hitB
      rw [e]
      simp
section
variable {ns : List Int} {n : Int} {bs : List Blk} {k : Nat}
theorem clr_due (w : Wf ns n bs) (g : Good ns) (hk : k < ns.length) (n1 : 0 ≤ n) : clrI ns n bs k = dueI ns n bs k := by
  have hs := (chain g).pos k hk
  have q0 : 0 ≤ n / sz ns k := Int.ediv_nonneg n1 (by omega)
  have hm : n / sz ns k ≤ (((n / sz ns k).toNat : Nat) : Int) := by omega
  have od : Ord n 0 (pinR ns bs) := ord_pin (fun b hb => ⟨(w.ok b hb).2.1, (by
    have := w.pos g hb
    unfold bEnd
    omega), (w.ok b hb).2.2.2⟩) w.so n1
  unfold clrI regI dueI
  rw [gaps_cn hs hm (Int.le_refl _) od, Int.mul_comm, cntC_cn]
  congr 2
  refine cn_congr fun i hi => ?_
  unfold clearAt
  rw [clear_pin bs]
  have h1 : (i : Int) * sz ns k + sz ns k ≤ n := (dn_iff hs).mp (by omega)
  have h2 : 0 ≤ (i : Int) * sz ns k := Int.mul_nonneg (by omega) (by omega)
  unfold inG
  rw [decide_eq_true h1, decide_eq_true h2]
  rfl
def inB (ns : List Int) (k i : Nat) (b : Blk) : Bool := (!b.2.2 && decide (k ≤ b.2.1)) && inG (sz ns k) b.1 (bEnd ns b) i
theorem one_cn {b : Blk} {m : Nat} (g : Good ns) (hk : k ≤ b.2.1) (hb : b.2.1 < ns.length) (h0 : 0 ≤ b.1) (hd : sz ns b.2.1 ∣ b.1) (hm : bEnd ns b / sz ns k ≤ (m : Int)) : sz ns k * ((cn (inG (sz ns k) b.1 (bEnd ns b)) m : Nat) : Int) = sz ns b.2.1 := by
  have hs := (chain g).pos k (by omega)
  have hz := (chain g).pos b.2.1 hb
  have dz := (chain g).dvd hk hb
  obtain ⟨q, hq⟩ := Int.dvd_trans dz hd
  obtain ⟨t, ht⟩ := dz
  have eC : M15.C (sz ns k) b.1 = q := by
    have := M15.C_of (s := sz ns k) (x := b.1) (q := q) (r := 0) hs (by omega) (by omega) (by omega)
    rw [this, if_pos rfl]
  have eE : bEnd ns b / sz ns k = q + t := M15.div_is (r := 0) (by unfold bEnd; rw [hq, ht, Int.mul_add]; omega) (by omega) (by omega)
  have t1 : 0 < t := by
    rcases Int.lt_or_le 0 t with h | h
    · exact h
    · have := Int.mul_le_mul_of_nonneg_left h (show 0 ≤ sz ns k by omega)
      rw [Int.mul_zero] at this
      omega
  rw [inG_cn hs h0 hm, cntI_is hs]
  unfold M15.cntM
  rw [eC, eE, show q + t - q = t by omega, if_pos t1, ht]
theorem lse_cn {m : Nat} (g : Good ns) (hk : k < ns.length) (hm : n / sz ns k ≤ (m : Int)) : ∀ {bs : List Blk}, (∀ b ∈ bs, b.2.1 < ns.length ∧ 0 ≤ b.1 ∧ sz ns b.2.1 ∣ b.1 ∧ bEnd ns b ≤ n) → bs.Pairwise (fun b c => bEnd ns b ≤ c.1) → lseI ns bs k = sz ns k * ((cn (fun i => bs.any (inB ns k i)) m : Nat) : Int)
  | [], _, _ => by
    rw [cn_zero (p := fun i => ([] : List Blk).any (inB ns k i)) fun i _ => rfl]
    simp [lseI, unpB]
  | b :: bs, h, hp => by
    have hs := (chain g).pos k hk
    have p := List.pairwise_cons.mp hp
    have hb := h b List.mem_cons_self
    have ih := lse_cn g hk hm (bs := bs) (fun c hc => h c (List.mem_cons_of_mem _ hc)) p.2
    have spl : cn (fun i => (b :: bs).any (inB ns k i)) m = cn (fun i => inB ns k i b) m + cn (fun i => bs.any (inB ns k i)) m := by
      refine cn_or (fun i _ => List.any_cons) (fun i _ hq => ?_)
      have h1 : (i : Int) * sz ns k + sz ns k ≤ bEnd ns b := by
        unfold inB inG at hq
        simp at hq
        exact hq.2.2
      cases e : bs.any (inB ns k i) with
      | false => rfl
      | true =>
        obtain ⟨c, hc, hi⟩ := List.any_eq_true.mp e
        have := p.1 c hc
        unfold inB inG at hi
        simp at hi
        have h2 : c.1 ≤ (i : Int) * sz ns k := hi.2.1
        omega
    rw [spl, Int.natCast_add, Int.mul_add, ← ih]
    by_cases hc : b.2.2 = false ∧ k ≤ b.2.1
    · have e1 : cn (fun i => inB ns k i b) m = cn (inG (sz ns k) b.1 (bEnd ns b)) m := cn_congr fun i _ => by
        unfold inB
        rw [hc.1, decide_eq_true hc.2]
        rfl
      have dv : bEnd ns b / sz ns k ≤ (m : Int) := Int.le_trans (Int.ediv_le_ediv (by omega) hb.2.2.2) hm
      rw [e1, one_cn g hc.2 hb.1 hb.2.1 hb.2.2.1 dv]
      unfold lseI unpB
      rw [List.filter_cons_of_pos (by rw [hc.1]; rfl), List.filter_cons_of_pos (p := fun b : Blk => decide (k ≤ b.2.1)) (a := b) (decide_eq_true hc.2), List.map_cons, List.sum_cons]
    · have e1 : cn (fun i => inB ns k i b) m = 0 := cn_zero fun i _ => by
        unfold inB
        cases e : b.2.2 with
        | true => rfl
        | false =>
          rw [decide_eq_false (fun z => hc ⟨e, z⟩)]
          rfl
      rw [e1]
      unfold lseI unpB
      cases e : b.2.2 with
      | true =>
        rw [List.filter_cons_of_neg (by rw [e]; exact Bool.false_ne_true)]
        simp
      | false =>
        rw [List.filter_cons_of_pos (by rw [e]; rfl), List.filter_cons_of_neg (by rw [decide_eq_false (fun z => hc ⟨e, z⟩)]; exact Bool.false_ne_true)]
        simp
theorem lse_le (w : Wf ns n bs) (g : Good ns) (hk : k < ns.length) (n1 : 0 ≤ n) : lseI ns bs k ≤ dueI ns n bs k ∧ (dueI ns n bs k - lseI ns bs k) % sz ns k = 0 := by
  have hs := (chain g).pos k hk
  have q0 : 0 ≤ n / sz ns k := Int.ediv_nonneg n1 (by omega)
  have hm : n / sz ns k ≤ (((n / sz ns k).toNat : Nat) : Int) := by omega
  rw [lse_cn g hk hm w.ok w.so]
  unfold dueI
  rw [cntC_cn]
  refine ⟨?_, ?_⟩
  · refine Int.mul_le_mul_of_nonneg_left (Int.ofNat_le.mpr (cn_le fun i _ hq => ?_)) (by omega)
    obtain ⟨b, hb, hi⟩ := List.any_eq_true.mp hq
    unfold inB inG at hi
    simp at hi
    obtain ⟨⟨hu, _⟩, hi1, hi2⟩ := hi
    unfold clearAt clearB
    refine List.all_eq_true.mpr fun c hc => ?_
    unfold hitB
    cases ec : c.2.2 with
    | false => rfl
    | true =>
      obtain ⟨x, hx, ex⟩ := List.mem_iff_getElem.mp hb
      obtain ⟨y, hy, ey⟩ := List.mem_iff_getElem.mp hc
      have ne : x ≠ y := fun z => by
        subst z
        rw [ex] at ey
        rw [← ey, hu] at ec
        cases ec
      have pw := List.pairwise_iff_getElem.mp w.so
      rcases Nat.lt_or_gt_of_ne ne with hlt | hlt
      · have := pw x y hx hy hlt
        rw [ex, ey] at this
        rw [decide_eq_false (show ¬ c.1 < (i : Int) * sz ns k + sz ns k by omega)]
        rfl
      · have := pw y x hy hx hlt
        rw [ex, ey] at this
        rw [decide_eq_false (show ¬ (i : Int) * sz ns k < bEnd ns c by omega), Bool.and_false]
        rfl
  · rw [← Int.mul_sub]
    exact Int.mul_emod_right _ _
end
end K23

set_option Elab.async false
set_option linter.all false
set_option maxRecDepth 100000
set_option maxHeartbeats 4000000
/-! sorted of tuples (int, int, bool) with distinct first parts -/
namespace SrtO
open PySem PyProof.Rows Srt
section
variable {prog : Program} {w : World} {A : Around} {E : Value → Shared → Prop} {s : Shared}
def IsTrip (h : Heap) (v : Value) (x : Int) : Prop := ∃ a o t y u b n, v = .ref a ∧ h.get? a = some o ∧ o.cls = .type "tuple" ∧ o.data = .seq #[.int x t, .int y u, .bool b] n
theorem IsTrip.keeps {h h' : Heap} {v : Value} {x : Int} (p : IsTrip h v x) (k : ∀ b o, h.get? b = some o → o.cls = .type "tuple" → h'.get? b = some o) : IsTrip h' v x := by
  obtain ⟨a, o, t, y, u, b, n, e, ho, hc, hd⟩ := p
  exact ⟨a, o, t, y, u, b, n, e, k _ _ ho hc, hc, hd⟩
abbrev ltI (k : Value → Int) (v u : Value) : Bool := decide (k v < k u)
theorem swo_int {α : Type} (k : α → Int) : Swo (fun v u => decide (k v < k u)) := by
  refine ⟨fun x y h => ?_, fun x y z h1 h2 => ?_⟩
  · have a := of_decide_eq_true h
    exact decide_eq_false (by omega)
  · have a := of_decide_eq_false h1
    have b := of_decide_eq_false h2
    exact decide_eq_false (by omega)
theorem trip_cmp {vs : List Value} {k : Value → Int} (hp : ∀ v ∈ vs, IsTrip s.heap v (k v)) (hd : ∀ v ∈ vs, ∀ u ∈ vs, k v = k u → v = u) : Cmp prog w A s (tuples' true) (fun p => p.1 ∈ vs) (lt2 (ltI k)) := by
  intro p q hm hm'
  show wpAny (model prog w) A (keyLt' (tuples' true) p.1 q.1) (fun r s' => s' = s ∧ r = decide (k p.1 < k q.1)) (fun _ _ => False) s
  have h1 := hp _ hm
  have h2 := hp _ hm'
  by_cases ek : k p.1 = k q.1
  · have ev := hd _ hm _ hm' ek
    rw [← ev]
    rw [decide_eq_false (Int.lt_irrefl _)]
    generalize k p.1 = x at h1
    obtain ⟨a, o, t, y, u, b, n, e, ho, hc, hdd⟩ := h1
    rw [e]
    refine PySem.W.kat_lt ho hdd ho hdd ?_
    show PySem.W.KatLex prog w A true (decide (3 < 3)) _ [(.int x t, .int x t), (.int y u, .int y u), (.bool b, .bool b)] 0 s
    refine PySem.W.kat_cons (SeqAt.EqAt.int_int x t x t prog w _ _ ?_)
    refine PySem.W.kat_go (fun _ => ?_) (fun e1 => absurd e1 (by simp))
    refine PySem.W.kat_yes (PySem.W.kat_cons (SeqAt.EqAt.int_int y u y u prog w _ _ ?_))
    refine PySem.W.kat_go (fun _ => ?_) (fun e1 => absurd e1 (by simp))
    refine PySem.W.kat_yes (PySem.W.kat_cons (SeqAt.EqAt.bool_bool b b prog w _ _ ?_))
    refine PySem.W.kat_go (fun _ => ?_) (fun e1 => absurd e1 (by simp))
    exact PySem.W.kat_yes (PySem.W.kat_nil ⟨rfl, rfl⟩)
  · generalize k p.1 = x at h1 ek
    generalize k q.1 = x' at h2 ek
    obtain ⟨a, o, t, y, u, b, n, e, ho, hc, hdd⟩ := h1
    obtain ⟨a', o', t', y', u', b', n', e', ho', hc', hdd'⟩ := h2
    rw [e, e']
    refine PySem.W.kat_lt ho hdd ho' hdd' ?_
    show PySem.W.KatLex prog w A true (decide (3 < 3)) _ [(.int x t, .int x' t'), (.int y u, .int y' u'), (.bool b, .bool b')] 0 s
    refine PySem.W.kat_cons (SeqAt.EqAt.int_int x t x' t' prog w _ _ ?_)
    refine PySem.W.kat_go (fun e1 => absurd (by simpa using e1) ek) (fun e1 => ?_)
    exact PySem.W.kat_no (oneLt_int ⟨rfl, rfl⟩)
theorem firsts3 {h : Heap} : ∀ {vs : List Value}, (∀ v ∈ vs, ∃ x, IsTrip h v x) → ∃ fs : List Value, PySem.W.KatTups h vs fs ∧ fs.length = vs.length ∧ ∀ f ∈ fs, ∃ x t, f = Value.int x t
  | [], _ => ⟨[], PySem.W.KatTups.nil, rfl, fun _ hm => by simp at hm⟩
  | v :: vs, hp => by
    obtain ⟨fs, h1, h2, h3⟩ := firsts3 (vs := vs) fun v' hm => hp v' (List.mem_cons_of_mem _ hm)
    obtain ⟨x, a, o, t, y, u, b, n, e, ho, hc, hd⟩ := hp v (List.mem_cons_self ..)
    subst e
    refine ⟨.int x t :: fs, PySem.W.KatTups.cons ho hc hd rfl h1, by rw [List.length_cons, List.length_cons, h2], fun f hm => ?_⟩
    rcases List.mem_cons.mp hm with rfl | hm
    · exact ⟨x, t, rfl⟩
    · exact h3 f hm
theorem trips_sortable {a : Addr} {vs : List Value} {k : Value → Int} (h0 : 0 < vs.length) (hp : ∀ v ∈ vs, IsTrip s.heap v (k v)) (hd : ∀ v ∈ vs, ∀ u ∈ vs, k v = k u → v = u) (ha : ∀ o, s.heap.get? a = some o → o.cls ≠ .type "tuple") : SortableO prog w A s a vs (ltI k) := by
  intro h' keep
  have hp' : ∀ v ∈ vs, IsTrip h' v (k v) := fun v hm => (hp v hm).keeps fun b o e c => keep b o (fun z => by subst z; exact ha o e c) e
  obtain ⟨fs, h1, h2, h3⟩ := firsts3 fun v hm => ⟨_, hp' v hm⟩
  refine ⟨tuples' true, fun Q E hq => ?_, trip_cmp hp' hd⟩
  refine PySem.W.kat_kind (T := .type "int") h1 (by omega) (fun f hm => ?_) (by rfl) ?_
  · obtain ⟨x, t, rfl⟩ := h3 f hm
    exact PySem.W.Looks.now
  · have e : (Value.type "int" != Value.type "tuple") = true := by first | decide +kernel | rfl | decide
    rw [e]
    exact hq
theorem sorted_trips {l : Addr} {vs : List Value} {k : Value → Int} {Q : Value → Shared → Prop} (hl : s.heap.IsList l vs.toArray) (hz : vs.length ≤ sizeLine) (hp : ∀ v ∈ vs, IsTrip s.heap v (k v)) (hdi : ∀ v ∈ vs, ∀ u ∈ vs, k v = k u → v = u)
    (h : ∀ (h' : Heap) (d : Addr) (out : List Value), Srtd (ltI k) out → Stb (ltI k) out vs → (∀ b o, s.heap.get? b = some o → h'.get? b = some o) → s.heap.objs.size ≤ d → (∃ n, h'.get? d = some (seqObj "list" out.toArray n)) → Q (.ref d) { s with heap := h' }) :
    wpAny (model prog w) A (call (.builtin "sorted") [.ref l]) Q E s := by
  refine sorted_ord (swo_int k) hl hz (fun h2 h₁ a ha kk => ?_) fun out hs hb => ?_
  · refine trips_sortable (s := { s with heap := h₁ }) (by omega) (fun v hm => (hp v hm).keeps fun b o e _ => (kk b o e).2) hdi fun o e => ?_
    have e' : some o = some (seqObj "list" vs.toArray 0) := e.symm.trans ha
    cases e'
    intro c
    exact absurd (Value.type.inj c) (by decide)
  · exact h _ _ out hs hb (fun b o e => sortedAll_old e) (Nat.le_succ _) (sortedAll_at s.heap vs out.toArray)
end
end SrtO
namespace L2
open PySem PySem.Spec PyProof.Rows
theorem vals3S {a b c : V} {us : List Value} (r : Vals [a, b, c] us) : ∃ u v w, us = [u, v, w] ∧ RelV a u ∧ RelV b v ∧ RelV c w := by
  cases r with
  | cons h1 r => cases r with
    | cons h2 r => cases r with
      | cons h3 r => cases r with
        | nil => exact ⟨_, _, _, rfl, h1, h2, h3⟩
def rSortedB (K : PySem.W.Frag) : List V → Hp → VK → Prop := fun vs H Q => ∃ (a : Addr) (xs : List V) (k : V → Int), vs = [V.ref a] ∧ SqL K H a xs ∧ (∀ x ∈ xs, ∃ t j b, x = V.ref t ∧ H t = some (.tup [.int (k x), .int j, .bl b])) ∧ (∀ x ∈ xs, ∀ y ∈ xs, k x = k y → x = y) ∧
  ∀ ys p, ys.Pairwise (fun x y => k x ≤ k y) → ys.Perm xs → H p = none → Q (.ref p) (upd H p (.lst ys))
section
variable {X : Cx}
theorem cr_sortedB : CallR X (.builtin "sorted") (rSortedB X.K) := by
  intro pins s σ H vs us Q I r h
  obtain ⟨a, xs, k, rfl, hs, hx, hdi, q⟩ := h
  obtain ⟨its, rv, hl, hz⟩ := I.list hs
  obtain ⟨u, rfl, ru⟩ := vals1 r
  obtain rfl : u = Value.ref a := ru
  obtain ⟨e1, e2⟩ := refs_back rv fun x m => by
    obtain ⟨t, _, _, e, _⟩ := hx x m
    exact ⟨t, e⟩
  have mem : ∀ v ∈ its, backV v ∈ xs := fun v hv => by rw [e1]; exact List.mem_map.mpr ⟨_, hv, rfl⟩
  refine SrtO.sorted_trips (k := fun u => k (backV u)) hl.isList (by rw [← rv.length]; exact hz) (fun v hv => ?_) (fun v hv u hu e => ?_) fun h' d out h1 h2 kp hd hn => ?_
  · obtain ⟨t, rfl⟩ := e2 v hv
    have hm : V.ref t ∈ xs := mem _ hv
    obtain ⟨t', j, b, e, ht⟩ := hx _ hm
    cases e
    obtain ⟨_, its2, r2, o, ho, hc, n, hd⟩ := I.hok _ _ ht
    obtain ⟨u1, u2, u3, rfl, ri, rj, rb⟩ := vals3S r2
    obtain ⟨t1, rfl⟩ := ri
    obtain ⟨t2, rfl⟩ := rj
    have e3 : u3 = .bool b := rb
    subst e3
    exact ⟨t, o, t1, j, t2, b, n, rfl, ho, hc, hd⟩
  · have z := hdi _ (mem v hv) _ (mem u hu) e
    obtain ⟨t, rfl⟩ := e2 v hv
    obtain ⟨t', rfl⟩ := e2 u hu
    have z2 : V.ref t = V.ref t' := z
    rw [V.ref.inj z2]
  · have h3 : ∀ u ∈ out, ∃ a, u = Value.ref a := fun u hu => e2 u (h2.perm.mem_iff.mp hu)
    obtain ⟨n, hn⟩ := hn
    have hb : (out.map backV).Perm xs := by
      rw [e1]
      exact h2.perm.map backV
    refine ⟨.ref d, upd H d (.lst (out.map backV)), I.laid (t' := s.toks) kp hd ⟨?_, out, n, vals_back h3, hn⟩, rfl, q _ d (List.pairwise_map.mpr (h1.imp fun {x y} e => ?_)) hb (I.hok.fresh hd)⟩
    · rw [hb.length_eq]
      exact hz
    · have z := of_decide_eq_false e
      exact Int.not_lt.mp z
end
end L2

set_option Elab.async false
set_option linter.all false
set_option maxRecDepth 100000
set_option maxHeartbeats 4000000
namespace K23
open PySem PySem.Spec PyProof.Rows L2 Gu Ex
/-- the block at an address -/
def bkA (G : Hp) (t : Addr) : Blk := match G t with
  | some (.tup [.int a, .int l, .bl p]) => (a, l.toNat, p)
  | _ => (0, 0, false)
def keyV (G : Hp) : V → Int
  | .ref t => (bkA G t).1
  | _ => 0
theorem bkA_of {G : Hp} {t : Addr} {b : Blk} (h : G t = some (.tup (blkV b))) : bkA G t = b := by
  unfold bkA
  rw [h]
  obtain ⟨a, l, p⟩ := b
  show (a, ((l : Nat) : Int).toNat, p) = (a, l, p)
  rw [Int.toNat_natCast]
theorem Refs.bk {G : Hp} {qs : List Addr} {bs : List Blk} (h : Refs blkV G qs bs) : bs = qs.map (bkA G) ∧ ∀ t ∈ qs, G t = some (.tup (blkV (bkA G t))) := by
  induction h with
  | nil => exact ⟨rfl, fun _ m => nomatch m⟩
  | cons e _ ih =>
    have e2 := bkA_of e
    refine ⟨by rw [List.map_cons, e2, ih.1], fun t ht => ?_⟩
    rcases List.mem_cons.mp ht with z | z
    · rw [z, e2]; exact e
    · exact ih.2 t z
theorem Refs.of_bk {G : Hp} : ∀ {qs : List Addr}, (∀ t ∈ qs, G t = some (.tup (blkV (bkA G t)))) → Refs blkV G qs (qs.map (bkA G))
  | [], _ => .nil
  | t :: qs, h => .cons (h t List.mem_cons_self) (Refs.of_bk fun u hu => h u (List.mem_cons_of_mem _ hu))
def Dj (ns : List Int) (b c : Blk) : Prop := bEnd ns b ≤ c.1 ∨ bEnd ns c ≤ b.1
/-- blocks as they are put, in any order -/
structure Un (ns : List Int) (n : Int) (bs : List Blk) : Prop where
  ok : ∀ b ∈ bs, b.2.1 < ns.length ∧ 0 ≤ b.1 ∧ sz ns b.2.1 ∣ b.1 ∧ bEnd ns b ≤ n
  dj : bs.Pairwise (Dj ns)
theorem Wf.un {ns : List Int} {n : Int} {bs : List Blk} (w : Wf ns n bs) : Un ns n bs := ⟨w.ok, w.so.imp fun h => .inl h⟩
theorem Un.snoc {ns : List Int} {n : Int} {bs : List Blk} {k : Nat} {a : Int} {p : Bool} (u : Un ns n bs) (hk : k < ns.length) (a0 : 0 ≤ a) (h : spaceB ns n bs k a = true) : Un ns n (bs ++ [(a, k, p)]) := by
  unfold spaceB at h
  rw [Bool.and_eq_true, Bool.and_eq_true] at h
  obtain ⟨h1, h2, h3⟩ := h
  have d1 := of_decide_eq_true h1
  have d2 := of_decide_eq_true h2
  refine ⟨fun b hb => ?_, List.pairwise_append.mpr ⟨u.dj, List.pairwise_singleton _ _, fun b hb c hc => ?_⟩⟩
  · rcases List.mem_append.mp hb with e | e
    · exact u.ok b e
    · rw [List.mem_singleton.mp e]
      exact ⟨hk, a0, d1, d2⟩
  · rw [List.mem_singleton.mp hc]
    have := List.all_eq_true.mp h3 b hb
    unfold offB at this
    rw [Bool.or_eq_true] at this
    rcases this with z | z
    · exact .inr (of_decide_eq_true z)
    · exact .inl (of_decide_eq_true z)
section
variable {ns : List Int} {n : Int} {bs : List Blk} {G : Hp} {qs : List Addr}
theorem Un.perm {cs : List Blk} (u : Un ns n bs) (p : cs.Perm bs) : Un ns n cs := ⟨fun b hb => u.ok b (p.mem_iff.mp hb), (p.pairwise_iff (fun h => h.symm)).mpr u.dj⟩
theorem Un.wf (u : Un ns n bs) (g : Good ns) (s : bs.Pairwise (fun b c => b.1 ≤ c.1)) : Wf ns n bs := by
  refine ⟨u.ok, List.pairwise_iff_getElem.mpr fun i j hi hj hij => ?_⟩
  have h1 := List.pairwise_iff_getElem.mp u.dj i j hi hj hij
  have h2 := List.pairwise_iff_getElem.mp s i j hi hj hij
  have h3 := (chain g).pos _ (u.ok _ (List.getElem_mem hj)).1
  rcases h1 with h | h
  · exact h
  · unfold bEnd at h
    omega
/-- what sorted wants -/
theorem Un.keys (u : Un ns n bs) (g : Good ns) (rf : Refs blkV G qs bs) : (∀ x ∈ qs.map V.ref, ∃ t j b, x = V.ref t ∧ G t = some (.tup [.int (keyV G x), .int j, .bl b])) ∧ ∀ x ∈ qs.map V.ref, ∀ y ∈ qs.map V.ref, keyV G x = keyV G y → x = y := by
  obtain ⟨e, h⟩ := rf.bk
  refine ⟨fun x hx => ?_, fun x hx y hy hk => ?_⟩
  · obtain ⟨t, ht, rfl⟩ := List.mem_map.mp hx
    exact ⟨t, _, _, rfl, h t ht⟩
  · obtain ⟨t, ht, rfl⟩ := List.mem_map.mp hx
    obtain ⟨t2, ht2, rfl⟩ := List.mem_map.mp hy
    obtain ⟨i, hi, ei⟩ := List.mem_iff_getElem.mp ht
    obtain ⟨j, hj, ej⟩ := List.mem_iff_getElem.mp ht2
    by_cases ij : i = j
    · subst ij
      rw [ei] at ej
      rw [ej]
    · exfalso
      have hk2 : (bkA G t).1 = (bkA G t2).1 := hk
      have pw := List.pairwise_iff_getElem.mp u.dj
      have li : i < bs.length := by rw [e, List.length_map]; exact hi
      have lj : j < bs.length := by rw [e, List.length_map]; exact hj
      have bi : bs[i] = bkA G t := by
        have : bs[i]? = some (bkA G t) := by rw [e, List.getElem?_map, List.getElem?_eq_getElem hi, ei]; rfl
        rw [List.getElem?_eq_getElem li] at this
        exact Option.some.inj this
      have bj : bs[j] = bkA G t2 := by
        have : bs[j]? = some (bkA G t2) := by rw [e, List.getElem?_map, List.getElem?_eq_getElem hj, ej]; rfl
        rw [List.getElem?_eq_getElem lj] at this
        exact Option.some.inj this
      have p1 := (chain g).pos _ (u.ok _ (List.getElem_mem li)).1
      have p2 := (chain g).pos _ (u.ok _ (List.getElem_mem lj)).1
      have dd : Dj ns bs[i] bs[j] := by
        rcases Nat.lt_or_gt_of_ne ij with l | l
        · exact pw i j li lj l
        · exact (pw j i lj li l).symm
      have hk3 : bs[i].1 = bs[j].1 := by rw [bi, bj]; exact hk2
      unfold Dj bEnd at dd
      omega
def unR : V → Addr
  | .ref t => t
  | _ => 0
theorem map_unR (qs : List Addr) : (qs.map V.ref).map unR = qs := by
  induction qs with
  | nil => rfl
  | cons t qs ih => rw [List.map_cons, List.map_cons, ih]; rfl
theorem refs_of : ∀ {zs : List V}, (∀ v ∈ zs, ∃ t, v = V.ref t) → ∃ qs : List Addr, zs = qs.map V.ref
  | [], _ => ⟨[], rfl⟩
  | v :: zs, h => by
    obtain ⟨t, rfl⟩ := h v List.mem_cons_self
    obtain ⟨qs, rfl⟩ := refs_of (zs := zs) fun u hu => h u (List.mem_cons_of_mem _ hu)
    exact ⟨t :: qs, rfl⟩
theorem Un.sorted (u : Un ns n bs) (g : Good ns) (rf : Refs blkV G qs bs) {zs : List V} (hs : zs.Pairwise (fun x y => keyV G x ≤ keyV G y)) (hp : zs.Perm (qs.map V.ref)) : ∃ qs' bs', zs = qs'.map V.ref ∧ Refs blkV G qs' bs' ∧ bs'.Perm bs ∧ Wf ns n bs' := by
  obtain ⟨e, h⟩ := rf.bk
  obtain ⟨qs', hq, hz⟩ : ∃ qs' : List Addr, qs'.Perm qs ∧ zs = qs'.map V.ref := by
    obtain ⟨qs', rfl⟩ := refs_of (zs := zs) fun v hv => by
      obtain ⟨t, _, rfl⟩ := List.mem_map.mp (hp.mem_iff.mp hv)
      exact ⟨t, rfl⟩
    have := hp.map unR
    rw [map_unR, map_unR] at this
    exact ⟨qs', this, rfl⟩
  subst hz
  have rf' := Refs.of_bk (G := G) (qs := qs') fun t ht => h t (hq.mem_iff.mp ht)
  have pm : (qs'.map (bkA G)).Perm bs := by rw [e]; exact hq.map _
  refine ⟨qs', _, rfl, rf', pm, (u.perm pm).wf g ?_⟩
  have hs' : qs'.Pairwise (fun x y => (bkA G x).1 ≤ (bkA G y).1) := (List.pairwise_map (f := V.ref) (R := fun x y => keyV G x ≤ keyV G y)).mp hs
  exact List.pairwise_map.mpr hs'
/-- sorted lists of the same blocks are one -/
theorem uniqB : ∀ {l m : List Blk}, l.Pairwise (fun b c => b.1 < c.1) → m.Pairwise (fun b c => b.1 < c.1) → l.Perm m → l = m
  | [], m, _, _, h => (List.Perm.eq_nil h.symm).symm
  | x :: l, [], _, _, h => absurd h.length_eq (by simp)
  | x :: l, y :: m, hl, hm, h => by
    have pl := List.pairwise_cons.mp hl
    have pm := List.pairwise_cons.mp hm
    have e : x = y := by
      rcases List.mem_cons.mp (h.mem_iff.mp (List.mem_cons_self (a := x) (l := l))) with e | e
      · exact e
      · rcases List.mem_cons.mp (h.mem_iff.mpr (List.mem_cons_self (a := y) (l := m))) with e2 | e2
        · exact e2.symm
        · have := pm.1 x e
          have := pl.1 y e2
          omega
    subst e
    rw [uniqB pl.2 pm.2 (List.Perm.cons_inv h)]
end
section
variable {P : Program} {w : World} {K : PySem.W.Frag} {mg : Str → Option Value} {base : Heap} {f : Addr} {fd : FuncData}
def spBlocks : Sp := fun vs H Q _ => ∃ (r s : Addr) (ns : List Int) (n many one : Int), vs = [.ref r, .ref s, .int n, .int many, .int one] ∧ Rng H r ∧ H s = some (.lst (ns.map V.int)) ∧ s ≠ r ∧ Good ns ∧ 1 ≤ n ∧ n ≤ 1000 ∧ 0 ≤ many ∧ many ≤ 100 ∧ 1 ≤ one ∧ one ≤ 100 ∧
  ∀ a qs bs H', H a = none → Stp r H H' → H' a = some (.lst (qs.map V.ref)) → Refs blkV H' qs bs → Wf ns n bs → bs.length ≤ 100 → Q (.ref a) H'
theorem sc__law_blocks : FnScope ["_law_rng_here", "_law_sizes_here", "_law_length", "_law_many", "_law_one_in", "_law_result", "_law_k", "_law_level", "_law_address", "_law_is_pinned"] ["_law_rng_here", "_law_sizes_here", "_law_length", "_law_many", "_law_one_in"] (defScope (top 36)) := ⟨rfl, rfl, rfl, by decide +kernel, rfl, by decide +kernel, by decide +kernel⟩
theorem ok_blocks (T : Tx K mg) (D__law_draw : Df P w K mg base 1 "_law_draw" ["_law_rng_here", "_law_many"] spDraw) (D__law_has_space : Df P w K mg base 1 "_law_has_space" ["_law_sizes_here", "_law_length", "_law_blocks_here", "_law_level", "_law_address"] spSpace)
    (F : FnP K "_law_blocks" "_law_blocks" (top 36) f fd) : FnOk P w K mg base CX0 2 f fd ["_law_rng_here", "_law_sizes_here", "_law_length", "_law_many", "_law_one_in"] spBlocks := by
  refine F.ok sc__law_blocks (fun vs H Q E h => ?_) (fun cdv A outer s H vs Q E hr h => ⟨_, PSs.nox (pss_cons (ps_set (i := 5) sc__law_blocks.nd rfl (by first | exact Or.inl rfl | exact Or.inr rfl) (pe_lst pa_nil)) (pss_cons (ps_for PassesOwn.never rfl (pi_range1 rfl T.n_range (pa_cons (pcall D__law_draw hr (pa_cons (pv 0) (pa_cons (pe_op op_add (pv 3) pe_int) pa_nil))) pa_nil)) (pg_name (i := 6) sc__law_blocks.nd rfl (by first | exact Or.inl rfl | exact Or.inr rfl)) (pss_cons (ps_set (i := 7) sc__law_blocks.nd rfl (by first | exact Or.inl rfl | exact Or.inr rfl) (pcall D__law_draw hr (pa_cons (pv 0) (pa_cons (pe_callB call_len_seq (by rfl) T.n_len (by decide +kernel) (pa_cons (pv 1) pa_nil)) pa_nil)))) (pss_one (ps_if (pt_cmpR op_le (pe_ix ix_list (pv 1) (pv 7) (fun _ _ => rfl)) (pv 2) (nomark _)) (pss_cons (ps_set (i := 8) sc__law_blocks.nd rfl (by first | exact Or.inl rfl | exact Or.inr rfl) (pe_op op_mul (pcall D__law_draw hr (pa_cons (pv 0) (pa_cons (pe_op op_fdivW (pv 2) (pe_ix ix_list (pv 1) (pv 7) (fun _ _ => rfl))) pa_nil))) (pe_ix ix_list (pv 1) (pv 7) (fun _ _ => rfl)))) (pss_cons (ps_set (i := 9) sc__law_blocks.nd rfl (by first | exact Or.inl rfl | exact Or.inr rfl) (pe_and (pe_cmpR op_gt (pv 4) pe_int (nomark _)) (pe_one (pe_cmpR op_eq (pcall D__law_draw hr (pa_cons (pv 0) (pa_cons (pe_callB (call_max2 rfl) (by rfl) T.n_max (by decide +kernel) (pa_cons pe_int (pa_cons (pv 4) pa_nil))) pa_nil))) pe_int (nomark _))))) (pss_one (ps_if (pt_val (pcall D__law_has_space hr (pa_cons (pv 1) (pa_cons (pv 2) (pa_cons (pv 5) (pa_cons (pv 7) (pa_cons (pv 8) pa_nil))))))) (pss_one (ps_expr (pe_bm PySem.F.plainAttrs_list PySem.F.slot_list_append PySem.F.type_list_append mt_append (pv 5) (pa_cons (pe_tup (pa_cons (pv 8) (pa_cons (pv 7) (pa_cons (pv 9) pa_nil)))) pa_nil)))) pss_nil)))) pss_nil)))) (pss_one (ps_ret (pe_callB cr_sortedB (by rfl) T.n_sorted (by decide +kernel) (pa_cons (pv 5) pa_nil)))))), ?_⟩)
  · obtain ⟨r, s, ns, n, many, one, rfl, _⟩ := h
    rfl
  · obtain ⟨r, s, ns, n, many, one, rfl, hR, hs, nsr, g, n1, n2, m1, m2, o1, o2, q⟩ := h
    have sl : sizeLine = 16777216 := sizeLine_eq
    have big : (10 : Int) ^ 40 = 10000000000000000000000000000000000000000 := by decide
    have g8 := g.len
    refine ⟨Nat.zero_le _, fun R hRn => ?_⟩
    have nrR : R ≠ r := (hR.ne hRn).symm
    have s0 : Stp r H (upd H R (.lst [])) := (Stp.refl hR).new hRn
    have hR0 : (upd H R (.lst [])) R = some (.lst []) := upd_same
    generalize upd H R (.lst []) = H0 at s0 hR0
    refine ⟨_, rfl, _, rfl, _, _, rfl, rfl, r, many + 1, rfl, s0.1, by omega, by omega, fun d H1 d0 d1 s1 => ?_⟩
    refine ⟨d, rfl, by omega, by omega, ?_⟩
    have two : 3 ≤ sizeLine := by decide
    refine for_range (fun i σ G => ∃ (x6 x7 x8 x9 : Option V) (qs : List Addr) (bs : List Blk), σ = [some (.ref r), some (.ref s), some (.int n), some (.int many), some (.int one), some (.ref R), x6, x7, x8, x9] ∧ Stp r H G ∧ G R = some (.lst (qs.map V.ref)) ∧ Refs blkV G qs bs ∧ Un ns n bs ∧ bs.length ≤ i)
      ⟨none, none, none, none, [], [], rfl, s0.trans s1, s1.2 _ _ nrR hR0, .nil, ⟨fun _ m => (nomatch m), .nil⟩, Nat.le_refl _⟩ ?_ ?_
    · rintro i σ G hi ⟨x6, x7, x8, x9, qs, bs, rfl, st, hG, rf, un, bl⟩
      have hi2 : i < 101 := by omega
      have hsG : G s = some (.lst (ns.map V.int)) := st.2 _ _ nsr hs
      refine ⟨_, rfl, _, rfl, s, _, rfl, .inl (SqL.of hsG), r, _, rfl, st.1, (by rw [List.length_map]; omega), (by rw [List.length_map]; omega), fun d7 G1 a0 a1 t1 => ?_⟩
      rw [List.length_map] at a1
      obtain ⟨k, rfl⟩ : ∃ k : Nat, d7 = (k : Int) := ⟨d7.toNat, by omega⟩
      have hk : k < ns.length := by omega
      have st1 := st.trans t1
      have mv : ∀ {G G' : Hp}, Stp r G G' → Refs blkV G qs bs → Rng G r → Refs blkV G' qs bs := fun {G G'} t rf rg => rf.mono fun p xs e => t.2 p _ (fun z => by
        obtain ⟨_, _, e2, _⟩ := rg
        rw [z, e2] at e
        cases e) e
      have rf1 := mv t1 rf st.1
      have hG1 := t1.2 _ _ nrR hG
      have hs1 := st1.2 _ _ nsr hs
      have z1 := (chain g).pos k hk
      have z2 := sz_le g hk
      refine ⟨_, rfl, _, rfl, s, _, _, _, rfl, rfl, SqL.of hs1, at_sz hk, _, rfl, _, _, rfl, rfl, _, rfl, ?_⟩
      by_cases hc : sz ns k ≤ n
      case neg =>
        exact ifF (decide_eq_false hc) ⟨_, _, _, _, qs, bs, rfl, st1, hG1, rf1, un, by omega⟩
      refine ifT (decide_eq_true hc) ?_
      have j1 : 1 ≤ n / sz ns k := (Int.le_ediv_iff_mul_le (by omega)).mpr (by omega)
      have j2 : n / sz ns k ≤ 1000 := Int.le_trans (Int.ediv_le_self _ (by omega)) n2
      refine ⟨_, rfl, _, rfl, _, rfl, _, rfl, s, _, _, _, rfl, rfl, SqL.of hs1, at_sz hk, _, _, rfl, rfl, wide_div (b := 30) (by omega) (by omega) (by decide) (by decide), r, _, rfl, st1.1, j1, by omega, fun d8 G2 b0 b1 t2 => ?_⟩
      have st2 := st1.trans t2
      have hs2 := st2.2 _ _ nsr hs
      refine ⟨_, rfl, _, rfl, s, _, _, _, rfl, rfl, SqL.of hs2, at_sz hk, _, _, rfl, rfl, .inr ⟨by omega, by omega⟩, ?_⟩
      have ad0 : 0 ≤ d8 * sz ns k := Int.mul_nonneg b0 (by omega)
      have ad1 : d8 * sz ns k ≤ 1000 := by
        have h1 := (dn_iff (s := sz ns k) (e := n) (i := d8) z1).mp b1
        omega
      have rf2 := mv t2 rf1 st1.1
      have hG2 := t2.2 _ _ nrR hG1
      refine ⟨_, rfl, _, _, rfl, rfl, true, bT (by omega), iteT ?_⟩
      have mx : 1 ≤ (if one > 1 then one else 1) ∧ (if one > 1 then one else 1) ≤ 100 := by
        split <;> omega
      refine ⟨_, rfl, _, rfl, _, _, rfl, r, _, rfl, st2.1, mx.1, by omega, fun d9 G3 c0 c1 t3 => ?_⟩
      have st3 := st2.trans t3
      have hs3 := st3.2 _ _ nsr hs
      have rf3 := mv t3 rf2 st2.1
      have hG3 := t3.2 _ _ nrR hG2
      refine ⟨rfl, ?_⟩
      refine ⟨_, rfl, _, rfl, _, rfl, _, rfl, _, rfl, s, R, ns, n, qs, bs, k, _, rfl, hs3, ⟨hG3, rf3, fun b hb => (un.ok b hb).1, by omega⟩, g, hk, ad0, by omega, fun G4 s4 => ?_⟩
      have st4 : Stp r H G4 := ⟨by
        obtain ⟨x, y, e, z⟩ := st3.1
        exact ⟨x, y, s4 _ _ e, z⟩, fun b o nb e => s4 _ _ (st3.2 b o nb e)⟩
      have rf4 := rf3.same s4
      have hG4 := s4 _ _ hG3
      refine ⟨_, rfl, ?_⟩
      cases hsp : spaceB ns n bs k (d8 * sz ns k) with
      | false => exact iteF ⟨_, _, _, _, qs, bs, rfl, st4, hG4, rf4, un, by omega⟩
      | true =>
        have ql := rf.len
        refine iteT ⟨_, rfl, .inl ⟨rfl, _, SqL.of hG4⟩, _, rfl, _, rfl, _, rfl, two, fun u hu => ?_⟩
        have nM : R ≠ u := ne_of_none hG4 hu
        refine ⟨R, _, _, rfl, rfl, (by rw [upd_ne nM]; exact hG4), (by rw [List.length_map]; omega), ?_⟩
        refine ⟨_, _, _, _, qs ++ [u], bs ++ [(d8 * sz ns k, k, _)], rfl, ?_, ?_, Refs.more (u := (d8 * sz ns k, k, _)) rf4 hG4 hu, un.snoc hk ad0 hsp, (by rw [List.length_append, List.length_singleton]; omega)⟩
        · refine ⟨?_, fun b o nb e => ?_⟩
          · obtain ⟨x, y, e, z⟩ := st4.1
            exact ⟨x, y, by rw [upd_ne nrR.symm, upd_ne (ne_of_none e hu)]; exact e, z⟩
          · rw [upd_ne (ne_of_none e hRn), upd_ne (ne_of_none (st4.2 b o nb e) hu)]
            exact st4.2 b o nb e
        · rw [upd_same, List.map_append]
          rfl
    · rintro σ G ⟨x6, x7, x8, x9, qs, bs, rfl, st, hG, rf, un, bl⟩
      obtain ⟨k1, k2⟩ := un.keys g rf
      refine ⟨_, rfl, R, _, keyV G, rfl, SqL.of hG, k1, k2, fun zs p hs' hp hpn => ?_⟩
      obtain ⟨qs', bs', rfl, rf', pm, wf⟩ := un.sorted g rf hs' hp
      refine q p qs' bs' _ (st.free hpn) (st.new hpn) upd_same (rf'.same (same_upd hpn)) wf ?_
      rw [pm.length_eq]
      omega
end
end K23

set_option Elab.async false
set_option linter.all false
set_option maxRecDepth 100000
set_option maxHeartbeats 4000000
namespace K23
open PySem PySem.Spec PyProof.Rows L2 Gu Ex
theorem ins_last {ns : List Int} {n : Int} {bs : List Blk} {i j : Nat} {b : Blk} (w : Wf ns n bs) (g : Good ns) (hb : bs[i]? = some b) (h : Below (bs.take i) b.1 j) : insB (bs.take i) j b = bs.take (i + 1) := by
  have il := (List.getElem?_eq_some_iff.mp hb).1
  have tl : (bs.take i).length = i := by rw [List.length_take]; omega
  have ej : j = (bs.take i).length := by
    refine Nat.le_antisymm h.1 ?_
    rcases Nat.lt_or_ge j (bs.take i).length with hl | hl
    · have e := List.getElem?_eq_getElem hl
      have e2 := e
      rw [List.getElem?_take_of_lt (by omega)] at e2
      have lt := (w.lt g e2 hb (by omega)).2
      exact absurd ((h.2 j _ e).mpr lt) (Nat.lt_irrefl _)
    · exact hl
  unfold insB
  rw [ej, List.take_length, List.drop_length, List.append_nil, take_at hb]
section
variable {P : Program} {w : World} {K : PySem.W.Frag} {mg : Str → Option Value} {base : Heap} {f : Addr} {fd : FuncData}
def spLayout (K : PySem.W.Frag) : Sp := fun vs H Q _ => ∃ (s a : Addr) (ns : List Int) (n : Int) (qs : List Addr) (bs : List Blk), vs = [.ref s, .int n, .ref a] ∧ H s = some (.lst (ns.map V.int)) ∧ Good ns ∧ H a = some (.lst (qs.map V.ref)) ∧ Refs blkV H qs bs ∧ Wf ns n bs ∧ bs.length ≤ 100 ∧ 1 ≤ n ∧ n ≤ 1000 ∧
  ∀ y zp bl dx dz l ps H', Same H H' → Ly K H' y zp bl dx ps ns n bs → H y = none → H bl = none → H' zp = some (.ins (He.ga K "Sizes") dz (szF l)) → H l = none → Q (.ref y) H'
theorem sc__law_layout : FnScope ["_law_sizes_here", "_law_length", "_law_blocks_here", "_law_layout_here", "_law_address", "_law_level", "_law_is_pinned"] ["_law_sizes_here", "_law_length", "_law_blocks_here"] (defScope (top 37)) := ⟨rfl, rfl, rfl, by decide +kernel, rfl, by decide +kernel, by decide +kernel⟩
theorem ok_layout (T : Tx K mg) (D_Sizes : Kf P w K mg base 4 "Sizes" ["self", "values"] (spMade K)) (D_Layout : Kf P w K mg base 4 "Layout" ["self", "sizes", "length"] (spNew K)) (M_put_kw : MfK P w K mg base 8 "Layout" "put" ["self", "level", "address", "pinned"] 3 ["pinned"] (spPut K))
    (F : FnP K "_law_layout" "_law_layout" (top 37) f fd) : FnOk P w K mg base CX0 9 f fd ["_law_sizes_here", "_law_length", "_law_blocks_here"] (spLayout K) := by
  refine F.ok sc__law_layout (fun vs H Q E h => ?_) (fun cdv A outer s H vs Q E hr h => ⟨_, PSs.nox (pss_cons (ps_set (i := 3) sc__law_layout.nd rfl (by first | exact Or.inl rfl | exact Or.inr rfl) (pmake D_Layout hr (pa_cons (pmake D_Sizes hr (pa_cons (pv 0) pa_nil)) (pa_cons (pv 1) pa_nil)))) (pss_cons (ps_for PassesOwn.never rfl (pi_list (pv 2)) (pg_tup (by rfl) (pgs_cons (pg_name (i := 4) sc__law_layout.nd rfl (by first | exact Or.inl rfl | exact Or.inr rfl)) (pgs_cons (pg_name (i := 5) sc__law_layout.nd rfl (by first | exact Or.inl rfl | exact Or.inr rfl)) (pgs_cons (pg_name (i := 6) sc__law_layout.nd rfl (by first | exact Or.inl rfl | exact Or.inr rfl)) pgs_nil)))) (pss_one (ps_expr (pmethK M_put_kw hr (pv 3) (pa_cons (pv 5) (pa_cons (pv 4) pa_nil)) (pk_cons (pv 6) pk_nil))))) (pss_one (ps_ret (pv 3))))), ?_⟩)
  · obtain ⟨s, a, ns, n, qs, bs, rfl, _⟩ := h
    rfl
  · obtain ⟨s, a, ns, n, qs, bs, rfl, hs, g, ha, rf, wf, b100, n1, n2, q⟩ := h
    have ql := rf.len
    refine ⟨_, rfl, ?_⟩
    intro x dz hx hdz ndz
    have e1 : (upd (upd H dz (.own x)) x (.ins (He.ga K "Sizes") dz [])) s = some (.lst (ns.map V.int)) := by
      rw [upd_ne (ne_of_none hs hx), upd_ne (ne_of_none hs hdz)]
      exact hs
    refine ⟨x, dz, s, ns, rfl, upd_same, SqL.of e1, .base (.lst e1), g, fun l hl => ⟨rfl, ?_⟩⟩
    have nxl : x ≠ l := ne_of_none upd_same hl
    have ndl : dz ≠ l := fun z => by
      rw [← z, upd_ne ndz, upd_same] at hl
      cases hl
    have l0 : H l = none := by
      rw [upd_ne nxl.symm, upd_ne ndl.symm] at hl
      exact hl
    refine ⟨_, rfl, ?_⟩
    intro y dx hy hdx ndx
    have kp1 : ∀ {c : Addr} {o : HO}, H c = some o → (upd (upd (upd (upd H dz (.own x)) x (.ins (He.ga K "Sizes") dz [])) l (.lst (ns.map V.int))) x (.ins (He.ga K "Sizes") dz (szF l))) c = some o := fun {c o} e => by
      rw [upd_ne (ne_of_none e hx), upd_ne (ne_of_none e l0), upd_ne (ne_of_none e hx), upd_ne (ne_of_none e hdz)]
      exact e
    have hx1 : (upd (upd (upd (upd H dz (.own x)) x (.ins (He.ga K "Sizes") dz [])) l (.lst (ns.map V.int))) x (.ins (He.ga K "Sizes") dz (szF l))) x = some (.ins (He.ga K "Sizes") dz (szF l)) := upd_same
    have hl1 : (upd (upd (upd (upd H dz (.own x)) x (.ins (He.ga K "Sizes") dz [])) l (.lst (ns.map V.int))) x (.ins (He.ga K "Sizes") dz (szF l))) l = some (.lst (ns.map V.int)) := by rw [upd_ne nxl.symm, upd_same]
    have kp2 : ∀ {c : Addr} {o : HO}, (upd (upd (upd (upd H dz (.own x)) x (.ins (He.ga K "Sizes") dz [])) l (.lst (ns.map V.int))) x (.ins (He.ga K "Sizes") dz (szF l))) c = some o → (upd (upd (upd (upd (upd (upd H dz (.own x)) x (.ins (He.ga K "Sizes") dz [])) l (.lst (ns.map V.int))) x (.ins (He.ga K "Sizes") dz (szF l))) dx (.own y)) y (.ins (He.ga K "Layout") dx [])) c = some o := fun {c o} e => by
      rw [upd_ne (ne_of_none e hy), upd_ne (ne_of_none e hdx)]
      exact e
    have free : ∀ {c : Addr}, (upd (upd (upd (upd (upd (upd H dz (.own x)) x (.ins (He.ga K "Sizes") dz [])) l (.lst (ns.map V.int))) x (.ins (He.ga K "Sizes") dz (szF l))) dx (.own y)) y (.ins (He.ga K "Layout") dx [])) c = none → H c = none := fun {c} e => by
      cases e2 : H c with
      | none => rfl
      | some o =>
        exact nomatch (kp2 (kp1 e2)).symm.trans e
    have y0 : H y = none := by
      cases e2 : H y with
      | none => rfl
      | some o =>
        exact nomatch (kp1 e2).symm.trans hy
    refine ⟨y, x, dx, ns, n, rfl, upd_same, ⟨dz, l, kp2 hx1, kp2 hl1⟩, g, n1, by omega, fun bl H' hbl keep L => ⟨rfl, ?_⟩⟩
    have bl0 := free hbl
    have sm : Same H H' := fun c o e => keep c o (ne_of_none e y0) (kp2 (kp1 e))
    have hx' : H' x = some (.ins (He.ga K "Sizes") dz (szF l)) := keep x _ (ne_of_none hx1 hy) (kp2 hx1)
    refine ⟨_, rfl, a, rfl, ⟨_, SqL.of (sm _ _ ha)⟩, ?_⟩
    refine for_list (K := K) (a := a) (xs := qs.map V.ref) (fun i σ G => ∃ (ps : List Addr) (x4 x5 x6 : Option V), σ = [some (.ref s), some (.int n), some (.ref a), some (.ref y), x4, x5, x6] ∧ Same H G ∧ Ly K G y x bl dx ps ns n (bs.take i) ∧ G x = some (.ins (He.ga K "Sizes") dz (szF l))) ⟨[], none, none, none, rfl, sm, L, hx'⟩ (fun i σ G _ ⟨_, _, _, _, _, sm, _⟩ => SqL.of (sm _ _ ha)) ?_ ?_
    · rintro i v σ G hv ⟨ps, x4, x5, x6, rfl, sm, L, hxG⟩
      obtain ⟨p, hp, rfl⟩ := ref_of hv
      obtain ⟨b, hb, hT⟩ := (rf.same sm).get hp
      have hT' : G p = some (.tup [.int b.1, .int (b.2.1 : Nat), .bl b.2.2]) := hT
      have bm := List.mem_of_getElem? hb
      have bo := wf.ok b bm
      have z1 := (chain g).pos _ bo.1
      refine ⟨p, _, rfl, .inl (.inl hT'), rfl, _, _, rfl, _, _, rfl, _, _, rfl, rfl, ?_⟩
      refine ⟨_, rfl, y, dx, _, rfl, L.at_, lay_nm (by decide +kernel), _, rfl, _, rfl, _, rfl, rfl, rfl, y, x, bl, dx, ps, ns, n, b.1, bs.take i, b.2.1, b.2.2, rfl, L, (by rw [List.length_take]; omega), bo.1, bo.2.1, Int.emod_eq_zero_of_dvd bo.2.2.1, bo.2.2.2, fun c hc => ?_, fun j ps' G' hbw L' bt => ?_⟩
      · obtain ⟨jj, hj, ej⟩ := mem_take_at hc
        exact .inl (wf.lt g ej hb hj).1
      · rw [show (b.1, b.2.1, b.2.2) = b from rfl, ins_last wf g hb hbw] at L'
        obtain ⟨_, _, _, _, zy, zb, _, _, _⟩ := L.far
        exact ⟨ps', _, _, _, rfl, fun c o e => bt c o (ne_of_none e y0) (ne_of_none e bl0) (sm c o e), L', bt _ _ zy zb hxG⟩
    · rintro σ G ⟨ps, x4, x5, x6, rfl, sm, L, hxG⟩
      rw [List.length_map, ql, List.take_length] at L
      exact ⟨_, rfl, q y x bl dx dz l ps G sm L y0 bl0 hxG l0⟩
end
end K23

set_option Elab.async false
set_option linter.all false
set_option maxRecDepth 100000
set_option maxHeartbeats 4000000
namespace K23
open PySem PySem.Spec PyProof.Rows L2 Gu Ex
/-- all that a turn stands on -/
structure Al (K : PySem.W.Frag) (r s a y zp bl dx : Addr) (ps qs : List Addr) (ns : List Int) (n : Int) (bs : List Blk) (H : Hp) : Prop where
  rg : Rng H r
  hs : H s = some (.lst (ns.map V.int))
  sr : s ≠ r
  ha : H a = some (.lst (qs.map V.ref))
  rf : Refs blkV H qs bs
  ab : a ≠ bl
  L : Ly K H y zp bl dx ps ns n bs
  lr : ∃ dz l, H zp = some (.ins (He.ga K "Sizes") dz (szF l)) ∧ H l = some (.lst (ns.map V.int)) ∧ l ≠ bl ∧ l ≠ r
  n2 : n ≤ 150
  bn : bs.length ≤ 200
section
variable {K : PySem.W.Frag} {r s a y zp bl dx : Addr} {ps qs : List Addr} {ns : List Int} {n : Int} {bs : List Blk} {H H' : Hp}
theorem Rng.lst {p : Addr} {qs : List Addr} (h : Rng H r) (e : H p = some (.lst (qs.map V.ref))) : p ≠ r := fun z => by
  obtain ⟨x, y, e2, _⟩ := h
  rw [z, e2] at e
  cases qs with
  | nil => cases e
  | cons q qs => cases e
theorem Rng.tup {p : Addr} {xs : List V} (h : Rng H r) (e : H p = some (.tup xs)) : p ≠ r := fun z => by
  obtain ⟨x, y, e2, _⟩ := h
  rw [z, e2] at e
  cases e
theorem Rng.ins {p C d : Addr} {fs : List (Str × V)} (h : Rng H r) (e : H p = some (.ins C d fs)) : p ≠ r := fun z => by
  obtain ⟨x, y, e2, _⟩ := h
  rw [z, e2] at e
  cases e
theorem Al.step (A : Al K r s a y zp bl dx ps qs ns n bs H) (t : Stp r H H') : Al K r s a y zp bl dx ps qs ns n bs H' := by
  obtain ⟨dz, l, e1, e2, e3, e4⟩ := A.lr
  have k1 := t.2 _ _ (A.rg.ins e1) e1
  have k2 := t.2 _ _ e4 e2
  have mv : ∀ {ps : List Addr} {bs : List Blk}, Refs blkV H ps bs → Refs blkV H' ps bs := fun rf => rf.mono fun p xs e => t.2 p _ (A.rg.tup e) e
  exact ⟨t.1, t.2 _ _ A.sr A.hs, A.sr, t.2 _ _ (A.rg.lst A.ha) A.ha, mv A.rf, A.ab,
    ⟨t.2 _ _ (A.rg.ins A.L.at_) A.L.at_, ⟨dz, l, k1, k2⟩, t.2 _ _ (A.rg.lst A.L.lst) A.L.lst, mv A.L.rf, A.L.wf, A.L.gd, A.L.n1, A.L.n2, A.L.ln, ⟨dz, l, k1, k2, e3⟩⟩, ⟨dz, l, k1, k2, e3, e4⟩, A.n2, A.bn⟩
theorem Stp.same {H : Hp} (hR : Rng H r) (s : Same H H') : Stp r H H' := ⟨by
  obtain ⟨x, y, e, z⟩ := hR
  exact ⟨x, y, s _ _ e, z⟩, fun b o _ e => s b o e⟩
theorem Al.same (A : Al K r s a y zp bl dx ps qs ns n bs H) (t : Same H H') : Al K r s a y zp bl dx ps qs ns n bs H' := A.step (Stp.same A.rg t)
theorem Al.bl_ (A : Al K r s a y zp bl dx ps qs ns n bs H) : Bl ns H a qs bs := ⟨A.ha, A.rf, fun b hb => (A.L.wf.ok b hb).1, Nat.le_trans A.bn (by decide)⟩
theorem tqAll_ints {is : List Int} (h : ∀ i ∈ is, -(10 ^ 39) ≤ i ∧ i ≤ 10 ^ 39) : TqAll K H (is.map V.int) (is.map PyData.int) 0 41 := by
  induction is with
  | nil => exact ⟨.nil, rfl, Nat.zero_le _, Nat.zero_le _⟩
  | cons i is ih =>
    have t := tq_int (K := K) (H := H) (h i List.mem_cons_self).1 (h i List.mem_cons_self).2
    obtain ⟨a, b, c, e⟩ := ih fun j hj => h j (List.mem_cons_of_mem _ hj)
    refine ⟨.cons t.dq a, ?_, ?_, ?_⟩
    · show ((PyData.int i).showable && PyData.showableAll (is.map PyData.int)) = true
      rw [t.sh, b]
      rfl
    · show max (PyData.int i).depth (PyData.depthAll (is.map PyData.int)) ≤ 0
      have := t.dp
      omega
    · show ((PyData.int i).shown.length + ((PyData.shownAll (is.map PyData.int)).map (·.length)).sum) + 2 * ((PyData.shownAll (is.map PyData.int)).length + 1) ≤ ((is.map V.int).length + 1) * (41 + 2)
      have := t.ln
      rw [Nat.add_mul, Nat.one_mul]
      omega
theorem tq_ints {p : Addr} {is : List Int} (h : ∀ i ∈ is, -(10 ^ 39) ≤ i ∧ i ≤ 10 ^ 39) (hl : is.length ≤ 8) (e : H p = some (.lst (is.map V.int))) : Tq K H (.ref p) (.list (is.map PyData.int)) 1 400 := by
  refine ((tqAll_ints h).lst e).mono (Nat.le_refl _) ?_
  rw [List.length_map]
  omega
end
theorem lse_filter (ns : List Int) (bs : List Blk) (k : Nat) : lseI ns bs k = ((bs.filter fun b => decide (k ≤ b.2.1) && !b.2.2).map fun b => sz ns b.2.1).sum := by
  unfold lseI unpB
  rw [List.filter_filter]
theorem due_bd {ns : List Int} {n : Int} {bs : List Blk} {k : Nat} (w : Wf ns n bs) (g : Good ns) (hk : k < ns.length) (n1 : 0 ≤ n) : 0 ≤ lseI ns bs k ∧ dueI ns n bs k ≤ n := by
  have hs := (chain g).pos k hk
  have q0 : 0 ≤ n / sz ns k := Int.ediv_nonneg n1 (by omega)
  have hm : n / sz ns k ≤ (((n / sz ns k).toNat : Nat) : Int) := by omega
  refine ⟨?_, ?_⟩
  · rw [lse_cn g hk hm w.ok w.so]
    exact Int.mul_nonneg (by omega) (by omega)
  · unfold dueI
    have c := cntC_le ns bs k (n / sz ns k).toNat
    have h1 : sz ns k * ((cntC ns bs k (n / sz ns k).toNat : Nat) : Int) ≤ sz ns k * (n / sz ns k) := Int.mul_le_mul_of_nonneg_left (by omega) (by omega)
    have h2 := Int.mul_ediv_self_le (x := n) (k := sz ns k) (by omega)
    omega
theorem whl_bd {ns : List Int} {k : Nat} (h : 1 ≤ sz ns k) : ∀ {cs : List Int}, (∀ c ∈ cs, 1 ≤ c ∧ c ≤ 150) → 0 ≤ (whlI ns k cs).sum ∧ (whlI ns k cs).sum ≤ 150 * cs.length
  | [], _ => ⟨Int.le_refl _, Int.le_refl _⟩
  | c :: cs, hc => by
    have ih := whl_bd h (cs := cs) fun d hd => hc d (List.mem_cons_of_mem _ hd)
    have c1 := hc c List.mem_cons_self
    have m0 := Int.emod_nonneg c (show sz ns k ≠ 0 by omega)
    have m1 : c % sz ns k ≤ c := by
      rcases Int.lt_or_le c (sz ns k) with h1 | h1
      · rw [Int.emod_eq_of_lt (by omega) h1]
        exact Int.le_refl _
      · have := Int.emod_lt_of_pos c (show 0 < sz ns k by omega)
        omega
    have e : (whlI ns k (c :: cs)).sum = (c - c % sz ns k) + (whlI ns k cs).sum := by
      unfold whlI
      rw [List.map_cons, List.sum_cons]
    rw [e, List.length_cons]
    omega
section
variable {P : Program} {w : World} {K : PySem.W.Frag} {mg : Str → Option Value} {base : Heap} {f : Addr} {fd : FuncData}
def spLevel (K : PySem.W.Frag) : Sp := fun vs H Q _ => ∃ (r s a y zp bl dx : Addr) (ps qs : List Addr) (ns : List Int) (n : Int) (bs : List Blk) (k : Nat), vs = [.ref r, .ref y, .ref s, .int n, .ref a, .int k] ∧ Al K r s a y zp bl dx ps qs ns n bs H ∧ k < ns.length ∧ ∀ H', Stp r H H' → Q (.bl true) H'
theorem sc__law_level_right : FnScope ["_law_rng_here", "_law_layout_here", "_law_sizes_here", "_law_length", "_law_blocks_here", "_law_level", "_law_clear", "_law_loose", "_law_numbers", "_law_due", "_law_shown", "_law_told", "_law_turn", "_law_one", "_law_cells"] ["_law_rng_here", "_law_layout_here", "_law_sizes_here", "_law_length", "_law_blocks_here", "_law_level"] (defScope (top 41)) := ⟨rfl, rfl, rfl, by decide +kernel, rfl, by decide +kernel, by decide +kernel⟩
theorem ok_level {z0 : Addr} {oz : Obj} {nz : Nat} (T : Tx K mg) (hz1 : K.lookup z0 = some oz) (hz2 : oz.cls = .type "tuple") (hz3 : oz.data = .seq #[] nz)
    (D__law_due_clear : Df P w K mg base 2 "_law_due_clear" ["_law_sizes_here", "_law_length", "_law_blocks_here", "_law_level"] spDue) (M_clear_cells : Mf P w K mg base 9 "Layout" "clear_cells" ["self", "level"] (spClear K)) (M_unpinned_cells : Mf P w K mg base 6 "Layout" "unpinned_cells" ["self", "level"] (spLoose K))
    (M_slack_d : MfD P w K mg base 10 "Layout" "slack" ["self", "level", "kept"] [.ref z0] (spSlack K)) (M_slack_kw : MfK P w K mg base 10 "Layout" "slack" ["self", "level", "kept"] 2 ["kept"] (spSlack K))
    (D__law_draw : Df P w K mg base 1 "_law_draw" ["_law_rng_here", "_law_many"] spDraw) (D__law_due_whole : Df P w K mg base 1 "_law_due_whole" ["_law_sizes_here", "_law_cells", "_law_level"] spWholeL)
    (F : FnP K "_law_level_right" "_law_level_right" (top 41) f fd) : FnG P w K mg base CX0 11 f fd ["_law_rng_here", "_law_layout_here", "_law_sizes_here", "_law_length", "_law_blocks_here", "_law_level"] (spLevel K) := by
  refine okG F sc__law_level_right (fun vs H Q E h => ?_) (fun cdv A outer s H vs Q E hr h => ⟨_, PSs.nox (pss_cons (ps_set (i := 6) sc__law_level_right.nd rfl (by first | exact Or.inl rfl | exact Or.inr rfl) (pcall D__law_due_clear hr.r (pa_cons (pv 2) (pa_cons (pv 3) (pa_cons (pv 4) (pa_cons (pv 5) pa_nil)))))) (pss_cons (ps_set (i := 7) sc__law_level_right.nd rfl (by first | exact Or.inl rfl | exact Or.inr rfl) (pe_callB (cr_sum rfl) (by rfl) T.n_sum (by decide +kernel) (pa_cons (pe_lc (own := [("_law_one", 13)]) (g := gName 13) rfl sc__law_level_right.nd (pi_list (pv 4)) (blkOk_by (own := [("_law_one", 13)]) (N := ["_law_rng_here", "_law_layout_here", "_law_sizes_here", "_law_length", "_law_blocks_here", "_law_level", "_law_clear", "_law_loose", "_law_numbers", "_law_due", "_law_shown", "_law_told", "_law_turn", "_law_one", "_law_cells"]) (sc := defScope (top 41)) (by decide +kernel)) (fun _ _ _ _ _ => pg_name (i := 13) sc__law_level_right.nd rfl (Or.inl rfl)) (fun _ _ _ _ _ => (pts_one (PW.pt (pw_and (pt_cmpR op_ge (pe_ix (r := rIxT K) ix_tup (pv 13) pe_int (fun _ _ => rfl)) (pv 5) (nomark _)) (pw_and1 (pt_not (pt_val (pe_ix (r := rIxT K) ix_tup (pv 13) pe_int (fun _ _ => rfl))))))))) (fun _ _ _ _ _ => (pe_ix (r := rIxL K) ix_list (pv 2) (pe_ix (r := rIxT K) ix_tup (pv 13) pe_int (fun _ _ => rfl)) (fun _ _ => rfl)))) pa_nil))) (pss_cons (ps_if (pt_cmpR op_ne (pe_callB (call_reprQ hr T.sys) (by rfl) T.n_repr (by decide +kernel) (pa_cons (pe_lst (pa_cons (pmeth M_clear_cells hr.r (pv 1) (pa_cons (pv 5) pa_nil)) (pa_cons (pmeth M_unpinned_cells hr.r (pv 1) (pa_cons (pv 5) pa_nil)) pa_nil))) pa_nil)) (pe_callB (call_reprQ hr T.sys) (by rfl) T.n_repr (by decide +kernel) (pa_cons (pe_lst (pa_cons (pv 6) (pa_cons (pv 7) pa_nil))) pa_nil)) (nomark _)) (pss_one (ps_ret pe_bl)) pss_nil) (pss_cons (ps_if (PW.pt (pw_or (pt_cmpR op_ne (pe_callB (call_reprQ hr T.sys) (by rfl) T.n_repr (by decide +kernel) (pa_cons (pmethD M_slack_d hr.r (pv 1) (pa_cons (pv 5) pa_nil)) pa_nil)) (pe_callB (call_reprQ hr T.sys) (by rfl) T.n_repr (by decide +kernel) (pa_cons (pe_op op_sub (pv 6) (pv 7)) pa_nil)) (nomark _)) (pw_or (pt_cmpR op_lt (pv 6) (pv 7) (nomark _)) (pw_or1 (pt_cmpR op_ne (pe_op op_mod (pe_op op_sub (pv 6) (pv 7)) (pe_ix ix_list (pv 2) (pv 5) (fun _ _ => rfl))) pe_int (nomark _)))))) (pss_one (ps_ret pe_bl)) pss_nil) (pss_cons (ps_setLc (i := 8) (own := [("_law_turn", 12)]) (g := gName 12) rfl sc__law_level_right.nd rfl rfl (sw_true rfl rfl rfl (by decide +kernel)) (pi_range1 rfl T.n_range (pa_cons (pcall D__law_draw hr.r (pa_cons (pv 0) (pa_cons pe_int pa_nil))) pa_nil)) (blkOk_by (own := [("_law_turn", 12)]) (N := ["_law_rng_here", "_law_layout_here", "_law_sizes_here", "_law_length", "_law_blocks_here", "_law_level", "_law_clear", "_law_loose", "_law_numbers", "_law_due", "_law_shown", "_law_told", "_law_turn", "_law_one", "_law_cells"]) (sc := defScope (top 41)) (by decide +kernel)) (fun _ _ _ _ _ => pg_name (i := 12) sc__law_level_right.nd rfl (Or.inl rfl)) (fun _ _ _ _ _ => pts_nil) (fun _ _ _ _ _ => (pe_op op_add pe_int (pcall D__law_draw hr.r (pa_cons (pv 0) (pa_cons (pe_ix (r := rIxL K) ix_list (pe_lst (pa_cons pe_int (pa_cons pe_int (pa_cons pe_int pa_nil)))) (pcall D__law_draw hr.r (pa_cons (pv 0) (pa_cons pe_int pa_nil))) (fun _ _ => rfl)) pa_nil)))))) (pss_cons (ps_set (i := 9) sc__law_level_right.nd rfl (by first | exact Or.inl rfl | exact Or.inr rfl) (pe_op op_sub (pe_op op_sub (pv 6) (pv 7)) (pe_callB (cr_sum rfl) (by rfl) T.n_sum (by decide +kernel) (pa_cons (pe_lc (own := [("_law_cells", 14)]) (g := gName 14) rfl sc__law_level_right.nd (pi_list (pv 8)) (blkOk_by (own := [("_law_cells", 14)]) (N := ["_law_rng_here", "_law_layout_here", "_law_sizes_here", "_law_length", "_law_blocks_here", "_law_level", "_law_clear", "_law_loose", "_law_numbers", "_law_due", "_law_shown", "_law_told", "_law_turn", "_law_one", "_law_cells"]) (sc := defScope (top 41)) (by decide +kernel)) (fun _ _ _ _ _ => pg_name (i := 14) sc__law_level_right.nd rfl (Or.inl rfl)) (fun _ _ _ _ _ => pts_nil) (fun _ _ _ _ _ => (pcall D__law_due_whole hr.r (pa_cons (pv 2) (pa_cons (pv 14) (pa_cons (pv 5) pa_nil)))))) pa_nil)))) (pss_cons (ps_set (i := 10) sc__law_level_right.nd rfl (by first | exact Or.inl rfl | exact Or.inr rfl) (pe_callB (call_reprQ hr T.sys) (by rfl) T.n_repr (by decide +kernel) (pa_cons (pv 8) pa_nil))) (pss_cons (ps_set (i := 11) sc__law_level_right.nd rfl (by first | exact Or.inl rfl | exact Or.inr rfl) (pe_lst (pa_cons (pmethK M_slack_kw hr.r (pv 1) (pa_cons (pv 5) pa_nil) (pk_cons (pv 8) pk_nil)) (pa_cons (pmethK M_slack_kw hr.r (pv 1) (pa_cons (pv 5) pa_nil) (pk_cons (pe_callTy call_tuple_of (by rfl) T.n_tuple (by decide +kernel) (pa_cons (pv 8) pa_nil)) pk_nil)) pa_nil)))) (pss_one (ps_ret (pe_and (pe_cmpR op_eq (pe_callB (call_reprQ hr T.sys) (by rfl) T.n_repr (by decide +kernel) (pa_cons (pv 11) pa_nil)) (pe_callB (call_reprQ hr T.sys) (by rfl) T.n_repr (by decide +kernel) (pa_cons (pe_lst (pa_cons (pv 9) (pa_cons (pv 9) pa_nil))) pa_nil)) (nomark _)) (pe_one (pe_cmpR op_eq (pe_callB (call_reprQ hr T.sys) (by rfl) T.n_repr (by decide +kernel) (pa_cons (pv 8) pa_nil)) (pv 10) (nomark _)))))))))))))), ?_⟩)
  · obtain ⟨r, s, a, y, zp, bl, dx, ps, qs, ns, n, bs, k, rfl, _⟩ := h
    rfl
  · obtain ⟨r, s, a, y, zp, bl, dx, ps, qs, ns, n, bs, k, rfl, A0, hk, q⟩ := h
    have sl : sizeLine = 16777216 := sizeLine_eq
    have big : (10 : Int) ^ 40 = 10000000000000000000000000000000000000000 := by decide
    have b39 : (10 : Int) ^ 39 = 1000000000000000000000000000000000000000 := by decide
    have g := A0.L.gd
    have z1 := (chain g).pos k hk
    have z2 := sz_le g hk
    have n1 := A0.L.n1
    have n2 := A0.n2
    have bn := A0.bn
    refine ⟨_, rfl, _, rfl, _, rfl, _, rfl, s, a, ns, n, qs, bs, k, rfl, A0.hs, A0.bl_, g, hk, n1, by omega, fun H1 s1 => ?_⟩
    have A1 := A0.same s1
    refine ⟨_, rfl, a, rfl, ⟨_, SqL.of A1.ha⟩, fun D hD => ?_⟩
    refine lc_list (K := K) (a := a) (xs := qs.map V.ref) (fun i G => G D = some (.lst ((((bs.take i).filter fun b => decide (k ≤ b.2.1) && !b.2.2).map fun b => sz ns b.2.1).map V.int)) ∧ Same H1 G) ⟨upd_same, same_upd hD⟩ (fun i G _ ⟨_, sm⟩ => SqL.of (sm _ _ A1.ha)) ?_ ?_
    · rintro i x G hx ⟨hG, sm⟩
      obtain ⟨p, hp, rfl⟩ := ref_of hx
      obtain ⟨b, hb, hT⟩ := (A1.rf.same sm).get hp
      have hT' : G p = some (.tup [.int b.1, .int (b.2.1 : Nat), .bl b.2.2]) := hT
      have bk := (A1.L.wf.ok b (List.mem_of_getElem? hb)).1
      have il : i < bs.length := (List.getElem?_eq_some_iff.mp hb).1
      have fa := filter_at (fun b => decide (k ≤ b.2.1) && !b.2.2) hb
      have fl := List.length_filter_le (fun b : Blk => decide (k ≤ b.2.1) && !b.2.2) (bs.take i)
      rw [List.length_take] at fl
      refine ⟨rfl, _, rfl, p, _, _, _, rfl, rfl, .inl (.inl hT'), rfl, _, rfl, _, _, rfl, rfl, _, rfl, ?_⟩
      by_cases hc : k ≤ b.2.1
      · refine ifT (decide_eq_true (by omega)) ⟨_, rfl, p, _, _, _, rfl, rfl, .inl (.inl hT'), rfl, _, rfl, ?_⟩
        cases hq : b.2.2 with
        | true =>
          rw [hq, decide_eq_true hc] at fa
          refine iteF ⟨?_, sm⟩
          rw [fa]
          simpa using hG
        | false =>
          rw [hq, decide_eq_true hc] at fa
          refine iteT ⟨_, rfl, _, rfl, p, _, _, _, rfl, rfl, .inl (.inl hT'), rfl, s, _, _, _, rfl, rfl, SqL.of (sm _ _ A1.hs), at_sz bk, _, hG, (by rw [List.length_map, List.length_map]; omega), ?_, fun c o e => ?_⟩
          · rw [upd_same, fa]
            show _ = some (HO.lst (((((bs.take i).filter fun b => decide (k ≤ b.2.1) && !b.2.2) ++ [b]).map fun b => sz ns b.2.1).map V.int))
            rw [List.map_append, List.map_append]
            rfl
          · rw [upd_ne (ne_of_none e hD)]
            exact sm c o e
      · rw [decide_eq_false hc] at fa
        refine ifF (decide_eq_false (by omega)) ⟨?_, sm⟩
        rw [fa]
        simpa using hG
    · rintro G ⟨hG, sm⟩
      rw [List.length_map, A1.rf.len, List.take_length] at hG
      refine ⟨D, _, rfl, SqL.of hG, ?_⟩
      rw [← lse_filter]
      have A2 := A1.same sm
      have sH := s1.trans sm
      have two : 2 ≤ sizeLine := by decide
      have ec := clr_due A0.L.wf g hk (by omega)
      obtain ⟨le, em⟩ := lse_le A0.L.wf g hk (by omega)
      obtain ⟨l0, dn⟩ := due_bd A0.L.wf g hk (by omega)
      clear hG hD
      generalize G = G at *
      refine ⟨_, rfl, y, dx, _, rfl, A2.L.at_, lay_nm (by decide +kernel), _, rfl, y, zp, bl, dx, ps, ns, n, bs, k, rfl, A2.L, hk, fun H2 s2 => ?_⟩
      rw [ec]
      have A3 := A2.same s2
      refine ⟨_, rfl, y, dx, _, rfl, A3.L.at_, lay_nm (by decide +kernel), _, rfl, y, zp, bl, dx, ps, ns, n, bs, k, rfl, A3.L, hk, fun H3 s3 => ?_⟩
      refine ⟨two, fun t ht => ?_⟩
      have A4 := A3.same s3
      have sH4 := ((sH.trans s2).trans s3).trans (same_upd (o := .lst [.int (dueI ns n bs k), .int (lseI ns bs k)]) ht)
      have A5 := A4.same (same_upd (o := .lst [.int (dueI ns n bs k), .int (lseI ns bs k)]) ht)
      have lst2 : ∀ i ∈ [dueI ns n bs k, lseI ns bs k], -(10 ^ 39) ≤ i ∧ i ≤ 10 ^ 39 := fun i hi => by
        simp only [List.mem_cons, List.not_mem_nil, or_false] at hi
        rcases hi with rfl | rfl <;> omega
      have hq1 : (upd H3 t (.lst [.int (dueI ns n bs k), .int (lseI ns bs k)])) t = some (.lst ([dueI ns n bs k, lseI ns bs k].map V.int)) := upd_same
      generalize upd H3 t (.lst [.int (dueI ns n bs k), .int (lseI ns bs k)]) = H4 at sH4 A5 hq1
      have t1 := tq_ints (K := K) lst2 (show 2 ≤ 8 by decide) hq1
      refine ⟨_, _, rfl, t1.dq, t1.sh, Nat.le_trans t1.dp (by decide), Nat.le_trans t1.ln (by decide), ?_⟩
      refine ⟨_, rfl, _, rfl, two, fun t2 ht2 => ?_⟩
      have A6 := A5.same (same_upd (o := .lst [.int (dueI ns n bs k), .int (lseI ns bs k)]) ht2)
      have sH5 := sH4.trans (same_upd (o := .lst [.int (dueI ns n bs k), .int (lseI ns bs k)]) ht2)
      have hq2 : (upd H4 t2 (.lst [.int (dueI ns n bs k), .int (lseI ns bs k)])) t2 = some (.lst ([dueI ns n bs k, lseI ns bs k].map V.int)) := upd_same
      generalize upd H4 t2 (.lst [.int (dueI ns n bs k), .int (lseI ns bs k)]) = H5 at sH5 A6 hq2
      have t2q := tq_ints (K := K) lst2 (show 2 ≤ 8 by decide) hq2
      refine ⟨_, _, rfl, t2q.dq, t2q.sh, Nat.le_trans t2q.dp (by decide), Nat.le_trans t2q.ln (by decide), rfl, _, rfl, ifF (by rw [decide_eq_true rfl]; rfl) ?_⟩
      refine ⟨_, rfl, y, dx, _, rfl, A6.L.at_, lay_nm (by decide +kernel), _, rfl, y, zp, bl, dx, ps, ns, n, bs, k, z0, [], rfl, A6.L, hk, .dft oz nz rfl hz1 hz2 hz3, (fun _ m => nomatch m), Nat.zero_le _, fun H6 s6 => ?_⟩
      have e0 : slkI ns n bs k [] = dueI ns n bs k - lseI ns bs k := by
        unfold slkI whlI
        rw [ec]
        simp
      rw [e0]
      have A7 := A6.same s6
      have sH6 := sH5.trans s6
      have t3 := tq_int (K := K) (H := H6) (i := dueI ns n bs k - lseI ns bs k) (by omega) (by omega)
      refine ⟨_, _, rfl, t3.dq, t3.sh, Nat.le_trans t3.dp (by decide), Nat.le_trans t3.ln (by decide), ?_⟩
      refine ⟨_, rfl, _, rfl, _, _, rfl, rfl, _, _, rfl, t3.dq, t3.sh, Nat.le_trans t3.dp (by decide), Nat.le_trans t3.ln (by decide), rfl, _, rfl, ifF (by rw [decide_eq_true rfl]; rfl) ?_⟩
      refine ⟨_, rfl, _, rfl, _, _, rfl, rfl, _, rfl, ifF (decide_eq_false (by omega)) ?_⟩
      refine ⟨_, rfl, _, rfl, _, _, rfl, rfl, _, rfl, _, rfl, s, _, _, _, rfl, rfl, SqL.of A7.hs, at_sz hk, _, _, rfl, rfl, by omega, rfl, _, rfl, ifF (by rw [vT em]; rfl) ?_⟩
      refine ⟨_, rfl, r, 5, rfl, A7.rg, by decide, by omega, fun d H7 d0 d1 t7 => ?_⟩
      have A8 := A7.step t7
      have st7 : Stp r H H7 := (Stp.same A0.rg sH6).trans t7
      refine ⟨d, rfl, by omega, by omega, fun N hN => ?_⟩
      have nNr : N ≠ r := (A8.rg.ne hN).symm
      refine lc_range (fun i G => ∃ cs : List Int, G N = some (.lst (cs.map V.int)) ∧ cs.length ≤ i ∧ (∀ c ∈ cs, 1 ≤ c ∧ c ≤ 150) ∧ Stp r H7 G) ⟨[], upd_same, Nat.le_refl _, (fun _ m => nomatch m), (Stp.refl A8.rg).new hN⟩ ?_ ?_
      · rintro i G hi ⟨cs, hG, cl, cr, st⟩
        refine ⟨rfl, _, rfl, by decide, fun t ht => ?_⟩
        have st1 := st.new (o := .lst [.int 9, .int 60, .int 150]) ht
        have hG1 : (upd G t (.lst [.int 9, .int 60, .int 150])) N = some (.lst (cs.map V.int)) := by rw [upd_ne (ne_of_none hG ht)]; exact hG
        have ntr : t ≠ r := (st.1.ne ht).symm
        have ht1 : (upd G t (.lst [.int 9, .int 60, .int 150])) t = some (.lst [.int 9, .int 60, .int 150]) := upd_same
        generalize upd G t (.lst [.int 9, .int 60, .int 150]) = G1 at st1 hG1 ht1
        refine ⟨_, rfl, r, 3, rfl, st1.1, by decide, by omega, fun d2 G2 a0 a1 u2 => ?_⟩
        obtain ⟨v, hv, hm⟩ := at_of (xs := [.int 9, .int 60, .int 150]) a0 a1
        obtain ⟨m, rfl, m1, m2⟩ : ∃ m : Int, v = .int m ∧ 1 ≤ m ∧ m ≤ 150 := by
          simp only [List.mem_cons, List.not_mem_nil, or_false] at hm
          rcases hm with rfl | rfl | rfl
          · exact ⟨_, rfl, by omega, by omega⟩
          · exact ⟨_, rfl, by omega, by omega⟩
          · exact ⟨_, rfl, by omega, by omega⟩
        refine ⟨t, _, _, _, rfl, rfl, SqL.of (u2.2 _ _ ntr ht1), hv, ?_⟩
        refine ⟨r, m, rfl, u2.1, m1, by omega, fun d3 G3 c0 c1 u3 => ?_⟩
        have st3 := (st1.trans u2).trans u3
        have hG3 : G3 N = some (.lst (cs.map V.int)) := u3.2 _ _ nNr (u2.2 _ _ nNr hG1)
        refine ⟨_, _, rfl, rfl, _, hG3, (by rw [List.length_map]; omega), cs ++ [1 + d3], ?_, ?_, ?_, ?_⟩
        · rw [upd_same, List.map_append]
          rfl
        · rw [List.length_append, List.length_singleton]
          omega
        · intro c hc
          rcases List.mem_append.mp hc with e | e
          · exact cr c e
          · rw [List.mem_singleton.mp e]
            omega
        · obtain ⟨⟨x1, x2, e1, e2⟩, kk⟩ := st3
          refine ⟨⟨x1, x2, by rw [upd_ne nNr.symm]; exact e1, e2⟩, fun b o nb e => ?_⟩
          rw [upd_ne (ne_of_none e hN)]
          exact kk b o nb e
      · rintro G8 ⟨cs, hG, cl, cr, st⟩
        have A9 := A8.step st
        have st8 := st7.trans st
        have cl5 : cs.length ≤ 5 := by omega
        have cr2 : ∀ c ∈ cs, 1 ≤ c ∧ c ≤ 1000000000000 := fun c hc => by
          have := cr c hc
          omega
        have wb := whl_bd (k := k) z1 cr
        refine ⟨_, rfl, _, rfl, _, _, rfl, rfl, _, rfl, N, rfl, ⟨_, SqL.of hG⟩, fun D3 hD3 => ?_⟩
        refine lc_list (K := K) (a := N) (xs := cs.map V.int) (fun i G => G D3 = some (.lst ((whlI ns k (cs.take i)).map V.int)) ∧ Same G8 G) ⟨upd_same, same_upd hD3⟩ (fun i G _ ⟨_, sm⟩ => SqL.of (sm _ _ hG)) ?_ ?_
        · rintro i x G hx ⟨hD, sm⟩
          rw [List.getElem?_map] at hx
          cases e3 : cs[i]? with
          | none => rw [e3] at hx; cases hx
          | some c =>
            rw [e3] at hx
            have ex : x = .int c := (Option.some.inj hx).symm
            subst ex
            have il := (List.getElem?_eq_some_iff.mp e3).1
            have rr := cr c (List.mem_of_getElem? e3)
            refine ⟨rfl, _, rfl, _, rfl, _, rfl, s, ns, c, k, rfl, sm _ _ A9.hs, g, hk, by omega, by omega, fun G2 s2 => ?_⟩
            refine ⟨_, s2 _ _ hD, (by unfold whlI; rw [List.length_map, List.length_map, List.length_take]; omega), ?_, fun c o e => ?_⟩
            · rw [upd_same, take_at e3]
              unfold whlI
              rw [List.map_append, List.map_append]
              rfl
            · rw [upd_ne (ne_of_none e hD3)]
              exact s2 c o (sm c o e)
        · rintro G ⟨hD, sm⟩
          rw [List.length_map, List.take_length] at hD
          refine ⟨D3, _, rfl, SqL.of hD, _, _, rfl, rfl, ?_⟩
          have A10 := A9.same sm
          have hN1 := sm _ _ hG
          have st9 := st8.trans (Stp.same A9.rg sm)
          have es : slkI ns n bs k cs = dueI ns n bs k - lseI ns bs k - (whlI ns k cs).sum := by
            unfold slkI
            rw [ec]
          have cb : ∀ i ∈ cs, -(10 ^ 39) ≤ i ∧ i ≤ 10 ^ 39 := fun i hi => by
            have := cr i hi
            omega
          have tn := tq_ints (K := K) cb (by omega) hN1
          refine ⟨_, rfl, _, _, rfl, tn.dq, tn.sh, Nat.le_trans tn.dp (by decide), Nat.le_trans tn.ln (by decide), ?_⟩
          refine ⟨_, rfl, y, dx, _, rfl, A10.L.at_, lay_nm (by decide +kernel), _, rfl, _, rfl, rfl, rfl, y, zp, bl, dx, ps, ns, n, bs, k, N, cs, rfl, A10.L, hk, .lst hN1, cr2, by omega, fun G2 s2 => ?_⟩
          rw [es]
          have A11 := A10.same s2
          have hN2 := s2 _ _ hN1
          refine ⟨_, rfl, y, dx, _, rfl, A11.L.at_, lay_nm (by decide +kernel), _, rfl, _, rfl, N, _, rfl, .inl ⟨SqL.of hN2, fun u hu => ?_⟩⟩
          have A12 := A11.same (same_upd (o := .tup (cs.map V.int)) hu)
          have hN3 := same_upd (o := .tup (cs.map V.int)) hu _ _ hN2
          have st10 := (st9.trans (Stp.same A10.rg s2)).new (o := .tup (cs.map V.int)) hu
          have hu1 : (upd G2 u (.tup (cs.map V.int))) u = some (.tup (cs.map V.int)) := upd_same
          generalize upd G2 u (.tup (cs.map V.int)) = G3 at A12 hN3 st10 hu1
          refine ⟨rfl, rfl, y, zp, bl, dx, ps, ns, n, bs, k, u, cs, rfl, A12.L, hk, .tup hu1, cr2, by omega, fun G4 s4 => ?_⟩
          rw [es]
          have A13 := A12.same s4
          have hN4 := s4 _ _ hN3
          have st11 := st10.trans (Stp.same A12.rg s4)
          have evb : -(10 ^ 39) ≤ (dueI ns n bs k - lseI ns bs k - (whlI ns k cs).sum) ∧ (dueI ns n bs k - lseI ns bs k - (whlI ns k cs).sum) ≤ 10 ^ 39 := by omega
          have lst3 : ∀ i ∈ [(dueI ns n bs k - lseI ns bs k - (whlI ns k cs).sum), (dueI ns n bs k - lseI ns bs k - (whlI ns k cs).sum)], -(10 ^ 39) ≤ i ∧ i ≤ 10 ^ 39 := fun i hi => by
            simp only [List.mem_cons, List.not_mem_nil, or_false] at hi
            rcases hi with rfl | rfl <;> exact evb
          refine ⟨two, fun w1 hw1 => ?_⟩
          have s5 := same_upd (o := .lst [.int (dueI ns n bs k - lseI ns bs k - (whlI ns k cs).sum), .int (dueI ns n bs k - lseI ns bs k - (whlI ns k cs).sum)]) hw1
          have hw2 : (upd G4 w1 (.lst [.int (dueI ns n bs k - lseI ns bs k - (whlI ns k cs).sum), .int (dueI ns n bs k - lseI ns bs k - (whlI ns k cs).sum)])) w1 = some (.lst ([(dueI ns n bs k - lseI ns bs k - (whlI ns k cs).sum), (dueI ns n bs k - lseI ns bs k - (whlI ns k cs).sum)].map V.int)) := upd_same
          have hN5 := s5 _ _ hN4
          have st12 := st11.trans (Stp.same A13.rg s5)
          generalize upd G4 w1 (.lst [.int (dueI ns n bs k - lseI ns bs k - (whlI ns k cs).sum), .int (dueI ns n bs k - lseI ns bs k - (whlI ns k cs).sum)]) = G5 at s5 hw2 hN5 st12
          have t5 := tq_ints (K := K) lst3 (show 2 ≤ 8 by decide) hw2
          refine ⟨_, rfl, _, _, rfl, t5.dq, t5.sh, Nat.le_trans t5.dp (by decide), Nat.le_trans t5.ln (by decide), ?_⟩
          refine ⟨_, rfl, _, rfl, two, fun w2 hw3 => ?_⟩
          have s6 := same_upd (o := .lst [.int (dueI ns n bs k - lseI ns bs k - (whlI ns k cs).sum), .int (dueI ns n bs k - lseI ns bs k - (whlI ns k cs).sum)]) hw3
          have hw4 : (upd G5 w2 (.lst [.int (dueI ns n bs k - lseI ns bs k - (whlI ns k cs).sum), .int (dueI ns n bs k - lseI ns bs k - (whlI ns k cs).sum)])) w2 = some (.lst ([(dueI ns n bs k - lseI ns bs k - (whlI ns k cs).sum), (dueI ns n bs k - lseI ns bs k - (whlI ns k cs).sum)].map V.int)) := upd_same
          have hN6 := s6 _ _ hN5
          have st13 := st12.trans (Stp.same st12.1 s6)
          have t6 := tq_ints (K := K) lst3 (show 2 ≤ 8 by decide) hw4
          have t7 := tq_ints (K := K) cb (by omega) hN6
          refine ⟨_, _, rfl, t6.dq, t6.sh, Nat.le_trans t6.dp (by decide), Nat.le_trans t6.ln (by decide), rfl, true, (by rw [decide_eq_true rfl]), iteT ?_⟩
          refine ⟨_, rfl, _, _, rfl, t7.dq, t7.sh, Nat.le_trans t7.dp (by decide), Nat.le_trans t7.ln (by decide), _, rfl, rfl, ?_⟩
          rw [decide_eq_true rfl]
          exact q _ st13
end
end K23

set_option Elab.async false
set_option linter.all false
set_option maxRecDepth 100000
set_option maxHeartbeats 4000000
namespace K23
open PySem PySem.Spec PyProof.Rows L2 Gu Ex
theorem trues_len (i : Nat) : (List.map V.bl (List.replicate i true)).length = i := by simp
theorem trues_more (i : Nat) : List.map V.bl (List.replicate i true) ++ [V.bl true] = List.map V.bl (List.replicate (i + 1) true) := by
  rw [List.replicate_succ', List.map_append]
  rfl
theorem all_trues (i : Nat) : (List.replicate i true).all id = true := by
  rw [List.all_replicate]
  split <;> rfl
section
variable {P : Program} {w : World} {K : PySem.W.Frag} {mg : Str → Option Value} {base : Heap} {f : Addr} {fd : FuncData}
def spBlk (K : PySem.W.Frag) : Sp := fun vs H Q _ => ∃ (y zp bl dx : Addr) (ps : List Addr) (ns : List Int) (n : Int) (bs : List Blk), vs = [.ref y] ∧ Ly K H y zp bl dx ps ns n bs ∧ ∀ l, H l = none → Q (.ref l) (upd H l (.lst (ps.map V.ref)))
theorem sc_blocks : FnScope ["self"] ["self"] (defScope (inClass (top 29) 7)) := ⟨rfl, rfl, rfl, by decide +kernel, rfl, by decide +kernel, by decide +kernel⟩
theorem ok_blk (T : Tx K mg) (F : FnP K "blocks" "Layout.blocks" (inClass (top 29) 7) f fd) : FnOk P w K mg base CX0 1 f fd ["self"] (spBlk K) := by
  refine F.ok sc_blocks (fun vs H Q E h => ?_) (fun cdv A outer s H vs Q E hr h => ⟨_, PSs.nox (pss_one (ps_ret (pe_callTy call_list_of (by rfl) T.n_list (by decide +kernel) (pa_cons (pe_fld (pv 0) rfl) pa_nil)))), ?_⟩)
  · obtain ⟨y, zp, bl, dx, ps, ns, n, bs, rfl, _⟩ := h
    rfl
  · obtain ⟨y, zp, bl, dx, ps, ns, n, bs, rfl, L, q⟩ := h
    exact ⟨_, rfl, y, _, dx, _, _, rfl, L.at_, T.ly, T.nBL, lay_bl .., bl, _, rfl, .inl (SqL.of L.lst), q⟩
def spStands (K : PySem.W.Frag) : Sp := fun vs H Q _ => ∃ (r s a y zp bl dx : Addr) (ps qs : List Addr) (ns : List Int) (n : Int) (bs : List Blk), vs = [.ref r, .ref y, .ref s, .int n, .ref a] ∧ Al K r s a y zp bl dx ps qs ns n bs H ∧ ∀ H', Stp r H H' → Q (.bl true) H'
theorem sc__law_stands : FnScope ["_law_rng_here", "_law_layout_here", "_law_sizes_here", "_law_length", "_law_blocks_here", "_law_level"] ["_law_rng_here", "_law_layout_here", "_law_sizes_here", "_law_length", "_law_blocks_here"] (defScope (top 42)) := ⟨rfl, rfl, rfl, by decide +kernel, rfl, by decide +kernel, by decide +kernel⟩
theorem ok_stands (T : Tx K mg) (D__law_level_right : DfG P w K mg base 11 "_law_level_right" ["_law_rng_here", "_law_layout_here", "_law_sizes_here", "_law_length", "_law_blocks_here", "_law_level"] (spLevel K))
    (F : FnP K "_law_stands" "_law_stands" (top 42) f fd) : FnG P w K mg base CX0 12 f fd ["_law_rng_here", "_law_layout_here", "_law_sizes_here", "_law_length", "_law_blocks_here"] (spStands K) := by
  refine okG F sc__law_stands (fun vs H Q E h => ?_) (fun cdv A outer s H vs Q E hr h => ⟨_, PSs.nox (pss_one (ps_ret (pe_callB (cr_all rfl) (by rfl) T.n_all (by decide +kernel) (pa_cons (pe_lc (own := [("_law_level", 5)]) (g := gName 5) rfl sc__law_stands.nd (pi_range1 rfl T.n_range (pa_cons (pe_callB call_len_seq (by rfl) T.n_len (by decide +kernel) (pa_cons (pv 2) pa_nil)) pa_nil)) (blkOk_by (own := [("_law_level", 5)]) (N := ["_law_rng_here", "_law_layout_here", "_law_sizes_here", "_law_length", "_law_blocks_here", "_law_level"]) (sc := defScope (top 42)) (by decide +kernel)) (fun _ _ _ _ _ => pg_name (i := 5) sc__law_stands.nd rfl (Or.inl rfl)) (fun _ _ _ _ _ => pts_nil) (fun _ _ _ _ _ => (pcallG D__law_level_right hr (pa_cons (pv 0) (pa_cons (pv 1) (pa_cons (pv 2) (pa_cons (pv 3) (pa_cons (pv 4) (pa_cons (pv 5) pa_nil))))))))) pa_nil)))), ?_⟩)
  · obtain ⟨r, s, a, y, zp, bl, dx, ps, qs, ns, n, bs, rfl, _⟩ := h
    rfl
  · obtain ⟨r, s, a, y, zp, bl, dx, ps, qs, ns, n, bs, rfl, A0, q⟩ := h
    have sl : sizeLine = 16777216 := sizeLine_eq
    have g8 := A0.L.gd.len
    refine ⟨_, rfl, s, _, rfl, .inl (SqL.of A0.hs), _, rfl, by omega, (by rw [List.length_map]; omega), fun D hD => ?_⟩
    have nDr : D ≠ r := (A0.rg.ne hD).symm
    refine lc_range (fun i G => G D = some (.lst ((List.replicate i true).map V.bl)) ∧ Stp r H G) ⟨upd_same, (Stp.refl A0.rg).new hD⟩ ?_ ?_
    · rintro i G hi ⟨hG, st⟩
      rw [List.length_map] at hi
      have hi2 : i < ns.length := by omega
      refine ⟨rfl, _, rfl, _, rfl, _, rfl, _, rfl, _, rfl, _, rfl, r, s, a, y, zp, bl, dx, ps, qs, ns, n, bs, i, (by rw [Int.zero_add]; rfl), A0.step st, hi2, fun G2 t2 => ?_⟩
      refine ⟨_, t2.2 _ _ nDr hG, (by rw [trues_len]; omega), by rw [upd_same, trues_more], ?_⟩
      obtain ⟨⟨x1, x2, e1, e2⟩, kk⟩ := st.trans t2
      refine ⟨⟨x1, x2, by rw [upd_ne nDr.symm]; exact e1, e2⟩, fun b o nb e => ?_⟩
      rw [upd_ne (ne_of_none e hD)]
      exact kk b o nb e
    · rintro G ⟨hG, st⟩
      refine ⟨D, _, rfl, SqL.of hG, ?_⟩
      rw [all_trues]
      exact q G st
end
end K23

set_option Elab.async false
set_option linter.all false
set_option maxRecDepth 100000
set_option maxHeartbeats 4000000
namespace K23
open PySem PySem.Spec PyProof.Rows L2 Gu Ex
def blkD (b : Blk) : PyData := .tuple [.int b.1, .int (b.2.1 : Nat), .bool b.2.2]
theorem Refs.dp {K : PySem.W.Frag} {H : Hp} {qs : List Addr} {bs : List Blk} (h : Refs blkV H qs bs) : DpAll K H (qs.map V.ref) (bs.map blkD) := by
  induction h with
  | nil => exact .nil
  | cons e _ ih => exact .cons (.tup (SqT.of e) (.cons (.int _) (.cons (.int _) (.cons (.bl _) .nil)))) ih
theorem lay_blk : ∀ bs : List Blk, PyData.canLayAll0 (bs.map blkD) = true
  | [] => rfl
  | b :: r => by
    have e : (blkD b).canLay0 = true := rfl
    simp only [List.map_cons, PyData.canLayAll0, e, lay_blk r, Bool.and_self]
theorem dep_blk : ∀ bs : List Blk, PyData.depthAll (bs.map blkD) ≤ 1
  | [] => Nat.zero_le _
  | b :: r => by
    have e : (blkD b).depth = 1 := rfl
    simp only [List.map_cons, PyData.depthAll, e]
    have := dep_blk r
    omega
theorem shaped_blk (bs : List Blk) : SeqAt.shaped (.list (bs.map blkD)) = true := by
  have c : (PyData.list (bs.map blkD)).canLay0 = true := lay_blk bs
  have e : (PyData.list (bs.map blkD)).depth ≤ 2 := by
    show PyData.depthAll (bs.map blkD) + 1 ≤ 2
    have := dep_blk bs
    omega
  unfold SeqAt.shaped
  rw [c]
  simp
  omega
theorem cut_lo {qs : List Addr} {j : Nat} (h : j ≤ qs.length) : cutV (qs.map V.ref) none (some (j : Int)) = (qs.take j).map V.ref := by
  unfold cutV
  rw [HT.sIx_none, HT.sIx_nat, List.drop_zero, Nat.sub_zero, List.length_map, Nat.min_eq_left h, List.map_take]
theorem cut_hi {qs : List Addr} {j : Nat} (h : j ≤ qs.length) : cutV (qs.map V.ref) (some (j : Int)) none = (qs.drop j).map V.ref := by
  unfold cutV
  rw [HT.sIx_none, HT.sIx_nat, List.length_map, Nat.min_eq_left h, List.map_drop, List.take_of_length_le (by rw [List.length_drop, List.length_map]; exact Nat.le_refl _)]
theorem Wf.few {ns : List Int} {n : Int} {bs : List Blk} (w : Wf ns n bs) (g : Good ns) : (bs.length : Int) ≤ n ∨ bs = [] := by
  have up : ∀ (i : Nat) (b : Blk), bs[i]? = some b → (i : Int) ≤ b.1 := by
    intro i
    induction i with
    | zero => intro b hb; exact (w.ok b (List.mem_of_getElem? hb)).2.1
    | succ i ih =>
      intro b hb
      have hl := (List.getElem?_eq_some_iff.mp hb).1
      have e : bs[i]? = some bs[i] := List.getElem?_eq_getElem (by omega)
      have h1 := ih _ e
      have h2 := (w.lt g e hb (Nat.lt_succ_self i)).2
      omega
  cases hb : bs with
  | nil => exact .inr rfl
  | cons x l =>
    left
    have pos : 0 < bs.length := by rw [hb]; simp
    have e : bs[bs.length - 1]? = some (bs[bs.length - 1]'(by omega)) := List.getElem?_eq_getElem (by omega)
    have h1 := up _ _ e
    have h2 := w.ok _ (List.mem_of_getElem? e)
    have h3 := (chain g).pos _ h2.1
    have h4 := h2.2.2.2
    unfold bEnd at h4
    rw [← hb]
    omega
/-- what a change leaves as it is -/
def But3 (r y bl : Addr) (H H' : Hp) : Prop := ∀ c o, c ≠ r → c ≠ y → c ≠ bl → H c = some o → H' c = some o
section
variable {K : PySem.W.Frag} {r s a y zp bl dx : Addr} {ps qs : List Addr} {ns : List Int} {n : Int} {bs : List Blk} {H H' : Hp}
/-- the layout has changed, the law's list is a new one -/
theorem Al.put {ps' : List Addr} {bs' : List Blk} (A : Al K r s a y zp bl dx ps qs ns n bs H) (L : Ly K H' y zp bl dx ps' ns n bs') (b : But2 y bl H H') : Rng H' r ∧ H' s = some (.lst (ns.map V.int)) ∧ H' a = some (.lst (qs.map V.ref)) ∧ Refs blkV H' qs bs ∧ ∃ dz l, H' zp = some (.ins (He.ga K "Sizes") dz (szF l)) ∧ H' l = some (.lst (ns.map V.int)) ∧ l ≠ bl ∧ l ≠ r := by
  obtain ⟨dz, l, e1, e2, e3, e4⟩ := A.lr
  obtain ⟨_, _, _, _, zy, zb, _, _, _⟩ := A.L.far
  obtain ⟨x1, x2, er, ez⟩ := A.rg
  have sb : s ≠ bl := fun z => by
    have e := A.hs
    rw [z, A.L.lst] at e
    have g := A.L.gd.len.1
    cases hn : ns with
    | nil => rw [hn] at g; exact absurd g (by decide)
    | cons x l =>
      rw [hn] at e
      cases ps with
      | nil => cases e
      | cons p ps => cases e
  have ry : r ≠ y := (A.rg.ins A.L.at_).symm
  have rb : r ≠ bl := (A.rg.lst A.L.lst).symm
  have ly : l ≠ y := fun z => by
    rw [z, A.L.at_] at e2
    cases e2
  have sy : s ≠ y := fun z => by
    have e := A.hs
    rw [z, A.L.at_] at e
    cases e
  have ay : a ≠ y := fun z => by
    have e := A.ha
    rw [z, A.L.at_] at e
    cases e
  refine ⟨⟨x1, x2, b _ _ ry rb er, ez⟩, b _ _ sy sb A.hs, b _ _ ay A.ab A.ha, A.rf.mono fun p xs e => b p _ (fun z => ?_) (fun z => ?_) e, dz, l, b _ _ zy zb e1, b _ _ ly e3 e2, e3, e4⟩
  · rw [z, A.L.at_] at e
    cases e
  · rw [z, A.L.lst] at e
    cases e
theorem Al.new {H6 : Hp} {a' : Addr} {qs' ps' : List Addr} {bs' : List Blk} (A : Al K r s a y zp bl dx ps qs ns n bs H) (L : Ly K H6 y zp bl dx ps' ns n bs') (b : But2 y bl H H6) (sm : Same H6 H') (ha : H' a' = some (.lst (qs'.map V.ref))) (rf : Refs blkV H' qs' bs') (fr : H6 a' = none) : Al K r s a' y zp bl dx ps' qs' ns n bs' H' := by
  obtain ⟨⟨x1, x2, er, ez⟩, hs, _, _, dz, l, e1, e2, e3, e4⟩ := A.put L b
  refine ⟨⟨x1, x2, sm _ _ er, ez⟩, sm _ _ hs, A.sr, ha, rf, fun z => ?_, L.same sm, ⟨dz, l, sm _ _ e1, sm _ _ e2, e3, e4⟩, A.n2, ?_⟩
  · rw [z, L.lst] at fr
    cases fr
  · have n2 := A.n2
    rcases L.wf.few L.gd with h | h
    · omega
    · rw [h]; exact Nat.zero_le _
end
section
variable {P : Program} {w : World} {K : PySem.W.Frag} {mg : Str → Option Value} {base : Heap} {f : Addr} {fd : FuncData}
def spChanged (K : PySem.W.Frag) : Sp := fun vs H Q _ => ∃ (r s a y zp bl dx : Addr) (ps qs : List Addr) (ns : List Int) (n : Int) (bs : List Blk), vs = [.ref r, .ref y, .ref s, .int n, .ref a] ∧ Al K r s a y zp bl dx ps qs ns n bs H ∧
  ∀ a' ps' qs' bs' H', Al K r s a' y zp bl dx ps' qs' ns n bs' H' → But3 r y bl H H' → Q (.ref a') H'
theorem sc__law_changed : FnScope ["_law_rng_here", "_law_layout_here", "_law_sizes_here", "_law_length", "_law_blocks_here", "_law_k", "_law_level", "_law_way", "_law_address", "_law_is_pinned", "_law_start", "_law_own_level", "_law_was_pinned"] ["_law_rng_here", "_law_layout_here", "_law_sizes_here", "_law_length", "_law_blocks_here"] (defScope (top 43)) := ⟨rfl, rfl, rfl, by decide +kernel, rfl, by decide +kernel, by decide +kernel⟩
theorem ok_changed (T : Tx K mg) (D__law_draw : Df P w K mg base 1 "_law_draw" ["_law_rng_here", "_law_many"] spDraw) (D__law_has_space : Df P w K mg base 1 "_law_has_space" ["_law_sizes_here", "_law_length", "_law_blocks_here", "_law_level", "_law_address"] spSpace)
    (M_put_kw : MfK P w K mg base 8 "Layout" "put" ["self", "level", "address", "pinned"] 3 ["pinned"] (spPut K)) (M_set_pinned : Mf P w K mg base 3 "Layout" "set_pinned" ["self", "address", "pinned"] (spPin K)) (M_take_out : Mf P w K mg base 6 "Layout" "take_out" ["self", "address"] (spTake K))
    (F : FnP K "_law_changed" "_law_changed" (top 43) f fd) : FnOk P w K mg base CX0 9 f fd ["_law_rng_here", "_law_layout_here", "_law_sizes_here", "_law_length", "_law_blocks_here"] (spChanged K) := by
  refine F.ok sc__law_changed (fun vs H Q E h => ?_) (fun cdv A outer s H vs Q E hr h => ⟨_, PSs.nox (pss_cons (ps_par (by rfl) sc__law_changed.nd (i := 6) (j := 7) rfl rfl (by decide) rfl rfl (pa_cons (pcall D__law_draw hr (pa_cons (pv 0) (pa_cons (pe_callB call_len_seq (by rfl) T.n_len (by decide +kernel) (pa_cons (pv 2) pa_nil)) pa_nil))) (pa_cons (pcall D__law_draw hr (pa_cons (pv 0) (pa_cons pe_int pa_nil))) pa_nil)) (by rfl)) (pss_cons (ps_par (by rfl) sc__law_changed.nd (i := 8) (j := 9) rfl rfl (by decide) rfl rfl (pa_cons (pe_op op_mul (pcall D__law_draw hr (pa_cons (pv 0) (pa_cons (pe_callB (call_max2 rfl) (by rfl) T.n_max (by decide +kernel) (pa_cons pe_int (pa_cons (pe_op op_fdivW (pv 3) (pe_ix ix_list (pv 2) (pv 6) (fun _ _ => rfl))) pa_nil))) pa_nil))) (pe_ix ix_list (pv 2) (pv 6) (fun _ _ => rfl))) (pa_cons (pe_cmpR op_eq (pcall D__law_draw hr (pa_cons (pv 0) (pa_cons pe_int pa_nil))) pe_int (nomark _)) pa_nil)) (by rfl)) (pss_cons (ps_if (PW.pt (pw_and (pt_cmpR op_eq (pv 7) pe_int (nomark _)) (pw_and1 (pt_val (pcall D__law_has_space hr (pa_cons (pv 2) (pa_cons (pv 3) (pa_cons (pv 4) (pa_cons (pv 6) (pa_cons (pv 8) pa_nil)))))))))) (pss_cons (ps_expr (pmethK M_put_kw hr (pv 1) (pa_cons (pv 6) (pa_cons (pv 8) pa_nil)) (pk_cons (pv 9) pk_nil))) (pss_one (ps_ret (pe_callB cr_sortedB (by rfl) T.n_sorted (by decide +kernel) (pa_cons (pe_op op_cat (pv 4) (pe_lst (pa_cons (pe_tup (pa_cons (pv 8) (pa_cons (pv 6) (pa_cons (pv 9) pa_nil)))) pa_nil))) pa_nil))))) pss_nil) (pss_cons (ps_if (pt_cmpR (op_eqD hr.units) (pv 4) (pe_lst pa_nil) (nomark _)) (pss_one (ps_ret (pv 4))) pss_nil) (pss_cons (ps_set (i := 5) sc__law_changed.nd rfl (by first | exact Or.inl rfl | exact Or.inr rfl) (pcall D__law_draw hr (pa_cons (pv 0) (pa_cons (pe_callB call_len_seq (by rfl) T.n_len (by decide +kernel) (pa_cons (pv 4) pa_nil)) pa_nil)))) (pss_cons (ps_asg (pe_ix ix_list (pv 4) (pv 5) (fun _ _ => rfl)) (pg_tup (by rfl) (pgs_cons (pg_name (i := 10) sc__law_changed.nd rfl (by first | exact Or.inl rfl | exact Or.inr rfl)) (pgs_cons (pg_name (i := 11) sc__law_changed.nd rfl (by first | exact Or.inl rfl | exact Or.inr rfl)) (pgs_cons (pg_name (i := 12) sc__law_changed.nd rfl (by first | exact Or.inl rfl | exact Or.inr rfl)) pgs_nil))))) (pss_cons (ps_if (pt_cmpR op_eq (pv 7) pe_int (nomark _)) (pss_cons (ps_expr (pmeth M_set_pinned hr (pv 1) (pa_cons (pv 10) (pa_cons (pe_not (pv 12)) pa_nil)))) (pss_one (ps_ret (pe_op op_cat (pe_op op_cat (pe_slice sl_list (pv 4) po_none (po_some (pv 5))) (pe_lst (pa_cons (pe_tup (pa_cons (pv 10) (pa_cons (pv 11) (pa_cons (pe_not (pv 12)) pa_nil)))) pa_nil))) (pe_slice sl_list (pv 4) (po_some (pe_op op_add (pv 5) pe_int)) po_none))))) pss_nil) (pss_cons (ps_expr (pmeth M_take_out hr (pv 1) (pa_cons (pv 10) pa_nil))) (pss_one (ps_ret (pe_op op_cat (pe_slice sl_list (pv 4) po_none (po_some (pv 5))) (pe_slice sl_list (pv 4) (po_some (pe_op op_add (pv 5) pe_int)) po_none)))))))))))), ?_⟩)
  · obtain ⟨r, s, a, y, zp, bl, dx, ps, qs, ns, n, bs, rfl, _⟩ := h
    rfl
  · obtain ⟨r, s, a, y, zp, bl, dx, ps, qs, ns, n, bs, rfl, A0, q⟩ := h
    have sl : sizeLine = 16777216 := sizeLine_eq
    have big : (10 : Int) ^ 40 = 10000000000000000000000000000000000000000 := by decide
    have g := A0.L.gd
    have g8 := g.len
    have n1 := A0.L.n1
    have n2 := A0.n2
    have wf := A0.L.wf
    have ql := A0.rf.len
    refine ⟨_, rfl, _, rfl, s, _, rfl, .inl (SqL.of A0.hs), r, _, rfl, A0.rg, (by rw [List.length_map]; omega), (by rw [List.length_map]; omega), fun d6 H1 a0 a1 t1 => ?_⟩
    rw [List.length_map] at a1
    obtain ⟨k, rfl⟩ : ∃ k : Nat, d6 = (k : Int) := ⟨d6.toNat, by omega⟩
    have hk : k < ns.length := by omega
    have z1 := (chain g).pos k hk
    have z2 := sz_le g hk
    have A1 := A0.step t1
    refine ⟨_, rfl, r, 3, rfl, A1.rg, by decide, by omega, fun d7 H2 b0 b1 t2 => ⟨_, _, rfl, ?_⟩⟩
    have A2 := A1.step t2
    have mx : 1 ≤ (if n / sz ns k > 1 then n / sz ns k else 1) ∧ (if n / sz ns k > 1 then n / sz ns k else 1) ≤ 1000 := by
      have j2 : n / sz ns k ≤ 1000 := Int.le_trans (Int.ediv_le_self _ (by omega)) (by omega)
      split <;> omega
    refine ⟨_, rfl, _, rfl, _, rfl, _, rfl, s, _, _, _, rfl, rfl, SqL.of A2.hs, at_sz hk, _, _, rfl, rfl, wide_div (b := 30) (by omega) (by omega) (by decide) (by decide), _, _, rfl, r, _, rfl, A2.rg, mx.1, by omega, fun d8 H3 c0 c1 t3 => ?_⟩
    have A3 := A2.step t3
    refine ⟨_, rfl, _, rfl, s, _, _, _, rfl, rfl, SqL.of A3.hs, at_sz hk, _, _, rfl, rfl, .inr ⟨by omega, by omega⟩, ?_⟩
    have ad0 : 0 ≤ d8 * sz ns k := Int.mul_nonneg c0 (by omega)
    have ad1 : d8 * sz ns k ≤ 1000 := by
      by_cases hd : d8 < n / sz ns k
      · have h1 := (dn_iff (s := sz ns k) (e := n) (i := d8) z1).mp hd
        omega
      · have : d8 = 0 := by
          split at c1 <;> omega
        rw [this, Int.zero_mul]
        omega
    refine ⟨_, rfl, r, 2, rfl, A3.rg, by decide, by omega, fun d9 H4 e0 e1 t4 => ⟨rfl, _, _, rfl, ?_⟩⟩
    have A4 := A3.step t4
    have st4 : Stp r H H4 := ((t1.trans t2).trans t3).trans t4
    refine join (fun G : Hp => Stp r H G) (R := ?R) (fun tail => ?main) ?tl
    case main =>
      refine ⟨_, rfl, rfl, _, rfl, ?_⟩
      by_cases hw : d7 = 0
      case neg =>
        refine ifF (vF hw) (iteF ?_)
        exact tail H4 st4
      refine ifT (vT hw) ?_
      refine ⟨_, rfl, _, rfl, _, rfl, _, rfl, _, rfl, s, a, ns, n, qs, bs, k, _, rfl, A4.hs, A4.bl_, g, hk, ad0, by omega, fun H5 s5 => ?_⟩
      have A5 := A4.same s5
      have st5 := st4.trans (Stp.same A4.rg s5)
      refine ⟨_, rfl, ?_⟩
      cases hsp : spaceB ns n bs k (d8 * sz ns k) with
      | false =>
        refine iteF ?_
        exact tail H5 st5
      | true =>
        have un := wf.un.snoc (p := decide (V.int d9 = V.int 0)) hk ad0 hsp
        have sp := hsp
        unfold spaceB at sp
        rw [Bool.and_eq_true, Bool.and_eq_true] at sp
        obtain ⟨p1, p2, p3⟩ := sp
        have bn : bs.length ≤ 150 := by
          rcases wf.few g with h | h
          · omega
          · rw [h]; exact Nat.zero_le _
        refine iteT ⟨_, rfl, y, dx, _, rfl, A5.L.at_, lay_nm (by decide +kernel), _, rfl, _, rfl, _, rfl, rfl, rfl, y, zp, bl, dx, ps, ns, n, d8 * sz ns k, bs, k, _, rfl, A5.L, by omega, hk, ad0, Int.emod_eq_zero_of_dvd (of_decide_eq_true p1), of_decide_eq_true p2, fun c hc => ?_, fun j ps' H6 hbw L' bt => ?_⟩
        · have := List.all_eq_true.mp p3 c hc
          unfold offB at this
          rw [Bool.or_eq_true] at this
          rcases this with z | z
          · exact .inr (of_decide_eq_true z)
          · exact .inl (of_decide_eq_true z)
        · obtain ⟨rg6, hs6, ha6, rf6, lr6⟩ := A5.put L' bt
          have one : 1 ≤ sizeLine := by decide
          have three : 3 ≤ sizeLine := by decide
          refine ⟨_, rfl, _, rfl, _, rfl, _, rfl, three, fun u hu => ⟨one, fun v hv => ?_⟩⟩
          have x1 := same_upd (o := .tup (blkV (d8 * sz ns k, k, decide (V.int d9 = V.int 0)))) hu
          have x2 := x1.trans (same_upd (o := .lst [.ref u]) hv)
          have hu1 : (upd H6 u (.tup (blkV (d8 * sz ns k, k, decide (V.int d9 = V.int 0))))) u = some (.tup (blkV (d8 * sz ns k, k, decide (V.int d9 = V.int 0)))) := upd_same
          have hu2 := same_upd (o := .lst [.ref u]) hv _ _ hu1
          refine ⟨a, v, _, _, rfl, rfl, x2 _ _ ha6, upd_same, (by rw [List.length_map]; simp only [List.length_singleton]; omega), fun c hc => ?_⟩
          have x3 := x2.trans (same_upd (o := .lst (qs.map V.ref ++ [.ref u])) hc)
          have hu3 := same_upd (o := .lst (qs.map V.ref ++ [.ref u])) hc _ _ hu2
          have hc1 : (upd (upd (upd H6 u (.tup (blkV (d8 * sz ns k, k, decide (V.int d9 = V.int 0))))) v (.lst [.ref u])) c (.lst (qs.map V.ref ++ [.ref u]))) c = some (.lst ((qs ++ [u]).map V.ref)) := by
            rw [upd_same, List.map_append]
            rfl
          have rf7 := (rf6.same x3).app (Refs.one hu3)
          obtain ⟨k1, k2⟩ := un.keys g rf7
          refine ⟨c, _, _, rfl, SqL.of hc1, k1, k2, fun zs p hs' hp hpn => ?_⟩
          obtain ⟨qs', bs', rfl, rf', pm, wf'⟩ := un.sorted g rf7 hs' hp
          have ei : bs' = insB bs j (d8 * sz ns k, k, decide (V.int d9 = V.int 0)) := by
            refine uniqB (wf'.rise g) (L'.wf.rise g) (pm.trans ?_)
            unfold insB
            rw [List.append_assoc]
            refine List.perm_append_comm.trans ?_
            refine List.Perm.trans ?_ (List.perm_middle (l₁ := bs.take j) (l₂ := bs.drop j)).symm
            rw [List.take_append_drop]
            exact List.Perm.refl _
          subst ei
          have x4 := x3.trans (same_upd (o := .lst (qs'.map V.ref)) hpn)
          have p0 : H6 p = none := x3.free hpn
          refine q p ps' qs' _ _ (A5.new L' bt x4 upd_same (rf'.same (same_upd hpn)) p0) fun c o c1 c2 c3 e => ?_
          exact x4 _ _ (bt _ _ c2 c3 (st5.2 _ _ c1 e))
    case tl =>
      intro G st
      have AG := A0.step st
      have one : 1 ≤ sizeLine := by decide
      have three : 3 ≤ sizeLine := by decide
      refine ⟨_, rfl, Nat.zero_le _, fun e0 he0 => ?_⟩
      have A1 := AG.same (same_upd (o := .lst []) he0)
      have st1 := st.new (o := .lst []) he0
      have hE : (upd G e0 (.lst [])) e0 = some (.lst []) := upd_same
      generalize upd G e0 (.lst []) = G1 at A1 st1 hE
      refine ⟨.list (bs.map blkD), .list [], .lst (SqL.of A1.ha) A1.rf.dp, .lst (SqL.of hE) .nil, shaped_blk bs, rfl, _, rfl, ?_⟩
      have bn : bs.length ≤ 150 := by
        rcases wf.few g with h | h
        · omega
        · rw [h]; exact Nat.zero_le _
      by_cases hb0 : bs = []
      · refine ifT (by rw [hb0]; rfl) ⟨_, rfl, q a ps qs bs G1 A1 fun c o c1 c2 c3 e => st1.2 _ _ c1 e⟩
      refine ifF (by cases hbs : bs with | nil => exact absurd hbs hb0 | cons x l => rfl) ?_
      have bpos : 0 < bs.length := by cases hbs : bs with | nil => exact absurd hbs hb0 | cons x l => simp
      refine ⟨_, rfl, _, rfl, a, _, rfl, .inl (SqL.of A1.ha), r, _, rfl, A1.rg, (by rw [List.length_map]; omega), (by rw [List.length_map]; omega), fun dk G2 f0 f1 t2 => ?_⟩
      rw [List.length_map] at f1
      obtain ⟨j, rfl⟩ : ∃ j : Nat, dk = (j : Int) := ⟨dk.toNat, by omega⟩
      have hj : j < bs.length := by omega
      have A2 := A1.step t2
      have st2 := st1.trans t2
      obtain ⟨b, hb⟩ : ∃ b, bs[j]? = some b := ⟨_, List.getElem?_eq_getElem hj⟩
      obtain ⟨p, hp, hT⟩ := A2.rf.at_ hb
      have hT' : G2 p = some (.tup [.int b.1, .int (b.2.1 : Nat), .bl b.2.2]) := hT
      refine ⟨_, rfl, _, rfl, a, _, _, _, rfl, rfl, SqL.of A2.ha, Refs.map_at hp, p, _, rfl, .inl (.inl hT'), rfl, _, _, rfl, _, _, rfl, _, _, rfl, rfl, ?_⟩
      refine ⟨_, rfl, rfl, _, rfl, ?_⟩
      by_cases hw : d7 = 1
      · refine ifT (vT hw) ?_
        refine ⟨_, rfl, y, dx, _, rfl, A2.L.at_, lay_nm (by decide +kernel), _, rfl, _, rfl, _, rfl, y, zp, bl, dx, ps, ns, n, b.1, bs, j, b, !b.2.2, rfl, A2.L, hb, rfl, fun ps' G3 L' bt => ?_⟩
        obtain ⟨rg6, hs6, ha6, rf6, lr6⟩ := A2.put L' bt
        refine ⟨_, rfl, _, rfl, _, rfl, a, _, rfl, SqL.of ha6, fun c1 h1 => ?_⟩
        rw [cut_lo (by omega)]
        have x1 := same_upd (o := .lst ((qs.take j).map V.ref)) h1
        have hc1 : (upd G3 c1 (.lst ((qs.take j).map V.ref))) c1 = some (.lst ((qs.take j).map V.ref)) := upd_same
        generalize upd G3 c1 (.lst ((qs.take j).map V.ref)) = G4 at x1 hc1
        refine ⟨_, rfl, _, rfl, _, rfl, _, rfl, three, fun u hu => ?_⟩
        have x2 := x1.trans (same_upd (o := .tup (blkV (b.1, b.2.1, !b.2.2))) hu)
        have hc2 := same_upd (o := .tup (blkV (b.1, b.2.1, !b.2.2))) hu _ _ hc1
        have hu2 : (upd G4 u (.tup (blkV (b.1, b.2.1, !b.2.2)))) u = some (.tup (blkV (b.1, b.2.1, !b.2.2))) := upd_same
        refine ⟨one, fun v hv => ?_⟩
        have x3 := x2.trans (same_upd (o := .lst [.ref u]) hv)
        have hc3 := same_upd (o := .lst [.ref u]) hv _ _ hc2
        have hu3 := same_upd (o := .lst [.ref u]) hv _ _ hu2
        refine ⟨c1, v, _, _, rfl, rfl, hc3, upd_same, (by rw [List.length_map, List.length_take]; simp only [List.length_singleton]; omega), fun c4 h4 => ?_⟩
        have x4 := x3.trans (same_upd (o := .lst ((qs.take j).map V.ref ++ [.ref u])) h4)
        have hu4 := same_upd (o := .lst ((qs.take j).map V.ref ++ [.ref u])) h4 _ _ hu3
        have hc4 : (upd (upd (upd G4 u (.tup (blkV (b.1, b.2.1, !b.2.2)))) v (.lst [.ref u])) c4 (.lst ((qs.take j).map V.ref ++ [.ref u]))) c4 = some (.lst ((qs.take j ++ [u]).map V.ref)) := by
          rw [upd_same, List.map_append]
          rfl
        refine ⟨_, rfl, _, rfl, _, _, rfl, rfl, _, rfl, a, _, rfl, SqL.of (x4 _ _ ha6), fun c5 h5 => ?_⟩
        rw [show ((j : Int) + 1) = ((j + 1 : Nat) : Int) by omega, cut_hi (by omega)]
        have x5 := x4.trans (same_upd (o := .lst ((qs.drop (j + 1)).map V.ref)) h5)
        have hu5 := same_upd (o := .lst ((qs.drop (j + 1)).map V.ref)) h5 _ _ hu4
        have hc5 := same_upd (o := .lst ((qs.drop (j + 1)).map V.ref)) h5 _ _ hc4
        refine ⟨c4, c5, _, _, rfl, rfl, hc5, upd_same, (by rw [List.length_map, List.length_map, List.length_append, List.length_take, List.length_drop, List.length_singleton]; omega), fun c6 h6 => ?_⟩
        rw [← List.map_append]
        have x6 := x5.trans (same_upd (o := .lst ((qs.take j ++ [u] ++ qs.drop (j + 1)).map V.ref)) h6)
        have hu6 := same_upd (o := .lst ((qs.take j ++ [u] ++ qs.drop (j + 1)).map V.ref)) h6 _ _ hu5
        have rf7 : Refs blkV _ (qs.take j ++ [u] ++ qs.drop (j + 1)) (bs.take j ++ [(b.1, b.2.1, !b.2.2)] ++ bs.drop (j + 1)) := (((rf6.take j).same x6).app (Refs.one hu6)).app ((rf6.drop (j + 1)).same x6)
        have es : bs.take j ++ [(b.1, b.2.1, !b.2.2)] ++ bs.drop (j + 1) = pinB bs j b (!b.2.2) := by
          unfold pinB
          rw [List.set_eq_take_append_cons_drop, if_pos hj, List.append_assoc]
          rfl
        rw [es] at rf7
        exact q c6 ps' _ _ _ (A2.new L' bt x6 upd_same rf7 (x5.free h6)) fun c o c1 c2 c3 e => x6 _ _ (bt _ _ c2 c3 (st2.2 _ _ c1 e))
      · refine ifF (vF hw) ?_
        refine ⟨_, rfl, y, dx, _, rfl, A2.L.at_, lay_nm (by decide +kernel), _, rfl, y, zp, bl, dx, ps, ns, n, b.1, bs, j, b, rfl, A2.L, hb, rfl, fun tt ps' G3 htt L' _ bt => ?_⟩
        obtain ⟨rg6, hs6, ha6, rf6, lr6⟩ := A2.put L' bt
        refine ⟨_, rfl, _, rfl, _, rfl, a, _, rfl, SqL.of ha6, fun c1 h1 => ?_⟩
        rw [cut_lo (by omega)]
        have x1 := same_upd (o := .lst ((qs.take j).map V.ref)) h1
        have hc1 : (upd G3 c1 (.lst ((qs.take j).map V.ref))) c1 = some (.lst ((qs.take j).map V.ref)) := upd_same
        generalize upd G3 c1 (.lst ((qs.take j).map V.ref)) = G4 at x1 hc1
        refine ⟨_, rfl, _, rfl, _, _, rfl, rfl, _, rfl, a, _, rfl, SqL.of (x1 _ _ ha6), fun c5 h5 => ?_⟩
        rw [show ((j : Int) + 1) = ((j + 1 : Nat) : Int) by omega, cut_hi (by omega)]
        have x5 := x1.trans (same_upd (o := .lst ((qs.drop (j + 1)).map V.ref)) h5)
        have hc5 := same_upd (o := .lst ((qs.drop (j + 1)).map V.ref)) h5 _ _ hc1
        refine ⟨c1, c5, _, _, rfl, rfl, hc5, upd_same, (by rw [List.length_map, List.length_map, List.length_take, List.length_drop]; omega), fun c6 h6 => ?_⟩
        rw [← List.map_append]
        have x6 := x5.trans (same_upd (o := .lst ((qs.take j ++ qs.drop (j + 1)).map V.ref)) h6)
        have rf7 : Refs blkV _ (qs.take j ++ qs.drop (j + 1)) (bs.take j ++ bs.drop (j + 1)) := ((rf6.take j).same x6).app ((rf6.drop (j + 1)).same x6)
        have eb : bs.take j ++ bs.drop (j + 1) = bs.eraseIdx j := (List.eraseIdx_eq_take_drop_succ bs j).symm
        rw [eb] at rf7
        exact q c6 ps' _ _ _ (A2.new L' bt x6 upd_same rf7 (x5.free h6)) fun c o c1 c2 c3 e => x6 _ _ (bt _ _ c2 c3 (st2.2 _ _ c1 e))
end
end K23

set_option Elab.async false
set_option linter.all false
set_option maxRecDepth 100000
set_option maxHeartbeats 4000000
namespace K23
open PySem PySem.Spec PyProof.Rows L2 Gu Ex
section
variable {P : Program} {w : World} {K : PySem.W.Frag} {mg : Str → Option Value} {base : Heap} {f : Addr} {fd : FuncData}
def spRight : Sp := fun vs H Q _ => ∃ r : Addr, vs = [.ref r] ∧ Rng H r ∧ ∀ H', Stp r H H' → Q (.bl true) H'
theorem sc__law_right : FnScope ["_law_rng_here", "_law_sizes_here", "_law_length", "_law_blocks_here", "_law_layout_here", "_law_turn"] ["_law_rng_here"] (defScope (top 44)) := ⟨rfl, rfl, rfl, by decide +kernel, rfl, by decide +kernel, by decide +kernel⟩
theorem ok_right (T : Tx K mg) (D__law_sizes : Df P w K mg base 2 "_law_sizes" ["_law_rng_here", "_law_levels", "_law_greatest"] spSizes) (D__law_draw : Df P w K mg base 1 "_law_draw" ["_law_rng_here", "_law_many"] spDraw)
    (D__law_blocks : Df P w K mg base 2 "_law_blocks" ["_law_rng_here", "_law_sizes_here", "_law_length", "_law_many", "_law_one_in"] spBlocks) (D__law_layout : Df P w K mg base 9 "_law_layout" ["_law_sizes_here", "_law_length", "_law_blocks_here"] (spLayout K))
    (D__law_stands : DfG P w K mg base 12 "_law_stands" ["_law_rng_here", "_law_layout_here", "_law_sizes_here", "_law_length", "_law_blocks_here"] (spStands K)) (D__law_changed : Df P w K mg base 9 "_law_changed" ["_law_rng_here", "_law_layout_here", "_law_sizes_here", "_law_length", "_law_blocks_here"] (spChanged K))
    (M_blocks : Mf P w K mg base 1 "Layout" "blocks" ["self"] (spBlk K)) (F : FnP K "_law_right" "_law_right" (top 44) f fd) : FnG P w K mg base CX0 13 f fd ["_law_rng_here"] spRight := by
  refine okG F sc__law_right (fun vs H Q E h => ?_) (fun cdv A outer s H vs Q E hr h => ⟨_, PSs.nox (pss_cons (ps_set (i := 1) sc__law_right.nd rfl (by first | exact Or.inl rfl | exact Or.inr rfl) (pcall D__law_sizes hr.r (pa_cons (pv 0) (pa_cons pe_int (pa_cons pe_int pa_nil))))) (pss_cons (ps_set (i := 2) sc__law_right.nd rfl (by first | exact Or.inl rfl | exact Or.inr rfl) (pe_op op_add (pe_op op_mod (pe_ix ix_list (pe_lst (pa_cons (pe_op op_add pe_int (pcall D__law_draw hr.r (pa_cons (pv 0) (pa_cons pe_int pa_nil)))) (pa_cons (pe_op op_add (pe_ix ix_list (pv 1) (pe_un un_neg pe_int) (fun _ _ => rfl)) (pcall D__law_draw hr.r (pa_cons (pv 0) (pa_cons pe_int pa_nil)))) (pa_cons pe_int pa_nil)))) (pcall D__law_draw hr.r (pa_cons (pv 0) (pa_cons pe_int pa_nil))) (fun _ _ => rfl)) pe_int) pe_int)) (pss_cons (ps_set (i := 3) sc__law_right.nd rfl (by first | exact Or.inl rfl | exact Or.inr rfl) (pcall D__law_blocks hr.r (pa_cons (pv 0) (pa_cons (pv 1) (pa_cons (pv 2) (pa_cons pe_int (pa_cons pe_int pa_nil))))))) (pss_cons (ps_set (i := 4) sc__law_right.nd rfl (by first | exact Or.inl rfl | exact Or.inr rfl) (pcall D__law_layout hr.r (pa_cons (pv 1) (pa_cons (pv 2) (pa_cons (pv 3) pa_nil))))) (pss_cons (ps_if (pt_not (pt_val (pcallG D__law_stands hr (pa_cons (pv 0) (pa_cons (pv 4) (pa_cons (pv 1) (pa_cons (pv 2) (pa_cons (pv 3) pa_nil)))))))) (pss_one (ps_ret pe_bl)) pss_nil) (pss_cons (ps_for PassesOwn.never rfl (pi_range1 rfl T.n_range (pa_cons (pcall D__law_draw hr.r (pa_cons (pv 0) (pa_cons pe_int pa_nil))) pa_nil)) (pg_name (i := 5) sc__law_right.nd rfl (by first | exact Or.inl rfl | exact Or.inr rfl)) (pss_cons (ps_set (i := 3) sc__law_right.nd rfl (by first | exact Or.inl rfl | exact Or.inr rfl) (pcall D__law_changed hr.r (pa_cons (pv 0) (pa_cons (pv 4) (pa_cons (pv 1) (pa_cons (pv 2) (pa_cons (pv 3) pa_nil))))))) (pss_one (ps_if (PW.pt (pw_or (pt_not (pt_val (pcallG D__law_stands hr (pa_cons (pv 0) (pa_cons (pv 4) (pa_cons (pv 1) (pa_cons (pv 2) (pa_cons (pv 3) pa_nil)))))))) (pw_or1 (pt_cmpR (op_neD hr.r.units) (pmeth0 M_blocks hr.r (pv 4)) (pv 3) (nomark _))))) (pss_one (ps_ret pe_bl)) pss_nil)))) (pss_one (ps_ret pe_bl)))))))), ?_⟩)
  · obtain ⟨r, rfl, _⟩ := h
    rfl
  · obtain ⟨r, rfl, hR, q⟩ := h
    have sl : sizeLine = 16777216 := sizeLine_eq
    have big : (10 : Int) ^ 40 = 10000000000000000000000000000000000000000 := by decide
    have three : 3 ≤ sizeLine := by decide
    refine ⟨_, rfl, r, 5, 4, rfl, hR, by decide, by decide, by decide, by decide, fun s ns H1 g hs0 hs s1 => ?_⟩
    have sr : s ≠ r := fun z => hR.ne hs0 z.symm
    refine ⟨_, rfl, r, 150, rfl, s1.1, by decide, by omega, fun d1 H2 a0 a1 t2 => ⟨_, _, rfl, rfl, ?_⟩⟩
    have s2 := s1.trans t2
    have hs2 := t2.2 _ _ sr hs
    obtain ⟨ys, z, ez⟩ := last_of g.len.1
    have at1 : atI (ns.map V.int) (-1) = some (.int z) := by rw [ez]; exact at_last ys z
    refine ⟨_, rfl, _, rfl, s, _, _, _, rfl, rfl, SqL.of hs2, at1, ?_⟩
    have zr : 1 ≤ z := by
      have := g.rng (ns.length - 1) z (by rw [ez]; exact last_get ys z)
      exact this.1
    refine ⟨_, rfl, r, 60, rfl, s2.1, by decide, by omega, fun d2 H3 b0 b1 t3 => ⟨_, _, rfl, rfl, three, fun t ht => ?_⟩⟩
    have s3 := s2.trans t3
    have s4 := s3.new (o := .lst [.int (1 + d1), .int (z + d2), .int 64]) ht
    have ntr : t ≠ r := (s3.1.ne ht).symm
    have ht1 : (upd H3 t (.lst [.int (1 + d1), .int (z + d2), .int 64])) t = some (.lst [.int (1 + d1), .int (z + d2), .int 64]) := upd_same
    refine ⟨_, rfl, r, 3, rfl, s4.1, by decide, by omega, fun d3 H5 c0 c1 t5 => ?_⟩
    have s5 := s4.trans t5
    obtain ⟨v, hv, hm⟩ := at_of (xs := [.int (1 + d1), .int (z + d2), .int 64]) c0 c1
    obtain ⟨m, rfl⟩ : ∃ m : Int, v = .int m := by
      simp only [List.mem_cons, List.not_mem_nil, or_false] at hm
      rcases hm with rfl | rfl | rfl
      · exact ⟨_, rfl⟩
      · exact ⟨_, rfl⟩
      · exact ⟨_, rfl⟩
    refine ⟨t, _, _, _, rfl, rfl, SqL.of (t5.2 _ _ ntr ht1), hv, _, _, rfl, rfl, (by show (0 : Int) < 150; decide), _, _, rfl, rfl, ?_⟩
    have m0 := Int.emod_nonneg m (show (150 : Int) ≠ 0 by decide)
    have m1 := Int.emod_lt_of_pos m (show (0 : Int) < 150 by decide)
    obtain ⟨n, en, n1, n2⟩ : ∃ n, m % 150 + 1 = n ∧ 1 ≤ n ∧ n ≤ 150 := ⟨_, rfl, by omega, by omega⟩
    have hs5 : H5 s = some (.lst (ns.map V.int)) := t5.2 _ _ sr (by
      rw [upd_ne (ne_of_none (t3.2 _ _ sr hs2) ht)]
      exact t3.2 _ _ sr hs2)
    refine ⟨_, rfl, _, rfl, _, rfl, r, s, ns, n, 16, 3, (by rw [← en]; rfl), s5.1, hs5, sr, g, n1, by omega, by decide, by decide, by decide, by decide, fun a qs bs H6 ha0 t6 ha rf wf bn => ?_⟩
    have hs6 := t6.2 _ _ sr hs5
    have s6 := s5.trans t6
    refine ⟨_, rfl, _, rfl, _, rfl, s, a, ns, n, qs, bs, (by rw [← en]; rfl), hs6, g, ha, rf, wf, bn, n1, by omega, fun y zp bl dx dz l ps H7 sm L y0 bl0 hz l0 => ?_⟩
    have s7 := s6.trans (Stp.same s6.1 sm)
    have rg7 := s7.1
    have hll : H7 l = some (.lst (ns.map V.int)) ∧ l ≠ bl := by
      obtain ⟨dz', l', e1, e2, e3⟩ := L.ap
      rw [hz] at e1
      have e4 : l' = l := by
        have := (HO.ins.inj (Option.some.inj e1)).2.2
        unfold szF at this
        have := (Prod.mk.inj (List.cons.inj this).1).2
        exact (V.ref.inj this).symm
      rw [e4] at e2 e3
      exact ⟨e2, e3⟩
    have lr : l ≠ r := (s6.1.ne l0).symm
    have A : Al K r s a y zp bl dx ps qs ns n bs H7 := ⟨rg7, sm _ _ hs6, sr, sm _ _ ha, rf.same sm, ne_of_none ha bl0, L, ⟨dz, l, hz, hll.1, hll.2, lr⟩, n2, by omega⟩
    have yH : H y = none := s6.free y0
    have bH : H bl = none := s6.free bl0
    refine ⟨_, rfl, _, rfl, _, rfl, _, rfl, _, rfl, r, s, a, y, zp, bl, dx, ps, qs, ns, n, bs, (by rw [← en]; rfl), A, fun H8 t8 => ?_⟩
    have A8 := A.step t8
    refine ⟨_, rfl, iteF ?_⟩
    refine ⟨_, rfl, r, 7, rfl, A8.rg, by decide, by omega, fun d9 H9 e0 e1 t9 => ?_⟩
    have A9 := A8.step t9
    refine ⟨d9, rfl, by omega, by omega, ?_⟩
    have s9 := (s7.trans t8).trans t9
    refine for_range (fun i σ G => ∃ (a : Addr) (x5 : Option V) (ps qs : List Addr) (bs : List Blk), σ = [some (.ref r), some (.ref s), some (.int (m % 150 + 1)), some (.ref a), some (.ref y), x5] ∧ Al K r s a y zp bl dx ps qs ns n bs G ∧ Stp r H G) ⟨a, none, ps, qs, bs, rfl, A9, s9⟩ ?_ ?_
    · rintro i σ G hi ⟨a, x5, ps, qs, bs, rfl, AG, sG⟩
      refine ⟨_, rfl, _, rfl, _, rfl, _, rfl, _, rfl, r, s, a, y, zp, bl, dx, ps, qs, ns, n, bs, (by rw [← en]; rfl), AG, fun a' ps' qs' bs' G2 A2 b3 => ?_⟩
      have sG2 : Stp r H G2 := ⟨A2.rg, fun c o nc e => b3 _ _ nc (ne_of_none e yH) (ne_of_none e bH) (sG.2 _ _ nc e)⟩
      refine ⟨_, rfl, _, rfl, _, rfl, _, rfl, _, rfl, r, s, a', y, zp, bl, dx, ps', qs', ns, n, bs', (by rw [← en]; rfl), A2, fun G3 t3 => ?_⟩
      have A3 := A2.step t3
      refine ⟨_, rfl, iteF ?_⟩
      refine ⟨_, rfl, y, dx, _, rfl, A3.L.at_, lay_nm (by decide +kernel), y, zp, bl, dx, ps', ns, n, bs', rfl, A3.L, fun l2 hl2 => ?_⟩
      have x4 := same_upd (o := .lst (ps'.map V.ref)) hl2
      have A4 := A3.same x4
      have ev := SeqAt.eqv_refl (.list (bs'.map blkD)) (lay_blk _)
      refine ⟨_, rfl, .list (bs'.map blkD), .list (bs'.map blkD), .lst (SqL.of upd_same) A4.L.rf.dp, .lst (SqL.of A4.ha) A4.rf.dp, shaped_blk _, shaped_blk _, _, rfl, ?_⟩
      refine ifF (by rw [ev]; rfl) ⟨a', _, ps', qs', bs', rfl, A4, (sG2.trans t3).new hl2⟩
    · rintro σ G ⟨a, x5, ps, qs, bs, rfl, AG, sG⟩
      exact q G sG
def spLaw (K : PySem.W.Frag) : Sp := fun vs H Q _ => ∃ (a : Addr) (ns : List Int), vs = [.ref a] ∧ SqL K H a (ns.map V.int) ∧ ns.length ≤ 63 ∧ ∀ H', Q (.bl true) H'
theorem sc_law : FnScope ["_law_script", "_law_k"] ["_law_script"] (defScope (top 45)) := ⟨rfl, rfl, rfl, by decide +kernel, rfl, by decide +kernel, by decide +kernel⟩
theorem ok_law (T : Tx K mg) (D__law_rng : Df P w K mg base 1 "_law_rng" ["_law_script", "_law_k"] (spRng K)) (D__law_right : DfG P w K mg base 13 "_law_right" ["_law_rng_here"] spRight)
    (F : FnP K "law" "law" (top 45) f fd) : FnG P w K mg base CX0 14 f fd ["_law_script"] (spLaw K) := by
  refine okG F sc_law (fun vs H Q E h => ?_) (fun cdv A outer s H vs Q E hr h => ⟨_, PSs.nox (pss_one (ps_ret (pe_callB (cr_all rfl) (by rfl) T.n_all (by decide +kernel) (pa_cons (pe_lc (own := [("_law_k", 1)]) (g := gName 1) rfl sc_law.nd (pi_range1 rfl T.n_range (pa_cons (pe_callB (call_max2 rfl) (by rfl) T.n_max (by decide +kernel) (pa_cons pe_int (pa_cons (pe_callB (call_min2 rfl) (by rfl) T.n_min (by decide +kernel) (pa_cons (pe_callB call_len_seq (by rfl) T.n_len (by decide +kernel) (pa_cons (pv 0) pa_nil)) (pa_cons pe_int pa_nil))) pa_nil))) pa_nil)) (blkOk_by (own := [("_law_k", 1)]) (N := ["_law_script", "_law_k"]) (sc := defScope (top 45)) (by decide +kernel)) (fun _ _ _ _ _ => pg_name (i := 1) sc_law.nd rfl (Or.inl rfl)) (fun _ _ _ _ _ => pts_nil) (fun _ _ _ _ _ => (pcallG D__law_right hr (pa_cons (pcall D__law_rng hr.r (pa_cons (pv 0) (pa_cons (pv 1) pa_nil))) pa_nil)))) pa_nil)))), ?_⟩)
  · obtain ⟨a, ns, rfl, _⟩ := h
    rfl
  · obtain ⟨a, ns, rfl, hS, hlen, q⟩ := h
    refine ⟨_, rfl, a, _, rfl, .inl hS, _, _, rfl, _, _, rfl, ?_⟩
    obtain ⟨j, ej, j1, j2⟩ : ∃ j : Int, (if (if (4 : Int) < ((ns.map V.int).length : Int) then 4 else ((ns.map V.int).length : Int)) > 1 then (if (4 : Int) < ((ns.map V.int).length : Int) then 4 else ((ns.map V.int).length : Int)) else 1) = j ∧ 1 ≤ j ∧ j ≤ 4 := by
      refine ⟨_, rfl, ?_, ?_⟩
      · split <;> omega
      · split <;> split <;> omega
    refine ⟨j, (by rw [ej]), by omega, by omega, fun D hD => ?_⟩
    refine lc_range (fun i H' => H' D = some (.lst ((List.replicate i true).map V.bl)) ∧ Same H H') ⟨upd_same, same_upd hD⟩ ?_ ?_
    · rintro i H' hi ⟨hD', sm⟩
      have hi2 : i < 4 := by omega
      refine ⟨rfl, _, rfl, _, rfl, a, ns, i, (by rw [Int.zero_add]; rfl), sm.seq hS, by omega, fun p H1 hp sm1 rg => ?_⟩
      refine ⟨p, rfl, rg, fun H2 st => ?_⟩
      have hD1 : H1 D = some (.lst ((List.replicate i true).map V.bl)) := sm1 _ _ hD'
      have nDp : D ≠ p := ne_of_none hD' hp
      refine ⟨_, st.2 D _ nDp hD1, small1000 (by rw [trues_len]; omega), by rw [upd_same, trues_more], fun b o e => ?_⟩
      have e' := sm b o e
      rw [upd_ne (ne_of_none e hD)]
      exact st.2 b o (ne_of_none e' hp) (sm1 b o e')
    · rintro H' ⟨hD', sm⟩
      refine ⟨D, List.replicate j.toNat true, rfl, SqL.of hD', ?_⟩
      rw [all_trues]
      exact q _
end
end K23

set_option Elab.async false
set_option linter.all false
set_option maxRecDepth 100000
set_option maxHeartbeats 0
namespace Ex
open PySem PySem.Spec PyProof.Rows L2 Gu
/-! ### facts of a class beyond those by names: constants, a property -/
def cvB (K : PySem.W.Frag) (C : Addr) (f : Str) (i : Int) : Bool := match PySem.W.findCls K (.ref C) (.type "type") f with
  | some (.val (.int j _)) => decide (j = i)
  | _ => false
theorem cvB_ok {K : PySem.W.Frag} {C : Addr} {f : Str} {i : Int} (h : cvB K C f i = true) : ∃ u, ClX.CVal K C (.type "type") f (.int i) u := by
  unfold cvB at h
  split at h
  · rename_i j t e
    have ej : j = i := of_decide_eq_true h
    exact ⟨_, e, t, by rw [ej]⟩
  · cases h
def rdB (K : PySem.W.Frag) (C : Addr) : Bool := PySem.W.readsIn K C (.type "type") && He.eqO (PySem.W.specialIn K (.ref C) "__getattribute__") (some (some (.builtin "type.__getattribute__")))
theorem rdB_ok {K : PySem.W.Frag} {C : Addr} (h : rdB K C = true) : ClX.CRead K C (.type "type") := by
  obtain ⟨h1, h2⟩ := He.ba h
  exact ⟨h1, He.eqO_ok h2⟩
def prA (K : PySem.W.Frag) (C : Addr) (f : Str) : Addr := match PySem.W.findIn K (.ref C) f with
  | some (some (.ref p)) => p
  | _ => 0
def pgA (K : PySem.W.Frag) (C : Addr) (f : Str) : Addr := match PySem.W.recIn K (prA K C f) "property" with
  | some (.ref g :: _) => g
  | _ => 0
def prB (K : PySem.W.Frag) (C : Addr) (f : Str) : Bool := He.eqO (PySem.W.findIn K (.ref C) f) (some (some (.ref (prA K C f)))) &&
  (He.eqO (PySem.W.specialIn K (.ref (prA K C f)) "__get__") (some (some (.builtin "property.__get__"))) && (decide (PySem.W.takesIn K (.ref (prA K C f)) = some true) &&
    (match PySem.W.recIn K (prA K C f) "property" with
    | some (.ref _ :: _) => true
    | _ => false)))
theorem prB_ok {K : PySem.W.Frag} {C : Addr} {f : Str} (h : prB K C f = true) : PropOf K C f (prA K C f) (pgA K C f) := by
  obtain ⟨h1, h⟩ := He.ba h
  obtain ⟨h2, h⟩ := He.ba h
  obtain ⟨h3, h4⟩ := He.ba h
  refine ⟨He.eqO_ok h1, He.eqO_ok h2, of_decide_eq_true h3, ?_⟩
  unfold pgA
  split at h4
  · rename_i g r e
    rw [e]
    exact ⟨r, rfl⟩
  · cases h4
/-- the def at an address -/
def fnAt (K : PySem.W.Frag) (a : Addr) : He.FnW := match K.lookup a with
  | some ⟨_, _, .func fd, _⟩ => some (fd.name, fd.qualname, fd.params, fd.body, fd.scope, fd.globals, fd.closure, fd.builtins)
  | _ => none
def okAt (K : PySem.W.Frag) (a : Addr) (qual : Str) : Bool := PySem.W.keepIn K (.ref a) && (match K.lookup a with
  | some ⟨_, _, .func fd, _⟩ => PySem.W.codeIn K fd.code qual && (He.dflB K fd.defaults [] && He.kwdB K fd.kwdefaults [])
  | _ => false)
theorem fun_at {K : PySem.W.Frag} {a : Addr} {name qual : Str} {params : Arguments} {body : List Stmt} {scope : Scope} (e : fnAt K a = some (name, qual, params, .stmts body, scope, mainGlobals, [], builtinsNs)) (c : okAt K a qual = true) :
    ∃ fd, FunD K name qual params body scope [] [] a fd := by
  obtain ⟨kp, c2⟩ := He.ba c
  unfold fnAt at e
  split at e
  · rename_i oc od fd sl q
    rw [q] at c2
    obtain ⟨k1, k2⟩ := He.ba c2
    obtain ⟨k3, k4⟩ := He.ba k2
    obtain ⟨n1, n2, n3, n4, n5, n6, n7, n8, n9, n10, n11, n12, n13, n14, n15⟩ := fd
    simp only [Option.some.injEq, Prod.mk.injEq] at e
    obtain ⟨rfl, rfl, rfl, rfl, rfl, rfl, rfl, rfl⟩ := e
    exact ⟨_, ⟨oc, od, n8, n9, n10, n11, n12, n13, n14, sl, rfl, q, k1, He.dflB_ok k3, He.kwdB_ok k4⟩, kp⟩
  · cases e
def sysB (K : PySem.W.Frag) : Bool := match K.lookup sysModules with
  | some o => decide (o.cls ≠ .type "list")
  | none => false
end Ex

set_option Elab.async false
set_option linter.all false
set_option maxRecDepth 100000
set_option maxHeartbeats 4000000
/-! Own layer: a keyword-only default that is the empty tuple; a call with the keyword given. -/
namespace Ex
open PySem PySem.Spec PyProof.Rows L2 Gu
def tup0 (K : PySem.W.Frag) (z : Addr) : Bool := match K.lookup z with
  | some ⟨.type c, _, .seq its _, _⟩ => decide (c = "tuple") && decide (its.size = 0)
  | _ => false
theorem tup0_ok {K : PySem.W.Frag} {z : Addr} (h : tup0 K z = true) : ∃ (o : Obj) (n : Nat), K.lookup z = some o ∧ o.cls = .type "tuple" ∧ o.data = .seq #[] n := by
  unfold tup0 at h
  split at h
  · rename_i c d its n sl e
    obtain ⟨h1, h2⟩ := He.ba h
    have e1 := of_decide_eq_true h1
    have e2 := of_decide_eq_true h2
    have e3 : its = #[] := Array.eq_empty_of_size_eq_zero e2
    subst e1
    subst e3
    exact ⟨_, n, e, rfl, rfl⟩
  · cases h
def kwV (K : PySem.W.Frag) (k : Str) : Value → Bool
  | .ref D => (match PySem.W.nsIn K D k with
    | some (some (.ref z)) => tup0 K z
    | _ => false)
  | _ => false
def kwB (K : PySem.W.Frag) (f : Addr) (k : Str) : Bool := match K.lookup f with
  | some ⟨_, _, .func fd, _⟩ => kwV K k fd.kwdefaults
  | _ => false
section
variable {K : PySem.W.Frag} {x qual : Str} {params : Arguments} {body : List Stmt} {scope : Scope} {kws : List (Str × V)} {f : Addr} {fd : FuncData} {ps ks : List Str} {k : Str}
theorem kwB_ok (F : FunD K x qual params body scope [] [] f fd) (h : kwB K f k = true) : ∃ (z : Addr) (o : Obj) (n : Nat), FunD K x qual params body scope [] [(k, .ref z)] f fd ∧ K.lookup z = some o ∧ o.cls = .type "tuple" ∧ o.data = .seq #[] n := by
  obtain ⟨⟨oc, od, dV, kV, doc, pm, an, cdv, ct, osl, rfl, lk, hcd, hD, hK⟩, kp⟩ := F
  unfold kwB at h
  rw [lk] at h
  have h1 : kwV K k kV = true := h
  cases kV with
  | ref D =>
    have h2 : (match PySem.W.nsIn K D k with
      | some (some (.ref z)) => tup0 K z
      | _ => false) = true := h1
    split at h2
    · rename_i z e
      obtain ⟨o, n, a, b, c⟩ := tup0_ok h2
      refine ⟨z, o, n, ⟨⟨oc, od, dV, _, doc, pm, an, cdv, ct, osl, rfl, lk, hcd, hD, .inr ⟨D, rfl, fun q hq => ?_⟩⟩, kp⟩, a, b, c⟩
      cases List.mem_singleton.mp hq
      exact ⟨_, e, rfl⟩
    · cases h2
  | _ => cases h1
theorem bindsK {n : Nat} (F : FunD K x qual params body scope [] kws f fd)
    (h : ∀ (kV doc pm : Value) (an : Option Addr) (cdv ct : Value) (us ws : List Value), us.length = n → ws.length = ks.length → bindArgs (PySem.W.fnOf x qual params body scope .none kV doc pm an cdv ct) ⟨us, ks.zip ws⟩ = pure (ps.zip (us ++ ws)))
    (s : Shared) (us ws : List Value) (hu : us.length = n) (hw : ws.length = ks.length) (_ : K.In s.heap) : BindsTo s fd ⟨us, ks.zip ws⟩ (ps.zip (us ++ ws)) := by
  obtain ⟨oc, od, dV, kV, doc, pm, an, cdv, ct, osl, rfl, lk, hcd, hD, hK⟩ := F.ex
  rcases hD with ⟨_, rfl⟩ | ⟨e, _⟩
  · exact .of_eq (h kV doc pm an cdv ct us ws hu hw)
  · exact absurd rfl e
end
end Ex

set_option Elab.async false
set_option linter.all false
set_option maxRecDepth 100000
set_option maxHeartbeats 0
namespace K23
open PySem PySem.Spec PyProof.Rows L2 Gu Ex
abbrev R : PySem.W.OpenRow := PySem.W.OpenLaw.row PySem.Challenge.rw_exactroom_k23_whole_slack_by_all_regions
def dOf (a : Str × Option Str) (x q : Str) (st : Stmt) : He.DefD := ⟨a, x, q, defArgs st, defBody st, defScope st, [], []⟩
def dOfK (a : Str × Option Str) (x q : Str) (st : Stmt) (kw : List (Str × He.Dv)) : He.DefD := ⟨a, x, q, defArgs st, defBody st, defScope st, [], kw⟩
def fn : List He.DefD := [dOf ("is_integer", none) "is_integer" "is_integer" (top 12),
  dOf ("size_problem", none) "size_problem" "size_problem" (top 16),
  dOf ("check_sizes", none) "check_sizes" "check_sizes" (top 17),
  dOf ("is_cells", none) "is_cells" "is_cells" (top 13),
  dOf ("check_cells", none) "check_cells" "check_cells" (top 14),
  dOf ("check_numbers", none) "check_numbers" "check_numbers" (top 15),
  dOf ("Sizes", some "__init__") "__init__" "Sizes.__init__" (inClass (top 18) 4),
  dOf ("Sizes", some "has_level") "has_level" "Sizes.has_level" (inClass (top 18) 12),
  dOf ("Sizes", some "check_level") "check_level" "Sizes.check_level" (inClass (top 18) 13),
  dOf ("Sizes", some "size") "size" "Sizes.size" (inClass (top 18) 14),
  dOf ("Sizes", some "whole") "whole" "Sizes.whole" (inClass (top 18) 16),
  dOf ("Layout", some "__init__") "__init__" "Layout.__init__" (inClass (top 29) 0),
  dOf ("Layout", some "count_below") "count_below" "Layout.count_below" (inClass (top 29) 9),
  dOf ("Layout", some "index_of") "index_of" "Layout.index_of" (inClass (top 29) 10),
  dOf ("Layout", some "block_at") "block_at" "Layout.block_at" (inClass (top 29) 11),
  dOf ("Layout", some "first_taken") "first_taken" "Layout.first_taken" (inClass (top 29) 12),
  dOfK ("Layout", some "put") "put" "Layout.put" (inClass (top 29) 13) [("pinned", .bl false)],
  dOf ("Layout", some "take_out") "take_out" "Layout.take_out" (inClass (top 29) 14),
  dOf ("Layout", some "set_pinned") "set_pinned" "Layout.set_pinned" (inClass (top 29) 15),
  dOf ("Layout", some "ranges_of") "ranges_of" "Layout.ranges_of" (inClass (top 29) 16),
  dOf ("Layout", some "pinned_ranges") "pinned_ranges" "Layout.pinned_ranges" (inClass (top 29) 18),
  dOf ("Layout", some "unpinned_levels") "unpinned_levels" "Layout.unpinned_levels" (inClass (top 29) 19),
  dOf ("Layout", some "regions_in") "regions_in" "Layout.regions_in" (inClass (top 29) 21),
  dOf ("Layout", some "clear_cells") "clear_cells" "Layout.clear_cells" (inClass (top 29) 24),
  dOf ("Layout", some "unpinned_cells") "unpinned_cells" "Layout.unpinned_cells" (inClass (top 29) 25),
  dOf ("Layout", some "slack") "slack" "Layout.slack" (inClass (top 29) 26),
  dOf ("Layout", some "blocks") "blocks" "Layout.blocks" (inClass (top 29) 7),
  dOf ("is_address", none) "is_address" "is_address" (top 20),
  dOf ("check_range", none) "check_range" "check_range" (top 21),
  dOf ("next_start", none) "next_start" "next_start" (top 22),
  dOf ("gaps_between", none) "gaps_between" "gaps_between" (top 23),
  dOf ("lies_below", none) "lies_below" "lies_below" (top 24),
  dOf ("is_region", none) "is_region" "is_region" (top 25),
  dOf ("region_start", none) "region_start" "region_start" (top 26),
  dOf ("count_regions", none) "count_regions" "count_regions" (top 27),
  dOf ("_law_rng", none) "_law_rng" "_law_rng" (top 31),
  dOf ("_law_draw", none) "_law_draw" "_law_draw" (top 32),
  dOf ("_law_sizes", none) "_law_sizes" "_law_sizes" (top 34),
  dOf ("_law_has_space", none) "_law_has_space" "_law_has_space" (top 35),
  dOf ("_law_blocks", none) "_law_blocks" "_law_blocks" (top 36),
  dOf ("_law_layout", none) "_law_layout" "_law_layout" (top 37),
  dOf ("_law_is_clear", none) "_law_is_clear" "_law_is_clear" (top 38),
  dOf ("_law_due_clear", none) "_law_due_clear" "_law_due_clear" (top 39),
  dOf ("_law_due_whole", none) "_law_due_whole" "_law_due_whole" (top 40),
  dOf ("_law_level_right", none) "_law_level_right" "_law_level_right" (top 41),
  dOf ("_law_stands", none) "_law_stands" "_law_stands" (top 42),
  dOf ("_law_changed", none) "_law_changed" "_law_changed" (top 43),
  dOf ("_law_right", none) "_law_right" "_law_right" (top 44),
  dOf ("law", none) "law" "law" (top 45)]
def fa : List He.Fa := [.glo "is_integer", .glo "size_problem", .glo "check_sizes", .glo "is_cells", .glo "check_cells", .glo "check_numbers", .glo "is_address", .glo "check_range", .glo "next_start", .glo "gaps_between", .glo "lies_below", .glo "is_region", .glo "region_start", .glo "count_regions", .glo "_law_rng", .glo "_law_draw", .glo "_law_sizes", .glo "_law_has_space", .glo "_law_blocks", .glo "_law_layout", .glo "_law_is_clear", .glo "_law_due_clear", .glo "_law_due_whole", .glo "_law_level_right", .glo "_law_stands", .glo "_law_changed", .glo "_law_right", .glo "law", .glo "Sizes", .glo "Layout", .free "len", .free "isinstance", .free "int", .free "bool", .free "list", .free "range", .free "divmod", .free "abs", .free "max", .free "min", .free "enumerate", .free "all", .free "sum", .free "tuple", .free "sorted", .free "repr", .cls "Sizes", .noat "Sizes" "size_list", .mkr "Sizes", .meth "Sizes" "has_level", .meth "Sizes" "check_level", .meth "Sizes" "size", .meth "Sizes" "whole", .cls "Layout", .mkr "Layout", .noat "Layout" "size_table", .noat "Layout" "cell_count", .noat "Layout" "free_count", .noat "Layout" "block_list", .meth "Layout" "count_below", .meth "Layout" "index_of", .meth "Layout" "block_at", .meth "Layout" "first_taken", .meth "Layout" "put", .meth "Layout" "take_out", .meth "Layout" "set_pinned", .meth "Layout" "ranges_of", .meth "Layout" "pinned_ranges", .meth "Layout" "unpinned_levels", .meth "Layout" "regions_in", .meth "Layout" "clear_cells", .meth "Layout" "unpinned_cells", .meth "Layout" "slack", .meth "Layout" "blocks"]
def exB (K : PySem.W.Frag) : Bool := (rdB K (He.ga K "Sizes") && (cvB K (He.ga K "Sizes") "MAX_SIZE" 1000000000 && (cvB K (He.ga K "Sizes") "MAX_SIZES" 8 && (sysB K && (cvB K (He.ga K "Sizes") "MAX_CELLS" 1000000000000 && (kwB K (He.ma K (He.ga K "Layout") "slack") "kept" && (prB K (He.ga K "Sizes") "top" && (okAt K (pgA K (He.ga K "Sizes") "top") "Sizes.top" && true))))))))
def v_top : He.FnW := some ("top", "Sizes.top", defArgs (inClass (top 18) 10), .stmts (defBody (inClass (top 18) 10)), defScope (inClass (top 18) 10), mainGlobals, [], builtinsNs)
abbrev AlE : Type := He.AlD × Bool × He.FnW
def ob0 (K : PySem.W.Frag) : AlE := (He.obsD fa fn K, exB K, fnAt K (pgA K (He.ga K "Sizes") "top"))
def vl0 : AlE := (He.valD fn, true, v_top)
def ob1 (g : Addr → Option Obj) : AlE := ob0 (He.frG g (cStatics :: sysModules :: He.asD g 5))
def hk : PySem.W.Hook where
  α := AlE
  obs := fun s => ob1 s.heap.get?
  val := fun _ => vl0
  says := fun _ h => ∃ K : PySem.W.Frag, K.In h ∧ ob0 K = vl0
  of := fun _ _ e => ⟨_, He.frG_in, e⟩
  keeps := fun _ _ _ ⟨K, hK, c⟩ k => ⟨K, PySem.W.Frag.In.keeps hK k, c⟩
def ob (s : PySem.W.SharedT) : AlE := ob1 (HandSHeadRun.getT s)
theorem ob_eq (s : PySem.W.SharedT) : ob s = hk.obs s.abs := by
  have e : HandSHeadRun.getT s = s.abs.heap.get? := funext (HandSHeadRun.getT_eq s)
  show ob1 (HandSHeadRun.getT s) = ob1 s.abs.heap.get?
  rw [e]
def loose : List Str := ("_wall" : Str) :: ("RoomError" : Str) :: ("InvalidSizes" : Str) :: ("InvalidLevel" : Str) :: ("InvalidNumber" : Str) :: ("InvalidNumbers" : Str) :: ("InvalidAddress" : Str) :: ("UnknownBlock" : Str) :: ("Occupied" : Str) :: ("TooManyPieces" : Str) :: ("is_integer" : Str) :: ("is_cells" : Str) :: ("check_cells" : Str) :: ("check_numbers" : Str) :: ("size_problem" : Str) :: ("check_sizes" : Str) :: ("Sizes" : Str) :: ("is_address" : Str) :: ("check_range" : Str) :: ("next_start" : Str) :: ("gaps_between" : Str) :: ("lies_below" : Str) :: ("is_region" : Str) :: ("region_start" : Str) :: ("count_regions" : Str) :: ("Layout" : Str) :: ("_law_rng" : Str) :: ("_law_draw" : Str) :: ("_law_choice" : Str) :: ("_law_sizes" : Str) :: ("_law_has_space" : Str) :: ("_law_blocks" : Str) :: ("_law_layout" : Str) :: ("_law_is_clear" : Str) :: ("_law_due_clear" : Str) :: ("_law_due_whole" : Str) :: ("_law_level_right" : Str) :: ("_law_stands" : Str) :: ("_law_changed" : Str) :: ("_law_right" : Str) :: []
def kk (s : PySem.W.SharedT) : PySem.W.Frag := He.frG (HandSHeadRun.getT s) (cStatics :: sysModules :: He.asD (HandSHeadRun.getT s) 5)
noncomputable def ends (w : World) (os : OsState) : Option PySem.W.SharedT := HandSHeadRun.endF (HandSHeadRun.stepQ (HandSHeadRun.denQ HandSHeadRun.tabQ) R.prog w) 16000 R.prog w os
theorem in_parts {σ A B E F : Type} {o : Option σ} {a : σ → A} {b : σ → B} {c d : σ → Bool} {e : σ → E} {f : σ → Bool} {g : σ → F} {x1 : A} {x2 : B} {x5 : E} {x7 : F} (h1 : o.map a = some x1) (h2 : o.map b = some x2) (h3 : o.map c = some true) (h4 : o.map d = some true)
    (h5 : o.map e = some x5) (h6 : o.map f = some true) (h7 : o.map g = some x7) : o.map (fun s => (a s, b s, (((c s && d s), e s), f s, g s))) = some (x1, x2, ((true, x5), true, x7)) := by
  cases o with
  | none => cases h1
  | some s =>
    have g1 : a s = x1 := Option.some.inj h1
    have g2 : b s = x2 := Option.some.inj h2
    have g3 : c s = true := Option.some.inj h3
    have g4 : d s = true := Option.some.inj h4
    have g5 : e s = x5 := Option.some.inj h5
    have g6 : f s = true := Option.some.inj h6
    have g7 : g s = x7 := Option.some.inj h7
    show some (a s, b s, (((c s && d s), e s), f s, g s)) = _
    rw [g1, g2, g3, g4, g5, g6, g7]
    rfl
end K23

set_option Elab.async false
set_option linter.all false
set_option maxRecDepth 100000
set_option maxHeartbeats 0
namespace K23
open PySem PySem.Spec PyProof.Rows L2 Gu Ex PySem.W PySem.Calls
theorem r_looks (w : World) (os : OsState) : (ends w os).map (fun s => HandSHeadRun.looksF R.prog (boot_heap w.params) s.abs) = some true := by kernel_rfl
theorem r_seen (w : World) (os : OsState) : (ends w os).map (fun s => HandSHeadRun.seenQ (PySem.W.view R.prog [45]) loose (PySem.importedModules R.prog.main.body) (fun s => PySem.W.xlAt (PySem.W.view R.prog [45]) [] s && PySem.W.recOk R.toRowW.records s) s.abs) = some (PySem.W.openGood (PySem.W.view R.prog [45]) loose) := by kernel_rfl
end K23

set_option Elab.async false
set_option linter.all false
set_option maxRecDepth 100000
set_option maxHeartbeats 0
namespace K23
open PySem PySem.Spec PyProof.Rows L2 Gu Ex
theorem r_fa (w : World) (os : OsState) : (ends w os).map (fun s => fa.all fun f => f.ok (kk s)) = some true := by kernel_rfl
end K23

set_option Elab.async false
set_option linter.all false
set_option maxRecDepth 100000
set_option maxHeartbeats 0
namespace K23
open PySem PySem.Spec PyProof.Rows L2 Gu Ex
theorem r_fn (w : World) (os : OsState) : (ends w os).map (fun s => fn.all fun d => d.ok (kk s)) = some true := by kernel_rfl
end K23

set_option Elab.async false
set_option linter.all false
set_option maxRecDepth 100000
set_option maxHeartbeats 0
namespace K23
open PySem PySem.Spec PyProof.Rows L2 Gu Ex
theorem r_fw (w : World) (os : OsState) : (ends w os).map (fun s => fn.map fun d => He.fnW (kk s) d.at_) = some (fn.map He.DefD.val) := by kernel_rfl
end K23

set_option Elab.async false
set_option linter.all false
set_option maxRecDepth 100000
set_option maxHeartbeats 0
namespace K23
open PySem PySem.Spec PyProof.Rows L2 Gu Ex
theorem r_ex (w : World) (os : OsState) : (ends w os).map (fun s => exB (kk s)) = some true := by kernel_rfl
theorem r_pr (w : World) (os : OsState) : (ends w os).map (fun s => (fnAt (kk s) (pgA (kk s) (He.ga (kk s) "Sizes") "top"))) = some (v_top) := by kernel_rfl
end K23

set_option Elab.async false
set_option linter.all false
set_option maxRecDepth 100000
set_option maxHeartbeats 0
namespace K23
open PySem PySem.Spec PyProof.Rows L2 Gu Ex
theorem run (w : World) : HandSHeadRun.RunEq R (PySem.W.view R.prog [45]) hk ob 16000 loose w :=
  fun os => in_parts (r_looks w os) (r_seen w os) (r_fa w os) (r_fn w os) (r_fw w os) (r_ex w os) (r_pr w os)
section
variable {P : Program} {w : World} {K : PySem.W.Frag} {h : Heap} {mg : Str → Option Value} {base : Heap}
theorem tx (X : K.In h) (G : h.Ns mainGlobals mg) (c : He.SaysD fa fn K) (x : exB K = true) : Tx K mg := by
  obtain ⟨x1, x⟩ := He.ba x
  obtain ⟨x2, x⟩ := He.ba x
  obtain ⟨x3, x⟩ := He.ba x
  obtain ⟨x4, x⟩ := He.ba x
  obtain ⟨x5, x⟩ := He.ba x
  obtain ⟨x_kw, x⟩ := He.ba x
  obtain ⟨xp_top, x⟩ := He.ba x
  obtain ⟨xo_top, x⟩ := He.ba x
  have hsys : SysOk K := by
    unfold sysB at x4
    split at x4
    · rename_i o e
      exact ⟨o, e, of_decide_eq_true x4⟩
    · cases x4
  exact ⟨He.free_ok X G (c.fact 30 (f := .free "len") rfl),
    He.free_ok X G (c.fact 31 (f := .free "isinstance") rfl),
    He.free_ok X G (c.fact 32 (f := .free "int") rfl),
    He.free_ok X G (c.fact 33 (f := .free "bool") rfl),
    He.free_ok X G (c.fact 34 (f := .free "list") rfl),
    He.free_ok X G (c.fact 35 (f := .free "range") rfl),
    He.free_ok X G (c.fact 36 (f := .free "divmod") rfl),
    He.free_ok X G (c.fact 37 (f := .free "abs") rfl),
    He.free_ok X G (c.fact 38 (f := .free "max") rfl),
    He.free_ok X G (c.fact 39 (f := .free "min") rfl),
    He.free_ok X G (c.fact 40 (f := .free "enumerate") rfl),
    He.free_ok X G (c.fact 41 (f := .free "all") rfl),
    He.free_ok X G (c.fact 42 (f := .free "sum") rfl),
    He.free_ok X G (c.fact 43 (f := .free "tuple") rfl),
    He.free_ok X G (c.fact 44 (f := .free "sorted") rfl),
    He.free_ok X G (c.fact 45 (f := .free "repr") rfl),
    He.glo_ok X G (c.fact 28 (f := .glo "Sizes") rfl),
    He.cls_ok (c.fact 46 (f := .cls "Sizes") rfl),
    He.noat_ok (c.fact 47 (f := .noat "Sizes" "size_list") rfl),
    rdB_ok x1,
    cvB_ok x2,
    cvB_ok x3,
    hsys,
    cvB_ok x5,
    He.glo_ok X G (c.fact 29 (f := .glo "Layout") rfl),
    He.cls_ok (c.fact 53 (f := .cls "Layout") rfl),
    He.noat_ok (c.fact 55 (f := .noat "Layout" "size_table") rfl),
    He.noat_ok (c.fact 56 (f := .noat "Layout" "cell_count") rfl),
    He.noat_ok (c.fact 57 (f := .noat "Layout" "free_count") rfl),
    He.noat_ok (c.fact 58 (f := .noat "Layout" "block_list") rfl)⟩
theorem df {x : Str} {ps : List Str} {sp : Sp} {k : Nat} {st : Stmt} {fd : FuncData} (X : K.In h) (G : h.Ns mainGlobals mg) (g : (He.Fa.glo x).ok K = true) (F : FnP K x x st (He.ga K x) fd)
    (hb : ∀ (kV doc pm : Value) (an : Option Addr) (cdv ct : Value) (us : List Value), us.length = ps.length → bindArgs (PySem.W.fnOf x x (defArgs st) (defBody st) (defScope st) .none kV doc pm an cdv ct) ⟨us, []⟩ = pure (ps.zip us))
    (ok : FnOk P w K mg base CX0 k (He.ga K x) fd ps sp) : Df P w K mg base k x ps sp := ⟨⟨fd, ok, F.bindsN hb⟩, He.glo_ok X G g, F.kp⟩
theorem dfG {x : Str} {ps : List Str} {sp : Sp} {k : Nat} {st : Stmt} {fd : FuncData} (X : K.In h) (G : h.Ns mainGlobals mg) (g : (He.Fa.glo x).ok K = true) (F : FnP K x x st (He.ga K x) fd)
    (hb : ∀ (kV doc pm : Value) (an : Option Addr) (cdv ct : Value) (us : List Value), us.length = ps.length → bindArgs (PySem.W.fnOf x x (defArgs st) (defBody st) (defScope st) .none kV doc pm an cdv ct) ⟨us, []⟩ = pure (ps.zip us))
    (ok : FnG P w K mg base CX0 k (He.ga K x) fd ps sp) : DfG P w K mg base k x ps sp := ⟨⟨fd, ok, F.bindsN hb⟩, He.glo_ok X G g, F.kp⟩
theorem dfK {x : Str} {ps ks : List Str} {j : List Nat} {sp : Sp} {k : Nat} {st : Stmt} {fd : FuncData} (X : K.In h) (G : h.Ns mainGlobals mg) (g : (He.Fa.glo x).ok K = true) (F : FnP K x x st (He.ga K x) fd)
    (hb : ∀ (kV doc pm : Value) (an : Option Addr) (cdv ct : Value) (ws : List Value), ws.length = ks.length → bindArgs (PySem.W.fnOf x x (defArgs st) (defBody st) (defScope st) .none kV doc pm an cdv ct) ⟨[], ks.zip ws⟩ = pure (ps.zip (j.filterMap fun i => ws[i]?)))
    (ok : FnOk P w K mg base CX0 k (He.ga K x) fd ps sp) : DfK P w K mg base k x ps ks j sp := by
  refine ⟨⟨fd, ok, fun s ws hl => ?_⟩, He.glo_ok X G g, F.kp⟩
  obtain ⟨oc, od, dV, kV, doc, pm, an, cdv, ct, osl, rfl, lk, hcd, hD, hK⟩ := F.ex
  rcases hD with ⟨_, rfl⟩ | ⟨e, _⟩
  · exact .of_eq (hb kV doc pm an cdv ct ws hl)
  · exact absurd rfl e
theorem facts {f : Addr} (X : K.In h) (G : h.Ns mainGlobals mg) (hfa : mg ("law" : Str) = some (.ref f)) (c0 : ob0 K = vl0) :
    ∃ fd : FuncData, (∀ (s : Shared) (v : Value), BindsTo s fd ⟨[v], []⟩ [("_law_script", v)]) ∧ ∀ base : Heap, K.In base → base.Ns mainGlobals mg → FnG P w K mg base CX0 14 f fd ["_law_script"] (spLaw K) := by
  have c : He.SaysD fa fn K := congrArg (fun z : AlE => z.1) c0
  have x : exB K = true := congrArg (fun z : AlE => z.2.1) c0
  have vt_top : fnAt K (pgA K (He.ga K "Sizes") "top") = v_top := congrArg (fun z : AlE => z.2.2) c0
  have T := tx X G c x
  obtain ⟨x1, x⟩ := He.ba x
  obtain ⟨x2, x⟩ := He.ba x
  obtain ⟨x3, x⟩ := He.ba x
  obtain ⟨x4, x⟩ := He.ba x
  obtain ⟨x5, x⟩ := He.ba x
  obtain ⟨x_kw, x⟩ := He.ba x
  obtain ⟨xp_top, x⟩ := He.ba x
  obtain ⟨xo_top, x⟩ := He.ba x
  obtain ⟨fdP_top, FP_top⟩ := fun_at vt_top xo_top
  obtain ⟨fd0, F0⟩ : ∃ fd, FnP K "is_integer" "is_integer" (top 12) (He.ga K "is_integer") fd := c.def_ 0 (d := dOf ("is_integer", none) "is_integer" "is_integer" (top 12)) rfl
  obtain ⟨fd1, F1⟩ : ∃ fd, FnP K "size_problem" "size_problem" (top 16) (He.ga K "size_problem") fd := c.def_ 1 (d := dOf ("size_problem", none) "size_problem" "size_problem" (top 16)) rfl
  obtain ⟨fd2, F2⟩ : ∃ fd, FnP K "check_sizes" "check_sizes" (top 17) (He.ga K "check_sizes") fd := c.def_ 2 (d := dOf ("check_sizes", none) "check_sizes" "check_sizes" (top 17)) rfl
  obtain ⟨fd3, F3⟩ : ∃ fd, FnP K "is_cells" "is_cells" (top 13) (He.ga K "is_cells") fd := c.def_ 3 (d := dOf ("is_cells", none) "is_cells" "is_cells" (top 13)) rfl
  obtain ⟨fd4, F4⟩ : ∃ fd, FnP K "check_cells" "check_cells" (top 14) (He.ga K "check_cells") fd := c.def_ 4 (d := dOf ("check_cells", none) "check_cells" "check_cells" (top 14)) rfl
  obtain ⟨fd5, F5⟩ : ∃ fd, FnP K "check_numbers" "check_numbers" (top 15) (He.ga K "check_numbers") fd := c.def_ 5 (d := dOf ("check_numbers", none) "check_numbers" "check_numbers" (top 15)) rfl
  obtain ⟨fd6, F6⟩ : ∃ fd, FnP K "__init__" "Sizes.__init__" (inClass (top 18) 4) (He.ma K (He.ga K "Sizes") "__init__") fd := c.def_ 6 (d := dOf ("Sizes", some "__init__") "__init__" "Sizes.__init__" (inClass (top 18) 4)) rfl
  obtain ⟨fd7, F7⟩ : ∃ fd, FnP K "has_level" "Sizes.has_level" (inClass (top 18) 12) (He.ma K (He.ga K "Sizes") "has_level") fd := c.def_ 7 (d := dOf ("Sizes", some "has_level") "has_level" "Sizes.has_level" (inClass (top 18) 12)) rfl
  obtain ⟨fd8, F8⟩ : ∃ fd, FnP K "check_level" "Sizes.check_level" (inClass (top 18) 13) (He.ma K (He.ga K "Sizes") "check_level") fd := c.def_ 8 (d := dOf ("Sizes", some "check_level") "check_level" "Sizes.check_level" (inClass (top 18) 13)) rfl
  obtain ⟨fd9, F9⟩ : ∃ fd, FnP K "size" "Sizes.size" (inClass (top 18) 14) (He.ma K (He.ga K "Sizes") "size") fd := c.def_ 9 (d := dOf ("Sizes", some "size") "size" "Sizes.size" (inClass (top 18) 14)) rfl
  obtain ⟨fd10, F10⟩ : ∃ fd, FnP K "whole" "Sizes.whole" (inClass (top 18) 16) (He.ma K (He.ga K "Sizes") "whole") fd := c.def_ 10 (d := dOf ("Sizes", some "whole") "whole" "Sizes.whole" (inClass (top 18) 16)) rfl
  obtain ⟨fd11, F11⟩ : ∃ fd, FnP K "__init__" "Layout.__init__" (inClass (top 29) 0) (He.ma K (He.ga K "Layout") "__init__") fd := c.def_ 11 (d := dOf ("Layout", some "__init__") "__init__" "Layout.__init__" (inClass (top 29) 0)) rfl
  obtain ⟨fd12, F12⟩ : ∃ fd, FnP K "count_below" "Layout.count_below" (inClass (top 29) 9) (He.ma K (He.ga K "Layout") "count_below") fd := c.def_ 12 (d := dOf ("Layout", some "count_below") "count_below" "Layout.count_below" (inClass (top 29) 9)) rfl
  obtain ⟨fd13, F13⟩ : ∃ fd, FnP K "index_of" "Layout.index_of" (inClass (top 29) 10) (He.ma K (He.ga K "Layout") "index_of") fd := c.def_ 13 (d := dOf ("Layout", some "index_of") "index_of" "Layout.index_of" (inClass (top 29) 10)) rfl
  obtain ⟨fd14, F14⟩ : ∃ fd, FnP K "block_at" "Layout.block_at" (inClass (top 29) 11) (He.ma K (He.ga K "Layout") "block_at") fd := c.def_ 14 (d := dOf ("Layout", some "block_at") "block_at" "Layout.block_at" (inClass (top 29) 11)) rfl
  obtain ⟨fd15, F15⟩ : ∃ fd, FnP K "first_taken" "Layout.first_taken" (inClass (top 29) 12) (He.ma K (He.ga K "Layout") "first_taken") fd := c.def_ 15 (d := dOf ("Layout", some "first_taken") "first_taken" "Layout.first_taken" (inClass (top 29) 12)) rfl
  obtain ⟨fd16, F16⟩ : ∃ fd, FnK K "put" "Layout.put" (inClass (top 29) 13) [("pinned", .bl false)] (He.ma K (He.ga K "Layout") "put") fd := c.def_ 16 (d := dOfK ("Layout", some "put") "put" "Layout.put" (inClass (top 29) 13) [("pinned", .bl false)]) rfl
  obtain ⟨fd17, F17⟩ : ∃ fd, FnP K "take_out" "Layout.take_out" (inClass (top 29) 14) (He.ma K (He.ga K "Layout") "take_out") fd := c.def_ 17 (d := dOf ("Layout", some "take_out") "take_out" "Layout.take_out" (inClass (top 29) 14)) rfl
  obtain ⟨fd18, F18⟩ : ∃ fd, FnP K "set_pinned" "Layout.set_pinned" (inClass (top 29) 15) (He.ma K (He.ga K "Layout") "set_pinned") fd := c.def_ 18 (d := dOf ("Layout", some "set_pinned") "set_pinned" "Layout.set_pinned" (inClass (top 29) 15)) rfl
  obtain ⟨fd19, F19⟩ : ∃ fd, FnP K "ranges_of" "Layout.ranges_of" (inClass (top 29) 16) (He.ma K (He.ga K "Layout") "ranges_of") fd := c.def_ 19 (d := dOf ("Layout", some "ranges_of") "ranges_of" "Layout.ranges_of" (inClass (top 29) 16)) rfl
  obtain ⟨fd20, F20⟩ : ∃ fd, FnP K "pinned_ranges" "Layout.pinned_ranges" (inClass (top 29) 18) (He.ma K (He.ga K "Layout") "pinned_ranges") fd := c.def_ 20 (d := dOf ("Layout", some "pinned_ranges") "pinned_ranges" "Layout.pinned_ranges" (inClass (top 29) 18)) rfl
  obtain ⟨fd21, F21⟩ : ∃ fd, FnP K "unpinned_levels" "Layout.unpinned_levels" (inClass (top 29) 19) (He.ma K (He.ga K "Layout") "unpinned_levels") fd := c.def_ 21 (d := dOf ("Layout", some "unpinned_levels") "unpinned_levels" "Layout.unpinned_levels" (inClass (top 29) 19)) rfl
  obtain ⟨fd22, F22⟩ : ∃ fd, FnP K "regions_in" "Layout.regions_in" (inClass (top 29) 21) (He.ma K (He.ga K "Layout") "regions_in") fd := c.def_ 22 (d := dOf ("Layout", some "regions_in") "regions_in" "Layout.regions_in" (inClass (top 29) 21)) rfl
  obtain ⟨fd23, F23⟩ : ∃ fd, FnP K "clear_cells" "Layout.clear_cells" (inClass (top 29) 24) (He.ma K (He.ga K "Layout") "clear_cells") fd := c.def_ 23 (d := dOf ("Layout", some "clear_cells") "clear_cells" "Layout.clear_cells" (inClass (top 29) 24)) rfl
  obtain ⟨fd24, F24⟩ : ∃ fd, FnP K "unpinned_cells" "Layout.unpinned_cells" (inClass (top 29) 25) (He.ma K (He.ga K "Layout") "unpinned_cells") fd := c.def_ 24 (d := dOf ("Layout", some "unpinned_cells") "unpinned_cells" "Layout.unpinned_cells" (inClass (top 29) 25)) rfl
  obtain ⟨fd25, F25⟩ : ∃ fd, FnP K "slack" "Layout.slack" (inClass (top 29) 26) (He.ma K (He.ga K "Layout") "slack") fd := c.def_ 25 (d := dOf ("Layout", some "slack") "slack" "Layout.slack" (inClass (top 29) 26)) rfl
  obtain ⟨fd26, F26⟩ : ∃ fd, FnP K "blocks" "Layout.blocks" (inClass (top 29) 7) (He.ma K (He.ga K "Layout") "blocks") fd := c.def_ 26 (d := dOf ("Layout", some "blocks") "blocks" "Layout.blocks" (inClass (top 29) 7)) rfl
  obtain ⟨fd27, F27⟩ : ∃ fd, FnP K "is_address" "is_address" (top 20) (He.ga K "is_address") fd := c.def_ 27 (d := dOf ("is_address", none) "is_address" "is_address" (top 20)) rfl
  obtain ⟨fd28, F28⟩ : ∃ fd, FnP K "check_range" "check_range" (top 21) (He.ga K "check_range") fd := c.def_ 28 (d := dOf ("check_range", none) "check_range" "check_range" (top 21)) rfl
  obtain ⟨fd29, F29⟩ : ∃ fd, FnP K "next_start" "next_start" (top 22) (He.ga K "next_start") fd := c.def_ 29 (d := dOf ("next_start", none) "next_start" "next_start" (top 22)) rfl
  obtain ⟨fd30, F30⟩ : ∃ fd, FnP K "gaps_between" "gaps_between" (top 23) (He.ga K "gaps_between") fd := c.def_ 30 (d := dOf ("gaps_between", none) "gaps_between" "gaps_between" (top 23)) rfl
  obtain ⟨fd31, F31⟩ : ∃ fd, FnP K "lies_below" "lies_below" (top 24) (He.ga K "lies_below") fd := c.def_ 31 (d := dOf ("lies_below", none) "lies_below" "lies_below" (top 24)) rfl
  obtain ⟨fd32, F32⟩ : ∃ fd, FnP K "is_region" "is_region" (top 25) (He.ga K "is_region") fd := c.def_ 32 (d := dOf ("is_region", none) "is_region" "is_region" (top 25)) rfl
  obtain ⟨fd33, F33⟩ : ∃ fd, FnP K "region_start" "region_start" (top 26) (He.ga K "region_start") fd := c.def_ 33 (d := dOf ("region_start", none) "region_start" "region_start" (top 26)) rfl
  obtain ⟨fd34, F34⟩ : ∃ fd, FnP K "count_regions" "count_regions" (top 27) (He.ga K "count_regions") fd := c.def_ 34 (d := dOf ("count_regions", none) "count_regions" "count_regions" (top 27)) rfl
  obtain ⟨fd35, F35⟩ : ∃ fd, FnP K "_law_rng" "_law_rng" (top 31) (He.ga K "_law_rng") fd := c.def_ 35 (d := dOf ("_law_rng", none) "_law_rng" "_law_rng" (top 31)) rfl
  obtain ⟨fd36, F36⟩ : ∃ fd, FnP K "_law_draw" "_law_draw" (top 32) (He.ga K "_law_draw") fd := c.def_ 36 (d := dOf ("_law_draw", none) "_law_draw" "_law_draw" (top 32)) rfl
  obtain ⟨fd37, F37⟩ : ∃ fd, FnP K "_law_sizes" "_law_sizes" (top 34) (He.ga K "_law_sizes") fd := c.def_ 37 (d := dOf ("_law_sizes", none) "_law_sizes" "_law_sizes" (top 34)) rfl
  obtain ⟨fd38, F38⟩ : ∃ fd, FnP K "_law_has_space" "_law_has_space" (top 35) (He.ga K "_law_has_space") fd := c.def_ 38 (d := dOf ("_law_has_space", none) "_law_has_space" "_law_has_space" (top 35)) rfl
  obtain ⟨fd39, F39⟩ : ∃ fd, FnP K "_law_blocks" "_law_blocks" (top 36) (He.ga K "_law_blocks") fd := c.def_ 39 (d := dOf ("_law_blocks", none) "_law_blocks" "_law_blocks" (top 36)) rfl
  obtain ⟨fd40, F40⟩ : ∃ fd, FnP K "_law_layout" "_law_layout" (top 37) (He.ga K "_law_layout") fd := c.def_ 40 (d := dOf ("_law_layout", none) "_law_layout" "_law_layout" (top 37)) rfl
  obtain ⟨fd41, F41⟩ : ∃ fd, FnP K "_law_is_clear" "_law_is_clear" (top 38) (He.ga K "_law_is_clear") fd := c.def_ 41 (d := dOf ("_law_is_clear", none) "_law_is_clear" "_law_is_clear" (top 38)) rfl
  obtain ⟨fd42, F42⟩ : ∃ fd, FnP K "_law_due_clear" "_law_due_clear" (top 39) (He.ga K "_law_due_clear") fd := c.def_ 42 (d := dOf ("_law_due_clear", none) "_law_due_clear" "_law_due_clear" (top 39)) rfl
  obtain ⟨fd43, F43⟩ : ∃ fd, FnP K "_law_due_whole" "_law_due_whole" (top 40) (He.ga K "_law_due_whole") fd := c.def_ 43 (d := dOf ("_law_due_whole", none) "_law_due_whole" "_law_due_whole" (top 40)) rfl
  obtain ⟨fd44, F44⟩ : ∃ fd, FnP K "_law_level_right" "_law_level_right" (top 41) (He.ga K "_law_level_right") fd := c.def_ 44 (d := dOf ("_law_level_right", none) "_law_level_right" "_law_level_right" (top 41)) rfl
  obtain ⟨fd45, F45⟩ : ∃ fd, FnP K "_law_stands" "_law_stands" (top 42) (He.ga K "_law_stands") fd := c.def_ 45 (d := dOf ("_law_stands", none) "_law_stands" "_law_stands" (top 42)) rfl
  obtain ⟨fd46, F46⟩ : ∃ fd, FnP K "_law_changed" "_law_changed" (top 43) (He.ga K "_law_changed") fd := c.def_ 46 (d := dOf ("_law_changed", none) "_law_changed" "_law_changed" (top 43)) rfl
  obtain ⟨fd47, F47⟩ : ∃ fd, FnP K "_law_right" "_law_right" (top 44) (He.ga K "_law_right") fd := c.def_ 47 (d := dOf ("_law_right", none) "_law_right" "_law_right" (top 44)) rfl
  obtain ⟨fd48, F48⟩ : ∃ fd, FnP K "law" "law" (top 45) (He.ga K "law") fd := c.def_ 48 (d := dOf ("law", none) "law" "law" (top 45)) rfl
  have e := hfa.symm.trans (He.glo_ok X G (c.fact 27 (f := .glo "law") rfl))
  cases e
  have b := FunD.bindsA (ps := ["_law_script"]) F48 (fun _ _ _ _ _ _ us hl => match us, hl with | [_], _ => rfl)
  refine ⟨_, fun s v => b s [v] rfl, fun base _ _ => ?_⟩
  have D_is_integer := df (P := P) (w := w) (base := base) X G (c.fact 0 (f := .glo "is_integer") rfl) F0 (ps := ["value"]) (fun _ _ _ _ _ _ us hl => match us, hl with | [_], _ => rfl) (ok_is_integer T F0)
  have D_size_problem := df (P := P) (w := w) (base := base) X G (c.fact 1 (f := .glo "size_problem") rfl) F1 (ps := ["values", "position"]) (fun _ _ _ _ _ _ us hl => match us, hl with | [_, _], _ => rfl) (ok_size_problem T D_is_integer F1)
  have D_check_sizes := df (P := P) (w := w) (base := base) X G (c.fact 2 (f := .glo "check_sizes") rfl) F2 (ps := ["values"]) (fun _ _ _ _ _ _ us hl => match us, hl with | [_], _ => rfl) (ok_check_sizes T D_size_problem F2)
  have D_Sizes : Kf P w K mg base _ "Sizes" ["self", "values"] _ := ⟨⟨fd6, ok_init T D_check_sizes F6, F6.bindsN (fun _ _ _ _ _ _ us hl => match us, hl with | [_, _], _ => rfl)⟩, He.glo_ok X G (c.fact 28 (f := .glo "Sizes") rfl), He.mkr_ok (c.fact 48 (f := .mkr "Sizes") rfl)⟩
  have P_top : Pf P w K mg base 1 "Sizes" "top" (spTop K) := ⟨He.cls_ok (c.fact 46 (f := .cls "Sizes") rfl), _, _, fdP_top, prB_ok xp_top, ok_top T FP_top, FunD.bindsN FP_top (fun _ _ _ _ _ _ us hl => match us, hl with | [_], _ => rfl)⟩
  have M_has_level : Mf P w K mg base _ "Sizes" "has_level" ["self", "level"] _ := ⟨⟨fd7, ok_has T D_is_integer P_top F7, F7.bindsN (fun _ _ _ _ _ _ us hl => match us, hl with | [_, _], _ => rfl)⟩, He.cls_ok (c.fact 46 (f := .cls "Sizes") rfl), He.meth_ok (c.fact 49 (f := .meth "Sizes" "has_level") rfl)⟩
  have M_check_level : Mf P w K mg base _ "Sizes" "check_level" ["self", "level"] _ := ⟨⟨fd8, ok_check_level T M_has_level F8, F8.bindsN (fun _ _ _ _ _ _ us hl => match us, hl with | [_, _], _ => rfl)⟩, He.cls_ok (c.fact 46 (f := .cls "Sizes") rfl), He.meth_ok (c.fact 50 (f := .meth "Sizes" "check_level") rfl)⟩
  have M_size : Mf P w K mg base _ "Sizes" "size" ["self", "level"] _ := ⟨⟨fd9, ok_size T M_check_level F9, F9.bindsN (fun _ _ _ _ _ _ us hl => match us, hl with | [_, _], _ => rfl)⟩, He.cls_ok (c.fact 46 (f := .cls "Sizes") rfl), He.meth_ok (c.fact 51 (f := .meth "Sizes" "size") rfl)⟩
  have D_is_cells := df (P := P) (w := w) (base := base) X G (c.fact 3 (f := .glo "is_cells") rfl) F3 (ps := ["value"]) (fun _ _ _ _ _ _ us hl => match us, hl with | [_], _ => rfl) (ok_is_cells T D_is_integer F3)
  have D_check_cells := df (P := P) (w := w) (base := base) X G (c.fact 4 (f := .glo "check_cells") rfl) F4 (ps := ["value"]) (fun _ _ _ _ _ _ us hl => match us, hl with | [_], _ => rfl) (ok_check_cells T D_is_cells F4)
  have D_check_numbers := df (P := P) (w := w) (base := base) X G (c.fact 5 (f := .glo "check_numbers") rfl) F5 (ps := ["value"]) (fun _ _ _ _ _ _ us hl => match us, hl with | [_], _ => rfl) (ok_nums T D_is_cells F5)
  have M_whole : Mf P w K mg base _ "Sizes" "whole" ["self", "cells", "level"] _ := ⟨⟨fd10, ok_whole T D_check_cells M_size F10, F10.bindsN (fun _ _ _ _ _ _ us hl => match us, hl with | [_, _, _], _ => rfl)⟩, He.cls_ok (c.fact 46 (f := .cls "Sizes") rfl), He.meth_ok (c.fact 52 (f := .meth "Sizes" "whole") rfl)⟩
  have D_is_address := df (P := P) (w := w) (base := base) X G (c.fact 6 (f := .glo "is_address") rfl) F27 (ps := ["value"]) (fun _ _ _ _ _ _ us hl => match us, hl with | [_], _ => rfl) (ok_is_address T D_is_integer F27)
  have D_check_range := df (P := P) (w := w) (base := base) X G (c.fact 7 (f := .glo "check_range") rfl) F28 (ps := ["low", "high"]) (fun _ _ _ _ _ _ us hl => match us, hl with | [_, _], _ => rfl) (ok_check_range T D_is_integer D_is_address F28)
  have D_next_start := df (P := P) (w := w) (base := base) X G (c.fact 8 (f := .glo "next_start") rfl) F29 (ps := ["size", "address"]) (fun _ _ _ _ _ _ us hl => match us, hl with | [_, _], _ => rfl) (ok_next_start T F29)
  have D_gaps_between := df (P := P) (w := w) (base := base) X G (c.fact 9 (f := .glo "gaps_between") rfl) F30 (ps := ["ranges", "length"]) (fun _ _ _ _ _ _ us hl => match us, hl with | [_, _], _ => rfl) (ok_gaps T F30)
  have D_lies_below := df (P := P) (w := w) (base := base) X G (c.fact 10 (f := .glo "lies_below") rfl) F31 (ps := ["sizes", "level", "address", "end"]) (fun _ _ _ _ _ _ us hl => match us, hl with | [_, _, _, _], _ => rfl) (ok_below T M_size F31)
  have D_is_region := df (P := P) (w := w) (base := base) X G (c.fact 11 (f := .glo "is_region") rfl) F32 (ps := ["sizes", "length", "level", "address"]) (fun _ _ _ _ _ _ us hl => match us, hl with | [_, _, _, _], _ => rfl) (ok_is_region T D_check_cells M_has_level D_is_address D_lies_below F32)
  have D_region_start := df (P := P) (w := w) (base := base) X G (c.fact 12 (f := .glo "region_start") rfl) F33 (ps := ["sizes", "level", "address"]) (fun _ _ _ _ _ _ us hl => match us, hl with | [_, _, _], _ => rfl) (ok_region_start T D_is_address M_size F33)
  have D_count_regions := df (P := P) (w := w) (base := base) X G (c.fact 13 (f := .glo "count_regions") rfl) F34 (ps := ["sizes", "level", "low", "high"]) (fun _ _ _ _ _ _ us hl => match us, hl with | [_, _, _, _], _ => rfl) (ok_count_regions T D_check_range D_region_start D_next_start M_size F34)
  have D_Layout : Kf P w K mg base _ "Layout" ["self", "sizes", "length"] _ := ⟨⟨fd11, ok_new T D_check_cells F11, F11.bindsN (fun _ _ _ _ _ _ us hl => match us, hl with | [_, _, _], _ => rfl)⟩, He.glo_ok X G (c.fact 29 (f := .glo "Layout") rfl), He.mkr_ok (c.fact 54 (f := .mkr "Layout") rfl)⟩
  have M_count_below : Mf P w K mg base _ "Layout" "count_below" ["self", "address"] _ := ⟨⟨fd12, ok_cb T F12, F12.bindsN (fun _ _ _ _ _ _ us hl => match us, hl with | [_, _], _ => rfl)⟩, He.cls_ok (c.fact 53 (f := .cls "Layout") rfl), He.meth_ok (c.fact 59 (f := .meth "Layout" "count_below") rfl)⟩
  have M_index_of : Mf P w K mg base _ "Layout" "index_of" ["self", "address"] _ := ⟨⟨fd13, ok_ix T D_is_integer M_count_below F13, F13.bindsN (fun _ _ _ _ _ _ us hl => match us, hl with | [_, _], _ => rfl)⟩, He.cls_ok (c.fact 53 (f := .cls "Layout") rfl), He.meth_ok (c.fact 60 (f := .meth "Layout" "index_of") rfl)⟩
  have M_block_at : Mf P w K mg base _ "Layout" "block_at" ["self", "address"] _ := ⟨⟨fd14, ok_at T D_is_address M_count_below M_size F14, F14.bindsN (fun _ _ _ _ _ _ us hl => match us, hl with | [_, _], _ => rfl)⟩, He.cls_ok (c.fact 53 (f := .cls "Layout") rfl), He.meth_ok (c.fact 61 (f := .meth "Layout" "block_at") rfl)⟩
  have M_first_taken : Mf P w K mg base _ "Layout" "first_taken" ["self", "low", "high"] _ := ⟨⟨fd15, ok_first T M_block_at M_count_below F15, F15.bindsN (fun _ _ _ _ _ _ us hl => match us, hl with | [_, _, _], _ => rfl)⟩, He.cls_ok (c.fact 53 (f := .cls "Layout") rfl), He.meth_ok (c.fact 62 (f := .meth "Layout" "first_taken") rfl)⟩
  have M_put_kw : MfK P w K mg base 8 "Layout" "put" ["self", "level", "address", "pinned"] 3 ["pinned"] (spPut K) := ⟨⟨fd16, ok_put T M_size D_is_region M_first_taken M_count_below F16, bindsK F16 (fun _ _ _ _ _ _ us ws hu hw => match us, ws, hu, hw with | [_, _, _], [_], _, _ => rfl)⟩, He.cls_ok (c.fact 53 (f := .cls "Layout") rfl), He.meth_ok (c.fact 63 (f := .meth "Layout" "put") rfl)⟩
  have M_take_out : Mf P w K mg base _ "Layout" "take_out" ["self", "address"] _ := ⟨⟨fd17, ok_take T M_index_of M_size F17, F17.bindsN (fun _ _ _ _ _ _ us hl => match us, hl with | [_, _], _ => rfl)⟩, He.cls_ok (c.fact 53 (f := .cls "Layout") rfl), He.meth_ok (c.fact 64 (f := .meth "Layout" "take_out") rfl)⟩
  have M_set_pinned : Mf P w K mg base _ "Layout" "set_pinned" ["self", "address", "pinned"] _ := ⟨⟨fd18, ok_pin T M_index_of F18, F18.bindsN (fun _ _ _ _ _ _ us hl => match us, hl with | [_, _, _], _ => rfl)⟩, He.cls_ok (c.fact 53 (f := .cls "Layout") rfl), He.meth_ok (c.fact 65 (f := .meth "Layout" "set_pinned") rfl)⟩
  have M_ranges_of : Mf P w K mg base _ "Layout" "ranges_of" ["self", "blocks"] _ := ⟨⟨fd19, ok_ranges T M_size F19, F19.bindsN (fun _ _ _ _ _ _ us hl => match us, hl with | [_, _], _ => rfl)⟩, He.cls_ok (c.fact 53 (f := .cls "Layout") rfl), He.meth_ok (c.fact 66 (f := .meth "Layout" "ranges_of") rfl)⟩
  have M_pinned_ranges : Mf P w K mg base _ "Layout" "pinned_ranges" ["self"] _ := ⟨⟨fd20, ok_pinned T M_ranges_of F20, F20.bindsN (fun _ _ _ _ _ _ us hl => match us, hl with | [_], _ => rfl)⟩, He.cls_ok (c.fact 53 (f := .cls "Layout") rfl), He.meth_ok (c.fact 67 (f := .meth "Layout" "pinned_ranges") rfl)⟩
  have M_regions_in : Mf P w K mg base _ "Layout" "regions_in" ["self", "gaps", "level"] _ := ⟨⟨fd22, ok_regin T M_check_level D_count_regions F22, F22.bindsN (fun _ _ _ _ _ _ us hl => match us, hl with | [_, _, _], _ => rfl)⟩, He.cls_ok (c.fact 53 (f := .cls "Layout") rfl), He.meth_ok (c.fact 69 (f := .meth "Layout" "regions_in") rfl)⟩
  have M_clear_cells : Mf P w K mg base _ "Layout" "clear_cells" ["self", "level"] _ := ⟨⟨fd23, ok_clear T M_pinned_ranges D_gaps_between M_regions_in M_size F23, F23.bindsN (fun _ _ _ _ _ _ us hl => match us, hl with | [_, _], _ => rfl)⟩, He.cls_ok (c.fact 53 (f := .cls "Layout") rfl), He.meth_ok (c.fact 70 (f := .meth "Layout" "clear_cells") rfl)⟩
  have M_unpinned_levels : Mf P w K mg base _ "Layout" "unpinned_levels" ["self"] _ := ⟨⟨fd21, ok_levels T F21, F21.bindsN (fun _ _ _ _ _ _ us hl => match us, hl with | [_], _ => rfl)⟩, He.cls_ok (c.fact 53 (f := .cls "Layout") rfl), He.meth_ok (c.fact 68 (f := .meth "Layout" "unpinned_levels") rfl)⟩
  have M_unpinned_cells : Mf P w K mg base _ "Layout" "unpinned_cells" ["self", "level"] _ := ⟨⟨fd24, ok_loose T M_check_level M_unpinned_levels M_size F24, F24.bindsN (fun _ _ _ _ _ _ us hl => match us, hl with | [_, _], _ => rfl)⟩, He.cls_ok (c.fact 53 (f := .cls "Layout") rfl), He.meth_ok (c.fact 71 (f := .meth "Layout" "unpinned_cells") rfl)⟩
  obtain ⟨z0, oz, nz, FS, hz1, hz2, hz3⟩ := kwB_ok F25 x_kw
  have M_slack_kw : MfK P w K mg base 10 "Layout" "slack" ["self", "level", "kept"] 2 ["kept"] (spSlack K) := ⟨⟨fd25, ok_slack T M_clear_cells M_unpinned_cells D_check_numbers M_whole FS, bindsK FS (fun _ _ _ _ _ _ us ws hu hw => match us, ws, hu, hw with | [_, _], [_], _, _ => rfl)⟩, He.cls_ok (c.fact 53 (f := .cls "Layout") rfl), He.meth_ok (c.fact 72 (f := .meth "Layout" "slack") rfl)⟩
  have M_slack_d : MfD P w K mg base 10 "Layout" "slack" ["self", "level", "kept"] [.ref z0] (spSlack K) := by
    obtain ⟨ds, vd, bd⟩ := FunD.binds0 FS (ps := ["self", "level", "kept"]) 2 (List.cons_ne_nil _ _) rfl (fun D doc pm an cdv ct us ks h1 h2 => match us, ks, h1, h2 with | [_, _], [_], _, _ => ⟨_, _, _, _, _, _, rfl, rfl, rfl⟩)
    exact ⟨⟨fd25, ds, ok_slack T M_clear_cells M_unpinned_cells D_check_numbers M_whole FS, vd, bd⟩, He.cls_ok (c.fact 53 (f := .cls "Layout") rfl), He.meth_ok (c.fact 72 (f := .meth "Layout" "slack") rfl)⟩
  have M_blocks : Mf P w K mg base _ "Layout" "blocks" ["self"] _ := ⟨⟨fd26, ok_blk T F26, F26.bindsN (fun _ _ _ _ _ _ us hl => match us, hl with | [_], _ => rfl)⟩, He.cls_ok (c.fact 53 (f := .cls "Layout") rfl), He.meth_ok (c.fact 73 (f := .meth "Layout" "blocks") rfl)⟩
  have D__law_rng := df (P := P) (w := w) (base := base) X G (c.fact 14 (f := .glo "_law_rng") rfl) F35 (ps := ["_law_script", "_law_k"]) (fun _ _ _ _ _ _ us hl => match us, hl with | [_, _], _ => rfl) (ok_rng T F35)
  have D__law_draw := df (P := P) (w := w) (base := base) X G (c.fact 15 (f := .glo "_law_draw") rfl) F36 (ps := ["_law_rng_here", "_law_many"]) (fun _ _ _ _ _ _ us hl => match us, hl with | [_, _], _ => rfl) (ok_draw T F36)
  have D__law_sizes := df (P := P) (w := w) (base := base) X G (c.fact 16 (f := .glo "_law_sizes") rfl) F37 (ps := ["_law_rng_here", "_law_levels", "_law_greatest"]) (fun _ _ _ _ _ _ us hl => match us, hl with | [_, _, _], _ => rfl) (ok_sizes T D__law_draw F37)
  have D__law_has_space := df (P := P) (w := w) (base := base) X G (c.fact 17 (f := .glo "_law_has_space") rfl) F38 (ps := ["_law_sizes_here", "_law_length", "_law_blocks_here", "_law_level", "_law_address"]) (fun _ _ _ _ _ _ us hl => match us, hl with | [_, _, _, _, _], _ => rfl) (ok_space T F38)
  have D__law_blocks := df (P := P) (w := w) (base := base) X G (c.fact 18 (f := .glo "_law_blocks") rfl) F39 (ps := ["_law_rng_here", "_law_sizes_here", "_law_length", "_law_many", "_law_one_in"]) (fun _ _ _ _ _ _ us hl => match us, hl with | [_, _, _, _, _], _ => rfl) (ok_blocks T D__law_draw D__law_has_space F39)
  have D__law_layout := df (P := P) (w := w) (base := base) X G (c.fact 19 (f := .glo "_law_layout") rfl) F40 (ps := ["_law_sizes_here", "_law_length", "_law_blocks_here"]) (fun _ _ _ _ _ _ us hl => match us, hl with | [_, _, _], _ => rfl) (ok_layout T D_Sizes D_Layout M_put_kw F40)
  have D__law_is_clear := df (P := P) (w := w) (base := base) X G (c.fact 20 (f := .glo "_law_is_clear") rfl) F41 (ps := ["_law_sizes_here", "_law_blocks_here", "_law_start", "_law_end"]) (fun _ _ _ _ _ _ us hl => match us, hl with | [_, _, _, _], _ => rfl) (ok_isclear T F41)
  have D__law_due_clear := df (P := P) (w := w) (base := base) X G (c.fact 21 (f := .glo "_law_due_clear") rfl) F42 (ps := ["_law_sizes_here", "_law_length", "_law_blocks_here", "_law_level"]) (fun _ _ _ _ _ _ us hl => match us, hl with | [_, _, _, _], _ => rfl) (ok_due T D__law_is_clear F42)
  have D__law_due_whole := df (P := P) (w := w) (base := base) X G (c.fact 22 (f := .glo "_law_due_whole") rfl) F43 (ps := ["_law_sizes_here", "_law_cells", "_law_level"]) (fun _ _ _ _ _ _ us hl => match us, hl with | [_, _, _], _ => rfl) (ok_wholeL T F43)
  have D__law_level_right := dfG (P := P) (w := w) (base := base) X G (c.fact 23 (f := .glo "_law_level_right") rfl) F44 (ps := ["_law_rng_here", "_law_layout_here", "_law_sizes_here", "_law_length", "_law_blocks_here", "_law_level"]) (fun _ _ _ _ _ _ us hl => match us, hl with | [_, _, _, _, _, _], _ => rfl) (ok_level T hz1 hz2 hz3 D__law_due_clear M_clear_cells M_unpinned_cells M_slack_d M_slack_kw D__law_draw D__law_due_whole F44)
  have D__law_stands := dfG (P := P) (w := w) (base := base) X G (c.fact 24 (f := .glo "_law_stands") rfl) F45 (ps := ["_law_rng_here", "_law_layout_here", "_law_sizes_here", "_law_length", "_law_blocks_here"]) (fun _ _ _ _ _ _ us hl => match us, hl with | [_, _, _, _, _], _ => rfl) (ok_stands T D__law_level_right F45)
  have D__law_changed := df (P := P) (w := w) (base := base) X G (c.fact 25 (f := .glo "_law_changed") rfl) F46 (ps := ["_law_rng_here", "_law_layout_here", "_law_sizes_here", "_law_length", "_law_blocks_here"]) (fun _ _ _ _ _ _ us hl => match us, hl with | [_, _, _, _, _], _ => rfl) (ok_changed T D__law_draw D__law_has_space M_put_kw M_set_pinned M_take_out F46)
  have D__law_right := dfG (P := P) (w := w) (base := base) X G (c.fact 26 (f := .glo "_law_right") rfl) F47 (ps := ["_law_rng_here"]) (fun _ _ _ _ _ _ us hl => match us, hl with | [_], _ => rfl) (ok_right T D__law_sizes D__law_draw D__law_blocks D__law_layout D__law_stands D__law_changed M_blocks F47)
  exact ok_law T D__law_rng D__law_right F48
end
end K23
open PySem PySem.W PySem.Calls PyProof.Rows
theorem PySem.Challenge.cw_exactroom_k23_whole_slack_by_all_regions_holds : PySem.Challenge.rw_exactroom_k23_whole_slack_by_all_regions.Holds := by
  w_on; o_law
  refine HandSHeadRun.head_any (r := OpenLaw.row PySem.Challenge.rw_exactroom_k23_whole_slack_by_all_regions) (q := view (OpenLaw.row PySem.Challenge.rw_exactroom_k23_whole_slack_by_all_regions).prog [45]) (H := K23.hk) (ob := K23.ob) (M := 16000)
    (loose := K23.loose) (d := HandSHeadRun.topDef (OpenLaw.row PySem.Challenge.rw_exactroom_k23_whole_slack_by_all_regions).prog 45) (kwd := []) K23.ob_eq
    (by kernel_rfl) (fun s => by kernel_rfl) K23.run (by kernel_rfl) (by kernel_rfl) (by kernel_rfl) (by rfl) (by first | assumption | decide +kernel) (by decide +kernel) ⟨rfl, rfl, rfl, rfl, rfl, by decide +kernel⟩ ?hw ?hc
  case hw => w_witness2
  case hc =>
    refine Gu.walkG (l := PySem.Challenge.rw_exactroom_k23_whole_slack_by_all_regions) (n := 63) (k := 14) (x := "_law_script") (CX := L2.CX0) rfl (by decide) (by kernel_rfl) ⟨⟨rfl, by decide, by decide⟩, rfl⟩ ?F (fun _ _ _ _ z => z)
    intro w mg fa h Y G hmg0
    obtain ⟨K, KX, c⟩ := Y
    have hmg : mg ("law" : PySem.Str) = some (.ref fa) := by
      have e : (HandSHeadRun.topDef (OpenLaw.row PySem.Challenge.rw_exactroom_k23_whole_slack_by_all_regions).prog 45).name = ("law" : PySem.Str) := by kernel_rfl
      rw [← e]
      exact hmg0
    obtain ⟨fd, hb, hF⟩ := K23.facts (P := (PySem.Challenge.rw_exactroom_k23_whole_slack_by_all_regions).prog) (w := w) KX G hmg c
    exact ⟨K, fd, K23.spLaw K, KX, hb, fun H a ns hl _ hS => ⟨a, ns, rfl, hS, hl, fun _ => rfl⟩, hF⟩

