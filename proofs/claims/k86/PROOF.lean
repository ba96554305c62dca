import PyProof.Rows.All
import Wide.All
import OpenK.AllK
import Wide.FinOn
import KE.KStateDown
import HandS.ForMost
import HandS.Wide
import HandS.Defaults
import HandS.RaiseMore
import HandS.Head0
import HandS.Head1
import HandS.Head2
import HandS.HeadEnd
import HandS.HeadHook1
import HandS.HeadHook2
import HandS.Exc
import HandS.TryOnly
import HandS.ExcOwn
import HandS.ExcInit
import HandS.ExcField
import HandS.WordsExc
import KE.KExcInit
import HandS.Iter
import KE.GoesEnum
import HandS.IsInst
import HandS.Dict
import HandS.TupAny
import KE.KExcIs
import HandS.ExcValue
import HandS.ExcIs
import HandS.Walk
import PySem.Challenge.RW_movedrows_k86_errors_required
set_option Elab.async false
set_option linter.all false
set_option maxRecDepth 100000
set_option maxHeartbeats 4000000

/-! Defs that are called while no repr is under way (guards), and repr of data. -/
namespace Gd
open PySem PySem.Spec PyProof.Rows L2
/-- a def's promise, asked only where no repr is under way -/
structure FnG (P : Program) (w : World) (K : PySem.W.Frag) (mg : Str → Option Value) (base : Heap)
    (CX : CXT) (k : Nat) (f : Addr) (fd : FuncData) (ps : List Str) (sp : Sp) : Prop where
  len : ∀ vs H Q E, sp vs H Q E → vs.length = ps.length
  run : ∀ (A : Around) (outer : List Env) (s : Shared) (H : Hp)
    (args : Args) (us : List Value) (vs : List V) (Q : VK) (E : XK),
    Room k A → A.guards = some [] →
    Env0 P w K mg base A outer s H →
    BindsTo s fd args (ps.zip us) → Vals vs us → sp vs H Q E →
    codeAny (model P w) A (.call (.ref f) args) (CR CX outer P w H s Q E) s
section
variable {P : Program} {w : World} {K : PySem.W.Frag} {mg : Str → Option Value}
variable {base : Heap} {CX : CXT} {k : Nat} {f : Addr} {fd : FuncData} {ps : List Str} {sp : Sp}
theorem FnG.of (F : FnOk P w K mg base CX k f fd ps sp) : FnG P w K mg base CX k f fd ps sp :=
  ⟨F.len, fun A o s H a us vs Q E r _ => F.run A o s H a us vs Q E r⟩
theorem FnG.mono {j : Nat} (F : FnG P w K mg base CX j f fd ps sp) (h : j ≤ k) :
    FnG P w K mg base CX k f fd ps sp :=
  ⟨F.len, fun A o s H a us vs Q E r => F.run A o s H a us vs Q E (r.mono h)⟩
/-- the rule for such a def: its body with guards known -/
theorem fnG_of {name qual : Str} {params : Arguments} {body : List Stmt} {scope : Scope}
    {dV kV doc pm cdv ct oc : Value} {an od : Option Addr}
    {osl : Array (Option Value)} {N : List Str}
    (lk : K.lookup f = some ⟨oc, od, .func (PySem.W.fnOf name qual params body scope dV kV doc pm an cdv ct), osl⟩)
    (hcd : PySem.W.codeIn K cdv qual = true) (S : FnScope N ps scope)
    (len : ∀ vs H Q E, sp vs H Q E → vs.length = ps.length)
    (hbody : ∀ (A : Around) (outer : List Env) (s : Shared) (H : Hp) (vs : List V) (Q : VK) (E : XK),
      Room k (A.deeper (envOfC qual scope s.heap.objs.size f cdv)) → A.guards = some [] → sp vs H Q E →
      ∃ t, PSs (cxOf CX P w K mg base N qual scope f cdv A outer s H E) body t ∧
        t { nx := fun _ H' => Q .non H', rt := Q } (start N vs) H) :
    FnG P w K mg base CX (k + 1) f (PySem.W.fnOf name qual params body scope dV kV doc pm an cdv ct) ps sp := by
  refine ⟨len, ?_⟩
  intro A outer s H args us vs Q E room hg e0 hb rel want
  have hlen := len _ _ _ _ want
  have up : ∀ b o, base.get? b = some o → s.heap.get? b = some o := fun b o e => (e0.bs b o e).1
  have inK : K.In s.heap := e0.mod.kin.keeps up
  have hkinds : ∀ y ∈ ps.zip us,
      scope.names.lookup y.1 = some .local ∨
      (scope.names.lookup y.1 = some .cell ∧
        ((cellsFrom (s.heap.objs.size + 1) scope.names []).lookup y.1).isSome = true) := by
    intro y hy
    obtain ⟨n, v⟩ := y
    rcases S.par n (List.of_mem_zip hy).1 with q | q
    · exact Or.inl q
    · exact Or.inr ⟨q, PySem.W.cellsFrom_some _ _ _ (Or.inl q)⟩
  refine codeAny_call_function room.depth (inK _ _ lk) rfl S.co S.gen rfl
    (PySem.W.codeRec_of inK hcd) (hb _ _ _ _ ?_)
  refine wpAny_newFunctionEnv_cells S.kind hkinds ?_
  intro env he s1 x
  subst he
  refine ⟨(e0.mod.nolimit.keeps up).keeps x.toInCall.keep, codeAny_func ?_⟩
  obtain ⟨t, ht, hq⟩ := hbody A outer s H vs Q E (room.deeper _) hg want
  have I := inv_start (CX := CX) (E := E) (cd := cdv) S room.hd e0 hlen rel x
  refine wpAny_mono (ht.run [] s1 (start N vs) H _ I hq) ?_ (fun _ _ z => z)
  intro fl s' hs
  cases fl with
  | ret u =>
    obtain ⟨v, _, H', J, rv, q⟩ := hs
    exact ⟨v, H', J.os, J.bare, J.base, J.hok, rv, q⟩
  | next =>
    obtain ⟨_, H', J, q⟩ := hs
    exact ⟨V.non, H', J.os, J.bare, J.base, J.hok, rfl, q⟩
  | brk => exact False.elim hs.choose_spec.choose_spec.2
  | cont => exact False.elim hs.choose_spec.choose_spec.2
/-- the same from what the head tells of a def -/
theorem okG {x qual : Str} {params : Arguments} {body : List Stmt} {scope : Scope}
    {dvs : List V} {kws : List (Str × V)} {N : List Str}
    (F : FunD K x qual params body scope dvs kws f fd) (S : FnScope N ps scope)
    (len : ∀ vs H Q E, sp vs H Q E → vs.length = ps.length)
    (hbody : ∀ (cdv : Value) (A : Around) (outer : List Env) (s : Shared) (H : Hp) (vs : List V) (Q : VK) (E : XK),
      Room k (A.deeper (envOfC qual scope s.heap.objs.size f cdv)) → A.guards = some [] → sp vs H Q E →
      ∃ t, PSs (cxOf CX P w K mg base N qual scope f cdv A outer s H E) body t ∧
        t { nx := fun _ H' => Q .non H', rt := Q } (start N vs) H) :
    FnG P w K mg base CX (k + 1) f fd ps sp := by
  obtain ⟨_, _, _, _, _, _, _, cdv, _, _, rfl, lk, hcd, _, _⟩ := F.ex
  exact fnG_of lk hcd S len (fun A outer s H => hbody cdv A outer s H)
end
section
variable {X : Cx} {CX : CXT} {k : Nat} {f : Addr} {fd : FuncData} {ps : List Str} {sp : Sp}
variable {dvs : List V} {ds : List Value} {E : XK} {x : Str} {p pos : Pos} {e : Expr} {es : List Expr} {t : TA}
theorem runG {pins : List (Addr × Obj)} {σ : L2.St} {H : Hp} {s : Shared} {Q : VK} {us : List Value} {vs : List V}
    (F : FnG X.prog X.w X.K X.mg X.base CX k f fd ps sp) (hr : Room k X.A) (hg : X.A.guards = some [])
    (hb : Binds X.K fd ps ds) (hd : Vals dvs ds) (hx : Passes CX X E)
    (I : Inv X pins σ H s) (r : Vals vs us) (h : sp (vs ++ dvs) H Q E) :
    wpAny (model X.prog X.w) X.A (call (.ref f) us) (EP X pins σ Q) X.xe s := by
  have both : Vals (vs ++ dvs) (us ++ ds) := r.append hd
  have n : (us ++ ds).length = ps.length := both.length.symm.trans (F.len _ _ _ _ h)
  have go := F.run X.A X.stack s H ⟨us, []⟩ (us ++ ds) (vs ++ dvs) Q E hr hg I.env0
    (hb s us I.kIn n) both h
  refine wpAny_call (codeAny_mono go ?_)
  intro r' s' hq
  rcases r' with er | fl
  · exact hx pins σ H s er s' I hq
  · cases fl with
    | ret u => exact I.after hq
    | next => exact hq.elim
    | brk => exact hq.elim
    | cont => exact hq.elim
/-- f(e, ..) of such a def -/
theorem pe_callG (F : FnG X.prog X.w X.K X.mg X.base CX k f fd ps sp) (hr : Room k X.A) (hgd : X.A.guards = some [])
    (hg : Gl X x) (hm : X.mg x = some (.ref f)) (hk : PySem.W.keepIn X.K (.ref f) = true)
    (hb : Binds X.K fd ps ds) (hd : Vals dvs ds) (hx : Passes CX X E)
    (ha : PA X (e :: es) t) (hdb : (x == ("__debug__" : Str)) = false := by decide)
    (he : starEach (e :: es) X.env = (false, eval e X.env) :: starEach es X.env := by rfl)
    (hpl : (backTo pos (starEach es X.env)).any (·.1) = false := by rfl) :
    PE X (.Call (.Name x p) (e :: es) [] pos) (tCall sp dvs E t) := by
  refine ⟨?_⟩
  intro pins s σ H Q I h
  refine wpAny_Call_Name_kw (ld_glob I hg hm ?_ hdb)
  refine PySem.W.callWith_K (h₀ := X.base) I.ok.mod.kin hk ?_ he hpl
  exact thn (ha.run pos pins s σ H _ I h) fun us s1 ⟨vs, H1, I1, r, q⟩ =>
    ⟨I1.kIn, runG F hr hgd hb hd hx I1 r q⟩
/-- repr of data -/
theorem call_reprD (hgd : X.A.guards = some []) (hu : X.A.units + 65 < cLine) :
    CallR X (.builtin "repr") (fun xs H Q => ∃ a d, xs = [.ref a] ∧ Dp X.K H (.ref a) d ∧ d.showable = true ∧
      d.depth ≤ 64 ∧ d.hasDict = false ∧ d.shown.length ≤ sizeLine ∧ Q (.str d.shown) H) := by
  intro pins s σ H xs us Q I r h
  obtain ⟨a, d, rfl, hd, hs, h64, hD, hz, q⟩ := h
  obtain ⟨u, rfl, rx⟩ := vals1 r
  obtain ⟨as, rd⟩ := Dp.reads I d _ _ hd rx
  cases rx
  refine repr_of_reads' rd hs (fun z => by rw [hD] at z; cases z) hgd (by omega) (fun _ _ e => e) ?_ hz
  intro h' u tk hk
  exact ⟨.str d.shown, H, I.kept hk, ⟨_, rfl⟩, q⟩
end
/-- a law's call from outside: its def promised for where no repr is under way -/
theorem law_callG {P : Program} {w : World} {K : PySem.W.Frag} {mg mb : Str → Option Value}
    {CX : CXT} {k : Nat} {fa a : Addr} {fd : FuncData} {x : Str} {sp : Sp}
    {s₁ : Shared} {vs : List Value} {ns : List Int}
    (KX : K.In s₁.heap) (hns : s₁.heap.Ns mainGlobals mg) (hb : s₁.heap.Ns builtinsNs mb)
    (hbb : ∀ x : Str, x ≠ "__name__" → mb x = bootBuiltins x) (hlim : s₁.heap.NoLimit) (hg : s₁.gens = #[])
    (ha : s₁.heap.get? a = some { cls := .type "list", data := .seq vs.toArray })
    (hi : IntsAre vs ns) (hl : ns.length ≤ sizeLine) (hr : Room k callerA)
    (F : ∀ base : Heap, K.In base → base.Ns mainGlobals mg → FnG P w K mg base CX k fa fd [x] sp)
    (hbind : ∀ (s : Shared) (u : Value), BindsTo s fd ⟨[u], []⟩ [(x, u)])
    (hsp : ∀ H : Hp, Only H → SqL K H a (ns.map V.int) → sp [.ref a] H (fun v _ => v = .bl true) fun _ _ _ => False)
    (hCX : ∀ H e s', CX [] H s₁ (fun _ _ _ => False) e s' → False) :
    codeAny (model P w) callerA (.call (.ref fa) ⟨[.ref a], []⟩)
      (fun r s' => r = .ok (.ret (.bool true)) ∧ OldK s₁.heap s'.heap ∧ s'.os = s₁.os ∧ AllBare s'.gens) s₁ := by
  have rints := vals_ints hi
  have nn := hi.length
  have main : ∀ H : Hp, Only H → SqL K H a (ns.map V.int) → HOk P w H s₁.heap →
      (∀ b, H b ≠ none → b = a) → (H a ≠ none → K.lookup a = none) →
      codeAny (model P w) callerA (.call (.ref fa) ⟨[.ref a], []⟩)
        (fun r s' => r = .ok (.ret (.bool true)) ∧ OldK s₁.heap s'.heap ∧ s'.os = s₁.os ∧ AllBare s'.gens) s₁ := by
    intro H only sq ok one noK
    have plainD : ∀ {b : Addr} {o : Obj} {es : Array DictEntry} {ep : Nat},
        s₁.heap.get? b = some o → o.data = .dict es ep → H b = none := by
      intro b o es ep e d
      rcases q : H b with _ | u
      · rfl
      · have e' : b = a := one b (by rw [q]; exact Option.some_ne_none u)
        subst e'
        rw [ha] at e
        cases e
        cases (show Data.seq vs.toArray _ = Data.dict es ep from d)
    have names : ∀ {b : Addr} {m : Str → Option Value},
        s₁.heap.Ns b m → (hidT s₁.heap H).Ns b m := by
      intro b m z
      obtain ⟨o, es, ep, e, d, r⟩ := z
      exact ⟨o, es, ep, hidT_get e (plainD e d), d, r⟩
    have kin : K.In (hidT s₁.heap H) := by
      intro b o e
      refine hidT_get (KX b o e) ?_
      rcases q : H b with _ | u
      · rfl
      · have e' : b = a := one b (by rw [q]; exact Option.some_ne_none u)
        subst e'
        rw [noK (by rw [q]; exact Option.some_ne_none u)] at e
        cases e
    have lim : (hidT s₁.heap H).NoLimit := by
      obtain ⟨mc, h1, h2⟩ := hlim
      exact ⟨mc, names h1, h2⟩
    have md : Mod K mg (hidT s₁.heap H) := ⟨kin, names hns, ⟨mb, names hb, hbb⟩, lim⟩
    have env : Env0 P w K mg (hidT s₁.heap H) callerA [] s₁ H :=
      { frames := rfl, mod := md, bs := fun _ _ e => of_hidT e, bsz := Nat.le_of_eq (hidT_size _ _)
        funs := trivial, frf := fun b hb => absurd hb List.not_mem_nil, hok := ok, bare := .of_eq hg }
    have go := (F _ kin (names hns)).run callerA [] s₁ H ⟨[.ref a], []⟩ [.ref a] [.ref a] _ _ hr rfl env
      (hbind s₁ (.ref a)) (.cons rfl .nil) (hsp H only sq)
    refine codeAny_mono go ?_
    intro r s' h
    rcases r with e | fl
    · exact (hCX H e s' h).elim
    · cases fl with
      | next => exact h.elim
      | brk => exact h.elim
      | cont => exact h.elim
      | ret u =>
        obtain ⟨v, H', os, bare, un, ok', rv, q⟩ := h
        have tr : v = .bl true := q
        subst tr
        obtain rfl : u = Value.bool true := rv
        refine ⟨rfl, OldK.of_keep ?_, os, bare⟩
        intro b o e
        rcases z : H b with _ | u
        · exact un.keep b o e z (fun y => absurd (show b ∈ ([] : List Addr) from y) List.not_mem_nil) List.not_mem_nil
        · rcases only b with y | ⟨ob, xs, y⟩
          · rw [z] at y
            cases y
          · obtain ⟨e1, _⟩ := ok b _ y
            obtain ⟨e2, _⟩ := ok' b _ (un.frzs b ob _ y)
            rw [e] at e1
            cases e1
            exact e2
  rcases hk : K.lookup a with _ | o
  · let o1 : Obj := { cls := .type "list", data := .seq vs.toArray }
    let H1 : Hp := fun b => if b = a then some (.frz o1 (.lst (ns.map V.int))) else none
    have at1 : H1 a = some (.frz o1 (.lst (ns.map V.int))) := if_pos rfl
    have off : ∀ b, b ≠ a → H1 b = none := fun b h => if_neg h
    refine main H1 ?_ (.inl (.inr ⟨o1, at1⟩)) ?_ ?_ (fun _ => hk)
    · intro b
      by_cases h : b = a
      · exact .inr ⟨o1, ns.map V.int, by rw [h]; exact at1⟩
      · exact .inl (off b h)
    · intro b u z
      by_cases h : b = a
      · subst h
        rw [at1] at z
        cases z
        exact ⟨ha, by rw [List.length_map]; exact hl, vs, _, rints, ha⟩
      · rw [off b h] at z
        cases z
    · intro b z
      by_cases h : b = a
      · exact h
      · exact absurd (off b h) z
  · have e := KX a o hk
    rw [ha] at e
    cases e
    refine main (fun _ => none) (fun _ => .inl rfl)
      (.inr ⟨_, vs.toArray, _, hk, rfl, rfl, rfl, by rw [List.size_toArray, nn]; exact hl, by simpa using rints⟩)
      ?_ (fun b z => absurd rfl z) (fun z => absurd rfl z)
    intro b u z
    cases (show (none : Option HO) = some u from z)
/-- the goal that the head leaves -/
theorem walkG {l : PySem.W.OpenLaw} {n k : Nat} {q : Program} {loose : List Str}
    {XP : (Str → Option Value) → Heap → Prop} {YP : World → Heap → Prop} {d : DefRec} {CX : CXT} {x : Str}
    (hn : l.most = some n) (hn2 : n ≤ sizeLine) (hdf : d.params.defaults = []) (hr : Room k callerA)
    (F : ∀ (w : World) (mg : Str → Option Value) (fa : Addr) (h : Heap),
      YP w h → h.Ns mainGlobals mg → mg d.name = some (.ref fa) →
      ∃ (K : PySem.W.Frag) (fd : FuncData) (sp : Sp), K.In h ∧
        (∀ (s : Shared) (u : Value), BindsTo s fd ⟨[u], []⟩ [(x, u)]) ∧
        (∀ (H : Hp) (a : Addr) (ns : List Int), ns.length ≤ n → Only H → SqL K H a (ns.map V.int) →
          sp [.ref a] H (fun v _ => v = .bl true) fun _ _ _ => False) ∧
        ∀ base : Heap, K.In base → base.Ns mainGlobals mg → FnG l.prog w K mg base CX k fa fd [x] sp)
    (hCX : ∀ (H : Hp) (s : Shared) (e : Value) (s' : Shared), CX [] H s (fun _ _ _ => False) e s' → False) :
    PySem.W.WalkO q loose XP YP l.row.toRowW d [] (fun f vs => PySem.call f vs) := by
  refine Att.attach_call hn hdf ?_
  intro w s₀ s₁ mg mb fa o pm cd doc a vs ns G Y ho hd hcd hmg hobj hints hlen hg
  obtain ⟨K, fd, sp, KX, hb, hsp, hF⟩ := F w mg fa _ Y G.T.g hmg
  exact law_callG KX G.T.g G.T.b G.T.builtins G.T.nolimit hg hobj hints (Nat.le_trans hlen hn2) hr hF hb
    (fun H hO hS => hsp H a ns hlen hO hS) (fun H e s' => hCX H s₁ e s')
end Gd

/-! The drawing pen of the laws: its object, and small lemmas about heaps, data and tests. -/
namespace Gd
open PySem PySem.Spec PyProof.Rows L2
/-- the pen p: its cells ns stand at g, the next one's place, what is left of a great number -/
structure PenAt (H : Hp) (p g : Addr) (ns : List Int) (seat left : Int) : Prop where
  ne : p ≠ g
  at_ : H p = some (.lst [.ref g, .int seat, .int left])
  cells : H g = some (.lst (ns.map V.int))
def Pen (H : Hp) (p g : Addr) : Prop := ∃ ns seat left, PenAt H p g ns seat left
/-- all but the pen stands as before -/
def But (p : Addr) (H H' : Hp) : Prop := ∀ b o, H b = some o → b ≠ p → H' b = some o
theorem But.refl (p : Addr) (H : Hp) : But p H H := fun _ _ h _ => h
theorem But.trans {p : Addr} {H H1 H2 : Hp} (a : But p H H1) (b : But p H1 H2) : But p H H2 :=
  fun c o h n => b c o (a c o h n) n
theorem But.same {p : Addr} {H H1 H2 : Hp} (a : But p H H1) (b : Same H1 H2) : But p H H2 :=
  fun c o h n => b c o (a c o h n)
theorem But.wr {p : Addr} {H H1 : Hp} {o : HO} (a : But p H H1) : But p H (upd H1 p o) := by
  intro c u h n
  rw [upd_ne n]
  exact a c u h n
theorem same_new {H : Hp} {q : Addr} {o : HO} (h : H q = none) : Same H (upd H q o) := by
  intro c u e
  rw [upd_ne (ne_of_none e h)]
  exact e
theorem same_pen {H H' : Hp} {p g : Addr} (s : Same H H') (P : Pen H p g) : Pen H' p g := by
  obtain ⟨ns, a, b, n, x, y⟩ := P
  exact ⟨ns, a, b, n, s _ _ x, s _ _ y⟩
theorem Pen.lst {H : Hp} {p g : Addr} (P : Pen H p g) : ∃ xs, H p = some (.lst xs) := by
  obtain ⟨ns, a, b, n, x, y⟩ := P
  exact ⟨_, x⟩
theorem Pen.new_ne {H : Hp} {p g q : Addr} (P : Pen H p g) (h : H q = none) : q ≠ p ∧ q ≠ g := by
  obtain ⟨ns, a, b, n, x, y⟩ := P
  exact ⟨(ne_of_none x h).symm, (ne_of_none y h).symm⟩
/-- a store elsewhere -/
theorem Pen.upd {H : Hp} {p g q : Addr} {o : HO} (P : Pen H p g) (h1 : q ≠ p) (h2 : q ≠ g) : Pen (upd H q o) p g := by
  obtain ⟨ns, a, b, n, x, y⟩ := P
  exact ⟨ns, a, b, n, by rw [upd_ne h1.symm]; exact x, by rw [upd_ne h2.symm]; exact y⟩
/-- a store at an object that was not there ahead -/
theorem But.upd {p q : Addr} {H H1 : Hp} {o : HO} (B : But p H H1) (h : H q = none) : But p H (upd H1 q o) := by
  intro b u e n
  rw [upd_ne (ne_of_none e h)]
  exact B b u e n
/-- tuples stand, whatever is drawn -/
theorem but_tup {K : PySem.W.Frag} {p a : Addr} {H H' : Hp} {ys xs : List V} (B : But p H H') (hp : H p = some (.lst ys)) (h : SqT K H a xs) : SqT K H' a xs := by
  rcases h with (h | ⟨o, h⟩) | h
  · exact .inl (.inl (B _ _ h (ne_of h hp (by intro z; cases z))))
  · exact .inl (.inr ⟨o, B _ _ h (ne_of h hp (by intro z; cases z))⟩)
  · exact .inr h
theorem same_penAt {H H' : Hp} {p g : Addr} {ns : List Int} {a b : Int} (s : Same H H') (P : PenAt H p g ns a b) : PenAt H' p g ns a b :=
  ⟨P.ne, s _ _ P.at_, s _ _ P.cells⟩
theorem same_tup {K : PySem.W.Frag} {H H' : Hp} {a : Addr} {xs : List V} (e : Same H H') (h : SqT K H a xs) : SqT K H' a xs := by
  rcases h with (h | ⟨o, h⟩) | h
  · exact .inl (.inl (e _ _ h))
  · exact .inl (.inr ⟨o, e _ _ h⟩)
  · exact .inr h
mutual
theorem dp_same {K : PySem.W.Frag} {H H' : Hp} (e : Same H H') : ∀ {d : PyData} {v : V}, Dp K H v d → Dp K H' v d
  | .none, _, h => by cases h; constructor
  | .bool _, _, h => by cases h; constructor
  | .int _, _, h => by cases h; constructor
  | .str _, _, h => by cases h; constructor
  | .list ds, _, h => by
    cases h with
    | lst a b => exact .lst (e.seq a) (dpAll_same e b)
  | .tuple ds, _, h => by
    cases h with
    | tup a b => exact .tup (same_tup e a) (dpAll_same e b)
  | .dict _, _, h => by cases h
theorem dpAll_same {K : PySem.W.Frag} {H H' : Hp} (e : Same H H') : ∀ {ds : List PyData} {vs : List V}, DpAll K H vs ds → DpAll K H' vs ds
  | [], _, h => by cases h; exact .nil
  | d :: ds, _, h => by
    cases h with
    | cons a b => exact .cons (dp_same e a) (dpAll_same e b)
end
/-- lists of whole numbers as data -/
theorem dp_ints {K : PySem.W.Frag} {H : Hp} : ∀ ns : List Int, DpAll K H (ns.map V.int) (ns.map PyData.int)
  | [] => .nil
  | n :: ns => .cons (.int n) (dp_ints ns)
theorem lay_ints : ∀ ns : List Int, PyData.canLayAll0 (ns.map PyData.int) = true
  | [] => by simp [PyData.canLayAll0]
  | n :: ns => by simp [PyData.canLayAll0, PyData.canLay0, lay_ints ns]
theorem depth_ints : ∀ ns : List Int, PyData.depthAll (ns.map PyData.int) = 0
  | [] => by simp [PyData.depthAll]
  | n :: ns => by simp [PyData.depthAll, PyData.depth, depth_ints ns]
theorem shaped_ints (ns : List Int) : SeqAt.shaped (.list (ns.map PyData.int)) = true := by
  simp [SeqAt.shaped, PyData.canLay0, lay_ints, PyData.depth, depth_ints]
theorem eqv_nil (ns : List Int) : PyData.eqv (.list (ns.map PyData.int)) (.list []) = ns.isEmpty := by
  cases ns <;> simp [PyData.eqv, PyData.eqvAll]
/-- a value by a test -/
theorem ite_val {c : Prop} [Decidable c] {ta tb : VK → Prop} {Q : VK} (S : V → Hp → Prop)
    (h1 : c → ∀ Q' : VK, (∀ v H, S v H → Q' v H) → ta Q') (h2 : ¬ c → ∀ Q' : VK, (∀ v H, S v H → Q' v H) → tb Q')
    (hQ : ∀ v H, S v H → Q v H) : if c then ta Q else tb Q := by
  by_cases h : c
  · rw [if_pos h]
    exact h1 h Q hQ
  · rw [if_neg h]
    exact h2 h Q hQ
/-- statements by a test whose answer does not matter -/
theorem ifs_any {c : TT} {t u : TS} {D : Ends} {σ : L2.St} {H : Hp} (hc : ∀ K' : Bool → Hp → Prop, (∀ b, K' b H) → c σ H K')
    (h1 : t D σ H) (h2 : u D σ H) : tIfS c t u D σ H := by
  refine hc _ (fun b => ?_)
  cases b with
  | true => exact iteT h1
  | false => exact iteF h2
theorem seq_if {c : TT} {t u r : TS} {D : Ends} {σ : L2.St} {H : Hp} (hc : ∀ K' : Bool → Hp → Prop, (∀ b, K' b H) → c σ H K')
    (h1 : t { D with nx := r D } σ H) (h2 : u { D with nx := r D } σ H) : tSeq (tIfS c t u) r D σ H := ifs_any hc h1 h2
theorem nx_of {i : Nat} {v : V} {σ : L2.St} {H : Hp} {nx : L2.St → Hp → Prop} (h : nx (σ.set i (some v)) H) : gName i v σ H nx := h
/-- statements by a test, joined behind it -/
theorem ite_stm {c : Prop} [Decidable c] {t u : TS} {D : Ends} {σ : L2.St} {H : Hp} (S : L2.St → Hp → Prop)
    (h1 : c → ∀ nx : L2.St → Hp → Prop, (∀ σ H, S σ H → nx σ H) → t { D with nx := nx } σ H)
    (h2 : ¬ c → ∀ nx : L2.St → Hp → Prop, (∀ σ H, S σ H → nx σ H) → u { D with nx := nx } σ H)
    (hS : ∀ σ H, S σ H → D.nx σ H) : if c then t D σ H else u D σ H := by
  by_cases h : c
  · rw [if_pos h]
    exact h1 h D.nx hS
  · rw [if_neg h]
    exact h2 h D.nx hS
theorem fmod_pos {a b : Int} (h : 0 < b) : 0 ≤ a.fmod b ∧ a.fmod b < b := by
  rw [Int.fmod_eq_emod_of_nonneg a (Int.le_of_lt h)]
  exact ⟨Int.emod_nonneg a (by omega), Int.emod_lt_of_pos a h⟩
theorem atI_some {α : Type} {xs : List α} {i : Int} (h0 : 0 ≤ i) (h1 : i < xs.length) : ∃ v, xs[i.toNat]? = some v ∧ atI xs i = some v := by
  have hj : i.toNat < xs.length := by omega
  have e : (i.toNat : Int) = i := Int.toNat_of_nonneg h0
  refine ⟨xs[i.toNat], List.getElem?_eq_getElem hj, ?_⟩
  unfold atI ixN
  rw [if_pos h0, if_pos h1]
  exact List.getElem?_eq_getElem hj
end Gd
namespace Gd
open PySem PySem.Spec PyProof.Rows L2
theorem u65 {k : Nat} {A : Around} (r : Room k A) : A.units + 65 < cLine := by
  have := r.un
  omega
/-- numbers of fewer than 300 bits are shown -/
def Sm (i : Int) : Prop := i.natAbs < 2 ^ 300
theorem Sm.log {i : Int} (h : Sm i) : i.natAbs.log2 < 1920 :=
  Nat.lt_of_lt_of_le (PySem.Flt.log2_lt_of (by decide) h) (by decide)
theorem Sm.of {i : Int} (h : i.natAbs < 1000000000) : Sm i :=
  Nat.lt_of_lt_of_le h (by have : (2 : Nat) ^ 30 ≤ 2 ^ 300 := Nat.pow_le_pow_right (by decide) (by decide); omega)
/-- data that repr shows -/
structure Fit (d : PyData) : Prop where
  sh : d.showable = true
  lv : d.leavesShort 400 = true
  nd : d.hasDict = false
  dp : d.depth ≤ 64
  bk : d.bulk ≤ 30000
theorem Fit.len {d : PyData} (h : Fit d) : d.shown.length ≤ sizeLine := by
  have a := PyData.shown_le_bulk 400 (by decide) d h.lv
  have b := h.bk
  rw [sizeLine_eq]
  omega
theorem Sm.short {i : Int} (h : Sm i) : (PyData.shown (.int i)).length ≤ 400 := by
  have h2 : i.natAbs.log2 < 300 := PySem.Flt.log2_lt_of (by decide) h
  have h3 := int_text_length_le (a := i) (k := 300) (by decide) h2
  have e : (PyData.shown (.int i)).length = (toString i).length := by
    show (Str.ofString (toString i)).length = _
    exact PySem.ofString_length _
  omega
end Gd
namespace Gd
open PySem PySem.Spec PyProof.Rows L2
theorem small_b {b : Int} (h : b.natAbs < 2 ^ 200) : b.natAbs < 2 ^ 9000 :=
  Nat.lt_of_lt_of_le h (Nat.pow_le_pow_right (by decide) (by decide))
end Gd
namespace Gd
open PySem PySem.Spec PyProof.Rows L2
/-- tuples stand when a list is changed -/
theorem tup_lst {K : PySem.W.Frag} {H : Hp} {L a : Addr} {xs ys zs : List V} (hL : H L = some (.lst xs)) (h : SqT K H a zs) : SqT K (upd H L (.lst ys)) a zs := by
  rcases h with (h | ⟨o, h⟩) | h
  · exact .inl (.inl (by rw [upd_ne (ne_of h hL (by intro z; cases z))]; exact h))
  · exact .inl (.inr ⟨o, by rw [upd_ne (ne_of h hL (by intro z; cases z))]; exact h⟩)
  · exact .inr h
end Gd
namespace Gd
open PySem PySem.Spec PyProof.Rows L2
theorem yes_of {σ : L2.St} {H : Hp} {Q : Bool → Hp → Prop} (h : Q true H) : tYes σ H Q := h
end Gd
namespace Gd
open PySem PySem.Spec PyProof.Rows L2
/-- an if whose two ends meet -/
theorem seq_join {c : TT} {t u r : TS} {D : Ends} {σ : L2.St} {H : Hp} (S : L2.St → Hp → Prop)
    (h : ∀ nx : L2.St → Hp → Prop, (∀ σ H, S σ H → nx σ H) → tIfS c t u { D with nx := nx } σ H) (hS : ∀ σ H, S σ H → r D σ H) : tSeq (tIfS c t u) r D σ H := h _ hS
end Gd

/-! Own exception classes straight over a built-in one, with an own __init__ that stores. -/
namespace Gd
open PySem PySem.Spec PyProof.Rows L2
/-- what the library says of a built-in base -/
structure Bas (B newId initId : String) (bmB : List Value) : Prop where
  FB : ExcBaseFacts B newId initId bmB
  SF : StoreFacts B bmB "object.__setattr__" "object"
abbrev mroV : List Value := [.type "ValueError", .type "Exception", .type "BaseException", .type "object"]
abbrev mroL : List Value := [.type "LookupError", .type "Exception", .type "BaseException", .type "object"]
abbrev mroR : List Value := [.type "RuntimeError", .type "Exception", .type "BaseException", .type "object"]
abbrev mroO : List Value := [.type "OverflowError", .type "ArithmeticError", .type "Exception", .type "BaseException", .type "object"]
theorem basV : Bas "ValueError" "ValueError.__new__" "ValueError.__init__" mroV := ⟨PySem.F.excBase_ValueError, PySem.F.store_ValueError⟩
theorem basL : Bas "LookupError" "LookupError.__new__" "LookupError.__init__" mroL := ⟨PySem.F.excBase_LookupError, PySem.F.store_LookupError⟩
theorem basR : Bas "RuntimeError" "RuntimeError.__new__" "RuntimeError.__init__" mroR := ⟨PySem.F.excBase_RuntimeError, PySem.F.store_RuntimeError⟩
theorem basO : Bas "OverflowError" "OverflowError.__new__" "OverflowError.__init__" mroO := ⟨PySem.F.excBase_OverflowError, PySem.F.store_OverflowError⟩
/-- what the top has left of an own exception class -/
structure Xc (K : PySem.W.Frag) (C : Addr) : Prop where
  bas : ∃ B newId initId bmB, Bas B newId initId bmB ∧ PySem.W.excInitIn K C bmB newId = true ∧ PySem.W.excOver K C bmB = true
  hd : PySem.W.hasDictIn K C = true
  sa : PySem.W.findIn K (.ref C) "__setattr__" = some (some (.builtin "object.__setattr__"))
  exC : PySem.W.subIn K (.ref C) (.type "BaseException") = some true
  tyC : PySem.W.typeIn K (.ref C) = some (.type "type")
  kC : PySem.W.keepIn K (.ref C) = true
  ga : PySem.W.findIn K (.ref C) "__getattribute__" = some (some (.builtin "BaseException.__getattribute__"))
  gg : PySem.W.findIn K (.ref C) "__getattr__" = some none
  self : PySem.W.exmOne K (.ref C) (.ref C) = some true
theorem Xc.xf {K : PySem.W.Frag} {C : Addr} (T : Xc K C) : XfC K C := ⟨T.ga, T.gg, T.exC, T.hd⟩
/-- the same, decided -/
def xcB (K : PySem.W.Frag) (C : Addr) (bmB : List Value) (newId : String) : Bool :=
  PySem.W.excInitIn K C bmB newId && (PySem.W.excOver K C bmB && (PySem.W.hasDictIn K C &&
    (decide (PySem.W.findIn K (.ref C) "__setattr__" = some (some (.builtin "object.__setattr__"))) &&
    (decide (PySem.W.subIn K (.ref C) (.type "BaseException") = some true) && (decide (PySem.W.typeIn K (.ref C) = some (.type "type")) &&
    (PySem.W.keepIn K (.ref C) && (decide (PySem.W.findIn K (.ref C) "__getattribute__" = some (some (.builtin "BaseException.__getattribute__"))) &&
    (decide (PySem.W.findIn K (.ref C) "__getattr__" = some none) && decide (PySem.W.exmOne K (.ref C) (.ref C) = some true)))))))))
theorem ba2 {a b : Bool} (h : (a && b) = true) : a = true ∧ b = true := Bool.and_eq_true_iff.mp h
theorem xcB_ok {K : PySem.W.Frag} {C : Addr} {B newId initId : String} {bmB : List Value} (F : Bas B newId initId bmB) (h : xcB K C bmB newId = true) : Xc K C := by
  obtain ⟨h1, h⟩ := ba2 h
  obtain ⟨h2, h⟩ := ba2 h
  obtain ⟨h3, h⟩ := ba2 h
  obtain ⟨h4, h⟩ := ba2 h
  obtain ⟨h5, h⟩ := ba2 h
  obtain ⟨h6, h⟩ := ba2 h
  obtain ⟨h7, h⟩ := ba2 h
  obtain ⟨h8, h⟩ := ba2 h
  obtain ⟨h9, h10⟩ := ba2 h
  exact ⟨⟨B, newId, initId, bmB, F, h1, h2⟩, h3, of_decide_eq_true h4, of_decide_eq_true h5, of_decide_eq_true h6, h7, of_decide_eq_true h8, of_decide_eq_true h9, of_decide_eq_true h10⟩
section
open Builtin Builtin.ObjectAttr
variable {prog : Program} {w : World} {A : Around} {R : Result → Shared → Prop}
variable {hp : Heap} {g : Array GenState} {d : Drawn} {t : Nat} {os : OsState} {K : PySem.W.Frag} {C : Addr}
theorem taker_of {f : Str} (h : PySem.W.findIn K (.ref C) f = some none) : PySem.W.takerIn K C f = some none := by
  unfold PySem.W.takerIn
  rw [h]
  rfl
/-- object.__setattr__ of an exception without a dict -/
theorem osaNew {name : Str} {tk : Tok} {v : Value} {x : Addr} {fv : Array Value} (T : Xc K C) (X : K.In hp)
    (hx : hp.get? x = some { cls := .ref C, data := .fields fv })
    (ha : PySem.W.findIn K (.ref C) name = some none)
    (hq : ∀ h' tk' dx, (∀ b o, b ≠ x → hp.get? b = some o → h'.get? b = some o) →
      hp.objs.size ≤ dx → dx ≠ x → h'.get? x = some { cls := .ref C, dict := some dx, data := .fields fv } →
      h'.Ns1 dx (fun y => if y = name then some v else none) → R (.ok (.ret .none)) ⟨h', g, d, tk', os⟩) :
    codeAny (model prog w) A (.call (.builtin "object.__setattr__") ⟨[.ref x, .str name tk, v], []⟩) R ⟨hp, g, d, t, os⟩ := by
  obtain ⟨B, newId, initId, bmB, F, hi, ho⟩ := T.bas
  have atx : PySem.W.InstAt hp x { cls := .ref C, data := .fields fv } C none := ⟨hx, rfl, rfl, trivial⟩
  have apart : x ≠ hp.objs.size := Nat.ne_of_lt (Heap.lt_size hx)
  obtain ⟨cd, hcd, hdict⟩ := PySem.W.any_some T.hd
  have look : PySem.W.Looks (model prog w) hp (classData C) cd := PySem.W.looks_clsIn X hcd
  refine PySem.W.osa_openX (s := ⟨hp, g, d, t, os⟩) F.SF X atx ho (taker_of ha) ?_
  intro b
  show wpAny _ _ (storeInOwnDict (.ref x) (.ref C) (.str name tk) name v b) _ _ _
  obtain ⟨nm, bs, mro, ns, qn, hd, sn, sb, ab, col, del⟩ := cd
  dsimp only at hdict
  subst hdict
  unfold storeInOwnDict ownDictForStores
  repeat (first
    | with_reducible refine PySem.HandSPX.store_in_new ?_ ?_
    | with_reducible refine wpAny_loadPart_at hx ?_
    | with_reducible refine look.at ?_
    | wp_step)
  · exact ⟨_, #[], _,
      (Heap.get?_update_ne _ _ _ _ apart.symm).trans
        (Heap.get?_push_at rfl rfl),
      rfl, fun e he => absurd he (by simp), fun _ => rfl⟩
  · intro h' tk' hn' hs
    have pushed : (hp.push { cls := .type "dict", data := .dict #[] }).get? x = some { cls := .ref C, data := .fields fv } :=
      Heap.get?_push_of_some _ hx
    refine hq h' tk' hp.objs.size (fun c o hc he => ?_) (Nat.le_refl _) apart.symm ?_ hn'
    · refine (hs.2 c (Nat.ne_of_lt (Heap.lt_size he))).trans ?_
      exact (Heap.get?_update_ne _ _ _ _ hc).trans (Heap.get?_push_of_some _ he)
    · exact (hs.2 x apart).trans (Heap.get?_update_self _ pushed rfl)
/-- .. of one with a dict -/
theorem osaOld {name : Str} {tk : Tok} {v : Value} {x dx : Addr} {fv : Array Value} {m0 : Str → Option Value} {nl : List Str}
    (T : Xc K C) (X : K.In hp) (hx : hp.get? x = some { cls := .ref C, dict := some dx, data := .fields fv })
    (hns : hp.Ns1 dx m0) (hw : Within m0 nl) (hz : nl.length ≤ 1000)
    (ha : PySem.W.findIn K (.ref C) name = some none)
    (hq : ∀ h' tk', (∀ b o, b ≠ dx → hp.get? b = some o → h'.get? b = some o) →
      h'.Ns1 dx (fun y => if y = name then some v else m0 y) → R (.ok (.ret .none)) ⟨h', g, d, tk', os⟩) :
    codeAny (model prog w) A (.call (.builtin "object.__setattr__") ⟨[.ref x, .str name tk, v], []⟩) R ⟨hp, g, d, t, os⟩ := by
  obtain ⟨B, newId, initId, bmB, F, hi, ho⟩ := T.bas
  obtain ⟨oD, esD, epD, hoD, hdD, _⟩ := hns.count hw
  have atx : PySem.W.InstAt hp x { cls := .ref C, dict := some dx, data := .fields fv } C (some oD) := ⟨hx, rfl, rfl, hoD⟩
  obtain ⟨cd, hcd, hdict⟩ := PySem.W.any_some T.hd
  have look : PySem.W.Looks (model prog w) hp (classData C) cd := PySem.W.looks_clsIn X hcd
  refine PySem.W.osa_openX (s := ⟨hp, g, d, t, os⟩) F.SF X atx ho (taker_of ha) ?_
  intro b
  show wpAny _ _ (storeInOwnDict (.ref x) (.ref C) (.str name tk) name v b) _ _ _
  obtain ⟨nm, bs, mro, ns, qn, hd, sn, sb, ab, col, del⟩ := cd
  dsimp only at hdict
  subst hdict
  unfold storeInOwnDict ownDictForStores
  repeat (first
    | with_reducible refine PySem.OEX.store_in_old hns hw hz ?_
    | with_reducible refine wpAny_loadPart_at hx ?_
    | with_reducible refine look.at ?_
    | wp_step)
  intro h' tk' hn' hs
  exact hq h' tk' (fun c o hc he => (hs.2 c hc).trans he) hn'
end
section
variable {X : Cx} {pins : List (Addr × Obj)} {σ : L2.St} {H : Hp} {s : Shared} {a C dx : Addr} {f : Str} {y : V} {u : Value}
variable {fs : List (Str × V)} {Q : Unit → Shared → Prop} {E : Value → Shared → Prop} {A : Around}
/-- self.f = y of a fresh exception -/
theorem stNew (T : Xc X.K C) (I : Inv X pins σ H s) (e : H a = some (exo a C none))
    (hno : PySem.W.findIn X.K (.ref C) f = some none) (ry : RelV y u)
    (h : ∀ dx s', H dx = none → dx ≠ a →
      Inv X pins σ (upd (upd H dx (exd dx [(f, y)])) a (exo a C (some dx))) s' → Q () s') :
    wpAny (model X.prog X.w) A (setAttr (.ref a) f u) Q E s := by
  obtain ⟨t1, ho⟩ := exo_at I.hok e
  obtain ⟨hp, g, d, t, os⟩ := s
  have atx : PySem.W.InstAt hp a { cls := .ref C, dict := none, data := .fields #[.ref t1, .none, .none, .none, .bool false, .none] } C none :=
    ⟨ho, rfl, rfl, trivial⟩
  refine PySem.W.set_plain I.kIn atx T.sa ?_
  refine osaNew T I.kIn ho hno ?_
  intro h' tk' dx k dn dne hx hn
  have freeD : H dx = none := I.hok.fresh dn
  have old : ∀ {b : Addr} {o : Obj}, hp.get? b = some o → b ≠ dx :=
    fun q => Nat.ne_of_lt (Nat.lt_of_lt_of_le (Heap.lt_size q) dn)
  have offA : ∀ {b : Addr}, H b = none → b ≠ a := by
    intro b n z
    rw [z, e] at n
    cases n
  have un : Un X.fs [] H (upd (upd H dx (exd dx [(f, y)])) a (exo a C (some dx))) hp h' :=
    { keep := fun b o q n _ _ => k b o (offA n) q
      slot := fun b o q n _ _ => ⟨o.slots, k b o (offA n) q⟩
      free := fun b o q n _ => (upd_ne (offA n)).trans ((upd_ne (old q)).trans n)
      there := fun b o q _ => if hb : b = a then ⟨_, hb ▸ hx⟩ else ⟨o, k b o hb q⟩
      tups := fun b xs q => (upd_ne (at_ne e q exo_tup)).trans ((upd_ne (ne_of_none q freeD)).trans q)
      frzs := fun b o v q => (upd_ne (at_ne e q exo_frz)).trans ((upd_ne (ne_of_none q freeD)).trans q)
      tbls := fun b ps q => ⟨#[], by
        rw [upd_ne (at_ne e q exo_tbl), upd_ne (ne_of_none q freeD), q]
        simp⟩ }
  refine h dx _ freeD dne (I.un (t' := tk') un ?_)
  intro b o q
  by_cases hb : b = a
  · subst hb
    rw [upd_same] at q
    cases q
    exact exo_ok hx
  rw [upd_ne hb] at q
  by_cases hd : b = dx
  · subst hd
    rw [upd_same] at q
    cases q
    exact exd_ok hn (relO_put (fs := []) ry fun _ => True.intro)
  rw [upd_ne hd] at q
  refine (I.hok b o q).stay ?_ ?_ ?_
  · intro c v hc z
    refine k c v ?_ z
    rcases hc with hc | hc
    · exact hc ▸ hb
    · exact at_ne e hc exo_own
  · intro c hc
    exact (upd_ne (at_ne e hc exo_own)).trans ((upd_ne (ne_of_none hc freeD)).trans hc)
  · intro c xs hc
    exact (upd_ne (at_ne e hc exo_tup)).trans ((upd_ne (ne_of_none hc freeD)).trans hc)
/-- a further one -/
theorem stOld (T : Xc X.K C) (I : Inv X pins σ H s) (e : H a = some (exo a C (some dx))) (ed : H dx = some (exd dx fs))
    (hl : fs.length ≤ 900) (hno : PySem.W.findIn X.K (.ref C) f = some none) (ry : RelV y u)
    (h : ∀ s', Inv X pins σ (upd H dx (exd dx ((f, y) :: fs))) s' → Q () s') :
    wpAny (model X.prog X.w) A (setAttr (.ref a) f u) Q E s := by
  obtain ⟨t1, ho⟩ := exo_at I.hok e
  obtain ⟨mA, hns, rel⟩ := exd_at I.hok ed
  have hw := within_of rel
  obtain ⟨hp, g, d, t, os⟩ := s
  obtain ⟨oD, _, _, hoD, _, _⟩ := hns.count hw
  have atx : PySem.W.InstAt hp a { cls := .ref C, dict := some dx, data := .fields #[.ref t1, .none, .none, .none, .bool false, .none] } C (some oD) :=
    ⟨ho, rfl, rfl, hoD⟩
  refine PySem.W.set_plain I.kIn atx T.sa ?_
  refine osaOld T I.kIn ho hns hw (by rw [List.length_map]; omega) hno ?_
  intro h' tk' k hn
  have there : ∃ o, h'.get? dx = some o := hn.elim fun o z => z.elim fun _ z => z.elim fun _ z => ⟨o, z.1⟩
  refine h _ (I.write (t' := tk') (x := dx) (e := dx) (o := exd dx ((f, y) :: fs)) ?_ (.inl rfl) k there (exd_ok hn (relO_put ry rel)))
  rw [ed]
  exact True.intro
end
/-- self.f = e in such an __init__ -/
def tSt (K : PySem.W.Frag) (f : Str) (to te : TE) : TS := fun D σ H => te σ H fun y H1 => to σ H1 fun x H2 =>
  ∃ a C : Addr, x = .ref a ∧ Xc K C ∧ PySem.W.findIn K (.ref C) f = some none ∧
  ((H2 a = some (exo a C none) ∧ ∀ dx, H2 dx = none → dx ≠ a → D.nx σ (upd (upd H2 dx (exd dx [(f, y)])) a (exo a C (some dx)))) ∨
    ∃ (dx : Addr) (fs : List (Str × V)), H2 a = some (exo a C (some dx)) ∧ H2 dx = some (exd dx fs) ∧ fs.length ≤ 900 ∧
      D.nx σ (upd H2 dx (exd dx ((f, y) :: fs))))
section
variable {X : Cx} {o e : Expr} {es : List Expr} {to te : TE} {ta : TA} {f : Str} {p p' pos : Pos}
theorem ps_st (ho : PE X o to) (he : PE X e te)
    (hs : swapsWith e (some (.Attribute o f p')) pos.line X.env = pure false := by rfl) :
    PS X (.Assign [.Attribute o f p'] e pos) (tSt X.K f to te) := by
  refine ⟨?_⟩
  intro pins s σ H D I h
  refine plainObj_wpAny_Assign_Attribute ?_ hs
  refine thn (he.run pins s σ H _ I h) fun v s1 ⟨y, H1, I1, r1, q1⟩ => ?_
  refine thn (ho.run pins s1 σ H1 _ I1 q1) fun u s2 ⟨x, H2, I2, r2, a, C, ex, T, hno, q⟩ => ?_
  subst ex
  obtain rfl : u = Value.ref a := r2
  rcases q with ⟨ea, q⟩ | ⟨dx, fs, ea, ed, hl, q⟩
  · exact stNew T I2 ea hno r1 fun dx s' n ne J => ⟨σ, _, J, q dx n ne⟩
  · exact stOld T I2 ea ed hl hno r1 fun s' J => ⟨σ, _, J, q⟩
/-- C(e, ..) to be raised -/
theorem pmk_x {CX : CXT} {x : Str} {C fI : Addr} {k : Nat} {fd : FuncData} {ps : List Str} {sp : Sp} {ds : List Value} {dvs : List V}
    (T : Xc X.K C) (iC : PySem.W.findIn X.K (.ref C) "__init__" = some (some (.ref fI)))
    (tI : PySem.W.typeIn X.K (.ref fI) = some (.type "function"))
    (F1 : FnOk X.prog X.w X.K X.mg X.base CX k fI fd ps sp) (hr : Room (k + 1) X.A)
    (hb : Binds X.K fd ps ds) (hd : Vals dvs ds) (hx : Passes CX X (fun _ _ _ => False))
    (hg : Gl X x) (hm : X.mg x = some (.ref C)) (ha : PA X (e :: es) ta)
    (hdb : (x == ("__debug__" : Str)) = false := by decide)
    (he : starEach (e :: es) X.env = (false, eval e X.env) :: starEach es X.env := by rfl)
    (hpl : (backTo pos (starEach es X.env)).any (·.1) = false := by rfl) :
    PMk X (.Call (.Name x p) (e :: es) [] pos) (tMkO C sp dvs ta) := by
  intro pins s σ H Q I h
  obtain ⟨B, newId, initId, bmB, F, hi, ho⟩ := T.bas
  refine wpAny_Call_Name_kw (ld_glob I hg hm ?_ hdb)
  refine PySem.W.callWith_K (h₀ := X.base) I.ok.mod.kin T.kC ?_ he hpl
  refine thn (ha.run pos pins s σ H _ I h) fun us s1 ⟨vs, H1, I1, r1, hz, q1⟩ => ⟨I1.kIn, ?_⟩
  show wpAny _ _ (call (.ref C) us) _ _ _
  obtain ⟨hp, g, dr, tk, os⟩ := s1
  obtain ⟨nm, N, qn, bs, bm, hdct, sn, sub, ab, col, dd, k0, k1, k2, k3, k5, hC, hT⟩ := PySem.W.excInit_of I1.kIn hi
  have over : hp.objs.size ≤ hp.objs.size + 1 := Nat.le_succ _
  have hn : H1 (hp.objs.size + 1) = none := I1.hok.fresh over
  have hq := q1 (hp.objs.size + 1) hn
  have kk : ∀ b o, hp.get? b = some o →
      ((hp.push (PySem.W.kdv_tup us)).push (PySem.HandSPX.excO C hp.objs.size)).get? b = some o :=
    fun b o z => Heap.get?_push_of_some _ (Heap.get?_push_of_some _ z)
  have hget : ((hp.push (PySem.W.kdv_tup us)).push (PySem.HandSPX.excO C hp.objs.size)).get? (hp.objs.size + 1) =
      some (PySem.HandSPX.excO C hp.objs.size) := by heap_get
  have I2 : Inv X pins σ (upd H1 (hp.objs.size + 1) (exo (hp.objs.size + 1) C none))
      ⟨(hp.push (PySem.W.kdv_tup us)).push (PySem.HandSPX.excO C hp.objs.size), g, dr, tk, os⟩ :=
    I1.laid (t' := tk) (a := hp.objs.size + 1) (o := exo (hp.objs.size + 1) C none)
      (h' := (hp.push (PySem.W.kdv_tup us)).push (PySem.HandSPX.excO C hp.objs.size)) kk over (exo_ok hget)
  have r2 : Vals (V.ref (hp.objs.size + 1) :: (vs ++ dvs)) (Value.ref (hp.objs.size + 1) :: (us ++ ds)) :=
    .cons rfl (r1.append hd)
  have hl : (Value.ref (hp.objs.size + 1) :: us ++ ds).length = ps.length :=
    r2.length.symm.trans (F1.len _ _ _ _ hq)
  have hus : us.length ≤ sizeLine := by
    rw [← Paired.length r1, sizeLine_eq]
    omega
  refine wpAny_call (PySem.HandSPX.call_own F.FB hT hC (PySem.W.looks_findIn I1.kIn iC)
    (fun self => PySem.W.bind_fn I1.kIn self tI) hus (codeAny_mono (F1.run _ X.stack _ _
      ⟨Value.ref (hp.objs.size + 1) :: us, []⟩ (Value.ref (hp.objs.size + 1) :: (us ++ ds)) _ _ (fun _ _ _ => False)
      (hr.make C us []) (I2.env0.make C us []) (hb _ (Value.ref (hp.objs.size + 1) :: us) I2.kIn hl) r2 hq) ?_))
  intro r s' hq'
  rcases r with er | fl
  · exact hx pins σ _ _ er s' I2 hq'
  cases fl with
  | next => exact hq'.elim
  | brk => exact hq'.elim
  | cont => exact hq'.elim
  | ret u =>
    obtain ⟨v, H2, os2, bare2, un2, hok2, rv, ev, d, fs, ea, ed, hd1, q2⟩ := hq'
    subst ev
    obtain ⟨h2, g2, d2, t2, os'⟩ := s'
    exact ⟨rv, mk_end (raises_own T.exC T.tyC) I1 over kk un2 hok2 os2 bare2 ea ed hd1 q2⟩
end
end Gd

/-! for i, x in enumerate(t), t a tuple. -/
namespace Gd
open PySem PySem.Spec PyProof.Rows L2
section
open Sem (wp)
set_option maxHeartbeats 4000000 in
theorem meets_enum1 {v : Value} {o : Obj} {H : Heap → Prop} (B : Begins v o H) :
    Meets (Builtin.«enumerate.__new__» ⟨[.type "enumerate", v], []⟩) (fun _ R s => H s.heap ∧
      R (.ok (.ret (.ref (s.heap.push o).objs.size)))
        { s with heap := (s.heap.push o).push { cls := .type "enumerate", data := .fields #[.none, .bool false, .ref s.heap.objs.size, rawInt 0, .none, .none] } }) := by
  refine .of_wp fun prog w A R s h => ?_
  obtain ⟨hp, g, d, tk, os⟩ := s
  obtain ⟨h1, h⟩ := h
  have hsub := sub_enumerate
  have begun : ∀ {A' : Around} {E : Value → Shared → Prop} {Q : Value → Shared → Prop},
      Q (.ref hp.objs.size) ⟨hp.push o, g, d, tk, os⟩ → wpAny (model prog w) A' (pyIter v) Q E ⟨hp, g, d, tk, os⟩ :=
    fun q => B.iter prog w _ _ ⟨hp, g, d, tk, os⟩ _ h1 q
  wp_walk using begun
  refine wpAny_stack_any fun st => wpAny_pure ?_
  split
  · rename_i c _ _ _ _ _
    cases (c == Value.type "enumerate") <;> (wp_walk using begun; exact ⟨_, rfl, h⟩)
  · wp_walk using begun
    exact ⟨_, rfl, h⟩
theorem call_enum1 {prog : Program} {w : World} {A : Around} {E : Value → Shared → Prop} {s : Shared}
    {v : Value} {o : Obj} {H : Heap → Prop} {Q : Value → Shared → Prop} (B : Begins v o H) (h1 : H s.heap)
    (h : ∀ h', IsEnum h' (s.heap.objs.size + 1) s.heap.objs.size 0 .none → h'.get? s.heap.objs.size = some o →
      (∀ b o, s.heap.get? b = some o → h'.get? b = some o) → Q (.ref (s.heap.objs.size + 1)) { s with heap := h' }) :
    wpAny (model prog w) A (call (.type "enumerate") [v]) Q E s := by
  refine callType_new F.called_enumerate (by decide) (F.typeCall_enumerate_1 _) (F.newCall_enumerate_1 _)
    (fun obj => F.args_object_init_2 obj _) F.entry_enumerate_new (meets_enum1 B) ⟨h1, ?_⟩
  have size1 : (s.heap.push o).objs.size = s.heap.objs.size + 1 := Heap.size_push ..
  show _ ∧ _
  rw [size1]
  have made := Heap.get?_push_size (s.heap.push o)
    (o := { cls := .type "enumerate", data := .fields #[.none, .bool false, .ref s.heap.objs.size, rawInt 0, .none, .none] }) rfl
  rw [size1] at made
  exact ⟨⟨_, made, rfl⟩, h _ made (Heap.get?_push_of_some _ (Heap.get?_push_size _ B.free))
    fun b o x => Heap.get?_push_of_some _ (Heap.get?_push_of_some _ x)⟩
end
/-- the tuple at a, each item in a new pair with its place -/
def Itet (K : PySem.W.Frag) (a : Addr) : It where
  go := fun i H => ∃ (xs : List V) (x : V), SqT K H a xs ∧ xs[i]? = some x
  yld := fun i H v H' => ∃ T x, v = .ref T ∧ H T = none ∧ H' = upd H T (.tup [.int (i : Nat), x]) ∧
    ∀ xs, SqT K H a xs → xs[i]? = some x
  stop := fun i H => ∃ xs : List V, SqT K H a xs ∧ xs.length ≤ i
theorem turnEt {P : Program} {w : World} {K : PySem.W.Frag} {elts : List Expr} {kk : Nat} {tpos : Pos} (a e it : Addr) :
    Turn P w K (.Tuple elts kk tpos) (Itet K a) [e, it] e
      (fun i h => (∃ old, IsEnum h e it ((i : Nat) : Int) old) ∧ h.IsTupleIter it a i ∧ e ≠ it ∧ a ≠ it ∧ a ≠ e) where
  mem := List.mem_cons_self ..
  obj := by
    intro i h st b hb
    obtain ⟨⟨old, he⟩, ⟨o, ho, _, hd⟩, _⟩ := st
    rcases List.mem_cons.mp hb with z | z
    · rw [z]
      exact ⟨_, he, fun v q => nomatch q⟩
    · have z' := List.mem_singleton.mp z
      exact ⟨o, z' ▸ ho, fun v q => by rw [hd] at q; cases q⟩
  keep := by
    intro i h h' st k
    obtain ⟨⟨old, he⟩, hi, n⟩ := st
    exact ⟨⟨old, k e (by simp) _ he⟩, hi.at fun o q => k it (by simp) o q, n⟩
  item := by
    intro X hP hw hK hc i pins s σ H E I hf st hg
    subst hP hw hK
    obtain ⟨⟨old, he⟩, hit, hne, hai, hae⟩ := st
    obtain ⟨xs, x, hq, hx⟩ := hg
    obtain ⟨its, rv, tup, hz⟩ := I.tuple hq
    obtain ⟨u, hu, ru⟩ := rv.get hx
    obtain ⟨ot, hot, hoc, nt, hod⟩ := tup
    have len : i < its.toArray.size := by
      have y := (List.getElem?_eq_some_iff.mp hu).1
      simpa using y
    have D := Draws.tuple (prog := X.prog) (w := X.w) (A := X.A.in1) (I.ok.hd hc) it a hai its.toArray
    refine wpAny_pyNext_enum_itemC D he ⟨hit, ⟨ot, hot, hoc, nt, hod⟩⟩ len hne (by simp [hne, hae.symm]) ?_
    intro x2 h' tk hx2 ho st' hT hsz hk
    have ex : x2 = u := by
      have y : its.toArray[i]? = some u := by simpa using hu
      rw [y] at hx2
      exact (Option.some.inj hx2).symm
    subst ex
    refine ⟨_, rfl, wpAny_letOwnedTupleGo_enum (s := { s with heap := h', toks := tk + 1 }) ho ?_⟩
    intro h2 he2 sb
    have le : e < s.heap.objs.size := Heap.lt_size he
    have li : it < s.heap.objs.size := Heap.lt_size hit.choose_spec.1
    have hT2 : h2.get? s.heap.objs.size = some { cls := .type "tuple", data := .seq #[.int i tk, x2] } :=
      (sb.2 _ (Nat.ne_of_gt le)).trans hT
    have ok : ObjOk X.prog X.w (upd H s.heap.objs.size (.tup [.int (i : Nat), x])) h2 s.heap.objs.size (.tup [.int (i : Nat), x]) :=
      ⟨by show 2 ≤ sizeLine; decide, [.int i tk, x2], .cons ⟨_, rfl⟩ (.cons ru .nil), ⟨_, hT2, rfl, _, rfl⟩⟩
    have I1 : Inv X pins σ (upd H s.heap.objs.size (.tup [.int (i : Nat), x])) { s with heap := h2, toks := tk + 1 } := by
      refine I.turnedNew (ch := [e, it]) ?_ hf (Nat.le_refl _) ok
      intro b ob hb q
      have b1 : b ≠ e := fun z => hb (by simp [z])
      have b2 : b ≠ it := fun z => hb (by simp [z])
      exact (sb.2 b b1).trans (hk b ob b1 b2 q)
    refine ⟨.ref s.heap.objs.size, _, I1, rfl, ⟨_, x, rfl, I.hok.fresh (Nat.le_refl _), rfl, ?_⟩, ⟨⟨x2, ?_⟩, ?_, hne, hai, hae⟩, ?_⟩
    · intro ys hy
      rw [I.tuple_inj hy hq]
      exact hx
    · have e1 : ((i + 1 : Nat) : Int) = (i : Int) + 1 := by omega
      rw [e1]
      exact he2
    · exact st'.1.at fun o q => (sb.2 it hne.symm).trans q
    · intro b hb
      have lb : b < s.heap.objs.size := by
        rcases List.mem_cons.mp hb with z | z
        · exact z ▸ le
        · exact (List.mem_singleton.mp z) ▸ li
      rw [upd_ne (Nat.ne_of_lt lb)]
      exact (hf b hb).1
  done := by
    intro X hP hw hK hc i pins s σ H E I hf st hg
    subst hP hw hK
    obtain ⟨⟨old, he⟩, hit, hne, hai, hae⟩ := st
    obtain ⟨xs, hq, hx⟩ := hg
    obtain ⟨its, rv, tup, hz⟩ := I.tuple hq
    obtain ⟨ot, hot, hoc, nt, hod⟩ := tup
    obtain ⟨f0, f1, f2, f3, f4, f5⟩ := hf it (by simp)
    have len := rv.length
    have hT : s.TypeIs (.ref e) "enumerate" := ⟨_, he, rfl⟩
    have none_at : its.toArray[i]? = none := by simp; omega
    unfold pyNext
    refine wpAny_bind (wpAny_attempt (wpAny_callSpecial?_slot (name := Str.ofString "__next__") hT F.slot_enumerate_next
      (wpAny_call_entry F.slot_enumerate_next hT F.entry_enumerate_next ?_ (F.args_enumerate_next_1 _))))
    show wpAny _ _ (field (.ref e) 2 >>= _) _ _ _
    refine wpAny_bind (wpAny_field he rfl (x := .ref it) rfl ?_)
    refine wpAny_bind (wpAny_nextOf_tuple_end (show X.A.in1.handled = none from I.ok.hd hc) hit ⟨ot, hot, hoc, nt, hod⟩ none_at ?_)
    intro h' y hh' hy
    obtain ⟨o, ho, hc'⟩ := hy
    refine wpAny_bind (wpAny_isInstance (T := "StopIteration") (b := true) ⟨o, ho, hc'⟩ isSubtype_stop ?_)
    refine wpAny_pure ⟨rfl, ?_⟩
    exact I.turned (t' := s.toks) (fun b o hb q => hh' b o hb q) f0 f1 f3 f4 f5
  self := fun A i s Q E st h => let ⟨⟨_, he⟩, _⟩ := st; wpAny_pyIter_enum he h
def iEnumT (K : PySem.W.Frag) (ta : TA) : TI := fun σ H R => ta σ H fun vs H1 => ∃ a xs, vs = [.ref a] ∧ SqT K H1 a xs ∧ R (Itet K a) H1
theorem pi_enumT {X : Cx} {e : Expr} {ta : TA} {p pos tpos : Pos} {elts : List Expr} {kk : Nat}
    (hg : Gl X "enumerate") (hm : X.mg "enumerate" = none) (ha : PA X [e] ta)
    (hs : starEach [e] X.env = [(false, eval e X.env)] := by rfl) :
    PI X (.Tuple elts kk tpos) (.Call (.Name "enumerate" p) [e] [] pos) (iEnumT X.K ta) := by
  refine ⟨?_⟩
  intro pins s σ H R I h
  refine Call_ (ld_blt I hg hm boot_enumerate (PyProof.Rows.callWith_type1 (thn (ha.run pos pins s σ H _ I h) ?_) hs rfl))
  intro us s1 hu
  obtain ⟨vs, H1, I1, r1, a, xs, ex, hq, q⟩ := hu
  subst ex
  obtain ⟨u, rfl, ru⟩ := vals1 r1
  cases ru
  obtain ⟨its, rv, tup, hz⟩ := I1.tuple hq
  obtain ⟨ot, hot, hoc, nt, hod⟩ := tup
  refine call_enum1 (begins_tuple a its.toArray) ⟨ot, hot, hoc, nt, hod⟩ ?_
  intro h' he hit hk
  refine wpAny_pyIter_enum he ?_
  have I2 : Inv X pins σ H1 { s1 with heap := h' } := I1.kept (t' := s1.toks) hk
  have la : a < s1.heap.objs.size := Heap.lt_size hot
  refine ⟨s1.heap.objs.size + 1, [s1.heap.objs.size + 1, s1.heap.objs.size], _, _, H1, rfl, I2,
    turnEt a (s1.heap.objs.size + 1) s1.heap.objs.size,
    ⟨⟨.none, he⟩, ⟨_, hit, rfl, rfl⟩, Nat.succ_ne_self _, Nat.ne_of_lt la, Nat.ne_of_lt (Nat.lt_succ_of_lt la)⟩, ?_, q⟩
  intro b hb
  have le : s1.heap.objs.size ≤ b := by
    rcases List.mem_cons.mp hb with z | z
    · rw [z]
      exact Nat.le_succ _
    · rw [List.mem_singleton.mp z]
      exact Nat.le_refl _
  exact I1.fpOk le (I1.hok.fresh le)
/-- the loop over it -/
theorem for_enT {K : PySem.W.Frag} {a : Addr} {xs : List V} {g : TG} {tb : TS} {D : Ends} {σ : L2.St} {H : Hp} (Pv : Nat → L2.St → Hp → Prop)
    (h0 : Pv 0 σ H) (hl : ∀ i σ H, i ≤ xs.length → Pv i σ H → SqT K H a xs)
    (hs : ∀ i x σ H T, xs[i]? = some x → Pv i σ H → H T = none →
      g (.ref T) σ (upd H T (.tup [.int (i : Nat), x])) fun σ2 H2 => tb { D with nx := Pv (i + 1), ct := Pv (i + 1), bk := D.nx } σ2 H2)
    (hd : ∀ σ H, Pv xs.length σ H → D.nx σ H) :
    ∃ W : Nat → Nat → L2.St → Hp → Prop, (∃ m, W 0 m σ H) ∧ ∀ i m σ H, W i m σ H →
      ((Itet K a).stop i H ∧ D.nx σ H) ∨ ((Itet K a).go i H ∧ ∃ N : L2.St → Hp → Prop,
        (∀ σ' H', N σ' H' → ∃ m', m' < m ∧ W (i + 1) m' σ' H') ∧
        ∀ x H', (Itet K a).yld i H x H' → g x σ H' fun σ2 H2 => tb { D with nx := N, ct := N, bk := D.nx } σ2 H2) := by
  refine ⟨fun i m σ H => m = xs.length - i ∧ i ≤ xs.length ∧ Pv i σ H, ⟨xs.length, by simp, Nat.zero_le _, h0⟩, ?_⟩
  intro i m σ H hW
  obtain ⟨em, hi, p⟩ := hW
  subst em
  have q := hl i σ H hi p
  by_cases lt : i < xs.length
  · refine .inr ⟨⟨xs, xs[i], q, List.getElem?_eq_getElem lt⟩, Pv (i + 1), fun σ' H' p' => ⟨xs.length - (i + 1), by omega, rfl, lt, p'⟩, ?_⟩
    intro x H' y
    obtain ⟨T, x', ev, nT, eH, hx⟩ := y
    subst ev eH
    exact hs i x' σ H T (hx xs q) p nT
  · have e : i = xs.length := by omega
    subst e
    exact .inl ⟨⟨xs, q, Nat.le_refl _⟩, hd σ H p⟩
/-- a comprehension over it -/
theorem lc_enT {K : PySem.W.Frag} {a : Addr} {xs : List V} {g : TG} {tt : TT} {te : TE} {vs : List Nat} {σ : L2.St} {H1 : Hp} {D : Addr} {Qd : Hp → Prop}
    (Pv : Nat → Hp → Prop) (h0 : Pv 0 (upd H1 D (.lst []))) (hl : ∀ i H, i ≤ xs.length → Pv i H → SqT K H a xs)
    (hs : ∀ i x H T, xs[i]? = some x → Pv i H → H T = none →
      g (.ref T) (wipe σ vs) (upd H T (.tup [.int (i : Nat), x])) fun σ2 H2 => wipe σ2 vs = wipe σ vs ∧ tt σ2 H2 fun b H3 =>
        if b = true then te σ2 H3 fun y H4 => ∃ acc, H4 D = some (.lst acc) ∧ acc.length < sizeLine ∧ Pv (i + 1) (upd H4 D (.lst (acc ++ [y])))
        else Pv (i + 1) H3)
    (hd : ∀ H, Pv xs.length H → Qd H) :
    ∃ W : Nat → Nat → Hp → Prop, (∃ m, W 0 m (upd H1 D (.lst []))) ∧ ∀ i m H, W i m H →
      ((Itet K a).stop i H ∧ Qd H) ∨ ((Itet K a).go i H ∧ ∃ Nx : Hp → Prop, (∀ H', Nx H' → ∃ m', m' < m ∧ W (i + 1) m' H') ∧
        ∀ x H', (Itet K a).yld i H x H' → g x (wipe σ vs) H' fun σ2 H2 => wipe σ2 vs = wipe σ vs ∧ tt σ2 H2 fun b H3 =>
          if b = true then te σ2 H3 fun y H4 => ∃ acc, H4 D = some (.lst acc) ∧ acc.length < sizeLine ∧ Nx (upd H4 D (.lst (acc ++ [y])))
          else Nx H3) := by
  refine ⟨fun i m H => m = xs.length - i ∧ i ≤ xs.length ∧ Pv i H, ⟨xs.length, by simp, Nat.zero_le _, h0⟩, ?_⟩
  intro i m H hW
  obtain ⟨em, hi, p⟩ := hW
  subst em
  have q := hl i H hi p
  by_cases lt : i < xs.length
  · refine .inr ⟨⟨xs, xs[i], q, List.getElem?_eq_getElem lt⟩, Pv (i + 1), fun H' p' => ⟨xs.length - (i + 1), by omega, rfl, lt, p'⟩, ?_⟩
    intro x H' y
    obtain ⟨T, x', ev, nT, eH, hx⟩ := y
    subst ev eH
    exact hs i x' H T (hx xs q) p nT
  · have e : i = xs.length := by omega
    subst e
    exact .inl ⟨⟨xs, q, Nat.le_refl _⟩, hd H p⟩
end Gd

/-! Values of any kind: data, an empty dict, tuples of such. -/
namespace Gd
open PySem PySem.Spec PyProof.Rows L2
/-- data, or an empty dict -/
inductive Dv (K : PySem.W.Frag) (H : Hp) : V → PyData → Prop where
  | dp {v : V} {d : PyData} (h : Dp K H v d) : Dv K H v d
  | dic {a : Addr} (h : H a = some (.dK [])) : Dv K H (.ref a) (.dict [])
/-- such, or a tuple of such -/
inductive Dw (K : PySem.W.Frag) (H : Hp) : V → PyData → Prop where
  | dv {v : V} {d : PyData} (h : Dv K H v d) : Dw K H v d
  | tup {a : Addr} {xs : List V} {ds : List PyData} (h : SqT K H a xs) (hs : Paired (Dv K H) xs ds) : Dw K H (.ref a) (.tuple ds)
section
variable {K : PySem.W.Frag} {H H' : Hp}
theorem dv_same (e : Same H H') {v : V} {d : PyData} (h : Dv K H v d) : Dv K H' v d := by
  cases h with
  | dp h => exact .dp (dp_same e h)
  | dic h => exact .dic (e _ _ h)
theorem dvs_same (e : Same H H') : ∀ {xs : List V} {ds : List PyData}, Paired (Dv K H) xs ds → Paired (Dv K H') xs ds
  | _, _, .nil => .nil
  | _, _, .cons a b => .cons (dv_same e a) (dvs_same e b)
theorem dw_same (e : Same H H') {v : V} {d : PyData} (h : Dw K H v d) : Dw K H' v d := by
  cases h with
  | dv h => exact .dv (dv_same e h)
  | tup h hs => exact .tup (same_tup e h) (dvs_same e hs)
mutual
theorem dp_nodict : ∀ {d : PyData} {v : V}, Dp K H v d → d.hasDict = false
  | .none, _, _ => rfl
  | .bool _, _, _ => rfl
  | .int _, _, _ => rfl
  | .str _, _, _ => rfl
  | .list ds, _, h => by
    cases h with
    | lst a b => exact dps_nodict b
  | .tuple ds, _, h => by
    cases h with
    | tup a b => exact dps_nodict b
  | .dict _, _, h => by cases h
theorem dps_nodict : ∀ {ds : List PyData} {vs : List V}, DpAll K H vs ds → PyData.hasDictAll ds = false
  | [], _, _ => rfl
  | d :: ds, _, h => by
    cases h with
    | cons a b =>
      show (d.hasDict || PyData.hasDictAll ds) = false
      rw [dp_nodict a, dps_nodict b]
      rfl
end
end
/-- what repr wants of data -/
structure Sh (d : PyData) : Prop where
  sh : d.showable = true
  dp : d.depth ≤ 64
  len : d.shown.length ≤ sizeLine
section
variable {X : Cx} {pins : List (Addr × Obj)} {σ : L2.St} {H : Hp} {s : Shared}
theorem dic_reads (I : Inv X pins σ H s) {a : Addr} (h : H a = some (.dK [])) :
    Reads s.heap (.ref a) (.dict []) (a :: [] ++ []) ∧ a ≠ sysModules := by
  obtain ⟨_, hs, vs, kv, o, es, ep, ho, hex, hd, _, hp, _⟩ := (show ObjOk X.prog X.w H s.heap a (.dK []) from I.hok a _ h)
  cases kv
  have e : es = #[] := by
    have l := hp.length
    have l2 : es.toList.length = 0 := by simpa using l
    exact Array.toList_inj.mp (by simpa using List.length_eq_zero_iff.mp l2)
  subst e
  exact ⟨.dict ho hex.1 hd .nil .nil, fun z => by rw [z] at hs; exact absurd hs (by decide)⟩
theorem dv_reads (I : Inv X pins σ H s) {v : V} {d : PyData} {u : Value} (h : Dv X.K H v d) (r : RelV v u) :
    ∃ as, Reads s.heap u d as ∧ (d.hasDict = true → sysModules ∉ as) := by
  cases h with
  | dp h =>
    obtain ⟨as, z⟩ := Dp.reads I d v u h r
    exact ⟨as, z, fun y => by rw [dp_nodict h] at y; cases y⟩
  | dic h =>
    cases r
    obtain ⟨z, n⟩ := dic_reads I h
    exact ⟨_, z, fun _ y => n (List.mem_singleton.mp y).symm⟩
theorem shown_mem {ds : List PyData} {t : Str} (h : t ∈ PyData.shownAll ds) : t.length ≤ (tupleText (PyData.shownAll ds)).length := tupleText_mem_le h
theorem dvs_reads (I : Inv X pins σ H s) : ∀ {xs : List V} {ds : List PyData} {us : List Value}, Paired (Dv X.K H) xs ds → Vals xs us → ∃ as, ReadsAll s.heap us ds as
  | _, _, _, .nil, .nil => ⟨_, .nil⟩
  | _, _, _, .cons a b, .cons r rs => by
    obtain ⟨as, z, _⟩ := dv_reads I a r
    obtain ⟨bs, zs⟩ := dvs_reads I b rs
    exact ⟨_, .cons z zs⟩
theorem dvs_repr (prog : Program) (w : World) (I : Inv X pins σ H s) : ∀ {xs : List V} {ds : List PyData} {us : List Value}, Paired (Dv X.K H) xs ds → Vals xs us →
    PyData.showableAll ds = true → (∀ t ∈ PyData.shownAll ds, t.length ≤ sizeLine) →
    ∃ bs, ReadAtMost s.heap (PyData.depthAll ds) bs ∧ ReprAllK prog w bs s.heap (PyData.depthAll ds) us (PyData.shownAll ds)
  | _, _, _, .nil, .nil, _, _ => ⟨[], fun b hb => absurd hb List.not_mem_nil, .nil⟩
  | _, _, _, @Paired.cons _ _ _ _ d _ ds a b, .cons r rs, hs, hz => by
    have hs' : d.showable = true ∧ PyData.showableAll ds = true := by simpa [PyData.showableAll] using hs
    obtain ⟨as, z, nod⟩ := dv_reads I a r
    obtain ⟨b1, m1, k1⟩ := ReprK.of_reads (prog := prog) (w := w) z hs'.1 nod
      (hz _ (by simp only [PyData.shownAll]; exact List.mem_cons_self ..))
    obtain ⟨b2, m2, k2⟩ := dvs_repr prog w I b rs hs'.2
      (fun t ht => hz t (by simp only [PyData.shownAll]; exact List.mem_cons_of_mem _ ht))
    refine ⟨b1 ++ b2, ?_, ?_⟩
    · simp only [PyData.depthAll]
      exact (m1.mono (Nat.le_max_left _ _)).append (m2.mono (Nat.le_max_right _ _))
    · simp only [PyData.depthAll, PyData.shownAll]
      exact .cons ((k1.more fun c hc => List.mem_append_left _ hc).level_le (Nat.le_max_left _ _))
        (k2.more_le (fun c hc => List.mem_append_right _ hc) (Nat.le_max_right _ _))
end
section
variable {X : Cx}
/-- repr of any such value -/
theorem call_reprW (hgd : X.A.guards = some []) (hu : X.A.units + 65 < cLine) :
    CallR X (.builtin "repr") (fun xs H Q => ∃ v d, xs = [v] ∧ Dw X.K H v d ∧ Sh d ∧ Q (.str d.shown) H) := by
  intro pins s σ H xs us Q I r h
  obtain ⟨v, d, rfl, hd, ⟨hs, hp, hz⟩, q⟩ := h
  obtain ⟨u, rfl, rx⟩ := vals1 r
  have byref : ∀ a : Addr, v = .ref a → ∀ as, Reads s.heap (.ref a) d as → (d.hasDict = true → sysModules ∉ as) →
      wpAny (model X.prog X.w) X.A (call (.builtin "repr") [u]) (EP X pins σ Q) X.xe s := by
    intro a ev as rd nod
    subst ev
    cases rx
    refine repr_of_reads' rd hs nod hgd (by omega) (fun _ _ e => e) ?_ hz
    intro h' u tk hk
    exact ⟨.str d.shown, H, I.kept hk, ⟨_, rfl⟩, q⟩
  cases hd with
  | dv hd =>
    cases hd with
    | dp hd =>
      cases hd with
      | non =>
        cases rx
        exact PySem.P.repr_of_none ⟨.str _, H, I.tok _, ⟨_, rfl⟩, q⟩
      | bl b =>
        cases rx
        exact PySem.P.repr_of_bool ⟨.str _, H, I.tok _, ⟨_, rfl⟩, q⟩
      | int i =>
        obtain ⟨t, rfl⟩ := rx
        have hs' : i.natAbs.log2 < 1920 := by simpa [PyData.showable] using hs
        exact PySem.P.repr_of_int hs' ⟨.str _, H, I.tok _, ⟨_, rfl⟩, q⟩
      | str x =>
        obtain ⟨t, rfl⟩ := rx
        exact PySem.P.repr_of_str ⟨.str _, H, I.tok _, ⟨_, rfl⟩, q⟩ hz
      | lst a b =>
        obtain ⟨as, rd⟩ := Dp.reads I _ _ _ (.lst a b) rx
        cases rx
        exact byref _ rfl as rd fun y => by rw [dp_nodict (.lst a b)] at y; cases y
      | tup a b =>
        obtain ⟨as, rd⟩ := Dp.reads I _ _ _ (.tup a b) rx
        cases rx
        exact byref _ rfl as rd fun y => by rw [dp_nodict (.tup a b)] at y; cases y
    | dic hd =>
      cases rx
      obtain ⟨z, n⟩ := dic_reads I hd
      exact byref _ rfl _ z fun _ y => n (List.mem_singleton.mp y).symm
  | @tup a xs ds ht hv =>
    cases rx
    obtain ⟨its, rv, ⟨o, ho, hc, n, hdat⟩, _⟩ := I.tuple ht
    obtain ⟨as, rds⟩ := dvs_reads I hv rv
    have rd : Reads s.heap (.ref a) (.tuple ds) as := .tuple ho hc hdat rds
    have hz' : (tupleText (PyData.shownAll ds)).length ≤ sizeLine := by simpa only [PyData.shown] using hz
    obtain ⟨bs, mb, hk⟩ := dvs_repr X.prog X.w I hv rv (by simpa [PyData.showable] using hs)
      (fun t ht => Nat.le_trans (tupleText_mem_le ht) hz')
    have hna : a ∉ bs := not_mem_of_deeper rd (by simp only [PyData.depth]; omega) mb
    have hp' : PyData.depthAll ds + 1 ≤ 64 := by simpa [PyData.depth] using hp
    refine call_repr_slot (by omega) ⟨o, ho, hc⟩ PySem.F.slot_tuple_repr ?_
    refine call_tuple_reprK ho hc hdat hna hk (g := []) hgd (fun b _ => Clear.nil b)
      (by show X.A.units + 1 + (PyData.depthAll ds + 1) < cLine; omega) (fun _ _ e => e) ?_ hz'
    intro h' u tk hk'
    refine ⟨_, _, rfl, ?_⟩
    exact ⟨.str (PyData.tuple ds).shown, H, I.kept hk', ⟨u, by simp only [PyData.shown]⟩, q⟩
end
end Gd
namespace Gd
open PySem PySem.Spec PyProof.Rows L2
theorem call_reprW2 {X : Cx} {K : PySem.W.Frag} (hK : X.K = K) (hgd : X.A.guards = some []) (hu : X.A.units + 65 < cLine) :
    CallR X (.builtin "repr") (fun xs H Q => ∃ v d, xs = [v] ∧ Dw K H v d ∧ Sh d ∧ Q (.str d.shown) H) := by
  subst hK
  exact call_reprW hgd hu
end Gd

/-! Kinds of values, == with a text, exceptions of one field, a head that tells more. -/
namespace Gd
open PySem PySem.Spec PyProof.Rows L2
/-- the type of a datum -/
def tyD : PyData → String
  | .none => "NoneType"
  | .bool _ => "bool"
  | .int _ => "int"
  | .str _ => "str"
  | .list _ => "list"
  | .tuple _ => "tuple"
  | .dict _ => "dict"
section
variable {K : PySem.W.Frag} {H : Hp}
theorem dv_ty {v : V} {d : PyData} (h : Dv K H v d) : TyX K H v (.type (tyD d)) := by
  cases h with
  | dic h => exact .base (.dK h)
  | dp h =>
    cases h with
    | non => exact .base .non
    | bl b => exact .base (.bl b)
    | int i => exact .base (.int i)
    | str x => exact .base (.str x)
    | lst a b =>
      rcases a with (a | ⟨o, a⟩) | ⟨o, its, n, hk, hc, _⟩
      · exact .base (.lst a)
      · exact .base (.frz a)
      · exact .kList hk hc
    | tup a b =>
      rcases a with (a | ⟨o, a⟩) | ⟨o, its, n, hk, hc, _⟩
      · exact .base (.tup a)
      · exact .fTuple a
      · exact .kTuple hk hc
theorem dw_ty {v : V} {d : PyData} (h : Dw K H v d) : TyX K H v (.type (tyD d)) := by
  cases h with
  | dv h => exact dv_ty h
  | tup a b =>
    rcases a with (a | ⟨o, a⟩) | ⟨o, its, n, hk, hc, _⟩
    · exact .base (.tup a)
    · exact .fTuple a
    · exact .kTuple hk hc
def isTup : PyData → Bool
  | .tuple _ => true
  | _ => false
def isBool : PyData → Bool
  | .bool _ => true
  | _ => false
def isInt : PyData → Bool
  | .bool _ => true
  | .int _ => true
  | _ => false
def isStr : PyData → Bool
  | .str _ => true
  | _ => false
theorem kit_tup : ∀ d : PyData, PySem.W.kitOne K (.type (tyD d)) (.type "tuple") = some (isTup d)
  | .none => kit_ty (a := "NoneType") (b := "tuple") (r := false) (by decide +kernel)
  | .bool _ => kit_ty (a := "bool") (b := "tuple") (r := false) (by decide +kernel)
  | .int _ => kit_ty (a := "int") (b := "tuple") (r := false) (by decide +kernel)
  | .str _ => kit_ty (a := "str") (b := "tuple") (r := false) (by decide +kernel)
  | .list _ => kit_ty (a := "list") (b := "tuple") (r := false) (by decide +kernel)
  | .tuple _ => kit_ty (a := "tuple") (b := "tuple") (r := true) (by decide +kernel)
  | .dict _ => kit_ty (a := "dict") (b := "tuple") (r := false) (by decide +kernel)
theorem kit_bool : ∀ d : PyData, PySem.W.kitOne K (.type (tyD d)) (.type "bool") = some (isBool d)
  | .none => kit_ty (a := "NoneType") (b := "bool") (r := false) (by decide +kernel)
  | .bool _ => kit_ty (a := "bool") (b := "bool") (r := true) (by decide +kernel)
  | .int _ => kit_ty (a := "int") (b := "bool") (r := false) (by decide +kernel)
  | .str _ => kit_ty (a := "str") (b := "bool") (r := false) (by decide +kernel)
  | .list _ => kit_ty (a := "list") (b := "bool") (r := false) (by decide +kernel)
  | .tuple _ => kit_ty (a := "tuple") (b := "bool") (r := false) (by decide +kernel)
  | .dict _ => kit_ty (a := "dict") (b := "bool") (r := false) (by decide +kernel)
theorem kit_int : ∀ d : PyData, PySem.W.kitOne K (.type (tyD d)) (.type "int") = some (isInt d)
  | .none => kit_ty (a := "NoneType") (b := "int") (r := false) (by decide +kernel)
  | .bool _ => kit_ty (a := "bool") (b := "int") (r := true) (by decide +kernel)
  | .int _ => kit_ty (a := "int") (b := "int") (r := true) (by decide +kernel)
  | .str _ => kit_ty (a := "str") (b := "int") (r := false) (by decide +kernel)
  | .list _ => kit_ty (a := "list") (b := "int") (r := false) (by decide +kernel)
  | .tuple _ => kit_ty (a := "tuple") (b := "int") (r := false) (by decide +kernel)
  | .dict _ => kit_ty (a := "dict") (b := "int") (r := false) (by decide +kernel)
theorem kit_str : ∀ d : PyData, PySem.W.kitOne K (.type (tyD d)) (.type "str") = some (isStr d)
  | .none => kit_ty (a := "NoneType") (b := "str") (r := false) (by decide +kernel)
  | .bool _ => kit_ty (a := "bool") (b := "str") (r := false) (by decide +kernel)
  | .int _ => kit_ty (a := "int") (b := "str") (r := false) (by decide +kernel)
  | .str _ => kit_ty (a := "str") (b := "str") (r := true) (by decide +kernel)
  | .list _ => kit_ty (a := "list") (b := "str") (r := false) (by decide +kernel)
  | .tuple _ => kit_ty (a := "tuple") (b := "str") (r := false) (by decide +kernel)
  | .dict _ => kit_ty (a := "dict") (b := "str") (r := false) (by decide +kernel)
end
/-! ### == with a text -/
section
open AutoSeq1 (wpAny_loadPart')
theorem dict_declines_str (l : Addr) (es : Array DictEntry) (n : Nat) (dd : Option Addr) (sl : Array (Option Value)) (b : Str) (u : Tok) :
    Meets (Builtin.«dict.__eq__» ⟨[.ref l, .str b u], []⟩) (fun _ R s =>
      s.heap.get? l = some { cls := .type "dict", dict := dd, data := .dict es n, slots := sl } ∧ R (.ok (.ret .notImplemented)) s) := by
  refine .of_wp fun prog w A R s h => ?_
  obtain ⟨hp, g, d, tk, os⟩ := s
  obtain ⟨hl, h⟩ := h
  have f1 := F.sub_str_dict
  wp_walk using wpAny_loadPart' hl, wpAny_load hl
  exact ⟨_, rfl, h⟩
theorem str_declines_dict (b : Str) (u : Tok) (l : Addr) (c : Value) (es : Array DictEntry) (n : Nat) (dd : Option Addr) (sl : Array (Option Value)) :
    Meets (Builtin.«str.__eq__» ⟨[.str b u, .ref l], []⟩) (fun _ R s =>
      s.heap.get? l = some { cls := c, dict := dd, data := .dict es n, slots := sl } ∧ R (.ok (.ret .notImplemented)) s) := by
  refine .of_wp fun prog w A R s h => ?_
  obtain ⟨hp, g, d, tk, os⟩ := s
  obtain ⟨hl, h⟩ := h
  wp_walk using wpAny_loadPart' hl, wpAny_load hl
  exact ⟨_, rfl, h⟩
theorem eq_dict_str {prog : Program} {w : World} {A : Around} {E : Value → Shared → Prop} {s : Shared} {l : Addr} {o : Obj} {es : Array DictEntry} {n : Nat}
    (b : Str) (u : Tok) (ho : s.heap.get? l = some o) (hc : o.cls = .type "dict") (hd : o.data = .dict es n) (hu : A.units < cLine)
    {Q : Value → Shared → Prop} (h : Q (.bool false) s) : wpAny (model prog w) A (compareOp .Eq (.ref l) (.str b u)) Q E s := by
  obtain ⟨cls, dd, data, sl⟩ := o
  simp only at hc hd
  subst hc hd
  exact SeqAt.rc_eq_decline_or (k := false) ⟨_, ho, rfl⟩ (typeIs_str s b u) (by decide) F.sub_str_dict F.slot_dict_eq F.slot_str_eq_refl
    (fun _ hq => call_meets F.slot_dict_eq ⟨_, ho, rfl⟩ F.entry_dict_eq (F.args_dict_eq_2 _ _) (dict_declines_str l es n dd sl b u) ⟨ho, hq⟩)
    (fun _ hq => call_meets F.slot_str_eq_refl (typeIs_str s b u) F.entry_str_eq (F.args_str_eq_2 _ _) (str_declines_dict b u l (.type "dict") es n dd sl) ⟨ho, hq⟩)
    (fun _ hq => wpAny_of_eq (rfl : isSame (.ref l) (.str b u) = pure false) hq) (.inr hu) h
end
/-- whether a datum is this text -/
def sameStr (t : Str) : PyData → Bool
  | .str x => x == t
  | _ => false
section
variable {X : Cx}
theorem op_eqS (hu : X.A.units + 64 < cLine) : OpR X (compareOp .Eq) (fun x y H Q => ∃ d t, Dv X.K H x d ∧ y = .str t ∧
    PyData.strOk t = true ∧ (SeqAt.shaped d = true ∨ d = .dict []) ∧ Q (.bl (sameStr t d)) H) := by
  intro pins s σ H x y v u Q I rx ry h
  obtain ⟨d, t, hd, rfl, ht, hs, q⟩ := h
  obtain ⟨tk, rfl⟩ := ry
  cases hd with
  | dp hd =>
    have hs' : SeqAt.shaped d = true := by
      rcases hs with hs | rfl
      · exact hs
      · cases hd
    obtain ⟨as, r1⟩ := Dp.reads I d _ v hd rx
    have st : SeqAt.shaped (.str t) = true := by
      simp [SeqAt.shaped, PyData.canLay0, ht, PyData.depth]
    have e : PyData.eqv d (.str t) = sameStr t d := by
      cases d <;> simp [PyData.eqv, sameStr]
    refine SeqAt.compareEq_shaped r1 (Reads.str t tk) hs' st hu ⟨.bl _, H, I, rfl, ?_⟩
    rw [e]
    exact q
  | @dic a hd =>
    cases rx
    obtain ⟨_, _, vs, _, o, es, ep, ho, hex, hdt, _⟩ := (show ObjOk X.prog X.w H s.heap a (.dK []) from I.hok a _ hd)
    exact eq_dict_str t tk ho hex.1 hdt (by omega) ⟨.bl false, H, I, rfl, q⟩
end
/-! ### an exception of one field -/
/-- what such an __init__ promises -/
def spInit1 (f : Str) (K : PySem.W.Frag) : Sp := fun vs H Q _ => ∃ (a C : Addr) (y : V), vs = [.ref a, y] ∧ Xc K C ∧ PySem.W.findIn K (.ref C) f = some none ∧
  H a = some (exo a C none) ∧ ∀ dx, H dx = none → dx ≠ a → Q .non (upd (upd H dx (exd dx [(f, y)])) a (exo a C (some dx)))
theorem mk_one {K : PySem.W.Frag} {C : Addr} {f : Str} {y : V} {H1 : Hp} {Q : XK} (T : Xc K C) (no : PySem.W.findIn K (.ref C) f = some none)
    (h : ∀ d H', Same H1 H' → H1 d = none → H' d = some (.xd [(f, y)]) → Q (.ref C) (some d) H') : ∀ a, H1 a = none →
    spInit1 f K (.ref a :: ([y] ++ [])) (upd H1 a (exo a C none))
      (fun v H2 => v = .non ∧ ∃ (d : Addr) (fs : List (Str × V)), H2 a = some (exo a C (some d)) ∧ H2 d = some (exd d fs) ∧ H1 d = none ∧
        Q (.ref C) (some d) (upd (del H2 a) d (.xd fs))) (fun _ _ _ => False) := by
  intro a na
  refine ⟨a, C, y, rfl, T, no, upd_same, ?_⟩
  intro dx nd ne
  have nd1 : H1 dx = none := by
    rw [upd_ne ne] at nd
    exact nd
  refine ⟨rfl, dx, [(f, y)], upd_same, by rw [upd_ne ne, upd_same], nd1, ?_⟩
  refine h dx _ ?_ nd1 upd_same
  intro b o hb
  have ba : b ≠ a := ne_of_none hb na
  have bd : b ≠ dx := ne_of_none hb nd1
  rw [upd_ne bd, del_ne ba, upd_ne ba, upd_ne bd, upd_ne ba]
  exact hb
/-! ### a head that tells more -/
/-- the facts by names, and any further one that is decided -/
def hookX (n : Nat) (fa : List He.Fa) (fn : List He.DefD) (ex : PySem.W.Frag → Bool) : PySem.W.Hook where
  α := He.AlD × Bool
  obs := fun s => (He.obsDG n fa fn s.heap.get?, ex (He.frG s.heap.get? (He.asD s.heap.get? n)))
  val := fun _ => (He.valD fn, true)
  says := fun _ h => ∃ K : PySem.W.Frag, K.In h ∧ He.SaysD fa fn K ∧ ex K = true
  of := fun _ _ e => ⟨_, He.frG_in, congrArg (fun z : He.AlD × Bool => z.1) e, congrArg (fun z : He.AlD × Bool => z.2) e⟩
  keeps := fun _ _ _ ⟨K, hK, c⟩ k => ⟨K, PySem.W.Frag.In.keeps hK k, c⟩
def obsX (n : Nat) (fa : List He.Fa) (fn : List He.DefD) (ex : PySem.W.Frag → Bool) (g : Addr → Option Obj) : He.AlD × Bool :=
  (He.obsDG n fa fn g, ex (He.frG g (He.asD g n)))
theorem obsX_eq {n : Nat} {fa : List He.Fa} {fn : List He.DefD} {ex : PySem.W.Frag → Bool} {g : Addr → Option Obj} {s : Shared} (h : ∀ a, g a = s.heap.get? a) :
    obsX n fa fn ex g = (hookX n fa fn ex).obs s := by
  have e : g = s.heap.get? := funext h
  rw [e]
  rfl
/-- what is decided of an exception class by its name -/
def exB (K : PySem.W.Frag) (x : Str) (bmB : List Value) (newId : String) (fs : List Str) : Bool :=
  xcB K (He.ga K x) bmB newId && (decide (PySem.W.findIn K (.ref (He.ga K x)) "__init__" = some (some (.ref (He.ma K (He.ga K x) "__init__")))) &&
    (decide (PySem.W.typeIn K (.ref (He.ma K (He.ga K x) "__init__")) = some (.type "function")) &&
      fs.all fun f => decide (PySem.W.findIn K (.ref (He.ga K x)) f = some none)))
structure Xn (K : PySem.W.Frag) (x : Str) (fs : List Str) : Prop where
  c : Xc K (He.ga K x)
  i : PySem.W.findIn K (.ref (He.ga K x)) "__init__" = some (some (.ref (He.ma K (He.ga K x) "__init__")))
  t : PySem.W.typeIn K (.ref (He.ma K (He.ga K x) "__init__")) = some (.type "function")
  no : ∀ f ∈ fs, PySem.W.findIn K (.ref (He.ga K x)) f = some none
theorem exB_ok {K : PySem.W.Frag} {x : Str} {B newId initId : String} {bmB : List Value} {fs : List Str} (F : Bas B newId initId bmB) (h : exB K x bmB newId fs = true) : Xn K x fs := by
  obtain ⟨h1, h⟩ := ba2 h
  obtain ⟨h2, h⟩ := ba2 h
  obtain ⟨h3, h4⟩ := ba2 h
  exact ⟨xcB_ok F h1, of_decide_eq_true h2, of_decide_eq_true h3, fun f hf => of_decide_eq_true (List.all_eq_true.mp h4 f hf)⟩
end Gd

/-! Own exceptions as values: made by position and by keyword, their fields, isinstance of them. -/
namespace PySem
namespace GdK
section
open Builtin
variable {prog : Program} {w : World} {A : Around} {E : Value → Shared → Prop} {R : Result → Shared → Prop} {M : Model}
variable {h : Heap} {g : Array GenState} {d : Drawn} {t : Nat} {os : OsState} {kw : List (Str × Value)} {rest : List Value}
variable {nm q : Str} {C N : Addr} {bs bm bmB : List Value} {hdct : Bool} {sn : List Str} {sub : List Value} {ab : Bool}
variable {col : Option Bool} {dd : Option Addr} {k0 k1 k2 k3 k5 : Option Value} {B newId initId : String}
theorem chkNewK (F : ExcBaseFacts B newId initId bmB) (hT : ∀ X : String, bm.contains (.type X) = bmB.contains (.type X)) {Q : Unit → Shared → Prop}
    (hC : h.get? C = some (excClassObj nm q C N bs bm hdct sn sub ab col dd k0 k1 k2 k3 k5 newId))
    (hq : Q () ⟨h, g, d, t, os⟩) : wpAny M A (checkBuiltinCall newId ⟨.ref C :: rest, kw⟩) Q E ⟨h, g, d, t, os⟩ := by
  have c1 : (Value.ref C :: bm).contains (.type B) = true := by
    rw [List.contains_cons, hT, F.hasB, Bool.or_true]
  have c2 := F.noStar
  simp only [checkBuiltinCall, F.newKind, F.newSplit, F.newRow]
  repeat (first
    | refine wpAny_loadPart_at hC ?_
    | (refine wpAny_isSubtype_exc hC ?_; rw [c1])
    | refine wpAny_staticBase_exc hC ?_
    | refine wpAny_madeBy_exc hC ?_
    | simp only [bne_self_eq_false, Bool.false_eq_true, if_false]
    | wp_step)
  exact hq
theorem newK (F : ExcBaseFacts B newId initId bmB) (hT : ∀ X : String, bm.contains (.type X) = bmB.contains (.type X))
    (hC : h.get? C = some (excClassObj nm q C N bs bm hdct sn sub ab col dd k0 k1 k2 k3 k5 newId)) (hr : rest.length ≤ sizeLine)
    (hq : R (.ok (.ret (.ref (h.objs.size + 1)))) ⟨(h.push (PySem.W.kdv_tup rest)).push (PySem.HandSPX.excO C h.objs.size), g, d, t, os⟩) :
    codeAny (model prog w) A (.builtin newId ⟨.ref C :: rest, kw⟩) R ⟨h, g, d, t, os⟩ := by
  have ends := F.ends
  have c1 : (Value.ref C :: bm).contains (.type B) = true := by
    rw [List.contains_cons, hT, F.hasB, Bool.or_true]
  have c2 : (Value.ref C :: bm).contains (.type "AttributeError") = false := by
    rw [List.contains_cons, hT, F.noAttr]
    rfl
  have c3 : (Value.ref C :: bm).contains (.type "NameError") = false := by
    rw [List.contains_cons, hT, F.noName]
    rfl
  refine codeAny_builtinAt F.entry ?_
  unfold Builtin.«BaseException.__new__»
  refine wpAt_bind ?_
  show wpAt _ _ _ (stack >>= _) _ _ _
  refine wpAt_bind (wpAt_stack fun p below => wpAt_of_wpAny ?_)
  wp_walk
  refine wpAt_of_wpAny ?_
  rw [F.owner]
  repeat (first
    | with_reducible refine wpAny_madeHere_exc F.canon hC ?_
    | with_reducible refine wpAny_loadPart_at hC ?_
    | (with_reducible refine wpAny_isSubtype_exc hC ?_; first | rw [c1] | rw [c2] | rw [c3])
    | wp_step)
  show R _ _
  rw [Heap.size_push]
  exact hq
theorem typeCallK {fI : Addr} {Q : Fin → Shared → Prop} (F : ExcBaseFacts B newId initId bmB) (hT : ∀ X : String, bm.contains (.type X) = bmB.contains (.type X))
    (hC : h.get? C = some (excClassObj nm q C N bs bm hdct sn sub ab col dd k0 k1 k2 k3 k5 newId))
    (hi : PySem.W.Looks (model prog w) h (typeLookup (.ref C) "__init__") (some (.ref fI)))
    (hb : ∀ self, PySem.W.Looks (model prog w) h (bindSpecial (.ref fI) self) (.ref fI, [self])) (hr : rest.length ≤ sizeLine)
    (hq : codeAny (model prog w) A (.call (.ref fI) ⟨.ref (h.objs.size + 1) :: rest, kw⟩)
      (fun r s' => match r with
        | .ok (.ret v) => v = .none ∧ Q (.done (.ret (.ref (h.objs.size + 1)))) s'
        | .ok _ => False
        | .error e => E e s')
      ⟨(h.push (PySem.W.kdv_tup rest)).push (PySem.HandSPX.excO C h.objs.size), g, d, t, os⟩) :
    wpAny (model prog w) A (Builtin.«type.__call__» ⟨.ref C :: rest, kw⟩) Q E ⟨h, g, d, t, os⟩ := by
  repeat (first
    | with_reducible refine wpAny_loadPart_at hC ?_
    | with_reducible refine wpAny_madeBy_exc hC ?_
    | wp_step)
  refine codeAny_call_builtin_code (Code.quiet_builtin _ F.quiet) (chkNewK F hT hC ?_)
  refine newK F hT hC hr ?_
  show wpAny _ _ _ _ _ _
  have keep : ∀ b o, h.get? b = some o → ((h.push (PySem.W.kdv_tup rest)).push (PySem.HandSPX.excO C h.objs.size)).get? b = some o :=
    fun b o e => Heap.get?_push_of_some _ (Heap.get?_push_of_some _ e)
  have hC2 := keep _ _ hC
  have made : ((h.push (PySem.W.kdv_tup rest)).push (PySem.HandSPX.excO C h.objs.size)).get? (h.objs.size + 1) = some (PySem.HandSPX.excO C h.objs.size) := by
    heap_get
  have c4 : (Value.ref C :: bm).contains (.ref C) = true := by simp
  have i1 := hi.keeps keep
  have b1 := (hb (.ref (h.objs.size + 1))).keeps keep
  unfold isInstance
  repeat (first
    | with_reducible refine wpAny_loadPart_at made ?_
    | (with_reducible refine wpAny_isSubtype_exc hC2 ?_; rw [c4])
    | wp_step)
  show wpAny _ _ (typeLookup (.ref C) _) _ _ _
  refine i1.at ?_
  refine wpAny_holding (wpAny_bind (b1.at ?_))
  refine wpAny_bind (wpAny_call (codeAny_mono hq fun r s' z => ?_))
  rcases r with e | fl
  · exact z
  cases fl with
  | next => exact z.elim
  | brk => exact z.elim
  | cont => exact z.elim
  | ret v =>
    obtain ⟨y1, y2⟩ := z
    subst y1
    first
      | exact wpAny_pure (wpAny_pure y2)
      | (wp_walk; exact y2)
theorem chkTypeK {Q : Unit → Shared → Prop} (hC : h.get? C = some (excClassObj nm q C N bs bm hdct sn sub ab col dd k0 k1 k2 k3 k5 newId))
    (hq : Q () ⟨h, g, d, t, os⟩) : wpAny M A (checkBuiltinCall "type.__call__" ⟨.ref C :: rest, kw⟩) Q E ⟨h, g, d, t, os⟩ := by
  have f3 := tc_sub
  have hTy : (⟨h, g, d, t, os⟩ : Shared).TypeIs (.ref C) "type" := ⟨_, hC, rfl⟩
  simp only [checkBuiltinCall, tc_kind, tc_split]
  repeat (any_goals (first
    | assumption
    | with_reducible refine wpAny_loadPart_at hC ?_
    | with_reducible refine wpAny_onRaise ?_
    | with_reducible refine wpAny_map ?_
    | wp_step))
theorem callK {fI : Addr} (F : ExcBaseFacts B newId initId bmB) (hT : ∀ X : String, bm.contains (.type X) = bmB.contains (.type X))
    (hC : h.get? C = some (excClassObj nm q C N bs bm hdct sn sub ab col dd k0 k1 k2 k3 k5 newId))
    (hi : PySem.W.Looks (model prog w) h (typeLookup (.ref C) "__init__") (some (.ref fI)))
    (hb : ∀ self, PySem.W.Looks (model prog w) h (bindSpecial (.ref fI) self) (.ref fI, [self])) (hr : rest.length ≤ sizeLine)
    (hq : codeAny (model prog w) (A.under (.builtin "type.__call__" ⟨.ref C :: rest, kw⟩)) (.call (.ref fI) ⟨.ref (h.objs.size + 1) :: rest, kw⟩)
      (PySem.W.InitBack (h.objs.size + 1) R) ⟨(h.push (PySem.W.kdv_tup rest)).push (PySem.HandSPX.excO C h.objs.size), g, d, t, os⟩) :
    codeAny (model prog w) A (.call (.ref C) ⟨rest, kw⟩) R ⟨h, g, d, t, os⟩ := by
  have f1 := tc_lookup
  have f2 := tc_bind (.ref C)
  have hTy : (⟨h, g, d, t, os⟩ : Shared).TypeIs (.ref C) "type" := ⟨_, hC, rfl⟩
  refine codeAny_of_tree ?_
  show wpAny _ _ (callAny (.ref C) _) _ _ _
  repeat (any_goals (first
    | assumption
    | with_reducible refine wpAny_loadPart_at hC ?_
    | wp_step))
  refine ⟨rfl, ?_⟩
  refine codeAny_call_builtin_at (Code.quiet_builtin _ (by decide +kernel)) entry_typeCall (chkTypeK hC ?_)
  refine typeCallK F hT hC hi hb hr ?_
  refine codeAny_mono hq fun r s' z => ?_
  rcases r with e | fl
  · exact z
  · cases fl <;> exact z
end
end GdK
end PySem
namespace Gd
open PySem PySem.Spec PyProof.Rows L2
/-- an exception object that is a value: its class, its fields -/
def ExAt (H : Hp) (a C : Addr) (fs : List (Str × V)) : Prop := ∃ d, H a = some (exo a C (some d)) ∧ H d = some (exd d fs)
/-- .. or without a dict -/
def ExAny (H : Hp) (a C : Addr) : Prop := H a = some (exo a C none) ∨ ∃ fs, ExAt H a C fs
theorem exat_same {H H' : Hp} {a C : Addr} {fs : List (Str × V)} (e : Same H H') (h : ExAt H a C fs) : ExAt H' a C fs := by
  obtain ⟨d, x, y⟩ := h
  exact ⟨d, e _ _ x, e _ _ y⟩
theorem exany_same {H H' : Hp} {a C : Addr} (e : Same H H') (h : ExAny H a C) : ExAny H' a C := by
  rcases h with h | ⟨fs, h⟩
  · exact .inl (e _ _ h)
  · exact .inr ⟨fs, exat_same e h⟩
def rIsX (K : PySem.W.Frag) : List V → Hp → VK → Prop := fun xs H Q => ∃ a C c cv b, xs = [.ref a, c] ∧ ExAny H a C ∧ ExcC K C ∧ (∀ u, RelV c u → u = cv) ∧
  PySem.W.kitOne K (.ref C) cv = some b ∧ Q (.bl b) H
/-- C(e, ..) as a value -/
def tMx (C : Addr) (sp : Sp) (t : TA) : TE := fun σ H Q => t σ H fun vs H1 => vs.length ≤ 1000 ∧ ∀ a, H1 a = none →
  sp (.ref a :: vs) (upd H1 a (exo a C none)) (fun v H2 => v = .non ∧ Q (.ref a) H2) fun _ _ _ => False
/-- C(k = e, ..) as a value -/
def tMxK (C : Addr) (sp : Sp) (m : Nat) (gV : List V → List V → List V) (t : TA) : TE := fun σ H Q => t σ H fun zs H1 => zs.length = m ∧ ∀ a, H1 a = none →
  sp (gV [.ref a] zs) (upd H1 a (exo a C none)) (fun v H2 => v = .non ∧ Q (.ref a) H2) fun _ _ _ => False
section
variable {X : Cx} {pins : List (Addr × Obj)} {σ : L2.St} {H : Hp} {s : Shared}
variable {CX : CXT} {x : Str} {C fI : Addr} {k : Nat} {fd : FuncData} {ps ks : List Str} {sp : Sp} {ds : List Value} {dvs : List V}
variable {e : Expr} {es : List Expr} {t : TA} {p pos : Pos} {kws : List Keyword}
theorem run_mx {Q : VK} {us : List Value} {kw : List (Str × Value)} {al : Value → List Value} {av : V → List V}
    (T : Xc X.K C) (iC : PySem.W.findIn X.K (.ref C) "__init__" = some (some (.ref fI)))
    (tI : PySem.W.typeIn X.K (.ref fI) = some (.type "function"))
    (F1 : FnOk X.prog X.w X.K X.mg X.base CX k fI fd ps sp) (hr : Room (k + 1) X.A)
    (hx : Passes CX X (fun _ _ _ => False)) (I : Inv X pins σ H s) (hus : us.length ≤ sizeLine)
    (hb : ∀ (s' : Shared) (u : Value), X.K.In s'.heap → (al u).length = ps.length → BindsTo s' fd ⟨u :: us, kw⟩ (ps.zip (al u)))
    (hv : ∀ a : Addr, Vals (av (.ref a)) (al (.ref a)))
    (h : ∀ a, H a = none → sp (av (.ref a)) (upd H a (exo a C none)) (fun v H2 => v = .non ∧ Q (.ref a) H2) fun _ _ _ => False) :
    wpAny (model X.prog X.w) X.A (call (.ref C) us kw) (EP X pins σ Q) X.xe s := by
  obtain ⟨B, newId, initId, bmB, F, hi, ho⟩ := T.bas
  obtain ⟨hp, g, dr, tk, os⟩ := s
  obtain ⟨nm, N, qn, bs, bm, hdct, sn, sub, ab, col, dd, k0, k1, k2, k3, k5, hC, hT⟩ := PySem.W.excInit_of I.kIn hi
  have over : hp.objs.size ≤ hp.objs.size + 1 := Nat.le_succ _
  have hq := h (hp.objs.size + 1) (I.hok.fresh over)
  have kk : ∀ b o, hp.get? b = some o →
      ((hp.push (PySem.W.kdv_tup us)).push (PySem.HandSPX.excO C hp.objs.size)).get? b = some o :=
    fun b o z => Heap.get?_push_of_some _ (Heap.get?_push_of_some _ z)
  have hget : ((hp.push (PySem.W.kdv_tup us)).push (PySem.HandSPX.excO C hp.objs.size)).get? (hp.objs.size + 1) =
      some (PySem.HandSPX.excO C hp.objs.size) := by heap_get
  have I2 : Inv X pins σ (upd H (hp.objs.size + 1) (exo (hp.objs.size + 1) C none))
      ⟨(hp.push (PySem.W.kdv_tup us)).push (PySem.HandSPX.excO C hp.objs.size), g, dr, tk, os⟩ :=
    I.laid (t' := tk) (a := hp.objs.size + 1) (o := exo (hp.objs.size + 1) C none)
      (h' := (hp.push (PySem.W.kdv_tup us)).push (PySem.HandSPX.excO C hp.objs.size)) kk over (exo_ok hget)
  have r2 := hv (hp.objs.size + 1)
  have hl : (al (.ref (hp.objs.size + 1))).length = ps.length := r2.length.symm.trans (F1.len _ _ _ _ hq)
  refine wpAny_call (GdK.callK F.FB hT hC (PySem.W.looks_findIn I.kIn iC)
    (fun self => PySem.W.bind_fn I.kIn self tI) hus (codeAny_mono (F1.run _ X.stack _ _
      ⟨Value.ref (hp.objs.size + 1) :: us, kw⟩ (al (.ref (hp.objs.size + 1))) _ _ (fun _ _ _ => False)
      (hr.make C us kw) (I2.env0.make C us kw) (hb _ _ I2.kIn hl) r2 hq) ?_))
  intro r s' hq'
  rcases r with er | fl
  · exact hx pins σ _ _ er s' I2 hq'
  cases fl with
  | next => exact hq'.elim
  | brk => exact hq'.elim
  | cont => exact hq'.elim
  | ret u =>
    obtain ⟨v, H', I3, rv, ev, q3⟩ := I2.after hq'
    subst ev
    exact ⟨rv, ⟨V.ref (hp.objs.size + 1), H', I3, rfl, q3⟩⟩
theorem pe_mx (T : Xc X.K C) (iC : PySem.W.findIn X.K (.ref C) "__init__" = some (some (.ref fI)))
    (tI : PySem.W.typeIn X.K (.ref fI) = some (.type "function"))
    (F1 : FnOk X.prog X.w X.K X.mg X.base CX k fI fd ps sp) (hr : Room (k + 1) X.A)
    (hb : Binds X.K fd ps []) (hx : Passes CX X (fun _ _ _ => False))
    (hg : Gl X x) (hm : X.mg x = some (.ref C)) (ha : PA X (e :: es) t)
    (hdb : (x == ("__debug__" : Str)) = false := by decide)
    (he : starEach (e :: es) X.env = (false, eval e X.env) :: starEach es X.env := by rfl)
    (hpl : (backTo pos (starEach es X.env)).any (·.1) = false := by rfl) :
    PE X (.Call (.Name x p) (e :: es) [] pos) (tMx C sp t) := by
  refine ⟨?_⟩
  intro pins s σ H Q I h
  refine wpAny_Call_Name_kw (ld_glob I hg hm ?_ hdb)
  refine PySem.W.callWith_K (h₀ := X.base) I.ok.mod.kin T.kC ?_ he hpl
  refine thn (ha.run pos pins s σ H _ I h) fun us s1 ⟨vs, H1, I1, r1, hz, q1⟩ => ⟨I1.kIn, ?_⟩
  show wpAny _ _ (call (.ref C) us) _ _ _
  refine run_mx (al := fun u => u :: us) (av := fun v => v :: vs) T iC tI F1 hr hx I1 ?_ ?_ (fun a => .cons rfl r1) q1
  · rw [← Paired.length r1, sizeLine_eq]
    omega
  · intro s' u hk hl
    have z := hb s' (u :: us) hk (by rw [List.append_nil]; exact hl)
    rw [List.append_nil] at z
    exact z
theorem pe_mk {g : List Value → List Value → List Value} {gV : List V → List V → List V}
    (T : Xc X.K C) (iC : PySem.W.findIn X.K (.ref C) "__init__" = some (some (.ref fI)))
    (tI : PySem.W.typeIn X.K (.ref fI) = some (.type "function"))
    (F1 : FnOk X.prog X.w X.K X.mg X.base CX k fI fd ps sp) (hr : Room (k + 1) X.A)
    (hb : KBn X.K fd ps 1 ks g gV) (hx : Passes CX X (fun _ _ _ => False))
    (hg : Gl X x) (hm : X.mg x = some (.ref C)) (hkw : PK X kws t)
    (hall : (backToKw pos (keywordEach kws X.env)).all (·.1.isSome) = true := by rfl)
    (hks : (backToKw pos (keywordEach kws X.env)).filterMap (·.1) = ks := by rfl)
    (hdb : (x == ("__debug__" : Str)) = false := by decide)
    (hpl : ((backTo pos (starEach [] X.env)).any (·.1) || (backToKw pos (keywordEach kws X.env)).any (·.1.isNone)) = false := by rfl) :
    PE X (.Call (.Name x p) [] kws pos) (tMxK C sp ks.length gV t) := by
  refine ⟨?_⟩
  intro pins s σ H Q I h
  refine wpAny_Call_Name_kw (ld_glob I hg hm ?_ hdb)
  refine PySem.W.callWith_KW0 (h₀ := X.base) I.ok.mod.kin T.kC hall ?_ hpl
  refine thn (hkw.run pos pins s σ H _ I h) fun ws s2 ⟨zs, H2, I2, rz, l2, q2⟩ => ⟨I2.kIn, ?_⟩
  rw [hks]
  refine run_mx (al := fun u => g [u] ws) (av := fun v => gV [v] zs) T iC tI F1 hr hx I2 (Nat.zero_le _) ?_ (fun a => hb.rel (.cons rfl .nil) rz) q2
  intro s' u hk _
  exact hb.to s' [u] ws hk rfl (rz.length.symm.trans l2)
/-- C() of a class without an __init__ -/
theorem pe_m0 {bmB : List Value} {B newId initId : String} (F : ExcBaseFacts B newId initId bmB) (q : PySem.W.excIn X.K C bmB newId = true)
    (kC : PySem.W.keepIn X.K (.ref C) = true) (hg : Gl X x) (hm : X.mg x = some (.ref C)) (hdb : (x == ("__debug__" : Str)) = false := by decide) :
    PE X (.Call (.Name x p) [] [] pos) (fun _ H Q => ∀ a, H a = none → Q (.ref a) (upd H a (exo a C none))) := by
  refine ⟨?_⟩
  intro pins s σ H Q I h
  refine wpAny_Call_Name_kw (ld_glob I hg hm ?_ hdb)
  refine PySem.W.callWith_K0 I.kIn kC ?_
  show wpAny _ _ (call (.ref C) []) _ _ _
  obtain ⟨bm, N, nm, qn, bs, hdct, sn, sub, ab, col, dd, k0, k1, k2, k3, k5, mN, hC, hN, hni, T⟩ := exc_obj I.kIn q
  refine wpAny_call_exc_subT F T hC hN hni (fun h' a hm => ?_) (Nat.zero_le _)
  have hn : H a = none := I.hok.gone hm.new
  obtain ⟨t, ht, _, _⟩ := hm.there
  exact ⟨.ref a, _, I.laidN hm.keeps hm.new hn (exo_ok ht), rfl, h a hn⟩
/-- e.f of such a value -/
def tXg (K : PySem.W.Frag) (f : Str) (te : TE) : TE := fun σ H Q => te σ H fun x H1 => ∃ a C fs v, x = .ref a ∧ ExAt H1 a C fs ∧ XfC K C ∧
  PySem.W.findIn K (.ref C) f = some none ∧ fs.lookup f = some v ∧ Q v H1
theorem pe_xg {n : Str} {te : TE} (he : PE X e te) (hb : attributeBase e n X.env (eval e X.env) = eval e X.env := by rfl) :
    PE X (.Attribute e n pos) (tXg X.K n te) := by
  refine ⟨?_⟩
  intro pins s σ H Q I h
  refine attr_of hb (thn (he.run pins s σ H _ I h) fun u s1 hh => ?_)
  obtain ⟨x, H1, I1, rx, a, C, fs, v, ex, ⟨d, ea, ed⟩, T, hno, l, q⟩ := hh
  subst ex
  obtain rfl : u = Value.ref a := rx
  obtain ⟨t1, ho⟩ := exo_at I1.hok ea
  obtain ⟨mA, hns, rel⟩ := exd_at I1.hok ed
  obtain ⟨od, hd, hl⟩ := lookIn_ns hns
  obtain ⟨u, hu, ru⟩ := RelO.some_of (v := v) (o := mA n) (by rw [← l]; exact rel n)
  have J : PySem.W.InstAt s1.heap a { cls := .ref C, dict := some d, data := .fields #[.ref t1, .none, .none, .none, .bool false, .none] } C (some od) :=
    ⟨ho, rfl, rfl, hd⟩
  exact HandSPX.exc_get I1.kIn J T.ga T.gg T.exC (PySem.W.findObj_own T.hdC hno rfl (by rw [hl, hu])) (handed_of ru) ⟨v, H1, I1.tok _, ru, q⟩
/-- isinstance of such a value -/
theorem call_isX {K : PySem.W.Frag} (hK : X.K = K) : CallR X (.builtin "isinstance") (rIsX K) := by
  subst hK
  intro pins s σ H xs us Q I r h
  obtain ⟨a, C, c, cv, b, rfl, hx, T, hc, e, q⟩ := h
  cases r with
  | cons rx rr =>
    cases rr with
    | cons rt rr =>
      cases rr
      cases rx
      have ec := hc _ rt
      subst ec
      obtain ⟨cd, hcd, _⟩ := PySem.W.any_some T.hd
      have some1 : (PySem.W.clsIn X.K C).isSome = true := by rw [hcd]; rfl
      rcases hx with hx | ⟨fs, d, hx, ed⟩
      · obtain ⟨t1, ho⟩ := exo_at I.hok hx
        have J : PySem.W.InstAt s.heap a { cls := .ref C, dict := none, data := .fields #[.ref t1, .none, .none, .none, .bool false, .none] } C none :=
          ⟨ho, rfl, rfl, trivial⟩
        exact PySem.W.kia_one (PySem.W.kitx_exc some1 T.hg T.hk T.hs T.ha T.hn T.ht T.hm) I.kIn J e (fun z => nomatch z)
          fun tk => ⟨.bl b, H, I.kept (t' := tk) fun _ _ z => z, rfl, q⟩
      · obtain ⟨t1, ho⟩ := exo_at I.hok hx
        obtain ⟨mA, hns, rel⟩ := exd_at I.hok ed
        obtain ⟨od, hd, hl⟩ := lookIn_ns hns
        have J : PySem.W.InstAt s.heap a { cls := .ref C, dict := some d, data := .fields #[.ref t1, .none, .none, .none, .bool false, .none] } C (some od) :=
          ⟨ho, rfl, rfl, hd⟩
        exact PySem.W.kia_one (PySem.W.kitx_exc some1 T.hg T.hk T.hs T.ha T.hn T.ht T.hm) I.kIn J e (fun z => nomatch z)
          fun tk => ⟨.bl b, H, I.kept (t' := tk) fun _ _ z => z, rfl, q⟩
end
end Gd
namespace Gd
open PySem PySem.Spec PyProof.Rows L2
def rV (K : PySem.W.Frag) : List V → Hp → VK → Prop := fun xs H Q => ∃ a vs ds, xs = [.ref a] ∧ SqL K H a vs ∧ Paired (Dv K H) vs ds ∧ ds ≠ [] ∧ Sh (.list ds) ∧
  Q (.str (PyData.list ds).shown) H
/-- repr of a list of values, empty dicts among them -/
theorem call_reprV {X : Cx} {K : PySem.W.Frag} (hK : X.K = K) (hgd : X.A.guards = some []) (hu : X.A.units + 65 < cLine) :
    CallR X (.builtin "repr") (rV K) := by
  subst hK
  intro pins s σ H xs us Q I r h
  obtain ⟨a, vs, ds, rfl, hq, hv, hne, ⟨hs, hp, hz⟩, q⟩ := h
  obtain ⟨u, rfl, rx⟩ := vals1 r
  cases rx
  obtain ⟨its, rv, ⟨o, n, ho, hc, _, hdat⟩, _⟩ := I.list hq
  obtain ⟨as, rds⟩ := dvs_reads I hv rv
  have rd : Reads s.heap (.ref a) (.list ds) (a :: as) := .list ho hc hdat rds
  have hz' : (listText (PyData.shownAll ds)).length ≤ sizeLine := by simpa only [PyData.shown] using hz
  obtain ⟨bs, mb, hk⟩ := dvs_repr X.prog X.w I hv rv (by simpa [PyData.showable] using hs)
    (fun t ht => Nat.le_trans (listText_mem_le ht) hz')
  have hna : a ∉ bs := not_mem_of_deeper rd (by simp only [PyData.depth]; omega) mb
  have hp' : PyData.depthAll ds + 1 ≤ 64 := by simpa [PyData.depth] using hp
  cases its with
  | nil =>
    cases rv
    cases hv
    exact absurd rfl hne
  | cons x its =>
    refine call_repr_slot (by omega) ⟨o, ho, hc⟩ PySem.F.slot_list_repr.toG ?_
    refine call_list_reprK ho hc hdat hna (by rw [hk.length_eq]; simp) ?_ (g := []) hgd (fun b _ => Clear.nil b)
      (by show X.A.units + 1 + (PyData.depthAll ds + 1) < cLine; omega) (fun _ _ e => e) ?_ hz'
    · intro i y hy
      exact hk.item i y (by simpa using hy)
    intro h' u tk hk'
    refine ⟨_, _, rfl, ?_⟩
    exact ⟨.str (PyData.list ds).shown, H, I.kept hk', ⟨u, by simp only [PyData.shown]⟩, q⟩
/-- f(k = e, ..) of a def without defaults -/
theorem kbN {K : PySem.W.Frag} {x qual : Str} {params : Arguments} {body : List Stmt} {scope : Scope} {kws : List (Str × V)} {f : Addr} {fd : FuncData} {ps : List Str}
    (F : FunD K x qual params body scope [] kws f fd) (n : Nat) (ks : List Str) (g : {α : Type} → List α → List α → List α)
    (hrel : ∀ {vs zs : List V} {us ws : List Value}, Vals vs us → Vals zs ws → Vals (g vs zs) (g us ws))
    (h : ∀ (kV doc pm : Value) (an : Option Addr) (cdv ct : Value) (us ws : List Value), us.length = n → ws.length = ks.length →
      bindArgs (PySem.W.fnOf x qual params body scope .none kV doc pm an cdv ct) ⟨us, ks.zip ws⟩ = pure (ps.zip (g us ws))) :
    KBn K fd ps n ks (fun us ws => g us ws) (fun vs zs => g vs zs) := by
  obtain ⟨oc, od, dV, kV, doc, pm, an, cdv, ct, osl, rfl, lk, hcd, hD, hK⟩ := F.ex
  rcases hD with ⟨_, rfl⟩ | ⟨e, _⟩
  · exact ⟨fun s us ws _ l1 l2 => .of_eq (h kV doc pm an cdv ct us ws l1 l2), hrel⟩
  · exact absurd rfl e
end Gd
namespace Gd
open PySem PySem.Spec PyProof.Rows L2
theorem op_neK {X : Cx} {K : PySem.W.Frag} (hK : X.K = K) (hu : X.A.units + 64 < cLine) : OpR X (compareOp .NotEq) (rNeD K) := by
  subst hK
  exact op_neD hu
end Gd
namespace Gd
open PySem PySem.Spec PyProof.Rows L2
theorem seq_set {te : TE} {i : Nat} {r : TS} {D : Ends} {σ : L2.St} {H : Hp} (h : te σ H fun v H1 => r D (σ.set i (some v)) H1) : tSeq (tAsg te (gName i)) r D σ H := h
theorem seq_par {ta : TA} {i j : Nat} {r : TS} {D : Ends} {σ : L2.St} {H : Hp} (h : ta σ H fun vs H1 => ∃ v w, vs = [v, w] ∧ r D ((σ.set i (some v)).set j (some w)) H1) : tSeq (tPar i j ta) r D σ H := h
theorem ret_of {te : TE} {D : Ends} {σ : L2.St} {H : Hp} (h : te σ H D.rt) : tRet te D σ H := h
end Gd
namespace Gd
open PySem PySem.Spec PyProof.Rows L2
theorem seq_par2 {ta tb : TE} {i j : Nat} {r : TS} {D : Ends} {σ : L2.St} {H : Hp} (h : ta σ H fun x H1 => tb σ H1 fun y H2 => ∃ v w, [x, y] = [v, w] ∧ r D ((σ.set i (some v)).set j (some w)) H2) :
    tSeq (tPar i j (tCons ta (tCons tb tNil))) r D σ H := h
theorem and_of2 {ta tb : TE} {σ : L2.St} {H : Hp} {Q : VK} (h : ta σ H fun x H1 => ∃ c, x = .bl c ∧ if c = true then tb σ H1 Q else Q (.bl false) H1) : tAndV ta tb σ H Q := h
end Gd

namespace K86
open PySem PySem.Spec PyProof.Rows L2 Gd
def top (i : Nat) : Stmt := PySem.Challenge.pw_movedrows_k86_errors_required.main.body.getD i (.Pass ⟨0, 0, 0, 0⟩)
abbrev s__law_pen : Stmt := top 17
abbrev s__law_fresh : Stmt := top 18
abbrev s__law_draw : Stmt := top 19
abbrev s__law_one_of : Stmt := top 20
abbrev s_InvalidHistory___init__ : Stmt := inClass (top 1) 0
abbrev s_InvalidRules___init__ : Stmt := inClass (top 2) 0
abbrev s_InvalidWay___init__ : Stmt := inClass (top 3) 0
abbrev s_InvalidWeights___init__ : Stmt := inClass (top 4) 0
abbrev s_InvalidOptions___init__ : Stmt := inClass (top 5) 0
abbrev s_InvalidLog___init__ : Stmt := inClass (top 6) 0
abbrev s_InvalidNames___init__ : Stmt := inClass (top 7) 0
abbrev s_ParseError___init__ : Stmt := inClass (top 9) 0
abbrev s_UnknownName___init__ : Stmt := inClass (top 10) 0
abbrev s_UnknownWord___init__ : Stmt := inClass (top 11) 0
abbrev s_CannotStep___init__ : Stmt := inClass (top 12) 0
abbrev s_LimitExceeded___init__ : Stmt := inClass (top 15) 0
abbrev s_Refused___init__ : Stmt := inClass (top 13) 0
abbrev s__law_which : Stmt := top 21
abbrev s__law_base : Stmt := top 22
abbrev s__law_right : Stmt := top 23
abbrev s__law_indexed : Stmt := top 24
abbrev s__law_others : Stmt := top 25
abbrev s_law : Stmt := top 26
abbrev FnP (K : PySem.W.Frag) (x : Str) (st : Stmt) (f : Addr) (fd : FuncData) : Prop :=
  FunD K x x (defArgs st) (defBody st) (defScope st) [] [] f fd
theorem sc__law_pen : FnScope ["script"] ["script"] (defScope s__law_pen) :=
  ⟨rfl, rfl, rfl, by decide +kernel, rfl, by decide +kernel, by decide +kernel⟩
theorem sc__law_fresh : FnScope ["pen", "seat", "given", "cell", "prime", "state", "found", "lap"] ["pen"] (defScope s__law_fresh) :=
  ⟨rfl, rfl, rfl, by decide +kernel, rfl, by decide +kernel, by decide +kernel⟩
theorem sc__law_draw : FnScope ["pen", "bound", "digit"] ["pen", "bound"] (defScope s__law_draw) :=
  ⟨rfl, rfl, rfl, by decide +kernel, rfl, by decide +kernel, by decide +kernel⟩
theorem sc__law_one_of : FnScope ["pen", "some"] ["pen", "some"] (defScope s__law_one_of) :=
  ⟨rfl, rfl, rfl, by decide +kernel, rfl, by decide +kernel, by decide +kernel⟩
theorem sc_InvalidHistory___init__ : FnScope ["self", "index"] ["self", "index"] (defScope s_InvalidHistory___init__) :=
  ⟨rfl, rfl, rfl, by decide +kernel, rfl, by decide +kernel, by decide +kernel⟩
theorem sc_InvalidRules___init__ : FnScope ["self", "index"] ["self", "index"] (defScope s_InvalidRules___init__) :=
  ⟨rfl, rfl, rfl, by decide +kernel, rfl, by decide +kernel, by decide +kernel⟩
theorem sc_InvalidWay___init__ : FnScope ["self", "index"] ["self", "index"] (defScope s_InvalidWay___init__) :=
  ⟨rfl, rfl, rfl, by decide +kernel, rfl, by decide +kernel, by decide +kernel⟩
theorem sc_InvalidWeights___init__ : FnScope ["self", "index"] ["self", "index"] (defScope s_InvalidWeights___init__) :=
  ⟨rfl, rfl, rfl, by decide +kernel, rfl, by decide +kernel, by decide +kernel⟩
theorem sc_InvalidOptions___init__ : FnScope ["self", "index"] ["self", "index"] (defScope s_InvalidOptions___init__) :=
  ⟨rfl, rfl, rfl, by decide +kernel, rfl, by decide +kernel, by decide +kernel⟩
theorem sc_InvalidLog___init__ : FnScope ["self", "index"] ["self", "index"] (defScope s_InvalidLog___init__) :=
  ⟨rfl, rfl, rfl, by decide +kernel, rfl, by decide +kernel, by decide +kernel⟩
theorem sc_InvalidNames___init__ : FnScope ["self", "index"] ["self", "index"] (defScope s_InvalidNames___init__) :=
  ⟨rfl, rfl, rfl, by decide +kernel, rfl, by decide +kernel, by decide +kernel⟩
theorem sc_ParseError___init__ : FnScope ["self", "line"] ["self", "line"] (defScope s_ParseError___init__) :=
  ⟨rfl, rfl, rfl, by decide +kernel, rfl, by decide +kernel, by decide +kernel⟩
theorem sc_UnknownName___init__ : FnScope ["self", "value"] ["self", "value"] (defScope s_UnknownName___init__) :=
  ⟨rfl, rfl, rfl, by decide +kernel, rfl, by decide +kernel, by decide +kernel⟩
theorem sc_UnknownWord___init__ : FnScope ["self", "value"] ["self", "value"] (defScope s_UnknownWord___init__) :=
  ⟨rfl, rfl, rfl, by decide +kernel, rfl, by decide +kernel, by decide +kernel⟩
theorem sc_CannotStep___init__ : FnScope ["self", "index"] ["self", "index"] (defScope s_CannotStep___init__) :=
  ⟨rfl, rfl, rfl, by decide +kernel, rfl, by decide +kernel, by decide +kernel⟩
theorem sc_LimitExceeded___init__ : FnScope ["self", "limit"] ["self", "limit"] (defScope s_LimitExceeded___init__) :=
  ⟨rfl, rfl, rfl, by decide +kernel, rfl, by decide +kernel, by decide +kernel⟩
theorem sc_Refused___init__ : FnScope ["self", "index", "reason"] ["self", "index", "reason"] (defScope s_Refused___init__) :=
  ⟨rfl, rfl, rfl, by decide +kernel, rfl, by decide +kernel, by decide +kernel⟩
theorem sc__law_which : FnScope ["e", "found", "seat", "is_it"] ["e"] (defScope s__law_which) :=
  ⟨rfl, rfl, rfl, by decide +kernel, rfl, by decide +kernel, by decide +kernel⟩
theorem sc__law_base : FnScope ["e", "found", "seat", "is_it"] ["e"] (defScope s__law_base) :=
  ⟨rfl, rfl, rfl, by decide +kernel, rfl, by decide +kernel, by decide +kernel⟩
theorem sc__law_right : FnScope ["seat", "base", "made", "e"] ["seat", "base", "made"] (defScope s__law_right) :=
  ⟨rfl, rfl, rfl, by decide +kernel, rfl, by decide +kernel, by decide +kernel⟩
theorem sc__law_indexed : FnScope ["count", "a", "b", "good"] ["count"] (defScope s__law_indexed) :=
  ⟨rfl, rfl, rfl, by decide +kernel, rfl, by decide +kernel, by decide +kernel⟩
theorem sc__law_others : FnScope ["count", "thing", "a", "b", "good"] ["count", "thing"] (defScope s__law_others) :=
  ⟨rfl, rfl, rfl, by decide +kernel, rfl, by decide +kernel, by decide +kernel⟩
theorem sc_law : FnScope ["script", "pen", "lap", "count", "thing"] ["script"] (defScope s_law) :=
  ⟨rfl, rfl, rfl, by decide +kernel, rfl, by decide +kernel, by decide +kernel⟩
/-! ### the classes -/
def cns : List Str := ["InvalidHistory", "InvalidRules", "InvalidWay", "InvalidWeights", "InvalidOptions", "InvalidLog", "InvalidNames", "InvalidClaim", "ParseError", "UnknownName", "UnknownWord", "CannotStep", "Refused", "NothingDone", "LimitExceeded"]
def cn (n : Nat) : Str := cns.getD n ""
def bss : List Nat := [0, 0, 0, 0, 0, 0, 0, 0, 0, 1, 1, 2, 2, 2, 3]
def bs (n : Nat) : Nat := bss.getD n 0
def tys : List String := ["ValueError", "LookupError", "RuntimeError", "OverflowError", "KeyError", "IndexError", "NotImplementedError"]
def ty (m : Nat) : String := tys.getD m ""
def excB (K : PySem.W.Frag) (C : Addr) : Bool :=
  decide (PySem.W.findIn K (.ref C) "__getattribute__" = some (some (.builtin "BaseException.__getattribute__"))) &&
  (decide (PySem.W.findIn K (.ref C) "__getattr__" = some none) && (decide (PySem.W.subIn K (.ref C) (.type "BaseException") = some true) &&
  (PySem.W.hasDictIn K C && (decide (PySem.W.findIn K (.ref C) "__class__" = some (some (.builtin "object.__class__"))) &&
  (decide (PySem.W.specialIn K (.builtin "object.__class__") "__get__" = some (some (.builtin "getset_descriptor.__get__"))) &&
  (decide (PySem.W.takesIn K (.builtin "object.__class__") = some true) && decide (PySem.W.mroIn K C (.type "object") = some true)))))))
theorem excB_ok {K : PySem.W.Frag} {C : Addr} (h : excB K C = true) : ExcC K C := by
  obtain ⟨h1, h⟩ := ba2 h
  obtain ⟨h2, h⟩ := ba2 h
  obtain ⟨h3, h⟩ := ba2 h
  obtain ⟨h4, h⟩ := ba2 h
  obtain ⟨h5, h⟩ := ba2 h
  obtain ⟨h6, h⟩ := ba2 h
  obtain ⟨h7, h8⟩ := ba2 h
  exact ⟨of_decide_eq_true h1, of_decide_eq_true h2, of_decide_eq_true h3, h4, of_decide_eq_true h5, of_decide_eq_true h6, of_decide_eq_true h7, of_decide_eq_true h8⟩
def kitB (K : PySem.W.Frag) (n : Nat) : Bool :=
  (List.range 15).all (fun m => decide (PySem.W.kitOne K (.ref (He.ga K (cn n))) (.ref (He.ga K (cn m))) = some (n == m))) &&
  (List.range 7).all (fun m => decide (PySem.W.kitOne K (.ref (He.ga K (cn n))) (.type (ty m)) = some (bs n == m)))
def z0B (K : PySem.W.Frag) (x : Str) (bmB : List Value) (newId : String) : Bool := PySem.W.excIn K (He.ga K x) bmB newId && PySem.W.keepIn K (.ref (He.ga K x))
def exOwn (K : PySem.W.Frag) : Bool := (List.range 15).all (fun n => excB K (He.ga K (cn n)) && kitB K n) &&
  (z0B K "InvalidClaim" mroV "ValueError.__new__" && z0B K "NothingDone" mroR "RuntimeError.__new__")
theorem all_at {n N : Nat} {p : Nat → Bool} (h : (List.range N).all p = true) (hn : n < N) : p n = true := List.all_eq_true.mp h n (List.mem_range.mpr hn)
theorem own_exc {K : PySem.W.Frag} (h : exOwn K = true) {n : Nat} (hn : n < 15) : ExcC K (He.ga K (cn n)) := excB_ok (ba2 (all_at (ba2 h).1 hn)).1
theorem own_cls {K : PySem.W.Frag} (h : exOwn K = true) {n m : Nat} (hn : n < 15) (hm : m < 15) : PySem.W.kitOne K (.ref (He.ga K (cn n))) (.ref (He.ga K (cn m))) = some (n == m) :=
  of_decide_eq_true (all_at (ba2 (ba2 (all_at (ba2 h).1 hn)).2).1 hm)
theorem own_ty {K : PySem.W.Frag} (h : exOwn K = true) {n m : Nat} (hn : n < 15) (hm : m < 7) : PySem.W.kitOne K (.ref (He.ga K (cn n))) (.type (ty m)) = some (bs n == m) :=
  of_decide_eq_true (all_at (ba2 (ba2 (all_at (ba2 h).1 hn)).2).2 hm)

/-- what the top has left -/
structure Txt (K : PySem.W.Frag) (mg : Str → Option Value) where
  f__law_pen : Addr
  d__law_pen : FuncData
  F__law_pen : FnP K "_law_pen" s__law_pen f__law_pen d__law_pen
  g__law_pen : mg "_law_pen" = some (.ref f__law_pen)
  f__law_fresh : Addr
  d__law_fresh : FuncData
  F__law_fresh : FnP K "_law_fresh" s__law_fresh f__law_fresh d__law_fresh
  g__law_fresh : mg "_law_fresh" = some (.ref f__law_fresh)
  f__law_draw : Addr
  d__law_draw : FuncData
  F__law_draw : FnP K "_law_draw" s__law_draw f__law_draw d__law_draw
  g__law_draw : mg "_law_draw" = some (.ref f__law_draw)
  f__law_one_of : Addr
  d__law_one_of : FuncData
  F__law_one_of : FnP K "_law_one_of" s__law_one_of f__law_one_of d__law_one_of
  g__law_one_of : mg "_law_one_of" = some (.ref f__law_one_of)
  d_InvalidHistory___init__ : FuncData
  F_InvalidHistory___init__ : FunD K "__init__" "InvalidHistory.__init__" (defArgs s_InvalidHistory___init__) (defBody s_InvalidHistory___init__) (defScope s_InvalidHistory___init__) [] [] (He.ma K (He.ga K "InvalidHistory") "__init__") d_InvalidHistory___init__
  d_InvalidRules___init__ : FuncData
  F_InvalidRules___init__ : FunD K "__init__" "InvalidRules.__init__" (defArgs s_InvalidRules___init__) (defBody s_InvalidRules___init__) (defScope s_InvalidRules___init__) [] [] (He.ma K (He.ga K "InvalidRules") "__init__") d_InvalidRules___init__
  d_InvalidWay___init__ : FuncData
  F_InvalidWay___init__ : FunD K "__init__" "InvalidWay.__init__" (defArgs s_InvalidWay___init__) (defBody s_InvalidWay___init__) (defScope s_InvalidWay___init__) [] [] (He.ma K (He.ga K "InvalidWay") "__init__") d_InvalidWay___init__
  d_InvalidWeights___init__ : FuncData
  F_InvalidWeights___init__ : FunD K "__init__" "InvalidWeights.__init__" (defArgs s_InvalidWeights___init__) (defBody s_InvalidWeights___init__) (defScope s_InvalidWeights___init__) [] [] (He.ma K (He.ga K "InvalidWeights") "__init__") d_InvalidWeights___init__
  d_InvalidOptions___init__ : FuncData
  F_InvalidOptions___init__ : FunD K "__init__" "InvalidOptions.__init__" (defArgs s_InvalidOptions___init__) (defBody s_InvalidOptions___init__) (defScope s_InvalidOptions___init__) [] [] (He.ma K (He.ga K "InvalidOptions") "__init__") d_InvalidOptions___init__
  d_InvalidLog___init__ : FuncData
  F_InvalidLog___init__ : FunD K "__init__" "InvalidLog.__init__" (defArgs s_InvalidLog___init__) (defBody s_InvalidLog___init__) (defScope s_InvalidLog___init__) [] [] (He.ma K (He.ga K "InvalidLog") "__init__") d_InvalidLog___init__
  d_InvalidNames___init__ : FuncData
  F_InvalidNames___init__ : FunD K "__init__" "InvalidNames.__init__" (defArgs s_InvalidNames___init__) (defBody s_InvalidNames___init__) (defScope s_InvalidNames___init__) [] [] (He.ma K (He.ga K "InvalidNames") "__init__") d_InvalidNames___init__
  d_ParseError___init__ : FuncData
  F_ParseError___init__ : FunD K "__init__" "ParseError.__init__" (defArgs s_ParseError___init__) (defBody s_ParseError___init__) (defScope s_ParseError___init__) [] [] (He.ma K (He.ga K "ParseError") "__init__") d_ParseError___init__
  d_UnknownName___init__ : FuncData
  F_UnknownName___init__ : FunD K "__init__" "UnknownName.__init__" (defArgs s_UnknownName___init__) (defBody s_UnknownName___init__) (defScope s_UnknownName___init__) [] [] (He.ma K (He.ga K "UnknownName") "__init__") d_UnknownName___init__
  d_UnknownWord___init__ : FuncData
  F_UnknownWord___init__ : FunD K "__init__" "UnknownWord.__init__" (defArgs s_UnknownWord___init__) (defBody s_UnknownWord___init__) (defScope s_UnknownWord___init__) [] [] (He.ma K (He.ga K "UnknownWord") "__init__") d_UnknownWord___init__
  d_CannotStep___init__ : FuncData
  F_CannotStep___init__ : FunD K "__init__" "CannotStep.__init__" (defArgs s_CannotStep___init__) (defBody s_CannotStep___init__) (defScope s_CannotStep___init__) [] [] (He.ma K (He.ga K "CannotStep") "__init__") d_CannotStep___init__
  d_LimitExceeded___init__ : FuncData
  F_LimitExceeded___init__ : FunD K "__init__" "LimitExceeded.__init__" (defArgs s_LimitExceeded___init__) (defBody s_LimitExceeded___init__) (defScope s_LimitExceeded___init__) [] [] (He.ma K (He.ga K "LimitExceeded") "__init__") d_LimitExceeded___init__
  d_Refused___init__ : FuncData
  F_Refused___init__ : FunD K "__init__" "Refused.__init__" (defArgs s_Refused___init__) (defBody s_Refused___init__) (defScope s_Refused___init__) [] [] (He.ma K (He.ga K "Refused") "__init__") d_Refused___init__
  f__law_which : Addr
  d__law_which : FuncData
  F__law_which : FnP K "_law_which" s__law_which f__law_which d__law_which
  g__law_which : mg "_law_which" = some (.ref f__law_which)
  f__law_base : Addr
  d__law_base : FuncData
  F__law_base : FnP K "_law_base" s__law_base f__law_base d__law_base
  g__law_base : mg "_law_base" = some (.ref f__law_base)
  f__law_right : Addr
  d__law_right : FuncData
  F__law_right : FnP K "_law_right" s__law_right f__law_right d__law_right
  g__law_right : mg "_law_right" = some (.ref f__law_right)
  f__law_indexed : Addr
  d__law_indexed : FuncData
  F__law_indexed : FnP K "_law_indexed" s__law_indexed f__law_indexed d__law_indexed
  g__law_indexed : mg "_law_indexed" = some (.ref f__law_indexed)
  f__law_others : Addr
  d__law_others : FuncData
  F__law_others : FnP K "_law_others" s__law_others f__law_others d__law_others
  g__law_others : mg "_law_others" = some (.ref f__law_others)
  f_law : Addr
  d_law : FuncData
  F_law : FnP K "law" s_law f_law d_law
  g_law : mg "law" = some (.ref f_law)
  n_IndexError : mg "IndexError" = none
  n_KeyError : mg "KeyError" = none
  n_LookupError : mg "LookupError" = none
  n_NotImplementedError : mg "NotImplementedError" = none
  n_OverflowError : mg "OverflowError" = none
  n_RuntimeError : mg "RuntimeError" = none
  n_ValueError : mg "ValueError" = none
  n_enumerate : mg "enumerate" = none
  n_int : mg "int" = none
  n_isinstance : mg "isinstance" = none
  n_len : mg "len" = none
  n_list : mg "list" = none
  n_range : mg "range" = none
  n_repr : mg "repr" = none
  gx_NothingDone : mg "NothingDone" = some (.ref (He.ga K "NothingDone"))
  gx_InvalidClaim : mg "InvalidClaim" = some (.ref (He.ga K "InvalidClaim"))
  own : exOwn K = true
  gx_InvalidHistory : mg "InvalidHistory" = some (.ref (He.ga K "InvalidHistory"))
  x_InvalidHistory : Xn K "InvalidHistory" ["index"]
  gx_InvalidRules : mg "InvalidRules" = some (.ref (He.ga K "InvalidRules"))
  x_InvalidRules : Xn K "InvalidRules" ["index"]
  gx_InvalidWay : mg "InvalidWay" = some (.ref (He.ga K "InvalidWay"))
  x_InvalidWay : Xn K "InvalidWay" ["index"]
  gx_InvalidWeights : mg "InvalidWeights" = some (.ref (He.ga K "InvalidWeights"))
  x_InvalidWeights : Xn K "InvalidWeights" ["index"]
  gx_InvalidOptions : mg "InvalidOptions" = some (.ref (He.ga K "InvalidOptions"))
  x_InvalidOptions : Xn K "InvalidOptions" ["index"]
  gx_InvalidLog : mg "InvalidLog" = some (.ref (He.ga K "InvalidLog"))
  x_InvalidLog : Xn K "InvalidLog" ["index"]
  gx_InvalidNames : mg "InvalidNames" = some (.ref (He.ga K "InvalidNames"))
  x_InvalidNames : Xn K "InvalidNames" ["index"]
  gx_ParseError : mg "ParseError" = some (.ref (He.ga K "ParseError"))
  x_ParseError : Xn K "ParseError" ["line"]
  gx_UnknownName : mg "UnknownName" = some (.ref (He.ga K "UnknownName"))
  x_UnknownName : Xn K "UnknownName" ["value"]
  gx_UnknownWord : mg "UnknownWord" = some (.ref (He.ga K "UnknownWord"))
  x_UnknownWord : Xn K "UnknownWord" ["value"]
  gx_CannotStep : mg "CannotStep" = some (.ref (He.ga K "CannotStep"))
  x_CannotStep : Xn K "CannotStep" ["index"]
  gx_LimitExceeded : mg "LimitExceeded" = some (.ref (He.ga K "LimitExceeded"))
  x_LimitExceeded : Xn K "LimitExceeded" ["limit"]
  gx_Refused : mg "Refused" = some (.ref (He.ga K "Refused"))
  x_Refused : Xn K "Refused" ["index", "reason"]
def sp__law_pen (K : PySem.W.Frag) : Sp := fun vs H Q _ => ∃ (a : Addr) (ns : List Int), vs = [.ref a] ∧ SqL K H a (ns.map V.int) ∧
  ∀ p g H', Same H H' → H p = none → Pen H' p g → Q (.ref p) H'
def sp__law_fresh (K : PySem.W.Frag) : Sp := fun vs H Q _ => ∃ (p g : Addr) (ns : List Int) (seat left : Int), vs = [.ref p] ∧ PenAt H p g ns seat left ∧
  ∀ (r : Int) H', PenAt H' p g ns (seat + 1) left → But p H H' → Q (.int r) H'
def sp__law_draw (K : PySem.W.Frag) : Sp := fun vs H Q _ => ∃ (p g : Addr) (b : Int), vs = [.ref p, .int b] ∧ Pen H p g ∧ 0 < b ∧ b.natAbs < 2 ^ 9000 ∧
  ∀ (n : Int) H', 0 ≤ n → n < b → Pen H' p g → But p H H' → Q (.int n) H'
def sp__law_one_of (K : PySem.W.Frag) : Sp := fun vs H Q _ => ∃ (p g l : Addr) (xs : List V), vs = [.ref p, .ref l] ∧ Pen H p g ∧ l ≠ p ∧ H l = some (.lst xs) ∧ xs ≠ [] ∧ xs.length ≤ 1000 ∧
  ∀ (v : V) H', v ∈ xs → Pen H' p g → But p H H' → Q v H'
def sp_InvalidHistory___init__ (K : PySem.W.Frag) : Sp := spInit1 "index" K
def sp_InvalidRules___init__ (K : PySem.W.Frag) : Sp := spInit1 "index" K
def sp_InvalidWay___init__ (K : PySem.W.Frag) : Sp := spInit1 "index" K
def sp_InvalidWeights___init__ (K : PySem.W.Frag) : Sp := spInit1 "index" K
def sp_InvalidOptions___init__ (K : PySem.W.Frag) : Sp := spInit1 "index" K
def sp_InvalidLog___init__ (K : PySem.W.Frag) : Sp := spInit1 "index" K
def sp_InvalidNames___init__ (K : PySem.W.Frag) : Sp := spInit1 "index" K
def sp_ParseError___init__ (K : PySem.W.Frag) : Sp := spInit1 "line" K
def sp_UnknownName___init__ (K : PySem.W.Frag) : Sp := spInit1 "value" K
def sp_UnknownWord___init__ (K : PySem.W.Frag) : Sp := spInit1 "value" K
def sp_CannotStep___init__ (K : PySem.W.Frag) : Sp := spInit1 "index" K
def sp_LimitExceeded___init__ (K : PySem.W.Frag) : Sp := spInit1 "limit" K
def spInit2 (f g : Str) (K : PySem.W.Frag) : Sp := fun vs H Q _ => ∃ (a C : Addr) (y z : V), vs = [.ref a, y, z] ∧ Xc K C ∧ PySem.W.findIn K (.ref C) f = some none ∧ PySem.W.findIn K (.ref C) g = some none ∧
  H a = some (exo a C none) ∧ ∀ dx, H dx = none → dx ≠ a → Q .non (upd (upd (upd H dx (exd dx [(f, y)])) a (exo a C (some dx))) dx (exd dx [(g, z), (f, y)]))
def sp_Refused___init__ (K : PySem.W.Frag) : Sp := spInit2 "index" "reason" K
/-! ### facts -/
theorem z0_InvalidClaim {K : PySem.W.Frag} {mg : Str → Option Value} (T : Txt K mg) : PySem.W.excIn K (He.ga K "InvalidClaim") mroV "ValueError.__new__" = true ∧ PySem.W.keepIn K (.ref (He.ga K "InvalidClaim")) = true :=
  ba2 (ba2 (ba2 T.own).2).1
theorem z0_NothingDone {K : PySem.W.Frag} {mg : Str → Option Value} (T : Txt K mg) : PySem.W.excIn K (He.ga K "NothingDone") mroR "RuntimeError.__new__" = true ∧ PySem.W.keepIn K (.ref (He.ga K "NothingDone")) = true :=
  ba2 (ba2 (ba2 T.own).2).2
theorem kb_InvalidHistory {K : PySem.W.Frag} {mg : Str → Option Value} (T : Txt K mg) : KBn K T.d_InvalidHistory___init__ ["self", "index"] 1 ["index"] (fun us ws => us ++ ws) (fun vs zs => vs ++ zs) :=
  kbN T.F_InvalidHistory___init__ 1 ["index"] (fun us ws => us ++ ws) (fun r1 r2 => r1.append r2) fun _ _ _ _ _ _ us ws h1 h2 => match us, ws, h1, h2 with | [_], [_], _, _ => rfl
theorem kb_InvalidRules {K : PySem.W.Frag} {mg : Str → Option Value} (T : Txt K mg) : KBn K T.d_InvalidRules___init__ ["self", "index"] 1 ["index"] (fun us ws => us ++ ws) (fun vs zs => vs ++ zs) :=
  kbN T.F_InvalidRules___init__ 1 ["index"] (fun us ws => us ++ ws) (fun r1 r2 => r1.append r2) fun _ _ _ _ _ _ us ws h1 h2 => match us, ws, h1, h2 with | [_], [_], _, _ => rfl
theorem kb_InvalidWay {K : PySem.W.Frag} {mg : Str → Option Value} (T : Txt K mg) : KBn K T.d_InvalidWay___init__ ["self", "index"] 1 ["index"] (fun us ws => us ++ ws) (fun vs zs => vs ++ zs) :=
  kbN T.F_InvalidWay___init__ 1 ["index"] (fun us ws => us ++ ws) (fun r1 r2 => r1.append r2) fun _ _ _ _ _ _ us ws h1 h2 => match us, ws, h1, h2 with | [_], [_], _, _ => rfl
theorem kb_InvalidWeights {K : PySem.W.Frag} {mg : Str → Option Value} (T : Txt K mg) : KBn K T.d_InvalidWeights___init__ ["self", "index"] 1 ["index"] (fun us ws => us ++ ws) (fun vs zs => vs ++ zs) :=
  kbN T.F_InvalidWeights___init__ 1 ["index"] (fun us ws => us ++ ws) (fun r1 r2 => r1.append r2) fun _ _ _ _ _ _ us ws h1 h2 => match us, ws, h1, h2 with | [_], [_], _, _ => rfl
theorem kb_InvalidOptions {K : PySem.W.Frag} {mg : Str → Option Value} (T : Txt K mg) : KBn K T.d_InvalidOptions___init__ ["self", "index"] 1 ["index"] (fun us ws => us ++ ws) (fun vs zs => vs ++ zs) :=
  kbN T.F_InvalidOptions___init__ 1 ["index"] (fun us ws => us ++ ws) (fun r1 r2 => r1.append r2) fun _ _ _ _ _ _ us ws h1 h2 => match us, ws, h1, h2 with | [_], [_], _, _ => rfl
theorem kb_InvalidLog {K : PySem.W.Frag} {mg : Str → Option Value} (T : Txt K mg) : KBn K T.d_InvalidLog___init__ ["self", "index"] 1 ["index"] (fun us ws => us ++ ws) (fun vs zs => vs ++ zs) :=
  kbN T.F_InvalidLog___init__ 1 ["index"] (fun us ws => us ++ ws) (fun r1 r2 => r1.append r2) fun _ _ _ _ _ _ us ws h1 h2 => match us, ws, h1, h2 with | [_], [_], _, _ => rfl
theorem kb_InvalidNames {K : PySem.W.Frag} {mg : Str → Option Value} (T : Txt K mg) : KBn K T.d_InvalidNames___init__ ["self", "index"] 1 ["index"] (fun us ws => us ++ ws) (fun vs zs => vs ++ zs) :=
  kbN T.F_InvalidNames___init__ 1 ["index"] (fun us ws => us ++ ws) (fun r1 r2 => r1.append r2) fun _ _ _ _ _ _ us ws h1 h2 => match us, ws, h1, h2 with | [_], [_], _, _ => rfl
theorem kb_ParseError {K : PySem.W.Frag} {mg : Str → Option Value} (T : Txt K mg) : KBn K T.d_ParseError___init__ ["self", "line"] 1 ["line"] (fun us ws => us ++ ws) (fun vs zs => vs ++ zs) :=
  kbN T.F_ParseError___init__ 1 ["line"] (fun us ws => us ++ ws) (fun r1 r2 => r1.append r2) fun _ _ _ _ _ _ us ws h1 h2 => match us, ws, h1, h2 with | [_], [_], _, _ => rfl
theorem kb_UnknownName {K : PySem.W.Frag} {mg : Str → Option Value} (T : Txt K mg) : KBn K T.d_UnknownName___init__ ["self", "value"] 1 ["value"] (fun us ws => us ++ ws) (fun vs zs => vs ++ zs) :=
  kbN T.F_UnknownName___init__ 1 ["value"] (fun us ws => us ++ ws) (fun r1 r2 => r1.append r2) fun _ _ _ _ _ _ us ws h1 h2 => match us, ws, h1, h2 with | [_], [_], _, _ => rfl
theorem kb_UnknownWord {K : PySem.W.Frag} {mg : Str → Option Value} (T : Txt K mg) : KBn K T.d_UnknownWord___init__ ["self", "value"] 1 ["value"] (fun us ws => us ++ ws) (fun vs zs => vs ++ zs) :=
  kbN T.F_UnknownWord___init__ 1 ["value"] (fun us ws => us ++ ws) (fun r1 r2 => r1.append r2) fun _ _ _ _ _ _ us ws h1 h2 => match us, ws, h1, h2 with | [_], [_], _, _ => rfl
theorem kb_CannotStep {K : PySem.W.Frag} {mg : Str → Option Value} (T : Txt K mg) : KBn K T.d_CannotStep___init__ ["self", "index"] 1 ["index"] (fun us ws => us ++ ws) (fun vs zs => vs ++ zs) :=
  kbN T.F_CannotStep___init__ 1 ["index"] (fun us ws => us ++ ws) (fun r1 r2 => r1.append r2) fun _ _ _ _ _ _ us ws h1 h2 => match us, ws, h1, h2 with | [_], [_], _, _ => rfl
theorem kb_LimitExceeded {K : PySem.W.Frag} {mg : Str → Option Value} (T : Txt K mg) : KBn K T.d_LimitExceeded___init__ ["self", "limit"] 1 ["limit"] (fun us ws => us ++ ws) (fun vs zs => vs ++ zs) :=
  kbN T.F_LimitExceeded___init__ 1 ["limit"] (fun us ws => us ++ ws) (fun r1 r2 => r1.append r2) fun _ _ _ _ _ _ us ws h1 h2 => match us, ws, h1, h2 with | [_], [_], _, _ => rfl
theorem vals_rev {zs : List V} {ws : List Value} (r : Vals zs ws) : Vals zs.reverse ws.reverse := by
  induction r with
  | nil => exact .nil
  | cons a b ih =>
    rw [List.reverse_cons, List.reverse_cons]
    exact ih.append (.cons a .nil)
theorem kb_Refused {K : PySem.W.Frag} {mg : Str → Option Value} (T : Txt K mg) : KBn K T.d_Refused___init__ ["self", "index", "reason"] 1 ["reason", "index"] (fun us ws => us ++ ws.reverse) (fun vs zs => vs ++ zs.reverse) :=
  kbN T.F_Refused___init__ 1 ["reason", "index"] (fun us ws => us ++ ws.reverse) (fun r1 r2 => r1.append (vals_rev r2)) fun _ _ _ _ _ _ us ws h1 h2 => match us, ws, h1, h2 with | [_], [_, _], _, _ => rfl
/-! ### readings -/
theorem exat_new {H : Hp} {a dx C : Addr} {o : HO} {fs : List (Str × V)} (na : H a = none) (nd : H dx = none) (ne : dx ≠ a) {u : HO} :
    Same H (upd (upd (upd H a o) dx u) a (exo a C (some dx))) := by
  intro b ob hb
  rw [upd_ne (ne_of_none hb na), upd_ne (ne_of_none hb nd), upd_ne (ne_of_none hb na)]
  exact hb
theorem init1 {K : PySem.W.Frag} {C : Addr} {f : Str} {H : Hp} {Q : VK} {y : V} (T : Xc K C) (no : PySem.W.findIn K (.ref C) f = some none)
    (k : ∀ a H', Same H H' → H a = none → ExAt H' a C [(f, y)] → Q (.ref a) H') : ∀ a, H a = none →
    spInit1 f K [.ref a, y] (upd H a (exo a C none)) (fun v H2 => v = .non ∧ Q (.ref a) H2) fun _ _ _ => False := by
  intro a na
  refine ⟨a, C, y, rfl, T, no, upd_same, fun dx nd ne => ⟨rfl, k a _ ?_ na ⟨dx, upd_same, ?_⟩⟩⟩
  · rw [upd_ne ne] at nd
    exact exat_new (fs := []) na nd ne
  · rw [upd_ne ne]
    exact upd_same
theorem init2 {K : PySem.W.Frag} {C : Addr} {f g : Str} {H : Hp} {Q : VK} {y z : V} (T : Xc K C) (no : PySem.W.findIn K (.ref C) f = some none) (no2 : PySem.W.findIn K (.ref C) g = some none)
    (k : ∀ a H', Same H H' → H a = none → ExAt H' a C [(g, z), (f, y)] → Q (.ref a) H') : ∀ a, H a = none →
    spInit2 f g K [.ref a, y, z] (upd H a (exo a C none)) (fun v H2 => v = .non ∧ Q (.ref a) H2) fun _ _ _ => False := by
  intro a na
  refine ⟨a, C, y, z, rfl, T, no, no2, upd_same, fun dx nd ne => ⟨rfl, k a _ ?_ na ⟨dx, ?_, upd_same⟩⟩⟩
  · rw [upd_ne ne] at nd
    intro b ob hb
    rw [upd_ne (ne_of_none hb nd)]
    exact exat_new (fs := []) na nd ne b ob hb
  · rw [upd_ne (Ne.symm ne)]
    exact upd_same
theorem mx_read {K : PySem.W.Frag} {C : Addr} {f : Str} {σ : L2.St} {H : Hp} {Q : VK} {t : TA} {y : V} (T : Xc K C) (no : PySem.W.findIn K (.ref C) f = some none)
    (ht : ∀ Q' : List V → Hp → Prop, Q' [y] H → t σ H Q') (k : ∀ a H', Same H H' → H a = none → ExAt H' a C [(f, y)] → Q (.ref a) H') : tMx C (spInit1 f K) t σ H Q :=
  ht _ ⟨by show 1 ≤ 1000; decide, init1 T no k⟩
theorem mk_read {K : PySem.W.Frag} {C : Addr} {f : Str} {σ : L2.St} {H : Hp} {Q : VK} {t : TA} {y : V} (T : Xc K C) (no : PySem.W.findIn K (.ref C) f = some none)
    (ht : ∀ Q' : List V → Hp → Prop, Q' [y] H → t σ H Q') (k : ∀ a H', Same H H' → H a = none → ExAt H' a C [(f, y)] → Q (.ref a) H') : tMxK C (spInit1 f K) 1 (fun vs zs => vs ++ zs) t σ H Q :=
  ht _ ⟨rfl, init1 T no k⟩
theorem is_read {K : PySem.W.Frag} {mg : Str → Option Value} (T : Txt K mg) {n m : Nat} {σ : L2.St} {H : Hp} {a : Addr} {Q : VK} (hn : n < 15) (hm : m < 15) (hs : σ[0]? = some (some (.ref a)))
    (e : ExAny H a (He.ga K (cn n))) (k : Q (.bl (n == m)) H) : tCB (rIsX K) (tCons (tVar 0) (tCons (tC (.ref (He.ga K (cn m)))) tNil)) σ H Q :=
  ⟨_, hs, a, _, _, .ref (He.ga K (cn m)), _, rfl, e, own_exc T.own hn, fun _ r => r, own_cls T.own hn hm, k⟩
theorem ty_read {K : PySem.W.Frag} {mg : Str → Option Value} (T : Txt K mg) {n m : Nat} {σ : L2.St} {H : Hp} {a : Addr} {Q : VK} (hn : n < 15) (hm : m < 7) (hs : σ[0]? = some (some (.ref a)))
    (e : ExAny H a (He.ga K (cn n))) (k : Q (.bl (bs n == m)) H) : tCB (rIsX K) (tCons (tVar 0) (tCons (tC (.ty (ty m))) tNil)) σ H Q :=
  ⟨_, hs, a, _, _, .type (ty m), _, rfl, e, own_exc T.own hn, fun _ r => r, own_ty T.own hn hm, k⟩
theorem lst3 {te1 te2 te3 : TE} {y1 y2 y3 : V} {σ : L2.St} {H : Hp} {Q : VK} (h1 : ∀ Q' : VK, Q' y1 H → te1 σ H Q') (h2 : ∀ Q' : VK, Q' y2 H → te2 σ H Q') (h3 : ∀ Q' : VK, Q' y3 H → te3 σ H Q')
    (k : ∀ q H', Same H H' → H q = none → H' q = some (.lst [y1, y2, y3]) → Q (.ref q) H') : tLst (tCons te1 (tCons te2 (tCons te3 tNil))) σ H Q :=
  h1 _ (h2 _ (h3 _ ⟨by show 3 ≤ sizeLine; decide, fun p np => k p _ (same_new np) np upd_same⟩))
theorem cat3 {te1 te2 te3 : TE} {y1 y2 y3 : V} {xs : List V} {p : Addr} {σ : L2.St} {H : Hp} {Q : VK} (hs : σ[1]? = some (some (.ref p))) (hp : H p = some (.lst xs)) (hl : xs.length ≤ 100)
    (h1 : ∀ Q' : VK, Q' y1 H → te1 σ H Q') (h2 : ∀ Q' : VK, Q' y2 H → te2 σ H Q') (h3 : ∀ Q' : VK, Q' y3 H → te3 σ H Q')
    (k : ∀ q H', Same H H' → H q = none → H' q = some (.lst (xs ++ [y1, y2, y3])) → Q (.ref q) H') : tOp rCat (tVar 1) (tLst (tCons te1 (tCons te2 (tCons te3 tNil)))) σ H Q := by
  refine ⟨_, hs, lst3 h1 h2 h3 fun q H1 s1 _ hq => ⟨p, q, xs, _, rfl, rfl, s1 _ _ hp, hq, ?_, fun q2 n2 => k q2 _ (s1.trans (same_new n2)) (s1.free n2) upd_same⟩⟩
  rw [sizeLine_eq]
  show xs.length + 3 ≤ _
  omega
theorem cons1 {te : TE} {σ : L2.St} {H : Hp} {Q : List V → Hp → Prop} (h : te σ H fun x H1 => Q [x] H1) : tCons te tNil σ H Q := h
/-- [seat for seat, is_it in enumerate(found) if is_it], just one of them -/
theorem seat_lc {K : PySem.W.Frag} {e0 e2 e3 : Option V} {p : Addr} {v N : Nat} {H : Hp} {Q : VK} (hv : v < N) (hN : N ≤ 100) (g0 : H p = some (.lst ((List.range N).map fun m => V.bl (v == m))))
    (k : ∀ D H', Same H H' → H' D = some (.lst [.int (v : Nat)]) → Q (.ref D) H') :
    tLc (iEnum K (tCons (tVar 1) tNil)) (gTup K 2 (gCons (gName 2) (gCons (gName 3) gNil))) (tB (tVar 3)) (tVar 2) [2, 3] [e0, some (.ref p), e2, e3] H Q := by
  refine ⟨_, rfl, p, _, rfl, SqL.of g0, fun D nD => lc_it (walk_enum (K := K) (a := p) (xs := (List.range N).map fun m => V.bl (v == m)))
    (fun i H' => Same H H' ∧ H' D = some (.lst (if v < i then [V.int (v : Nat)] else []))) ?_ (fun i H' _ h => SqL.of (h.1 _ _ g0)) ?_ ?_⟩
  · exact ⟨same_new nD, upd_same⟩
  · rintro i x H1' H2' hi ⟨s1, hD⟩ ⟨T1, x1, x2, rfl, nT, rfl, hx1, hx2⟩
    have hi' : i < N := by simpa using hi
    have sT := same_new (o := .tup [x1, x2]) nT
    have hx1' : x1 = .int (i : Nat) := (Option.some.inj hx1).symm
    have hx2 : ((List.range N).map fun m => V.bl (v == m))[i]? = some x2 := hx2
    have hx2' : x2 = .bl (v == i) := by
      rw [List.getElem?_map, List.getElem?_range hi'] at hx2
      exact (Option.some.inj hx2).symm
    subst hx1' hx2'
    have hD1 := sT _ _ hD
    have sZ := s1.trans sT
    refine ⟨T1, _, rfl, SqT.of upd_same, rfl, _, _, rfl, _, _, rfl, rfl, rfl, ?_⟩
    refine ⟨_, rfl, _, rfl, ?_⟩
    by_cases e : v = i
    · subst e
      refine ite2 (fun _ => ?_) (fun z => absurd (show (v == v) = true by simp) z)
      rw [if_neg (Nat.lt_irrefl v)] at hD1
      refine ⟨_, rfl, [], hD1, by show 0 < sizeLine; decide, ?_, ?_⟩
      · intro b o hb
        rw [upd_ne (ne_of_none hb nD)]
        exact sZ b o hb
      · rw [upd_same, if_pos (Nat.lt_succ_self v)]
        rfl
    · refine ite2 (fun z => absurd (show v = i by simpa using z) e) (fun _ => ⟨sZ, ?_⟩)
      rw [hD1]
      by_cases l : v < i
      · rw [if_pos l, if_pos (by omega)]
      · rw [if_neg l, if_neg (by omega)]
  · rintro H' ⟨s1, hD⟩
    rw [if_pos (by simpa using hv)] at hD
    exact k D H' s1 hD
/-! ### data -/
structure El (d : PyData) : Prop where
  sh : d.showable = true
  lv : d.leavesShort 400 = true
  dp : d.depth ≤ 3
  bk : d.bulk ≤ 10
theorem el_int {i : Int} (h : Sm i) : El (.int i) :=
  ⟨by simp [PyData.showable, h.log], by simp [PyData.leavesShort, h.short], by simp [PyData.depth], by simp [PyData.bulk]⟩
theorem el_of {d : PyData} (h : (d.showable && d.leavesShort 400 && decide (d.depth ≤ 3) && decide (d.bulk ≤ 10)) = true) : El d := by
  simp only [Bool.and_eq_true, decide_eq_true_eq] at h
  exact ⟨h.1.1.1, h.1.1.2, h.1.2, h.2⟩
theorem el_non : El .none := el_of (by decide +kernel)
theorem el_cs : El (.str "CannotStep") := el_of (by decide +kernel)
theorem sh2 {d e : PyData} (h1 : El d) (h2 : El e) : Sh (.list [d, e]) := by
  obtain ⟨a1, a2, a3, a4⟩ := h1
  obtain ⟨b1, b2, b3, b4⟩ := h2
  have c : (PyData.list [d, e]).leavesShort 400 = true := by simp [PyData.leavesShort, PyData.leavesShortAll, a2, b2]
  refine ⟨by simp [PyData.showable, PyData.showableAll, a1, b1], by simp only [PyData.depth, PyData.depthAll]; omega, ?_⟩
  have a := PyData.shown_le_bulk 400 (by decide) _ c
  have b : (PyData.list [d, e]).bulk ≤ 100 := by simp only [PyData.bulk, PyData.bulkAll]; omega
  rw [sizeLine_eq]
  omega
/-! ### promises -/
def spSeat (K : PySem.W.Frag) (f : Nat → Nat) : Sp := fun vs H Q _ => ∃ (a : Addr) (n : Nat), vs = [.ref a] ∧ n < 15 ∧ ExAny H a (He.ga K (cn n)) ∧
  ∀ l H', Same H H' → H' l = some (.lst [.int (f n : Nat)]) → Q (.ref l) H'
def sp__law_which (K : PySem.W.Frag) : Sp := spSeat K fun n => n
def sp__law_base (K : PySem.W.Frag) : Sp := spSeat K bs
def sp__law_right (K : PySem.W.Frag) : Sp := fun vs H Q _ => ∃ (n : Nat) (m : Addr) (xs : List V), vs = [.int n, .int (bs n), .ref m] ∧ n < 15 ∧ H m = some (.lst xs) ∧ xs.length ≤ 3 ∧
  (∀ x ∈ xs, ∃ a, x = .ref a ∧ ExAny H a (He.ga K (cn n))) ∧ ∀ H', Same H H' → Q (.bl true) H'
theorem right_read {K : PySem.W.Frag} {n i j : Nat} {a b : Addr} {σ : L2.St} {H : Hp} {Q : VK} {E : XK} (hn : n < 15) (e1 : σ[i]? = some (some (.ref a))) (e2 : σ[j]? = some (some (.ref b)))
    (h1 : ExAny H a (He.ga K (cn n))) (h2 : ExAny H b (He.ga K (cn n))) (k : ∀ H', Same H H' → Q (.bl true) H') :
    tCall (sp__law_right K) [] E (tCons (tC (.int n)) (tCons (tC (.int (bs n))) (tCons (tLst (tCons (tVar i) (tCons (tVar j) tNil))) tNil))) σ H Q := by
  refine ⟨_, e1, _, e2, by show 2 ≤ sizeLine; decide, fun p np => ?_⟩
  have s := same_new (o := .lst [V.ref a, V.ref b]) np
  refine ⟨n, p, [.ref a, .ref b], rfl, hn, upd_same, by show 2 ≤ 3; decide, fun x hx => ?_, fun H' s' => k H' (s.trans s')⟩
  rcases List.mem_cons.mp hx with rfl | hx
  · exact ⟨a, rfl, exany_same s h1⟩
  · rw [List.mem_singleton.mp hx]
    exact ⟨b, rfl, exany_same s h2⟩
theorem cmp_read {K : PySem.W.Frag} {i j : Nat} {a b C : Addr} {f : Str} {fs gs : List (Str × V)} {y z : V} {d e : PyData} {t1 t2 : TE} {σ : L2.St} {H : Hp} {Q : VK} (T : Xc K C) (no : PySem.W.findIn K (.ref C) f = some none)
    (e1 : σ[i]? = some (some (.ref a))) (e2 : σ[j]? = some (some (.ref b))) (h1 : ExAt H a C fs) (h2 : ExAt H b C gs) (l1 : fs.lookup f = some y) (l2 : gs.lookup f = some z)
    (d1 : Dv K H y d) (d2 : Dv K H z e) (E1 : El d) (E2 : El e)
    (r1 : ∀ (H' : Hp) (Q' : VK), Q' y H' → t1 σ H' Q') (r2 : ∀ (H' : Hp) (Q' : VK), Q' z H' → t2 σ H' Q') (k : ∀ H', Same H H' → Q (.bl true) H') :
    tOp rEq (tCB (rV K) (tCons (tLst (tCons (tXg K f (tVar i)) (tCons (tXg K f (tVar j)) tNil))) tNil)) (tCB (rV K) (tCons (tLst (tCons t1 (tCons t2 tNil))) tNil)) σ H Q := by
  refine ⟨_, e1, a, C, fs, y, rfl, h1, T.xf, no, l1, _, e2, b, C, gs, z, rfl, h2, T.xf, no, l2, by show 2 ≤ sizeLine; decide, fun p np => ?_⟩
  have s1 := same_new (o := .lst [y, z]) np
  refine ⟨p, [y, z], [d, e], rfl, SqL.of upd_same, .cons (dv_same s1 d1) (.cons (dv_same s1 d2) .nil), List.cons_ne_nil _ _, sh2 E1 E2, ?_⟩
  refine r1 _ _ (r2 _ _ ⟨by show 2 ≤ sizeLine; decide, fun q nq => ?_⟩)
  have s2 := s1.trans (same_new (o := .lst [y, z]) nq)
  refine ⟨q, [y, z], [d, e], rfl, SqL.of upd_same, .cons (dv_same s2 d1) (.cons (dv_same s2 d2) .nil), List.cons_ne_nil _ _, sh2 E1 E2, ?_⟩
  refine ⟨rfl, ?_⟩
  rw [decide_eq_true rfl]
  exact k _ s2
/-! ### the blocks -/
abbrev RC (K : PySem.W.Frag) (E : XK) (n i j : Nat) (f : Str) (t1 t2 : TE) : TE :=
  tAndV (tCall (sp__law_right K) [] E (tCons (tC (.int n)) (tCons (tC (.int (bs n))) (tCons (tLst (tCons (tVar i) (tCons (tVar j) tNil))) tNil))))
    (tOp rEq (tCB (rV K) (tCons (tLst (tCons (tXg K f (tVar i)) (tCons (tXg K f (tVar j)) tNil))) tNil)) (tCB (rV K) (tCons (tLst (tCons t1 (tCons t2 tNil))) tNil)))
theorem rc_read {K : PySem.W.Frag} {n i j : Nat} {a b : Addr} {f : Str} {fs gs : List (Str × V)} {y z : V} {d e : PyData} {t1 t2 : TE} {σ : L2.St} {H : Hp} {Q : VK} {E : XK} (hn : n < 15)
    (T : Xc K (He.ga K (cn n))) (no : PySem.W.findIn K (.ref (He.ga K (cn n))) f = some none)
    (e1 : σ[i]? = some (some (.ref a))) (e2 : σ[j]? = some (some (.ref b))) (h1 : ExAt H a (He.ga K (cn n)) fs) (h2 : ExAt H b (He.ga K (cn n)) gs) (l1 : fs.lookup f = some y) (l2 : gs.lookup f = some z)
    (d1 : Dv K H y d) (d2 : Dv K H z e) (E1 : El d) (E2 : El e)
    (r1 : ∀ (H' : Hp) (Q' : VK), Q' y H' → t1 σ H' Q') (r2 : ∀ (H' : Hp) (Q' : VK), Q' z H' → t2 σ H' Q') (k : ∀ H', Same H H' → Q (.bl true) H') : RC K E n i j f t1 t2 σ H Q :=
  and_of2 (right_read hn e1 e2 (.inr ⟨_, h1⟩) (.inr ⟨_, h2⟩) fun G s => ⟨true, rfl, iteT (cmp_read T no e1 e2 (exat_same s h1) (exat_same s h2) l1 l2 (dv_same s d1) (dv_same s d2) E1 E2 r1 r2 fun G2 s2 => k G2 (s.trans s2))⟩)
theorem mx2_read {K : PySem.W.Frag} {C : Addr} {f g : Str} {σ : L2.St} {H : Hp} {Q : VK} {t : TA} {y z : V} (T : Xc K C) (no : PySem.W.findIn K (.ref C) f = some none) (no2 : PySem.W.findIn K (.ref C) g = some none)
    (ht : ∀ Q' : List V → Hp → Prop, Q' [y, z] H → t σ H Q') (k : ∀ a H', Same H H' → H a = none → ExAt H' a C [(g, z), (f, y)] → Q (.ref a) H') : tMx C (spInit2 f g K) t σ H Q :=
  ht _ ⟨by show 2 ≤ 1000; decide, init2 T no no2 k⟩
theorem mk2_read {K : PySem.W.Frag} {C : Addr} {f g : Str} {σ : L2.St} {H : Hp} {Q : VK} {t : TA} {y z : V} (T : Xc K C) (no : PySem.W.findIn K (.ref C) f = some none) (no2 : PySem.W.findIn K (.ref C) g = some none)
    (ht : ∀ Q' : List V → Hp → Prop, Q' [z, y] H → t σ H Q') (k : ∀ a H', Same H H' → H a = none → ExAt H' a C [(g, z), (f, y)] → Q (.ref a) H') : tMxK C (spInit2 f g K) 2 (fun vs zs => vs ++ zs.reverse) t σ H Q :=
  ht _ ⟨rfl, init2 T no no2 k⟩
theorem lk1 (f : Str) (y : V) : [(f, y)].lookup f = some y := by simp [List.lookup]
theorem I_first {K : PySem.W.Frag} {E : XK} {n : Nat} {f : Str} {p0 : V} {y z : V} {d e : PyData} {ta tb : TA} {t1 t2 : TE} {D : Ends} {H : Hp} {e1 e2 e3 : Option V} {r : TS} (hn : n < 15)
    (T : Xc K (He.ga K (cn n))) (no : PySem.W.findIn K (.ref (He.ga K (cn n))) f = some none)
    (ha : ∀ (H' : Hp) (Q' : List V → Hp → Prop), Q' [y] H' → ta [some p0, e1, e2, e3] H' Q') (hb : ∀ (H' : Hp) (Q' : List V → Hp → Prop), Q' [z] H' → tb [some p0, e1, e2, e3] H' Q')
    (d1 : Dv K H y d) (d2 : Dv K H z e) (E1 : El d) (E2 : El e)
    (r1 : ∀ (a b : Addr) (H' : Hp) (Q' : VK), Q' y H' → t1 [some p0, some (.ref a), some (.ref b), e3] H' Q') (r2 : ∀ (a b : Addr) (H' : Hp) (Q' : VK), Q' z H' → t2 [some p0, some (.ref a), some (.ref b), e3] H' Q')
    (k : ∀ (H' : Hp) (a b : Addr), Same H H' → r D [some p0, some (.ref a), some (.ref b), some (.bl true)] H') :
    tSeq (tPar 1 2 (tCons (tMx (He.ga K (cn n)) (spInit1 f K) ta) (tCons (tMxK (He.ga K (cn n)) (spInit1 f K) 1 (fun vs zs => vs ++ zs) tb) tNil))) (tSeq (tAsg (RC K E n 1 2 f t1 t2) (gName 3)) r) D [some p0, e1, e2, e3] H := by
  refine seq_par2 (mx_read T no (ha _) fun a A u _ fa => mk_read T no (hb _) fun b B w _ fb => ⟨_, _, rfl, ?_⟩)
  refine seq_set (rc_read hn T no rfl rfl (exat_same w fa) fb (lk1 _ _) (lk1 _ _) (dv_same (u.trans w) d1) (dv_same (u.trans w) d2) E1 E2 (r1 a b) (r2 a b) fun G s => ?_)
  exact k G a b ((u.trans w).trans s)
theorem I_mid {K : PySem.W.Frag} {E : XK} {n : Nat} {f : Str} {p0 : V} {y z : V} {d e : PyData} {ta tb : TA} {t1 t2 : TE} {D : Ends} {H : Hp} {e1 e2 : Option V} {r : TS} (hn : n < 15)
    (T : Xc K (He.ga K (cn n))) (no : PySem.W.findIn K (.ref (He.ga K (cn n))) f = some none)
    (ha : ∀ (H' : Hp) (Q' : List V → Hp → Prop), Q' [y] H' → ta [some p0, e1, e2, some (.bl true)] H' Q') (hb : ∀ (H' : Hp) (Q' : List V → Hp → Prop), Q' [z] H' → tb [some p0, e1, e2, some (.bl true)] H' Q')
    (d1 : Dv K H y d) (d2 : Dv K H z e) (E1 : El d) (E2 : El e)
    (r1 : ∀ (a b : Addr) (H' : Hp) (Q' : VK), Q' y H' → t1 [some p0, some (.ref a), some (.ref b), some (.bl true)] H' Q') (r2 : ∀ (a b : Addr) (H' : Hp) (Q' : VK), Q' z H' → t2 [some p0, some (.ref a), some (.ref b), some (.bl true)] H' Q')
    (k : ∀ (H' : Hp) (a b : Addr), Same H H' → r D [some p0, some (.ref a), some (.ref b), some (.bl true)] H') :
    tSeq (tPar 1 2 (tCons (tMx (He.ga K (cn n)) (spInit1 f K) ta) (tCons (tMxK (He.ga K (cn n)) (spInit1 f K) 1 (fun vs zs => vs ++ zs) tb) tNil))) (tSeq (tAsg (tAndV (tVar 3) (RC K E n 1 2 f t1 t2)) (gName 3)) r) D [some p0, e1, e2, some (.bl true)] H := by
  refine seq_par2 (mx_read T no (ha _) fun a A u _ fa => mk_read T no (hb _) fun b B w _ fb => ⟨_, _, rfl, ?_⟩)
  refine seq_set (and_of2 ⟨_, rfl, true, rfl, iteT (rc_read hn T no rfl rfl (exat_same w fa) fb (lk1 _ _) (lk1 _ _) (dv_same (u.trans w) d1) (dv_same (u.trans w) d2) E1 E2 (r1 a b) (r2 a b) fun G s => ?_)⟩)
  exact k G a b ((u.trans w).trans s)
theorem I_last {K : PySem.W.Frag} {E : XK} {n : Nat} {f : Str} {p0 : V} {y z : V} {d e : PyData} {ta tb : TA} {t1 t2 : TE} {D : Ends} {H : Hp} {e1 e2 : Option V} (hn : n < 15)
    (T : Xc K (He.ga K (cn n))) (no : PySem.W.findIn K (.ref (He.ga K (cn n))) f = some none)
    (ha : ∀ (H' : Hp) (Q' : List V → Hp → Prop), Q' [y] H' → ta [some p0, e1, e2, some (.bl true)] H' Q') (hb : ∀ (H' : Hp) (Q' : List V → Hp → Prop), Q' [z] H' → tb [some p0, e1, e2, some (.bl true)] H' Q')
    (d1 : Dv K H y d) (d2 : Dv K H z e) (E1 : El d) (E2 : El e)
    (r1 : ∀ (a b : Addr) (H' : Hp) (Q' : VK), Q' y H' → t1 [some p0, some (.ref a), some (.ref b), some (.bl true)] H' Q') (r2 : ∀ (a b : Addr) (H' : Hp) (Q' : VK), Q' z H' → t2 [some p0, some (.ref a), some (.ref b), some (.bl true)] H' Q')
    (k : ∀ (H' : Hp) (a b : Addr), Same H H' → D.rt (.bl true) H') :
    tSeq (tPar 1 2 (tCons (tMx (He.ga K (cn n)) (spInit1 f K) ta) (tCons (tMxK (He.ga K (cn n)) (spInit1 f K) 1 (fun vs zs => vs ++ zs) tb) tNil))) (tRet (tAndV (tVar 3) (RC K E n 1 2 f t1 t2))) D [some p0, e1, e2, some (.bl true)] H := by
  refine seq_par2 (mx_read T no (ha _) fun a A u _ fa => mk_read T no (hb _) fun b B w _ fb => ⟨_, _, rfl, ?_⟩)
  refine ret_of (and_of2 ⟨_, rfl, true, rfl, iteT (rc_read hn T no rfl rfl (exat_same w fa) fb (lk1 _ _) (lk1 _ _) (dv_same (u.trans w) d1) (dv_same (u.trans w) d2) E1 E2 (r1 a b) (r2 a b) fun G s => ?_)⟩)
  exact k G a b ((u.trans w).trans s)
theorem O_first {K : PySem.W.Frag} {E : XK} {n : Nat} {f : Str} {p0 p1 : V} {y z : V} {d e : PyData} {ta tb : TA} {t1 t2 : TE} {D : Ends} {H : Hp} {e1 e2 e3 : Option V} {r : TS} (hn : n < 15)
    (T : Xc K (He.ga K (cn n))) (no : PySem.W.findIn K (.ref (He.ga K (cn n))) f = some none)
    (ha : ∀ (H' : Hp) (Q' : List V → Hp → Prop), Q' [y] H' → ta [some p0, some p1, e1, e2, e3] H' Q') (hb : ∀ (H' : Hp) (Q' : List V → Hp → Prop), Q' [z] H' → tb [some p0, some p1, e1, e2, e3] H' Q')
    (d1 : Dv K H y d) (d2 : Dv K H z e) (E1 : El d) (E2 : El e)
    (r1 : ∀ (a b : Addr) (H' : Hp) (Q' : VK), Q' y H' → t1 [some p0, some p1, some (.ref a), some (.ref b), e3] H' Q') (r2 : ∀ (a b : Addr) (H' : Hp) (Q' : VK), Q' z H' → t2 [some p0, some p1, some (.ref a), some (.ref b), e3] H' Q')
    (k : ∀ (H' : Hp) (a b : Addr), Same H H' → r D [some p0, some p1, some (.ref a), some (.ref b), some (.bl true)] H') :
    tSeq (tPar 2 3 (tCons (tMx (He.ga K (cn n)) (spInit1 f K) ta) (tCons (tMxK (He.ga K (cn n)) (spInit1 f K) 1 (fun vs zs => vs ++ zs) tb) tNil))) (tSeq (tAsg (RC K E n 2 3 f t1 t2) (gName 4)) r) D [some p0, some p1, e1, e2, e3] H := by
  refine seq_par2 (mx_read T no (ha _) fun a A u _ fa => mk_read T no (hb _) fun b B w _ fb => ⟨_, _, rfl, ?_⟩)
  refine seq_set (rc_read hn T no rfl rfl (exat_same w fa) fb (lk1 _ _) (lk1 _ _) (dv_same (u.trans w) d1) (dv_same (u.trans w) d2) E1 E2 (r1 a b) (r2 a b) fun G s => ?_)
  exact k G a b ((u.trans w).trans s)
theorem O_mid {K : PySem.W.Frag} {E : XK} {n : Nat} {f : Str} {p0 p1 : V} {y z : V} {d e : PyData} {ta tb : TA} {t1 t2 : TE} {D : Ends} {H : Hp} {e1 e2 : Option V} {r : TS} (hn : n < 15)
    (T : Xc K (He.ga K (cn n))) (no : PySem.W.findIn K (.ref (He.ga K (cn n))) f = some none)
    (ha : ∀ (H' : Hp) (Q' : List V → Hp → Prop), Q' [y] H' → ta [some p0, some p1, e1, e2, some (.bl true)] H' Q') (hb : ∀ (H' : Hp) (Q' : List V → Hp → Prop), Q' [z] H' → tb [some p0, some p1, e1, e2, some (.bl true)] H' Q')
    (d1 : Dv K H y d) (d2 : Dv K H z e) (E1 : El d) (E2 : El e)
    (r1 : ∀ (a b : Addr) (H' : Hp) (Q' : VK), Q' y H' → t1 [some p0, some p1, some (.ref a), some (.ref b), some (.bl true)] H' Q') (r2 : ∀ (a b : Addr) (H' : Hp) (Q' : VK), Q' z H' → t2 [some p0, some p1, some (.ref a), some (.ref b), some (.bl true)] H' Q')
    (k : ∀ (H' : Hp) (a b : Addr), Same H H' → r D [some p0, some p1, some (.ref a), some (.ref b), some (.bl true)] H') :
    tSeq (tPar 2 3 (tCons (tMx (He.ga K (cn n)) (spInit1 f K) ta) (tCons (tMxK (He.ga K (cn n)) (spInit1 f K) 1 (fun vs zs => vs ++ zs) tb) tNil))) (tSeq (tAsg (tAndV (tVar 4) (RC K E n 2 3 f t1 t2)) (gName 4)) r) D [some p0, some p1, e1, e2, some (.bl true)] H := by
  refine seq_par2 (mx_read T no (ha _) fun a A u _ fa => mk_read T no (hb _) fun b B w _ fb => ⟨_, _, rfl, ?_⟩)
  refine seq_set (and_of2 ⟨_, rfl, true, rfl, iteT (rc_read hn T no rfl rfl (exat_same w fa) fb (lk1 _ _) (lk1 _ _) (dv_same (u.trans w) d1) (dv_same (u.trans w) d2) E1 E2 (r1 a b) (r2 a b) fun G s => ?_)⟩)
  exact k G a b ((u.trans w).trans s)
theorem O_last {K : PySem.W.Frag} {E : XK} {n : Nat} {f : Str} {p0 p1 : V} {y z : V} {d e : PyData} {ta tb : TA} {t1 t2 : TE} {D : Ends} {H : Hp} {e1 e2 : Option V} (hn : n < 15)
    (T : Xc K (He.ga K (cn n))) (no : PySem.W.findIn K (.ref (He.ga K (cn n))) f = some none)
    (ha : ∀ (H' : Hp) (Q' : List V → Hp → Prop), Q' [y] H' → ta [some p0, some p1, e1, e2, some (.bl true)] H' Q') (hb : ∀ (H' : Hp) (Q' : List V → Hp → Prop), Q' [z] H' → tb [some p0, some p1, e1, e2, some (.bl true)] H' Q')
    (d1 : Dv K H y d) (d2 : Dv K H z e) (E1 : El d) (E2 : El e)
    (r1 : ∀ (a b : Addr) (H' : Hp) (Q' : VK), Q' y H' → t1 [some p0, some p1, some (.ref a), some (.ref b), some (.bl true)] H' Q') (r2 : ∀ (a b : Addr) (H' : Hp) (Q' : VK), Q' z H' → t2 [some p0, some p1, some (.ref a), some (.ref b), some (.bl true)] H' Q')
    (k : ∀ (H' : Hp) (a b : Addr), Same H H' → D.rt (.bl true) H') :
    tSeq (tPar 2 3 (tCons (tMx (He.ga K (cn n)) (spInit1 f K) ta) (tCons (tMxK (He.ga K (cn n)) (spInit1 f K) 1 (fun vs zs => vs ++ zs) tb) tNil))) (tRet (tAndV (tVar 4) (RC K E n 2 3 f t1 t2))) D [some p0, some p1, e1, e2, some (.bl true)] H := by
  refine seq_par2 (mx_read T no (ha _) fun a A u _ fa => mk_read T no (hb _) fun b B w _ fb => ⟨_, _, rfl, ?_⟩)
  refine ret_of (and_of2 ⟨_, rfl, true, rfl, iteT (rc_read hn T no rfl rfl (exat_same w fa) fb (lk1 _ _) (lk1 _ _) (dv_same (u.trans w) d1) (dv_same (u.trans w) d2) E1 E2 (r1 a b) (r2 a b) fun G s => ?_)⟩)
  exact k G a b ((u.trans w).trans s)
theorem right1_read {K : PySem.W.Frag} {n : Nat} {te : TE} {σ : L2.St} {H : Hp} {Q : VK} {E : XK} (hn : n < 15)
    (h : ∀ Q' : VK, (∀ a H', Same H H' → ExAny H' a (He.ga K (cn n)) → Q' (.ref a) H') → te σ H Q') (k : ∀ H', Same H H' → Q (.bl true) H') :
    tCall (sp__law_right K) [] E (tCons (tC (.int n)) (tCons (tC (.int (bs n))) (tCons (tLst (tCons te tNil)) tNil))) σ H Q := by
  refine h _ fun a H1 s1 h1 => ⟨by show 1 ≤ sizeLine; decide, fun p np => ?_⟩
  have s := same_new (o := .lst [V.ref a]) np
  refine ⟨n, p, [.ref a], rfl, hn, upd_same, by show 1 ≤ 3; decide, fun x hx => ?_, fun H' s' => k H' ((s1.trans s).trans s')⟩
  rw [List.mem_singleton.mp hx]
  exact ⟨a, rfl, exany_same s h1⟩
theorem R_mid {K : PySem.W.Frag} {E : XK} {c : Int} {v : V} {un : V → Hp → VK → Prop} {D : Ends} {H : Hp} {e1 e2 : Option V} {r : TS} (hc : Sm c)
    (T : Xc K (He.ga K (cn 12))) (no : PySem.W.findIn K (.ref (He.ga K (cn 12))) "index" = some none) (no2 : PySem.W.findIn K (.ref (He.ga K (cn 12))) "reason" = some none)
    (hu : ∀ (H' : Hp) (Q' : VK), Q' (.int (-1)) H' → un (.int 1) H' Q')
    (k : ∀ (H' : Hp) (a b : Addr), Same H H' → r D [some (.int c), some v, some (.ref a), some (.ref b), some (.bl true)] H') :
    tSeq (tPar 2 3 (tCons (tMx (He.ga K (cn 12)) (spInit2 "index" "reason" K) (tCons (tVar 0) (tCons (tC (.str "CannotStep")) tNil)))
        (tCons (tMxK (He.ga K (cn 12)) (spInit2 "index" "reason" K) 2 (fun vs zs => vs ++ zs.reverse) (tCons (tC .non) (tCons (tUn un (tC (.int 1))) tNil))) tNil)))
      (tSeq (tAsg (tAndV (tVar 4) (RC K E 12 2 3 "index" (tVar 0) (tUn un (tC (.int 1))))) (gName 4))
        (tSeq (tAsg (tAndV (tVar 4) (tOp rEq (tCB (rV K) (tCons (tLst (tCons (tXg K "reason" (tVar 2)) (tCons (tXg K "reason" (tVar 3)) tNil))) tNil))
          (tCB (rV K) (tCons (tLst (tCons (tC (.str "CannotStep")) (tCons (tC .non) tNil))) tNil)))) (gName 4)) r)) D [some (.int c), some v, e1, e2, some (.bl true)] H := by
  have h12 : 12 < 15 := by decide
  have li : ∀ y z : V, [(("reason" : Str), z), (("index" : Str), y)].lookup ("index" : Str) = some y := fun y z => by
    rw [lookup_put, if_neg (by decide +kernel)]
    exact lk1 _ _
  have lr : ∀ y z : V, [(("reason" : Str), z), (("index" : Str), y)].lookup ("reason" : Str) = some z := fun y z => by
    rw [lookup_put, if_pos rfl]
  refine seq_par2 (mx2_read (y := .int c) (z := .str "CannotStep") T no no2 (fun _ q => ⟨_, rfl, q⟩) fun a A u _ fa => ?_)
  refine mk2_read (y := .int (-1)) (z := .non) T no no2 (fun _ q => hu _ _ q) fun b B w _ fb => ⟨_, _, rfl, ?_⟩
  refine seq_set (and_of2 ⟨_, rfl, true, rfl, iteT (rc_read h12 T no rfl rfl (exat_same w fa) fb (li _ _) (li _ _) (.dp (.int _)) (.dp (.int _)) (el_int hc) (el_int (Sm.of (by decide))) (fun _ _ q => ⟨_, rfl, q⟩) (fun H' Q' q => hu H' Q' q) fun G s => ?_)⟩)
  refine seq_set (and_of2 ⟨_, rfl, true, rfl, iteT (cmp_read T no2 rfl rfl (exat_same (w.trans s) fa) (exat_same s fb) (lr _ _) (lr _ _) (.dp (.str _)) (.dp .non) el_cs el_non (fun _ _ q => q) (fun _ _ q => q) fun G2 s2 => ?_)⟩)
  exact k G2 a b (((u.trans w).trans s).trans s2)
/-! ### end of blocks -/
def sp__law_indexed (K : PySem.W.Frag) : Sp := fun vs H Q _ => ∃ c : Int, vs = [.int c] ∧ Sm c ∧ ∀ H', Same H H' → Q (.bl true) H'
def sp__law_others (K : PySem.W.Frag) : Sp := fun vs H Q _ => ∃ (c : Int) (v : V) (d : PyData), vs = [.int c, v] ∧ Sm c ∧ Dv K H v d ∧ El d ∧ ∀ H', Same H H' → Q (.bl true) H'
def sp_law (K : PySem.W.Frag) : Sp := fun vs H Q _ => ∃ (a : Addr) (ns : List Int), vs = [.ref a] ∧ SqL K H a (ns.map V.int) ∧ ns.length ≤ 63 ∧ ∀ H', Q (.bl true) H'

section
variable {P : Program} {w : World} {K : PySem.W.Frag} {mg : Str → Option Value} {base : Heap}
theorem bind__law_pen (T : Txt K mg) : Binds K T.d__law_pen ["script"] [] :=
  T.F__law_pen.bindsN fun _ _ _ _ _ _ us hl => match us, hl with | [_], _ => rfl
theorem bind__law_fresh (T : Txt K mg) : Binds K T.d__law_fresh ["pen"] [] :=
  T.F__law_fresh.bindsN fun _ _ _ _ _ _ us hl => match us, hl with | [_], _ => rfl
theorem bind__law_draw (T : Txt K mg) : Binds K T.d__law_draw ["pen", "bound"] [] :=
  T.F__law_draw.bindsN fun _ _ _ _ _ _ us hl => match us, hl with | [_, _], _ => rfl
theorem bind__law_one_of (T : Txt K mg) : Binds K T.d__law_one_of ["pen", "some"] [] :=
  T.F__law_one_of.bindsN fun _ _ _ _ _ _ us hl => match us, hl with | [_, _], _ => rfl
theorem bind_InvalidHistory___init__ (T : Txt K mg) : Binds K T.d_InvalidHistory___init__ ["self", "index"] [] :=
  T.F_InvalidHistory___init__.bindsN fun _ _ _ _ _ _ us hl => match us, hl with | [_, _], _ => rfl
theorem bind_InvalidRules___init__ (T : Txt K mg) : Binds K T.d_InvalidRules___init__ ["self", "index"] [] :=
  T.F_InvalidRules___init__.bindsN fun _ _ _ _ _ _ us hl => match us, hl with | [_, _], _ => rfl
theorem bind_InvalidWay___init__ (T : Txt K mg) : Binds K T.d_InvalidWay___init__ ["self", "index"] [] :=
  T.F_InvalidWay___init__.bindsN fun _ _ _ _ _ _ us hl => match us, hl with | [_, _], _ => rfl
theorem bind_InvalidWeights___init__ (T : Txt K mg) : Binds K T.d_InvalidWeights___init__ ["self", "index"] [] :=
  T.F_InvalidWeights___init__.bindsN fun _ _ _ _ _ _ us hl => match us, hl with | [_, _], _ => rfl
theorem bind_InvalidOptions___init__ (T : Txt K mg) : Binds K T.d_InvalidOptions___init__ ["self", "index"] [] :=
  T.F_InvalidOptions___init__.bindsN fun _ _ _ _ _ _ us hl => match us, hl with | [_, _], _ => rfl
theorem bind_InvalidLog___init__ (T : Txt K mg) : Binds K T.d_InvalidLog___init__ ["self", "index"] [] :=
  T.F_InvalidLog___init__.bindsN fun _ _ _ _ _ _ us hl => match us, hl with | [_, _], _ => rfl
theorem bind_InvalidNames___init__ (T : Txt K mg) : Binds K T.d_InvalidNames___init__ ["self", "index"] [] :=
  T.F_InvalidNames___init__.bindsN fun _ _ _ _ _ _ us hl => match us, hl with | [_, _], _ => rfl
theorem bind_ParseError___init__ (T : Txt K mg) : Binds K T.d_ParseError___init__ ["self", "line"] [] :=
  T.F_ParseError___init__.bindsN fun _ _ _ _ _ _ us hl => match us, hl with | [_, _], _ => rfl
theorem bind_UnknownName___init__ (T : Txt K mg) : Binds K T.d_UnknownName___init__ ["self", "value"] [] :=
  T.F_UnknownName___init__.bindsN fun _ _ _ _ _ _ us hl => match us, hl with | [_, _], _ => rfl
theorem bind_UnknownWord___init__ (T : Txt K mg) : Binds K T.d_UnknownWord___init__ ["self", "value"] [] :=
  T.F_UnknownWord___init__.bindsN fun _ _ _ _ _ _ us hl => match us, hl with | [_, _], _ => rfl
theorem bind_CannotStep___init__ (T : Txt K mg) : Binds K T.d_CannotStep___init__ ["self", "index"] [] :=
  T.F_CannotStep___init__.bindsN fun _ _ _ _ _ _ us hl => match us, hl with | [_, _], _ => rfl
theorem bind_LimitExceeded___init__ (T : Txt K mg) : Binds K T.d_LimitExceeded___init__ ["self", "limit"] [] :=
  T.F_LimitExceeded___init__.bindsN fun _ _ _ _ _ _ us hl => match us, hl with | [_, _], _ => rfl
theorem bind_Refused___init__ (T : Txt K mg) : Binds K T.d_Refused___init__ ["self", "index", "reason"] [] :=
  T.F_Refused___init__.bindsN fun _ _ _ _ _ _ us hl => match us, hl with | [_, _, _], _ => rfl
theorem bind__law_which (T : Txt K mg) : Binds K T.d__law_which ["e"] [] :=
  T.F__law_which.bindsN fun _ _ _ _ _ _ us hl => match us, hl with | [_], _ => rfl
theorem bind__law_base (T : Txt K mg) : Binds K T.d__law_base ["e"] [] :=
  T.F__law_base.bindsN fun _ _ _ _ _ _ us hl => match us, hl with | [_], _ => rfl
theorem bind__law_right (T : Txt K mg) : Binds K T.d__law_right ["seat", "base", "made"] [] :=
  T.F__law_right.bindsN fun _ _ _ _ _ _ us hl => match us, hl with | [_, _, _], _ => rfl
theorem bind__law_indexed (T : Txt K mg) : Binds K T.d__law_indexed ["count"] [] :=
  T.F__law_indexed.bindsN fun _ _ _ _ _ _ us hl => match us, hl with | [_], _ => rfl
theorem bind__law_others (T : Txt K mg) : Binds K T.d__law_others ["count", "thing"] [] :=
  T.F__law_others.bindsN fun _ _ _ _ _ _ us hl => match us, hl with | [_, _], _ => rfl
theorem bind_law (T : Txt K mg) : Binds K T.d_law ["script"] [] :=
  T.F_law.bindsN fun _ _ _ _ _ _ us hl => match us, hl with | [_], _ => rfl
theorem ok__law_pen (T : Txt K mg) : FnOk P w K mg base CX0 1 T.f__law_pen T.d__law_pen ["script"] (sp__law_pen K) := by
  refine T.F__law_pen.ok sc__law_pen (fun vs H Q E h => ?_) (fun cdv A outer s H vs Q E hr h => ⟨_, PSs.nox (pss_one (ps_ret (pe_lst (pa_cons (pe_callTy call_list_of (by rfl) T.n_list (by decide +kernel) (pa_cons (pe_slice sl_list (pv 0) po_none (po_some pe_int)) pa_nil)) (pa_cons pe_int (pa_cons pe_int pa_nil)))))), ?_⟩)
  · obtain ⟨a, ns, rfl, _⟩ := h
    rfl
  · obtain ⟨a, ns, rfl, hS, k⟩ := h
    refine ⟨_, rfl, 63, rfl, a, _, rfl, hS, fun p1 n1 => ⟨p1, _, rfl, .inl (SqL.of upd_same), fun g ng => ⟨by show 3 ≤ sizeLine; decide, fun p np => ?_⟩⟩⟩
    have s1 : Same H (upd H p1 (.lst (cutV (ns.map V.int) none (some 63)))) := same_new n1
    have s2 := s1.trans (same_new (o := .lst (cutV (ns.map V.int) none (some 63))) ng)
    have pg : p ≠ g := by
      intro e
      subst e
      rw [upd_same] at np
      cases np
    refine k p g _ (s2.trans (same_new np)) (s2.free np) ⟨ns.take 63, 0, 0, pg, upd_same, ?_⟩
    rw [upd_ne pg.symm, upd_same]
    have e : cutV (ns.map V.int) none (some 63) = (ns.take 63).map V.int := by
      rw [List.map_take]
      unfold cutV
      show ((ns.map V.int).drop 0).take _ = _
      rw [List.drop_zero]
      show (ns.map V.int).take (min 63 (ns.map V.int).length - 0) = _
      rw [Nat.sub_zero, Nat.min_comm, List.take_eq_take_iff]
      omega
    rw [e]

theorem ok__law_fresh (T : Txt K mg) : FnOk P w K mg base CX0 1 T.f__law_fresh T.d__law_fresh ["pen"] (sp__law_fresh K) := by
  refine T.F__law_fresh.ok sc__law_fresh (fun vs H Q E h => ?_) (fun cdv A outer s H vs Q E hr h => ⟨_, PSs.nox (pss_cons (ps_par (i := 1) (j := 2) (by rfl) sc__law_fresh.nd rfl rfl (by decide) rfl rfl (pa_cons (pe_ix ix_list (pv 0) pe_int (fun _ _ => rfl)) (pa_cons (pe_ix ix_list (pv 0) pe_int (fun _ _ => rfl)) pa_nil)) (by rfl))
      (pss_cons (ps_asg (pe_op op_add (pv 1) pe_int) (pg_sub (pv 0) pe_int set_list))
      (pss_cons (ps_set (i := 3) sc__law_fresh.nd rfl (Or.inl rfl) (pe_ifExp (pt_cmpR (op_neD hr.units) (pv 2) (pe_lst pa_nil) (nomark _)) (pe_ix ix_list (pv 2) (pe_op op_modN (pe_callTy call_int1 (by rfl) T.n_int (by decide +kernel) (pa_cons (pv 1) pa_nil)) (pe_callB call_len_seq (by rfl) T.n_len (by decide +kernel) (pa_cons (pv 2) pa_nil))) (fun _ _ => rfl)) pe_int))
      (pss_cons (ps_if (PW.pt (pw_and (pt_cmpR op_lt (pv 1) (pe_callB call_len_seq (by rfl) T.n_len (by decide +kernel) (pa_cons (pv 2) pa_nil)) (nomark _)) (pw_and1 (pt_cmpR op_ge (pv 3) (pe_op op_pow pe_int pe_int) (nomark _))))) (pss_one (ps_ret (pe_op op_sub (pv 3) (pe_op op_pow pe_int pe_int)))) pss_nil)
      (pss_cons (ps_set (i := 4) sc__law_fresh.nd rfl (Or.inl rfl) pe_int)
      (pss_cons (ps_set (i := 5) sc__law_fresh.nd rfl (Or.inl rfl) (pe_op op_modN (pe_callTy call_int1 (by rfl) T.n_int (by decide +kernel) (pa_cons (pe_op op_add (pe_op op_add (pe_op op_mul (pv 3) pe_int) (pe_op op_mul pe_int (pv 1))) pe_int) pa_nil)) (pv 4)))
      (pss_cons (ps_set (i := 6) sc__law_fresh.nd rfl (Or.inl rfl) (pv 5))
      (pss_cons (ps_for PassesOwn.never rfl (pi_range1 (by rfl) T.n_range (pa_cons pe_int pa_nil)) (pg_name (i := 7) sc__law_fresh.nd rfl (Or.inl rfl)) (pss_cons (ps_set (i := 5) sc__law_fresh.nd rfl (Or.inl rfl) (pe_op op_modN (pe_callTy call_int1 (by rfl) T.n_int (by decide +kernel) (pa_cons (pe_op op_add (pe_op op_add (pe_op op_mul (pv 5) (pv 5)) (pe_op op_mul (pe_op op_mul pe_int (pe_op op_add (pv 7) pe_int)) (pe_op op_add (pv 1) pe_int))) (pv 3)) pa_nil)) (pv 4)))
      (pss_one (ps_set (i := 6) sc__law_fresh.nd rfl (Or.inl rfl) (pe_op op_add (pe_op op_mul (pv 6) (pv 4)) (pv 5))))))
      (pss_one (ps_ret (pv 6))))))))))), ?_⟩)
  · obtain ⟨p, g, ns, seat, left, rfl, _⟩ := h
    rfl
  · obtain ⟨p, g, ns, seat, left, rfl, ⟨pg, hp, hc⟩, k⟩ := h
    -- seat, given; the place moves on
    refine ⟨_, rfl, p, _, 1, .int seat, rfl, rfl, SqL.of hp, rfl, _, rfl, p, _, 0, .ref g, rfl, rfl, SqL.of hp, rfl, _, _, rfl, ?_⟩
    refine ⟨_, rfl, _, _, rfl, rfl, _, rfl, p, _, 1, 1, rfl, rfl, hp, rfl, ?_⟩
    have b1 : But p H (upd H p (.lst ([V.ref g, V.int seat, V.int left].set 1 (V.int (seat + 1))))) := (But.refl p H).wr
    have a1 : PenAt (upd H p (.lst ([V.ref g, V.int seat, V.int left].set 1 (V.int (seat + 1))))) p g ns (seat + 1) left :=
      ⟨pg, upd_same, by rw [upd_ne pg.symm]; exact hc⟩
    generalize upd H p (.lst ([V.ref g, V.int seat, V.int left].set 1 (V.int (seat + 1)))) = H1 at b1 a1
    -- cell
    refine ⟨_, rfl, by show 0 ≤ sizeLine; decide, fun q nq => ?_⟩
    have s2 : Same H1 (upd H1 q (.lst [])) := same_new nq
    have a2 : PenAt (upd H1 q (.lst [])) p g ns (seat + 1) left := same_penAt s2 a1
    have b2 := b1.same s2
    have hq : (upd H1 q (.lst [])) q = some (.lst []) := upd_same
    refine ⟨.list (ns.map PyData.int), .list [], .lst (SqL.of a2.cells) (dp_ints ns), .lst (SqL.of hq) .nil, shaped_ints ns, rfl, _, rfl, ?_⟩
    generalize upd H1 q (.lst []) = H2 at a2 b2
    rw [eqv_nil]
    refine ite_val (fun v H' => H' = H2 ∧ ∃ c : Int, v = .int c) (fun hne Q' hQ => ?_) (fun hne Q' hQ => ?_) ?_
    · have hne' : ns ≠ [] := by
        intro e
        subst e
        exact absurd hne (by decide)
      have hl : 0 < (ns.length : Int) := by
        cases ns with
        | nil => exact absurd rfl hne'
        | cons a r => simp
      have fm := fmod_pos (a := seat) hl
      obtain ⟨c, _, hat⟩ := atI_some (xs := ns) fm.1 fm.2
      have hat' : atI (ns.map V.int) (seat.fmod (ns.length : Int)) = some (V.int c) := by
        unfold atI ixN at hat ⊢
        rw [List.length_map]
        rw [if_pos fm.1, if_pos fm.2] at hat ⊢
        simp only [Option.bind_some, List.getElem?_map] at hat ⊢
        rw [hat]
        all_goals rfl
      refine ⟨_, rfl, _, rfl, .inl ⟨_, rfl, _, rfl, g, _, rfl, .inl (SqL.of a2.cells), _, _, rfl, rfl, ?_, g, _, _, _, rfl, rfl, SqL.of a2.cells, ?_, hQ _ _ ⟨rfl, c, rfl⟩⟩⟩
      · rw [List.length_map]
        omega
      · rw [List.length_map]
        exact hat'
    · exact hQ _ _ ⟨rfl, 0, rfl⟩
    rintro v H3 ⟨rfl, c, rfl⟩
    -- a great cell as it is
    refine nx_of ?_
    dsimp only
    refine seq_if (fun K' hK => ?_) ?_ ?_
    · refine ⟨_, rfl, _, rfl, g, _, rfl, .inl (SqL.of a2.cells), _, _, rfl, rfl, _, rfl, ite2 (fun _ => ?_) (fun _ => hK _)⟩
      exact ⟨_, rfl, _, _, rfl, rfl, ⟨by decide, by decide, by decide⟩, _, _, rfl, rfl, _, rfl, hK _⟩
    · exact ⟨_, rfl, _, _, rfl, rfl, ⟨by decide, by decide, by decide⟩, _, _, rfl, rfl, k _ _ a2 b2⟩
    -- mixed
    refine ⟨_, rfl, _, _, rfl, rfl, .inr ⟨by decide, by decide⟩, _, rfl, _, _, rfl, rfl, .inl ⟨by decide, by decide⟩, _, _, rfl, rfl, _, _, rfl, rfl, .inl ⟨_, rfl, _, rfl, _, _, rfl, rfl, (by show (2305843009213693951 : Int) ≠ 0; decide), ?_⟩⟩
    have f0 := fmod_pos (a := c * 39373 + 52013 * seat + 29) (b := 2305843009213693951) (by decide)
    refine ⟨_, rfl, 6, rfl, by decide, by decide, for_range (lo := 0) (n := 6) (fun i σ H' => H' = H3 ∧ ∃ (st fo : Int) (lv : Option V), 0 ≤ st ∧ st < 2305843009213693951 ∧
      σ = [some (.ref p), some (.int seat), some (.ref g), some (.int c), some (.int 2305843009213693951), some (.int st), some (.int fo), lv]) ?_ ?_ ?_⟩
    · exact ⟨rfl, _, _, none, f0.1, f0.2, rfl⟩
    · rintro i σ H' hi ⟨rfl, st, fo, lv, h0, h1, rfl⟩
      have f1 := fmod_pos (a := st * st + 62089 * (0 + (i : Int) + 3) * (seat + 1) + c) (b := 2305843009213693951) (by decide)
      refine ⟨_, rfl, _, rfl, _, _, rfl, rfl, .inl ⟨by omega, by omega⟩, _, rfl, _, _, rfl, rfl, _, _, rfl, rfl, .inl ⟨by decide, by decide⟩, _, rfl, _, _, rfl, rfl, _, _, rfl, rfl, .inl ⟨by omega, by omega⟩, _, _, rfl, rfl, _, rfl, _, _, rfl, rfl, .inl ⟨_, rfl, _, rfl, _, _, rfl, rfl, (by show (2305843009213693951 : Int) ≠ 0; decide), ?_⟩⟩
      refine ⟨_, rfl, _, rfl, _, _, rfl, rfl, .inr ⟨by decide, by decide⟩, _, rfl, _, _, rfl, rfl, ?_⟩
      exact ⟨rfl, _, _, _, f1.1, f1.2, rfl⟩
    · rintro σ H' ⟨rfl, st, fo, lv, h0, h1, rfl⟩
      exact ⟨_, rfl, k _ _ a2 b2⟩

theorem ok__law_draw (T : Txt K mg) : FnOk P w K mg base CX0 2 T.f__law_draw T.d__law_draw ["pen", "bound"] (sp__law_draw K) := by
  refine T.F__law_draw.ok sc__law_draw (fun vs H Q E h => ?_) (fun cdv A outer s H vs Q E hr h => ⟨_, PSs.nox (pss_cons (ps_if (pt_cmpR op_lt (pe_ix ix_list (pv 0) pe_int (fun _ _ => rfl)) (pv 1) (nomark _)) (pss_one (ps_asg (pe_call (ok__law_fresh T) (hr.mono (by decide)) rfl T.g__law_fresh T.F__law_fresh.kp (bind__law_fresh T) .nil pass0 (pa_cons (pv 0) pa_nil)) (pg_sub (pv 0) pe_int set_list))) pss_nil)
      (pss_cons (ps_set (i := 2) sc__law_draw.nd rfl (Or.inl rfl) (pe_op op_modN (pe_callTy call_int1 (by rfl) T.n_int (by decide +kernel) (pa_cons (pe_ix ix_list (pv 0) pe_int (fun _ _ => rfl)) pa_nil)) (pv 1)))
      (pss_cons (ps_asg (pe_op op_fdivW (pe_callTy call_int1 (by rfl) T.n_int (by decide +kernel) (pa_cons (pe_ix ix_list (pv 0) pe_int (fun _ _ => rfl)) pa_nil)) (pv 1)) (pg_sub (pv 0) pe_int set_list))
      (pss_one (ps_ret (pv 2)))))), ?_⟩)
  · obtain ⟨p, g, b, rfl, _⟩ := h
    rfl
  · obtain ⟨p, g, b, rfl, ⟨ns, seat, left, a0⟩, hb, hb9, k⟩ := h
    refine ⟨_, rfl, p, _, 2, .int left, rfl, rfl, SqL.of a0.at_, rfl, _, rfl, _, _, rfl, rfl, _, rfl, ?_⟩
    refine ite_stm (fun σ H' => ∃ (s1 l1 : Int), PenAt H' p g ns s1 l1 ∧ But p H H' ∧ σ = [some (.ref p), some (.int b), none]) (fun _ nx hn => ?_) (fun _ nx hn => ?_) ?_
    · refine ⟨_, rfl, p, g, ns, seat, left, rfl, a0, fun r H1 a1 b1 => ?_⟩
      refine ⟨_, rfl, p, _, 2, 2, rfl, rfl, a1.at_, rfl, hn _ _ ⟨seat + 1, r, ⟨a1.ne, upd_same, ?_⟩, b1.wr, rfl⟩⟩
      rw [upd_ne a1.ne.symm]
      exact a1.cells
    · exact hn _ _ ⟨seat, left, a0, But.refl p H, rfl⟩
    rintro σ H' ⟨s1, l1, a1, b1, rfl⟩
    have f := fmod_pos (a := l1) hb
    refine ⟨_, rfl, p, _, 2, .int l1, rfl, rfl, SqL.of a1.at_, rfl, .inl ⟨_, rfl, _, rfl, _, _, rfl, rfl, by omega, ?_⟩⟩
    refine ⟨_, rfl, p, _, 2, .int l1, rfl, rfl, SqL.of a1.at_, rfl, .inl ⟨_, rfl, _, rfl, _, _, rfl, rfl, wide_div hb hb9 (by decide) (by decide), ?_⟩⟩
    refine ⟨_, rfl, p, _, 2, 2, rfl, rfl, a1.at_, rfl, _, rfl, ?_⟩
    refine k _ _ f.1 f.2 ⟨ns, s1, l1 / b, a1.ne, upd_same, ?_⟩ b1.wr
    rw [upd_ne a1.ne.symm]
    exact a1.cells

theorem ok__law_one_of (T : Txt K mg) : FnOk P w K mg base CX0 3 T.f__law_one_of T.d__law_one_of ["pen", "some"] (sp__law_one_of K) := by
  refine T.F__law_one_of.ok sc__law_one_of (fun vs H Q E h => ?_) (fun cdv A outer s H vs Q E hr h => ⟨_, PSs.nox (pss_one (ps_ret (pe_ix ix_list (pv 1) (pe_call (ok__law_draw T) (hr.mono (by decide)) rfl T.g__law_draw T.F__law_draw.kp (bind__law_draw T) .nil pass0 (pa_cons (pv 0) (pa_cons (pe_callB call_len_seq (by rfl) T.n_len (by decide +kernel) (pa_cons (pv 1) pa_nil)) pa_nil))) (fun _ _ => rfl)))), ?_⟩)
  · obtain ⟨p, g, l, xs, rfl, _⟩ := h
    rfl
  · obtain ⟨p, g, l, xs, rfl, hp, hlp, hl, hne, hn, k⟩ := h
    have pos : 0 < (xs.length : Int) := by
      cases xs with
      | nil => exact absurd rfl hne
      | cons a r => simp
    have big : (2 : Nat) ^ 10 ≤ 2 ^ 9000 := Nat.pow_le_pow_right (by decide) (by decide)
    refine ⟨_, rfl, _, rfl, _, rfl, l, xs, rfl, .inl (SqL.of hl), p, g, (xs.length : Int), rfl, hp, pos, ?_, fun n H' h0 h1 P' B' => ?_⟩
    · have e : ((xs.length : Int)).natAbs = xs.length := Int.natAbs_natCast _
      rw [e]
      exact Nat.lt_of_lt_of_le (by omega) big
    · obtain ⟨v, hv, hat⟩ := atI_some (xs := xs) h0 h1
      exact ⟨l, xs, n, v, rfl, rfl, SqL.of (B' _ _ hl hlp), hat, k v H' (List.mem_of_getElem? hv) P' B'⟩

theorem ok_InvalidHistory___init__ (T : Txt K mg) : FnOk P w K mg base CX0 1 (He.ma K (He.ga K "InvalidHistory") "__init__") T.d_InvalidHistory___init__ ["self", "index"] (sp_InvalidHistory___init__ K) := by
  refine T.F_InvalidHistory___init__.ok sc_InvalidHistory___init__ (fun vs H Q E h => ?_) (fun cdv A outer s H vs Q E hr h => ⟨_, PSs.nox (pss_one (ps_st (pv 0) (pv 1))), ?_⟩)
  · obtain ⟨a, C, y, rfl, _⟩ := h
    rfl
  · obtain ⟨a, C, y, rfl, T1, no, ha, k⟩ := h
    exact ⟨_, rfl, _, rfl, a, C, rfl, T1, no, .inl ⟨ha, fun dx nd ne => k dx nd ne⟩⟩

theorem ok_InvalidRules___init__ (T : Txt K mg) : FnOk P w K mg base CX0 1 (He.ma K (He.ga K "InvalidRules") "__init__") T.d_InvalidRules___init__ ["self", "index"] (sp_InvalidRules___init__ K) := by
  refine T.F_InvalidRules___init__.ok sc_InvalidRules___init__ (fun vs H Q E h => ?_) (fun cdv A outer s H vs Q E hr h => ⟨_, PSs.nox (pss_one (ps_st (pv 0) (pv 1))), ?_⟩)
  · obtain ⟨a, C, y, rfl, _⟩ := h
    rfl
  · obtain ⟨a, C, y, rfl, T1, no, ha, k⟩ := h
    exact ⟨_, rfl, _, rfl, a, C, rfl, T1, no, .inl ⟨ha, fun dx nd ne => k dx nd ne⟩⟩

theorem ok_InvalidWay___init__ (T : Txt K mg) : FnOk P w K mg base CX0 1 (He.ma K (He.ga K "InvalidWay") "__init__") T.d_InvalidWay___init__ ["self", "index"] (sp_InvalidWay___init__ K) := by
  refine T.F_InvalidWay___init__.ok sc_InvalidWay___init__ (fun vs H Q E h => ?_) (fun cdv A outer s H vs Q E hr h => ⟨_, PSs.nox (pss_one (ps_st (pv 0) (pv 1))), ?_⟩)
  · obtain ⟨a, C, y, rfl, _⟩ := h
    rfl
  · obtain ⟨a, C, y, rfl, T1, no, ha, k⟩ := h
    exact ⟨_, rfl, _, rfl, a, C, rfl, T1, no, .inl ⟨ha, fun dx nd ne => k dx nd ne⟩⟩

theorem ok_InvalidWeights___init__ (T : Txt K mg) : FnOk P w K mg base CX0 1 (He.ma K (He.ga K "InvalidWeights") "__init__") T.d_InvalidWeights___init__ ["self", "index"] (sp_InvalidWeights___init__ K) := by
  refine T.F_InvalidWeights___init__.ok sc_InvalidWeights___init__ (fun vs H Q E h => ?_) (fun cdv A outer s H vs Q E hr h => ⟨_, PSs.nox (pss_one (ps_st (pv 0) (pv 1))), ?_⟩)
  · obtain ⟨a, C, y, rfl, _⟩ := h
    rfl
  · obtain ⟨a, C, y, rfl, T1, no, ha, k⟩ := h
    exact ⟨_, rfl, _, rfl, a, C, rfl, T1, no, .inl ⟨ha, fun dx nd ne => k dx nd ne⟩⟩

theorem ok_InvalidOptions___init__ (T : Txt K mg) : FnOk P w K mg base CX0 1 (He.ma K (He.ga K "InvalidOptions") "__init__") T.d_InvalidOptions___init__ ["self", "index"] (sp_InvalidOptions___init__ K) := by
  refine T.F_InvalidOptions___init__.ok sc_InvalidOptions___init__ (fun vs H Q E h => ?_) (fun cdv A outer s H vs Q E hr h => ⟨_, PSs.nox (pss_one (ps_st (pv 0) (pv 1))), ?_⟩)
  · obtain ⟨a, C, y, rfl, _⟩ := h
    rfl
  · obtain ⟨a, C, y, rfl, T1, no, ha, k⟩ := h
    exact ⟨_, rfl, _, rfl, a, C, rfl, T1, no, .inl ⟨ha, fun dx nd ne => k dx nd ne⟩⟩

theorem ok_InvalidLog___init__ (T : Txt K mg) : FnOk P w K mg base CX0 1 (He.ma K (He.ga K "InvalidLog") "__init__") T.d_InvalidLog___init__ ["self", "index"] (sp_InvalidLog___init__ K) := by
  refine T.F_InvalidLog___init__.ok sc_InvalidLog___init__ (fun vs H Q E h => ?_) (fun cdv A outer s H vs Q E hr h => ⟨_, PSs.nox (pss_one (ps_st (pv 0) (pv 1))), ?_⟩)
  · obtain ⟨a, C, y, rfl, _⟩ := h
    rfl
  · obtain ⟨a, C, y, rfl, T1, no, ha, k⟩ := h
    exact ⟨_, rfl, _, rfl, a, C, rfl, T1, no, .inl ⟨ha, fun dx nd ne => k dx nd ne⟩⟩

theorem ok_InvalidNames___init__ (T : Txt K mg) : FnOk P w K mg base CX0 1 (He.ma K (He.ga K "InvalidNames") "__init__") T.d_InvalidNames___init__ ["self", "index"] (sp_InvalidNames___init__ K) := by
  refine T.F_InvalidNames___init__.ok sc_InvalidNames___init__ (fun vs H Q E h => ?_) (fun cdv A outer s H vs Q E hr h => ⟨_, PSs.nox (pss_one (ps_st (pv 0) (pv 1))), ?_⟩)
  · obtain ⟨a, C, y, rfl, _⟩ := h
    rfl
  · obtain ⟨a, C, y, rfl, T1, no, ha, k⟩ := h
    exact ⟨_, rfl, _, rfl, a, C, rfl, T1, no, .inl ⟨ha, fun dx nd ne => k dx nd ne⟩⟩

theorem ok_ParseError___init__ (T : Txt K mg) : FnOk P w K mg base CX0 1 (He.ma K (He.ga K "ParseError") "__init__") T.d_ParseError___init__ ["self", "line"] (sp_ParseError___init__ K) := by
  refine T.F_ParseError___init__.ok sc_ParseError___init__ (fun vs H Q E h => ?_) (fun cdv A outer s H vs Q E hr h => ⟨_, PSs.nox (pss_one (ps_st (pv 0) (pv 1))), ?_⟩)
  · obtain ⟨a, C, y, rfl, _⟩ := h
    rfl
  · obtain ⟨a, C, y, rfl, T1, no, ha, k⟩ := h
    exact ⟨_, rfl, _, rfl, a, C, rfl, T1, no, .inl ⟨ha, fun dx nd ne => k dx nd ne⟩⟩

theorem ok_UnknownName___init__ (T : Txt K mg) : FnOk P w K mg base CX0 1 (He.ma K (He.ga K "UnknownName") "__init__") T.d_UnknownName___init__ ["self", "value"] (sp_UnknownName___init__ K) := by
  refine T.F_UnknownName___init__.ok sc_UnknownName___init__ (fun vs H Q E h => ?_) (fun cdv A outer s H vs Q E hr h => ⟨_, PSs.nox (pss_one (ps_st (pv 0) (pv 1))), ?_⟩)
  · obtain ⟨a, C, y, rfl, _⟩ := h
    rfl
  · obtain ⟨a, C, y, rfl, T1, no, ha, k⟩ := h
    exact ⟨_, rfl, _, rfl, a, C, rfl, T1, no, .inl ⟨ha, fun dx nd ne => k dx nd ne⟩⟩

theorem ok_UnknownWord___init__ (T : Txt K mg) : FnOk P w K mg base CX0 1 (He.ma K (He.ga K "UnknownWord") "__init__") T.d_UnknownWord___init__ ["self", "value"] (sp_UnknownWord___init__ K) := by
  refine T.F_UnknownWord___init__.ok sc_UnknownWord___init__ (fun vs H Q E h => ?_) (fun cdv A outer s H vs Q E hr h => ⟨_, PSs.nox (pss_one (ps_st (pv 0) (pv 1))), ?_⟩)
  · obtain ⟨a, C, y, rfl, _⟩ := h
    rfl
  · obtain ⟨a, C, y, rfl, T1, no, ha, k⟩ := h
    exact ⟨_, rfl, _, rfl, a, C, rfl, T1, no, .inl ⟨ha, fun dx nd ne => k dx nd ne⟩⟩

theorem ok_CannotStep___init__ (T : Txt K mg) : FnOk P w K mg base CX0 1 (He.ma K (He.ga K "CannotStep") "__init__") T.d_CannotStep___init__ ["self", "index"] (sp_CannotStep___init__ K) := by
  refine T.F_CannotStep___init__.ok sc_CannotStep___init__ (fun vs H Q E h => ?_) (fun cdv A outer s H vs Q E hr h => ⟨_, PSs.nox (pss_one (ps_st (pv 0) (pv 1))), ?_⟩)
  · obtain ⟨a, C, y, rfl, _⟩ := h
    rfl
  · obtain ⟨a, C, y, rfl, T1, no, ha, k⟩ := h
    exact ⟨_, rfl, _, rfl, a, C, rfl, T1, no, .inl ⟨ha, fun dx nd ne => k dx nd ne⟩⟩

theorem ok_LimitExceeded___init__ (T : Txt K mg) : FnOk P w K mg base CX0 1 (He.ma K (He.ga K "LimitExceeded") "__init__") T.d_LimitExceeded___init__ ["self", "limit"] (sp_LimitExceeded___init__ K) := by
  refine T.F_LimitExceeded___init__.ok sc_LimitExceeded___init__ (fun vs H Q E h => ?_) (fun cdv A outer s H vs Q E hr h => ⟨_, PSs.nox (pss_one (ps_st (pv 0) (pv 1))), ?_⟩)
  · obtain ⟨a, C, y, rfl, _⟩ := h
    rfl
  · obtain ⟨a, C, y, rfl, T1, no, ha, k⟩ := h
    exact ⟨_, rfl, _, rfl, a, C, rfl, T1, no, .inl ⟨ha, fun dx nd ne => k dx nd ne⟩⟩

theorem ok_Refused___init__ (T : Txt K mg) : FnOk P w K mg base CX0 1 (He.ma K (He.ga K "Refused") "__init__") T.d_Refused___init__ ["self", "index", "reason"] (sp_Refused___init__ K) := by
  refine T.F_Refused___init__.ok sc_Refused___init__ (fun vs H Q E h => ?_) (fun cdv A outer s H vs Q E hr h => ⟨_, PSs.nox (pss_cons (ps_st (pv 0) (pv 1))
      (pss_one (ps_st (pv 0) (pv 2)))), ?_⟩)
  · obtain ⟨a, C, y, z, rfl, _⟩ := h
    rfl
  · obtain ⟨a, C, y, z, rfl, T1, no1, no2, ha, k⟩ := h
    refine ⟨_, rfl, _, rfl, a, C, rfl, T1, no1, .inl ⟨ha, fun dx nd ne => ?_⟩⟩
    refine ⟨_, rfl, _, rfl, a, C, rfl, T1, no2, .inr ⟨dx, _, upd_same, ?_, by show 1 ≤ 900; decide, k dx nd ne⟩⟩
    rw [upd_ne ne]
    exact upd_same

theorem ok__law_which (T : Txt K mg) : FnOk P w K mg base CX0 1 T.f__law_which T.d__law_which ["e"] (sp__law_which K) := by
  refine T.F__law_which.ok sc__law_which (fun vs H Q E h => ?_) (fun cdv A outer s H vs Q E hr h => ⟨_, PSs.nox (pss_cons (ps_set (i := 1) sc__law_which.nd rfl (Or.inl rfl) (pe_lst (pa_cons (pe_callB (call_isX (K := K) rfl) (by rfl) T.n_isinstance (by decide +kernel) (pa_cons (pv 0) (pa_cons (pe_glob (v := .ref (He.ga K "InvalidHistory")) (by rfl) T.gx_InvalidHistory rfl) pa_nil))) (pa_cons (pe_callB (call_isX (K := K) rfl) (by rfl) T.n_isinstance (by decide +kernel) (pa_cons (pv 0) (pa_cons (pe_glob (v := .ref (He.ga K "InvalidRules")) (by rfl) T.gx_InvalidRules rfl) pa_nil))) (pa_cons (pe_callB (call_isX (K := K) rfl) (by rfl) T.n_isinstance (by decide +kernel) (pa_cons (pv 0) (pa_cons (pe_glob (v := .ref (He.ga K "InvalidWay")) (by rfl) T.gx_InvalidWay rfl) pa_nil))) pa_nil)))))
      (pss_cons (ps_set (i := 1) sc__law_which.nd rfl (Or.inl rfl) (pe_op op_cat (pv 1) (pe_lst (pa_cons (pe_callB (call_isX (K := K) rfl) (by rfl) T.n_isinstance (by decide +kernel) (pa_cons (pv 0) (pa_cons (pe_glob (v := .ref (He.ga K "InvalidWeights")) (by rfl) T.gx_InvalidWeights rfl) pa_nil))) (pa_cons (pe_callB (call_isX (K := K) rfl) (by rfl) T.n_isinstance (by decide +kernel) (pa_cons (pv 0) (pa_cons (pe_glob (v := .ref (He.ga K "InvalidOptions")) (by rfl) T.gx_InvalidOptions rfl) pa_nil))) (pa_cons (pe_callB (call_isX (K := K) rfl) (by rfl) T.n_isinstance (by decide +kernel) (pa_cons (pv 0) (pa_cons (pe_glob (v := .ref (He.ga K "InvalidLog")) (by rfl) T.gx_InvalidLog rfl) pa_nil))) pa_nil))))))
      (pss_cons (ps_set (i := 1) sc__law_which.nd rfl (Or.inl rfl) (pe_op op_cat (pv 1) (pe_lst (pa_cons (pe_callB (call_isX (K := K) rfl) (by rfl) T.n_isinstance (by decide +kernel) (pa_cons (pv 0) (pa_cons (pe_glob (v := .ref (He.ga K "InvalidNames")) (by rfl) T.gx_InvalidNames rfl) pa_nil))) (pa_cons (pe_callB (call_isX (K := K) rfl) (by rfl) T.n_isinstance (by decide +kernel) (pa_cons (pv 0) (pa_cons (pe_glob (v := .ref (He.ga K "InvalidClaim")) (by rfl) T.gx_InvalidClaim rfl) pa_nil))) (pa_cons (pe_callB (call_isX (K := K) rfl) (by rfl) T.n_isinstance (by decide +kernel) (pa_cons (pv 0) (pa_cons (pe_glob (v := .ref (He.ga K "ParseError")) (by rfl) T.gx_ParseError rfl) pa_nil))) pa_nil))))))
      (pss_cons (ps_set (i := 1) sc__law_which.nd rfl (Or.inl rfl) (pe_op op_cat (pv 1) (pe_lst (pa_cons (pe_callB (call_isX (K := K) rfl) (by rfl) T.n_isinstance (by decide +kernel) (pa_cons (pv 0) (pa_cons (pe_glob (v := .ref (He.ga K "UnknownName")) (by rfl) T.gx_UnknownName rfl) pa_nil))) (pa_cons (pe_callB (call_isX (K := K) rfl) (by rfl) T.n_isinstance (by decide +kernel) (pa_cons (pv 0) (pa_cons (pe_glob (v := .ref (He.ga K "UnknownWord")) (by rfl) T.gx_UnknownWord rfl) pa_nil))) (pa_cons (pe_callB (call_isX (K := K) rfl) (by rfl) T.n_isinstance (by decide +kernel) (pa_cons (pv 0) (pa_cons (pe_glob (v := .ref (He.ga K "CannotStep")) (by rfl) T.gx_CannotStep rfl) pa_nil))) pa_nil))))))
      (pss_cons (ps_set (i := 1) sc__law_which.nd rfl (Or.inl rfl) (pe_op op_cat (pv 1) (pe_lst (pa_cons (pe_callB (call_isX (K := K) rfl) (by rfl) T.n_isinstance (by decide +kernel) (pa_cons (pv 0) (pa_cons (pe_glob (v := .ref (He.ga K "Refused")) (by rfl) T.gx_Refused rfl) pa_nil))) (pa_cons (pe_callB (call_isX (K := K) rfl) (by rfl) T.n_isinstance (by decide +kernel) (pa_cons (pv 0) (pa_cons (pe_glob (v := .ref (He.ga K "NothingDone")) (by rfl) T.gx_NothingDone rfl) pa_nil))) (pa_cons (pe_callB (call_isX (K := K) rfl) (by rfl) T.n_isinstance (by decide +kernel) (pa_cons (pv 0) (pa_cons (pe_glob (v := .ref (He.ga K "LimitExceeded")) (by rfl) T.gx_LimitExceeded rfl) pa_nil))) pa_nil))))))
      (pss_one (ps_ret (pe_lc (own := [("seat", 2), ("is_it", 3)]) (g := gTup K 2 (gCons (gName 2) (gCons (gName 3) gNil))) rfl sc__law_which.nd (pi_enum (by rfl) T.n_enumerate (pa_cons (pv 1) pa_nil)) (blkOk_by (N := ["e", "found", "seat", "is_it"]) (sc := defScope s__law_which) (by decide +kernel)) (fun _ _ _ _ _ => pg_tup (by rfl) (pgs_cons (pg_name (i := 2) sc__law_which.nd rfl (Or.inl rfl)) (pgs_cons (pg_name (i := 3) sc__law_which.nd rfl (Or.inl rfl)) pgs_nil))) (fun _ _ _ _ _ => pts_one (pt_val (pv 3))) (fun _ _ _ _ _ => (pv 2)))))))))), ?_⟩)
  · obtain ⟨a, n, rfl, _⟩ := h
    rfl
  · obtain ⟨a, n, rfl, hn, he, k⟩ := h
    refine seq_set (lst3 (fun _ q => is_read T (m := 0) hn (by decide) (by rfl) he q) (fun _ q => is_read T (m := 1) hn (by decide) (by rfl) he q) (fun _ q => is_read T (m := 2) hn (by decide) (by rfl) he q) fun p1 H1 z1 n1 g1 => ?_)
    refine seq_set (cat3 rfl g1 (by simp) (fun _ q => is_read T (m := 3) hn (by decide) (by rfl) (exany_same z1 he) q) (fun _ q => is_read T (m := 4) hn (by decide) (by rfl) (exany_same z1 he) q) (fun _ q => is_read T (m := 5) hn (by decide) (by rfl) (exany_same z1 he) q) fun p2 H2 y2 n2 g2 => ?_)
    have z2 := z1.trans y2
    refine seq_set (cat3 rfl g2 (by simp) (fun _ q => is_read T (m := 6) hn (by decide) (by rfl) (exany_same z2 he) q) (fun _ q => is_read T (m := 7) hn (by decide) (by rfl) (exany_same z2 he) q) (fun _ q => is_read T (m := 8) hn (by decide) (by rfl) (exany_same z2 he) q) fun p3 H3 y3 n3 g3 => ?_)
    have z3 := z2.trans y3
    refine seq_set (cat3 rfl g3 (by simp) (fun _ q => is_read T (m := 9) hn (by decide) (by rfl) (exany_same z3 he) q) (fun _ q => is_read T (m := 10) hn (by decide) (by rfl) (exany_same z3 he) q) (fun _ q => is_read T (m := 11) hn (by decide) (by rfl) (exany_same z3 he) q) fun p4 H4 y4 n4 g4 => ?_)
    have z4 := z3.trans y4
    refine seq_set (cat3 rfl g4 (by simp) (fun _ q => is_read T (m := 12) hn (by decide) (by rfl) (exany_same z4 he) q) (fun _ q => is_read T (m := 13) hn (by decide) (by rfl) (exany_same z4 he) q) (fun _ q => is_read T (m := 14) hn (by decide) (by rfl) (exany_same z4 he) q) fun p5 H5 y5 n5 g5 => ?_)
    have z5 := z4.trans y5
    exact ret_of (seat_lc (v := n) (N := 15) hn (by decide) g5 fun D H' s' hD => k D H' (z5.trans s') hD)

theorem bs_lt : ∀ n, n < 15 → bs n < 7 := by decide

theorem ok__law_base (T : Txt K mg) : FnOk P w K mg base CX0 1 T.f__law_base T.d__law_base ["e"] (sp__law_base K) := by
  refine T.F__law_base.ok sc__law_base (fun vs H Q E h => ?_) (fun cdv A outer s H vs Q E hr h => ⟨_, PSs.nox (pss_cons (ps_set (i := 1) sc__law_base.nd rfl (Or.inl rfl) (pe_lst (pa_cons (pe_callB (call_isX (K := K) rfl) (by rfl) T.n_isinstance (by decide +kernel) (pa_cons (pv 0) (pa_cons (pe_bltn (v := .ty "ValueError") (by rfl) T.n_ValueError (by decide +kernel) rfl) pa_nil))) (pa_cons (pe_callB (call_isX (K := K) rfl) (by rfl) T.n_isinstance (by decide +kernel) (pa_cons (pv 0) (pa_cons (pe_bltn (v := .ty "LookupError") (by rfl) T.n_LookupError (by decide +kernel) rfl) pa_nil))) (pa_cons (pe_callB (call_isX (K := K) rfl) (by rfl) T.n_isinstance (by decide +kernel) (pa_cons (pv 0) (pa_cons (pe_bltn (v := .ty "RuntimeError") (by rfl) T.n_RuntimeError (by decide +kernel) rfl) pa_nil))) pa_nil)))))
      (pss_cons (ps_set (i := 1) sc__law_base.nd rfl (Or.inl rfl) (pe_op op_cat (pv 1) (pe_lst (pa_cons (pe_callB (call_isX (K := K) rfl) (by rfl) T.n_isinstance (by decide +kernel) (pa_cons (pv 0) (pa_cons (pe_bltn (v := .ty "OverflowError") (by rfl) T.n_OverflowError (by decide +kernel) rfl) pa_nil))) (pa_cons (pe_callB (call_isX (K := K) rfl) (by rfl) T.n_isinstance (by decide +kernel) (pa_cons (pv 0) (pa_cons (pe_bltn (v := .ty "KeyError") (by rfl) T.n_KeyError (by decide +kernel) rfl) pa_nil))) (pa_cons (pe_callB (call_isX (K := K) rfl) (by rfl) T.n_isinstance (by decide +kernel) (pa_cons (pv 0) (pa_cons (pe_bltn (v := .ty "IndexError") (by rfl) T.n_IndexError (by decide +kernel) rfl) pa_nil))) pa_nil))))))
      (pss_cons (ps_expr (pe_bm PySem.F.plainAttrs_list PySem.F.slot_list_append PySem.F.type_list_append mt_append (pv 1) (pa_cons (pe_callB (call_isX (K := K) rfl) (by rfl) T.n_isinstance (by decide +kernel) (pa_cons (pv 0) (pa_cons (pe_bltn (v := .ty "NotImplementedError") (by rfl) T.n_NotImplementedError (by decide +kernel) rfl) pa_nil))) pa_nil)))
      (pss_one (ps_ret (pe_lc (own := [("seat", 2), ("is_it", 3)]) (g := gTup K 2 (gCons (gName 2) (gCons (gName 3) gNil))) rfl sc__law_base.nd (pi_enum (by rfl) T.n_enumerate (pa_cons (pv 1) pa_nil)) (blkOk_by (N := ["e", "found", "seat", "is_it"]) (sc := defScope s__law_base) (by decide +kernel)) (fun _ _ _ _ _ => pg_tup (by rfl) (pgs_cons (pg_name (i := 2) sc__law_base.nd rfl (Or.inl rfl)) (pgs_cons (pg_name (i := 3) sc__law_base.nd rfl (Or.inl rfl)) pgs_nil))) (fun _ _ _ _ _ => pts_one (pt_val (pv 3))) (fun _ _ _ _ _ => (pv 2)))))))), ?_⟩)
  · obtain ⟨a, n, rfl, _⟩ := h
    rfl
  · obtain ⟨a, n, rfl, hn, he, k⟩ := h
    refine seq_set (lst3 (fun _ q => ty_read T (m := 0) hn (by decide) (by rfl) he q) (fun _ q => ty_read T (m := 1) hn (by decide) (by rfl) he q) (fun _ q => ty_read T (m := 2) hn (by decide) (by rfl) he q) fun p1 H1 z1 n1 g1 => ?_)
    refine seq_set (cat3 rfl g1 (by simp) (fun _ q => ty_read T (m := 3) hn (by decide) (by rfl) (exany_same z1 he) q) (fun _ q => ty_read T (m := 4) hn (by decide) (by rfl) (exany_same z1 he) q) (fun _ q => ty_read T (m := 5) hn (by decide) (by rfl) (exany_same z1 he) q) fun p2 H2 y2 n2 g2 => ?_)
    have z2 := z1.trans y2
    refine ⟨_, rfl, .inl ⟨rfl, _, SqL.of g2⟩, cons1 (ty_read T (m := 6) hn (by decide) (by rfl) (exany_same z2 he) ⟨p2, _, _, rfl, rfl, g2, by show 6 < sizeLine; decide, ?_⟩)⟩
    have y3 : Same H (upd H2 p2 (.lst ([V.bl (bs n == 0), V.bl (bs n == 1), V.bl (bs n == 2)] ++ [V.bl (bs n == 3), V.bl (bs n == 4), V.bl (bs n == 5)] ++ [V.bl (bs n == 6)]))) := by
      intro b o hb
      rw [upd_ne (ne_of_none (z1 b o hb) n2)]
      exact z2 b o hb
    refine ret_of (seat_lc (v := bs n) (N := 7) (bs_lt n hn) (by decide) upd_same fun D H' s' hD => k D H' (y3.trans s') hD)

theorem ok__law_right (T : Txt K mg) : FnOk P w K mg base CX0 2 T.f__law_right T.d__law_right ["seat", "base", "made"] (sp__law_right K) := by
  refine T.F__law_right.ok sc__law_right (fun vs H Q E h => ?_) (fun cdv A outer s H vs Q E hr h => ⟨_, PSs.nox (pss_one (ps_ret (pe_cmpR (op_eqD hr.units) (pe_lc (own := [("e", 3)]) (g := gName 3) rfl sc__law_right.nd (pi_list (pv 2)) (blkOk_by (N := ["seat", "base", "made", "e"]) (sc := defScope s__law_right) (by decide +kernel)) (fun _ _ _ _ _ => pg_name (i := 3) sc__law_right.nd rfl (Or.inl rfl)) (fun _ _ _ _ _ => pts_one (PW.pt (pw_or (pt_cmpR (op_neK (K := K) rfl hr.units) (pe_call (ok__law_which T) (hr.mono (by decide)) rfl T.g__law_which T.F__law_which.kp (bind__law_which T) .nil pass0 (pa_cons (pv 3) pa_nil)) (pe_lst (pa_cons (pv 0) pa_nil)) (nomark _)) (pw_or1 (pt_cmpR (op_neK (K := K) rfl hr.units) (pe_call (ok__law_base T) (hr.mono (by decide)) rfl T.g__law_base T.F__law_base.kp (bind__law_base T) .nil pass0 (pa_cons (pv 3) pa_nil)) (pe_lst (pa_cons (pv 1) pa_nil)) (nomark _)))))) (fun _ _ _ _ _ => (pv 3))) (pe_lst pa_nil) (nomark _)))), ?_⟩)
  · obtain ⟨n, m, xs, rfl, _⟩ := h
    rfl
  · obtain ⟨n, m, xs, rfl, hn, hm, hl, hx, k⟩ := h
    refine ⟨_, rfl, m, rfl, ⟨_, SqL.of hm⟩, fun D nD => lc_list (xs := xs) (fun i H' => Same H H' ∧ H' D = some (.lst [])) ⟨same_new nD, upd_same⟩ (fun i H' _ h => SqL.of (h.1 _ _ hm)) ?_ ?_⟩
    · rintro i x H1 hi ⟨s1, hD⟩
      obtain ⟨a, rfl, ha⟩ := hx x (List.mem_of_getElem? hi)
      refine ⟨rfl, ?_⟩
      have eq1 : ∀ v : Nat, PyData.eqv (.list [.int (v : Nat)]) (.list [.int (v : Nat)]) = true := fun v => by simp [PyData.eqv, PyData.eqvAll]
      refine ⟨_, rfl, a, n, rfl, hn, exany_same s1 ha, fun l H2 s2 hl2 => ⟨_, rfl, by show 1 ≤ sizeLine; decide, fun q nq => ?_⟩⟩
      have s3 := same_new (o := .lst [V.int (n : Nat)]) nq
      refine ⟨.list [.int (n : Nat)], .list [.int (n : Nat)], .lst (SqL.of (s3 _ _ hl2)) (.cons (.int _) .nil), .lst (SqL.of upd_same) (.cons (.int _) .nil), shaped_ints [(n : Int)], shaped_ints [(n : Int)], ?_⟩
      rw [eq1 n]
      have s4 := (s1.trans s2).trans s3
      refine ⟨false, rfl, iteF ?_⟩
      refine ⟨_, rfl, a, n, rfl, hn, exany_same s4 ha, fun l2 H3 s5 hl3 => ⟨_, rfl, by show 1 ≤ sizeLine; decide, fun q2 nq2 => ?_⟩⟩
      have s6 := same_new (o := .lst [V.int (bs n : Nat)]) nq2
      refine ⟨.list [.int (bs n : Nat)], .list [.int (bs n : Nat)], .lst (SqL.of (s6 _ _ hl3)) (.cons (.int _) .nil), .lst (SqL.of upd_same) (.cons (.int _) .nil), shaped_ints [(bs n : Int)], shaped_ints [(bs n : Int)], ?_⟩
      rw [eq1 (bs n)]
      refine ⟨false, rfl, iteF ⟨(s4.trans s5).trans s6, ?_⟩⟩
      exact s6 _ _ (s5 _ _ (s3 _ _ (s2 _ _ hD)))
    · rintro H1 ⟨s1, hD⟩
      refine ⟨by show 0 ≤ sizeLine; decide, fun q nq => ?_⟩
      have s2 := same_new (o := .lst []) nq
      refine ⟨.list [], .list [], .lst (SqL.of (s2 _ _ hD)) .nil, .lst (SqL.of upd_same) .nil, shaped_ints [], shaped_ints [], ?_⟩
      exact k _ (s1.trans s2)

theorem ok__law_indexed (T : Txt K mg) : FnG P w K mg base CX0 3 T.f__law_indexed T.d__law_indexed ["count"] (sp__law_indexed K) := by
  refine okG T.F__law_indexed sc__law_indexed (fun vs H Q E h => ?_) (fun cdv A outer s H vs Q E hr hg h => ⟨_, PSs.nox (pss_cons (ps_par (i := 1) (j := 2) (by rfl) sc__law_indexed.nd rfl rfl (by decide) rfl rfl (pa_cons (pe_mx T.x_InvalidHistory.c T.x_InvalidHistory.i T.x_InvalidHistory.t (ok_InvalidHistory___init__ T) (hr.mono (by decide)) (bind_InvalidHistory___init__ T) pass0 (by rfl) T.gx_InvalidHistory (pa_cons (pv 0) pa_nil)) (pa_cons (pe_mk T.x_InvalidHistory.c T.x_InvalidHistory.i T.x_InvalidHistory.t (ok_InvalidHistory___init__ T) (hr.mono (by decide)) (kb_InvalidHistory T) pass0 (by rfl) T.gx_InvalidHistory (pk_cons pe_non pk_nil)) pa_nil)) (by rfl))
      (pss_cons (ps_set (i := 3) sc__law_indexed.nd rfl (Or.inl rfl) (pe_and (pe_call (ok__law_right T) (hr.mono (by decide)) rfl T.g__law_right T.F__law_right.kp (bind__law_right T) .nil pass0 (pa_cons pe_int (pa_cons pe_int (pa_cons (pe_lst (pa_cons (pv 1) (pa_cons (pv 2) pa_nil))) pa_nil)))) (pe_one (pe_cmpR op_eq (pe_callB (call_reprV (K := K) rfl hg (by have h65 := u65 hr; exact h65)) (by rfl) T.n_repr (by decide +kernel) (pa_cons (pe_lst (pa_cons (pe_xg (pv 1)) (pa_cons (pe_xg (pv 2)) pa_nil))) pa_nil)) (pe_callB (call_reprV (K := K) rfl hg (by have h65 := u65 hr; exact h65)) (by rfl) T.n_repr (by decide +kernel) (pa_cons (pe_lst (pa_cons (pv 0) (pa_cons pe_non pa_nil))) pa_nil)) (nomark _)))))
      (pss_cons (ps_par (i := 1) (j := 2) (by rfl) sc__law_indexed.nd rfl rfl (by decide) rfl rfl (pa_cons (pe_mx T.x_InvalidRules.c T.x_InvalidRules.i T.x_InvalidRules.t (ok_InvalidRules___init__ T) (hr.mono (by decide)) (bind_InvalidRules___init__ T) pass0 (by rfl) T.gx_InvalidRules (pa_cons (pv 0) pa_nil)) (pa_cons (pe_mk T.x_InvalidRules.c T.x_InvalidRules.i T.x_InvalidRules.t (ok_InvalidRules___init__ T) (hr.mono (by decide)) (kb_InvalidRules T) pass0 (by rfl) T.gx_InvalidRules (pk_cons pe_non pk_nil)) pa_nil)) (by rfl))
      (pss_cons (ps_set (i := 3) sc__law_indexed.nd rfl (Or.inl rfl) (pe_and (pv 3) (pe_and (pe_call (ok__law_right T) (hr.mono (by decide)) rfl T.g__law_right T.F__law_right.kp (bind__law_right T) .nil pass0 (pa_cons pe_int (pa_cons pe_int (pa_cons (pe_lst (pa_cons (pv 1) (pa_cons (pv 2) pa_nil))) pa_nil)))) (pe_one (pe_cmpR op_eq (pe_callB (call_reprV (K := K) rfl hg (by have h65 := u65 hr; exact h65)) (by rfl) T.n_repr (by decide +kernel) (pa_cons (pe_lst (pa_cons (pe_xg (pv 1)) (pa_cons (pe_xg (pv 2)) pa_nil))) pa_nil)) (pe_callB (call_reprV (K := K) rfl hg (by have h65 := u65 hr; exact h65)) (by rfl) T.n_repr (by decide +kernel) (pa_cons (pe_lst (pa_cons (pv 0) (pa_cons pe_non pa_nil))) pa_nil)) (nomark _))))))
      (pss_cons (ps_par (i := 1) (j := 2) (by rfl) sc__law_indexed.nd rfl rfl (by decide) rfl rfl (pa_cons (pe_mx T.x_InvalidWay.c T.x_InvalidWay.i T.x_InvalidWay.t (ok_InvalidWay___init__ T) (hr.mono (by decide)) (bind_InvalidWay___init__ T) pass0 (by rfl) T.gx_InvalidWay (pa_cons (pv 0) pa_nil)) (pa_cons (pe_mk T.x_InvalidWay.c T.x_InvalidWay.i T.x_InvalidWay.t (ok_InvalidWay___init__ T) (hr.mono (by decide)) (kb_InvalidWay T) pass0 (by rfl) T.gx_InvalidWay (pk_cons pe_non pk_nil)) pa_nil)) (by rfl))
      (pss_cons (ps_set (i := 3) sc__law_indexed.nd rfl (Or.inl rfl) (pe_and (pv 3) (pe_and (pe_call (ok__law_right T) (hr.mono (by decide)) rfl T.g__law_right T.F__law_right.kp (bind__law_right T) .nil pass0 (pa_cons pe_int (pa_cons pe_int (pa_cons (pe_lst (pa_cons (pv 1) (pa_cons (pv 2) pa_nil))) pa_nil)))) (pe_one (pe_cmpR op_eq (pe_callB (call_reprV (K := K) rfl hg (by have h65 := u65 hr; exact h65)) (by rfl) T.n_repr (by decide +kernel) (pa_cons (pe_lst (pa_cons (pe_xg (pv 1)) (pa_cons (pe_xg (pv 2)) pa_nil))) pa_nil)) (pe_callB (call_reprV (K := K) rfl hg (by have h65 := u65 hr; exact h65)) (by rfl) T.n_repr (by decide +kernel) (pa_cons (pe_lst (pa_cons (pv 0) (pa_cons pe_non pa_nil))) pa_nil)) (nomark _))))))
      (pss_cons (ps_par (i := 1) (j := 2) (by rfl) sc__law_indexed.nd rfl rfl (by decide) rfl rfl (pa_cons (pe_mx T.x_InvalidWeights.c T.x_InvalidWeights.i T.x_InvalidWeights.t (ok_InvalidWeights___init__ T) (hr.mono (by decide)) (bind_InvalidWeights___init__ T) pass0 (by rfl) T.gx_InvalidWeights (pa_cons (pv 0) pa_nil)) (pa_cons (pe_mk T.x_InvalidWeights.c T.x_InvalidWeights.i T.x_InvalidWeights.t (ok_InvalidWeights___init__ T) (hr.mono (by decide)) (kb_InvalidWeights T) pass0 (by rfl) T.gx_InvalidWeights (pk_cons pe_non pk_nil)) pa_nil)) (by rfl))
      (pss_cons (ps_set (i := 3) sc__law_indexed.nd rfl (Or.inl rfl) (pe_and (pv 3) (pe_and (pe_call (ok__law_right T) (hr.mono (by decide)) rfl T.g__law_right T.F__law_right.kp (bind__law_right T) .nil pass0 (pa_cons pe_int (pa_cons pe_int (pa_cons (pe_lst (pa_cons (pv 1) (pa_cons (pv 2) pa_nil))) pa_nil)))) (pe_one (pe_cmpR op_eq (pe_callB (call_reprV (K := K) rfl hg (by have h65 := u65 hr; exact h65)) (by rfl) T.n_repr (by decide +kernel) (pa_cons (pe_lst (pa_cons (pe_xg (pv 1)) (pa_cons (pe_xg (pv 2)) pa_nil))) pa_nil)) (pe_callB (call_reprV (K := K) rfl hg (by have h65 := u65 hr; exact h65)) (by rfl) T.n_repr (by decide +kernel) (pa_cons (pe_lst (pa_cons (pv 0) (pa_cons pe_non pa_nil))) pa_nil)) (nomark _))))))
      (pss_cons (ps_par (i := 1) (j := 2) (by rfl) sc__law_indexed.nd rfl rfl (by decide) rfl rfl (pa_cons (pe_mx T.x_InvalidOptions.c T.x_InvalidOptions.i T.x_InvalidOptions.t (ok_InvalidOptions___init__ T) (hr.mono (by decide)) (bind_InvalidOptions___init__ T) pass0 (by rfl) T.gx_InvalidOptions (pa_cons (pv 0) pa_nil)) (pa_cons (pe_mk T.x_InvalidOptions.c T.x_InvalidOptions.i T.x_InvalidOptions.t (ok_InvalidOptions___init__ T) (hr.mono (by decide)) (kb_InvalidOptions T) pass0 (by rfl) T.gx_InvalidOptions (pk_cons pe_non pk_nil)) pa_nil)) (by rfl))
      (pss_cons (ps_set (i := 3) sc__law_indexed.nd rfl (Or.inl rfl) (pe_and (pv 3) (pe_and (pe_call (ok__law_right T) (hr.mono (by decide)) rfl T.g__law_right T.F__law_right.kp (bind__law_right T) .nil pass0 (pa_cons pe_int (pa_cons pe_int (pa_cons (pe_lst (pa_cons (pv 1) (pa_cons (pv 2) pa_nil))) pa_nil)))) (pe_one (pe_cmpR op_eq (pe_callB (call_reprV (K := K) rfl hg (by have h65 := u65 hr; exact h65)) (by rfl) T.n_repr (by decide +kernel) (pa_cons (pe_lst (pa_cons (pe_xg (pv 1)) (pa_cons (pe_xg (pv 2)) pa_nil))) pa_nil)) (pe_callB (call_reprV (K := K) rfl hg (by have h65 := u65 hr; exact h65)) (by rfl) T.n_repr (by decide +kernel) (pa_cons (pe_lst (pa_cons (pv 0) (pa_cons pe_non pa_nil))) pa_nil)) (nomark _))))))
      (pss_cons (ps_par (i := 1) (j := 2) (by rfl) sc__law_indexed.nd rfl rfl (by decide) rfl rfl (pa_cons (pe_mx T.x_InvalidLog.c T.x_InvalidLog.i T.x_InvalidLog.t (ok_InvalidLog___init__ T) (hr.mono (by decide)) (bind_InvalidLog___init__ T) pass0 (by rfl) T.gx_InvalidLog (pa_cons (pv 0) pa_nil)) (pa_cons (pe_mk T.x_InvalidLog.c T.x_InvalidLog.i T.x_InvalidLog.t (ok_InvalidLog___init__ T) (hr.mono (by decide)) (kb_InvalidLog T) pass0 (by rfl) T.gx_InvalidLog (pk_cons pe_non pk_nil)) pa_nil)) (by rfl))
      (pss_cons (ps_set (i := 3) sc__law_indexed.nd rfl (Or.inl rfl) (pe_and (pv 3) (pe_and (pe_call (ok__law_right T) (hr.mono (by decide)) rfl T.g__law_right T.F__law_right.kp (bind__law_right T) .nil pass0 (pa_cons pe_int (pa_cons pe_int (pa_cons (pe_lst (pa_cons (pv 1) (pa_cons (pv 2) pa_nil))) pa_nil)))) (pe_one (pe_cmpR op_eq (pe_callB (call_reprV (K := K) rfl hg (by have h65 := u65 hr; exact h65)) (by rfl) T.n_repr (by decide +kernel) (pa_cons (pe_lst (pa_cons (pe_xg (pv 1)) (pa_cons (pe_xg (pv 2)) pa_nil))) pa_nil)) (pe_callB (call_reprV (K := K) rfl hg (by have h65 := u65 hr; exact h65)) (by rfl) T.n_repr (by decide +kernel) (pa_cons (pe_lst (pa_cons (pv 0) (pa_cons pe_non pa_nil))) pa_nil)) (nomark _))))))
      (pss_cons (ps_par (i := 1) (j := 2) (by rfl) sc__law_indexed.nd rfl rfl (by decide) rfl rfl (pa_cons (pe_mx T.x_InvalidNames.c T.x_InvalidNames.i T.x_InvalidNames.t (ok_InvalidNames___init__ T) (hr.mono (by decide)) (bind_InvalidNames___init__ T) pass0 (by rfl) T.gx_InvalidNames (pa_cons (pv 0) pa_nil)) (pa_cons (pe_mk T.x_InvalidNames.c T.x_InvalidNames.i T.x_InvalidNames.t (ok_InvalidNames___init__ T) (hr.mono (by decide)) (kb_InvalidNames T) pass0 (by rfl) T.gx_InvalidNames (pk_cons pe_non pk_nil)) pa_nil)) (by rfl))
      (pss_one (ps_ret (pe_and (pv 3) (pe_and (pe_call (ok__law_right T) (hr.mono (by decide)) rfl T.g__law_right T.F__law_right.kp (bind__law_right T) .nil pass0 (pa_cons pe_int (pa_cons pe_int (pa_cons (pe_lst (pa_cons (pv 1) (pa_cons (pv 2) pa_nil))) pa_nil)))) (pe_one (pe_cmpR op_eq (pe_callB (call_reprV (K := K) rfl hg (by have h65 := u65 hr; exact h65)) (by rfl) T.n_repr (by decide +kernel) (pa_cons (pe_lst (pa_cons (pe_xg (pv 1)) (pa_cons (pe_xg (pv 2)) pa_nil))) pa_nil)) (pe_callB (call_reprV (K := K) rfl hg (by have h65 := u65 hr; exact h65)) (by rfl) T.n_repr (by decide +kernel) (pa_cons (pe_lst (pa_cons (pv 0) (pa_cons pe_non pa_nil))) pa_nil)) (nomark _)))))))))))))))))))), ?_⟩)
  · obtain ⟨c, rfl, _⟩ := h
    rfl
  · obtain ⟨c, rfl, hc, k⟩ := h
    refine I_first (n := 0) (f := "index") (y := .int c) (z := .non) (by decide) T.x_InvalidHistory.c (T.x_InvalidHistory.no _ (by decide +kernel)) (fun _ _ q => ⟨_, rfl, q⟩) (fun _ _ q => q) (.dp (.int _)) (.dp .non) (el_int hc) el_non (fun _ _ _ _ q => ⟨_, rfl, q⟩) (fun _ _ _ _ q => q) fun H0 a0 b0 s0 => ?_
    have S0 := s0
    refine I_mid (n := 1) (f := "index") (y := .int c) (z := .non) (by decide) T.x_InvalidRules.c (T.x_InvalidRules.no _ (by decide +kernel)) (fun _ _ q => ⟨_, rfl, q⟩) (fun _ _ q => q) (.dp (.int _)) (.dp .non) (el_int hc) el_non (fun _ _ _ _ q => ⟨_, rfl, q⟩) (fun _ _ _ _ q => q) fun H1 a1 b1 s1 => ?_
    have S1 := S0.trans s1
    refine I_mid (n := 2) (f := "index") (y := .int c) (z := .non) (by decide) T.x_InvalidWay.c (T.x_InvalidWay.no _ (by decide +kernel)) (fun _ _ q => ⟨_, rfl, q⟩) (fun _ _ q => q) (.dp (.int _)) (.dp .non) (el_int hc) el_non (fun _ _ _ _ q => ⟨_, rfl, q⟩) (fun _ _ _ _ q => q) fun H2 a2 b2 s2 => ?_
    have S2 := S1.trans s2
    refine I_mid (n := 3) (f := "index") (y := .int c) (z := .non) (by decide) T.x_InvalidWeights.c (T.x_InvalidWeights.no _ (by decide +kernel)) (fun _ _ q => ⟨_, rfl, q⟩) (fun _ _ q => q) (.dp (.int _)) (.dp .non) (el_int hc) el_non (fun _ _ _ _ q => ⟨_, rfl, q⟩) (fun _ _ _ _ q => q) fun H3 a3 b3 s3 => ?_
    have S3 := S2.trans s3
    refine I_mid (n := 4) (f := "index") (y := .int c) (z := .non) (by decide) T.x_InvalidOptions.c (T.x_InvalidOptions.no _ (by decide +kernel)) (fun _ _ q => ⟨_, rfl, q⟩) (fun _ _ q => q) (.dp (.int _)) (.dp .non) (el_int hc) el_non (fun _ _ _ _ q => ⟨_, rfl, q⟩) (fun _ _ _ _ q => q) fun H4 a4 b4 s4 => ?_
    have S4 := S3.trans s4
    refine I_mid (n := 5) (f := "index") (y := .int c) (z := .non) (by decide) T.x_InvalidLog.c (T.x_InvalidLog.no _ (by decide +kernel)) (fun _ _ q => ⟨_, rfl, q⟩) (fun _ _ q => q) (.dp (.int _)) (.dp .non) (el_int hc) el_non (fun _ _ _ _ q => ⟨_, rfl, q⟩) (fun _ _ _ _ q => q) fun H5 a5 b5 s5 => ?_
    have S5 := S4.trans s5
    refine I_last (n := 6) (f := "index") (y := .int c) (z := .non) (by decide) T.x_InvalidNames.c (T.x_InvalidNames.no _ (by decide +kernel)) (fun _ _ q => ⟨_, rfl, q⟩) (fun _ _ q => q) (.dp (.int _)) (.dp .non) (el_int hc) el_non (fun _ _ _ _ q => ⟨_, rfl, q⟩) (fun _ _ _ _ q => q) fun H6 a6 b6 s6 => ?_
    have S6 := S5.trans s6
    exact k _ S6

theorem ok__law_others (T : Txt K mg) : FnG P w K mg base CX0 3 T.f__law_others T.d__law_others ["count", "thing"] (sp__law_others K) := by
  refine okG T.F__law_others sc__law_others (fun vs H Q E h => ?_) (fun cdv A outer s H vs Q E hr hg h => ⟨_, PSs.nox (pss_cons (ps_par (i := 2) (j := 3) (by rfl) sc__law_others.nd rfl rfl (by decide) rfl rfl (pa_cons (pe_mx T.x_ParseError.c T.x_ParseError.i T.x_ParseError.t (ok_ParseError___init__ T) (hr.mono (by decide)) (bind_ParseError___init__ T) pass0 (by rfl) T.gx_ParseError (pa_cons (pv 0) pa_nil)) (pa_cons (pe_mk T.x_ParseError.c T.x_ParseError.i T.x_ParseError.t (ok_ParseError___init__ T) (hr.mono (by decide)) (kb_ParseError T) pass0 (by rfl) T.gx_ParseError (pk_cons (pv 0) pk_nil)) pa_nil)) (by rfl))
      (pss_cons (ps_set (i := 4) sc__law_others.nd rfl (Or.inl rfl) (pe_and (pe_call (ok__law_right T) (hr.mono (by decide)) rfl T.g__law_right T.F__law_right.kp (bind__law_right T) .nil pass0 (pa_cons pe_int (pa_cons pe_int (pa_cons (pe_lst (pa_cons (pv 2) (pa_cons (pv 3) pa_nil))) pa_nil)))) (pe_one (pe_cmpR op_eq (pe_callB (call_reprV (K := K) rfl hg (by have h65 := u65 hr; exact h65)) (by rfl) T.n_repr (by decide +kernel) (pa_cons (pe_lst (pa_cons (pe_xg (pv 2)) (pa_cons (pe_xg (pv 3)) pa_nil))) pa_nil)) (pe_callB (call_reprV (K := K) rfl hg (by have h65 := u65 hr; exact h65)) (by rfl) T.n_repr (by decide +kernel) (pa_cons (pe_lst (pa_cons (pv 0) (pa_cons (pv 0) pa_nil))) pa_nil)) (nomark _)))))
      (pss_cons (ps_par (i := 2) (j := 3) (by rfl) sc__law_others.nd rfl rfl (by decide) rfl rfl (pa_cons (pe_mx T.x_UnknownName.c T.x_UnknownName.i T.x_UnknownName.t (ok_UnknownName___init__ T) (hr.mono (by decide)) (bind_UnknownName___init__ T) pass0 (by rfl) T.gx_UnknownName (pa_cons (pv 1) pa_nil)) (pa_cons (pe_mk T.x_UnknownName.c T.x_UnknownName.i T.x_UnknownName.t (ok_UnknownName___init__ T) (hr.mono (by decide)) (kb_UnknownName T) pass0 (by rfl) T.gx_UnknownName (pk_cons (pv 1) pk_nil)) pa_nil)) (by rfl))
      (pss_cons (ps_set (i := 4) sc__law_others.nd rfl (Or.inl rfl) (pe_and (pv 4) (pe_and (pe_call (ok__law_right T) (hr.mono (by decide)) rfl T.g__law_right T.F__law_right.kp (bind__law_right T) .nil pass0 (pa_cons pe_int (pa_cons pe_int (pa_cons (pe_lst (pa_cons (pv 2) (pa_cons (pv 3) pa_nil))) pa_nil)))) (pe_one (pe_cmpR op_eq (pe_callB (call_reprV (K := K) rfl hg (by have h65 := u65 hr; exact h65)) (by rfl) T.n_repr (by decide +kernel) (pa_cons (pe_lst (pa_cons (pe_xg (pv 2)) (pa_cons (pe_xg (pv 3)) pa_nil))) pa_nil)) (pe_callB (call_reprV (K := K) rfl hg (by have h65 := u65 hr; exact h65)) (by rfl) T.n_repr (by decide +kernel) (pa_cons (pe_lst (pa_cons (pv 1) (pa_cons (pv 1) pa_nil))) pa_nil)) (nomark _))))))
      (pss_cons (ps_par (i := 2) (j := 3) (by rfl) sc__law_others.nd rfl rfl (by decide) rfl rfl (pa_cons (pe_mx T.x_UnknownWord.c T.x_UnknownWord.i T.x_UnknownWord.t (ok_UnknownWord___init__ T) (hr.mono (by decide)) (bind_UnknownWord___init__ T) pass0 (by rfl) T.gx_UnknownWord (pa_cons (pv 1) pa_nil)) (pa_cons (pe_mk T.x_UnknownWord.c T.x_UnknownWord.i T.x_UnknownWord.t (ok_UnknownWord___init__ T) (hr.mono (by decide)) (kb_UnknownWord T) pass0 (by rfl) T.gx_UnknownWord (pk_cons (pv 1) pk_nil)) pa_nil)) (by rfl))
      (pss_cons (ps_set (i := 4) sc__law_others.nd rfl (Or.inl rfl) (pe_and (pv 4) (pe_and (pe_call (ok__law_right T) (hr.mono (by decide)) rfl T.g__law_right T.F__law_right.kp (bind__law_right T) .nil pass0 (pa_cons pe_int (pa_cons pe_int (pa_cons (pe_lst (pa_cons (pv 2) (pa_cons (pv 3) pa_nil))) pa_nil)))) (pe_one (pe_cmpR op_eq (pe_callB (call_reprV (K := K) rfl hg (by have h65 := u65 hr; exact h65)) (by rfl) T.n_repr (by decide +kernel) (pa_cons (pe_lst (pa_cons (pe_xg (pv 2)) (pa_cons (pe_xg (pv 3)) pa_nil))) pa_nil)) (pe_callB (call_reprV (K := K) rfl hg (by have h65 := u65 hr; exact h65)) (by rfl) T.n_repr (by decide +kernel) (pa_cons (pe_lst (pa_cons (pv 1) (pa_cons (pv 1) pa_nil))) pa_nil)) (nomark _))))))
      (pss_cons (ps_par (i := 2) (j := 3) (by rfl) sc__law_others.nd rfl rfl (by decide) rfl rfl (pa_cons (pe_mx T.x_CannotStep.c T.x_CannotStep.i T.x_CannotStep.t (ok_CannotStep___init__ T) (hr.mono (by decide)) (bind_CannotStep___init__ T) pass0 (by rfl) T.gx_CannotStep (pa_cons (pv 0) pa_nil)) (pa_cons (pe_mk T.x_CannotStep.c T.x_CannotStep.i T.x_CannotStep.t (ok_CannotStep___init__ T) (hr.mono (by decide)) (kb_CannotStep T) pass0 (by rfl) T.gx_CannotStep (pk_cons pe_non pk_nil)) pa_nil)) (by rfl))
      (pss_cons (ps_set (i := 4) sc__law_others.nd rfl (Or.inl rfl) (pe_and (pv 4) (pe_and (pe_call (ok__law_right T) (hr.mono (by decide)) rfl T.g__law_right T.F__law_right.kp (bind__law_right T) .nil pass0 (pa_cons pe_int (pa_cons pe_int (pa_cons (pe_lst (pa_cons (pv 2) (pa_cons (pv 3) pa_nil))) pa_nil)))) (pe_one (pe_cmpR op_eq (pe_callB (call_reprV (K := K) rfl hg (by have h65 := u65 hr; exact h65)) (by rfl) T.n_repr (by decide +kernel) (pa_cons (pe_lst (pa_cons (pe_xg (pv 2)) (pa_cons (pe_xg (pv 3)) pa_nil))) pa_nil)) (pe_callB (call_reprV (K := K) rfl hg (by have h65 := u65 hr; exact h65)) (by rfl) T.n_repr (by decide +kernel) (pa_cons (pe_lst (pa_cons (pv 0) (pa_cons pe_non pa_nil))) pa_nil)) (nomark _))))))
      (pss_cons (ps_par (i := 2) (j := 3) (by rfl) sc__law_others.nd rfl rfl (by decide) rfl rfl (pa_cons (pe_mx T.x_Refused.c T.x_Refused.i T.x_Refused.t (ok_Refused___init__ T) (hr.mono (by decide)) (bind_Refused___init__ T) pass0 (by rfl) T.gx_Refused (pa_cons (pv 0) (pa_cons pe_str pa_nil))) (pa_cons (pe_mk T.x_Refused.c T.x_Refused.i T.x_Refused.t (ok_Refused___init__ T) (hr.mono (by decide)) (kb_Refused T) pass0 (by rfl) T.gx_Refused (pk_cons pe_non (pk_cons (pe_un un_neg pe_int) pk_nil))) pa_nil)) (by rfl))
      (pss_cons (ps_set (i := 4) sc__law_others.nd rfl (Or.inl rfl) (pe_and (pv 4) (pe_and (pe_call (ok__law_right T) (hr.mono (by decide)) rfl T.g__law_right T.F__law_right.kp (bind__law_right T) .nil pass0 (pa_cons pe_int (pa_cons pe_int (pa_cons (pe_lst (pa_cons (pv 2) (pa_cons (pv 3) pa_nil))) pa_nil)))) (pe_one (pe_cmpR op_eq (pe_callB (call_reprV (K := K) rfl hg (by have h65 := u65 hr; exact h65)) (by rfl) T.n_repr (by decide +kernel) (pa_cons (pe_lst (pa_cons (pe_xg (pv 2)) (pa_cons (pe_xg (pv 3)) pa_nil))) pa_nil)) (pe_callB (call_reprV (K := K) rfl hg (by have h65 := u65 hr; exact h65)) (by rfl) T.n_repr (by decide +kernel) (pa_cons (pe_lst (pa_cons (pv 0) (pa_cons (pe_un un_neg pe_int) pa_nil))) pa_nil)) (nomark _))))))
      (pss_cons (ps_set (i := 4) sc__law_others.nd rfl (Or.inl rfl) (pe_and (pv 4) (pe_one (pe_cmpR op_eq (pe_callB (call_reprV (K := K) rfl hg (by have h65 := u65 hr; exact h65)) (by rfl) T.n_repr (by decide +kernel) (pa_cons (pe_lst (pa_cons (pe_xg (pv 2)) (pa_cons (pe_xg (pv 3)) pa_nil))) pa_nil)) (pe_callB (call_reprV (K := K) rfl hg (by have h65 := u65 hr; exact h65)) (by rfl) T.n_repr (by decide +kernel) (pa_cons (pe_lst (pa_cons pe_str (pa_cons pe_non pa_nil))) pa_nil)) (nomark _)))))
      (pss_cons (ps_par (i := 2) (j := 3) (by rfl) sc__law_others.nd rfl rfl (by decide) rfl rfl (pa_cons (pe_mx T.x_LimitExceeded.c T.x_LimitExceeded.i T.x_LimitExceeded.t (ok_LimitExceeded___init__ T) (hr.mono (by decide)) (bind_LimitExceeded___init__ T) pass0 (by rfl) T.gx_LimitExceeded (pa_cons (pv 0) pa_nil)) (pa_cons (pe_mk T.x_LimitExceeded.c T.x_LimitExceeded.i T.x_LimitExceeded.t (ok_LimitExceeded___init__ T) (hr.mono (by decide)) (kb_LimitExceeded T) pass0 (by rfl) T.gx_LimitExceeded (pk_cons pe_int pk_nil)) pa_nil)) (by rfl))
      (pss_one (ps_ret (pe_and (pv 4) (pe_and (pe_call (ok__law_right T) (hr.mono (by decide)) rfl T.g__law_right T.F__law_right.kp (bind__law_right T) .nil pass0 (pa_cons pe_int (pa_cons pe_int (pa_cons (pe_lst (pa_cons (pv 2) (pa_cons (pv 3) pa_nil))) pa_nil)))) (pe_one (pe_cmpR op_eq (pe_callB (call_reprV (K := K) rfl hg (by have h65 := u65 hr; exact h65)) (by rfl) T.n_repr (by decide +kernel) (pa_cons (pe_lst (pa_cons (pe_xg (pv 2)) (pa_cons (pe_xg (pv 3)) pa_nil))) pa_nil)) (pe_callB (call_reprV (K := K) rfl hg (by have h65 := u65 hr; exact h65)) (by rfl) T.n_repr (by decide +kernel) (pa_cons (pe_lst (pa_cons (pv 0) (pa_cons pe_int pa_nil))) pa_nil)) (nomark _))))))))))))))))))), ?_⟩)
  · obtain ⟨c, v, d, rfl, _⟩ := h
    rfl
  · obtain ⟨c, v, d, rfl, hc, hd, he, k⟩ := h
    refine O_first (n := 8) (f := "line") (y := .int c) (z := .int c) (by decide) T.x_ParseError.c (T.x_ParseError.no _ (by decide +kernel)) (fun _ _ q => ⟨_, rfl, q⟩) (fun _ _ q => ⟨_, rfl, q⟩) (.dp (.int _)) (.dp (.int _)) (el_int hc) (el_int hc) (fun _ _ _ _ q => ⟨_, rfl, q⟩) (fun _ _ _ _ q => ⟨_, rfl, q⟩) fun H0 a0 b0 s0 => ?_
    have S0 := s0
    refine O_mid (n := 9) (f := "value") (y := v) (z := v) (by decide) T.x_UnknownName.c (T.x_UnknownName.no _ (by decide +kernel)) (fun _ _ q => ⟨_, rfl, q⟩) (fun _ _ q => ⟨_, rfl, q⟩) (dv_same S0 hd) (dv_same S0 hd) he he (fun _ _ _ _ q => ⟨_, rfl, q⟩) (fun _ _ _ _ q => ⟨_, rfl, q⟩) fun H1 a1 b1 s1 => ?_
    have S1 := S0.trans s1
    refine O_mid (n := 10) (f := "value") (y := v) (z := v) (by decide) T.x_UnknownWord.c (T.x_UnknownWord.no _ (by decide +kernel)) (fun _ _ q => ⟨_, rfl, q⟩) (fun _ _ q => ⟨_, rfl, q⟩) (dv_same S1 hd) (dv_same S1 hd) he he (fun _ _ _ _ q => ⟨_, rfl, q⟩) (fun _ _ _ _ q => ⟨_, rfl, q⟩) fun H2 a2 b2 s2 => ?_
    have S2 := S1.trans s2
    refine O_mid (n := 11) (f := "index") (y := .int c) (z := .non) (by decide) T.x_CannotStep.c (T.x_CannotStep.no _ (by decide +kernel)) (fun _ _ q => ⟨_, rfl, q⟩) (fun _ _ q => q) (.dp (.int _)) (.dp .non) (el_int hc) el_non (fun _ _ _ _ q => ⟨_, rfl, q⟩) (fun _ _ _ _ q => q) fun H3 a3 b3 s3 => ?_
    have S3 := S2.trans s3
    refine R_mid hc T.x_Refused.c (T.x_Refused.no _ (by decide +kernel)) (T.x_Refused.no _ (by decide +kernel)) (fun _ _ q => ⟨_, rfl, q⟩) fun H4 a4 b4 s4 => ?_
    have S4 := S3.trans s4
    refine O_last (n := 14) (f := "limit") (y := .int c) (z := .int 2000) (by decide) T.x_LimitExceeded.c (T.x_LimitExceeded.no _ (by decide +kernel)) (fun _ _ q => ⟨_, rfl, q⟩) (fun _ _ q => q) (.dp (.int _)) (.dp (.int _)) (el_int hc) (el_int (Sm.of (by decide))) (fun _ _ _ _ q => ⟨_, rfl, q⟩) (fun _ _ _ _ q => q) fun H5 a5 b5 s5 => ?_
    have S5 := S4.trans s5
    exact k _ S5

theorem ok_law (T : Txt K mg) : FnG P w K mg base CX0 4 T.f_law T.d_law ["script"] (sp_law K) := by
  refine okG T.F_law sc_law (fun vs H Q E h => ?_) (fun cdv A outer s H vs Q E hr hg h => ⟨_, PSs.nox (pss_cons (ps_set (i := 1) sc_law.nd rfl (Or.inl rfl) (pe_call (ok__law_pen T) (hr.mono (by decide)) rfl T.g__law_pen T.F__law_pen.kp (bind__law_pen T) .nil pass0 (pa_cons (pv 0) pa_nil)))
      (pss_cons (ps_for PassesOwn.never rfl (pi_range1 (by rfl) T.n_range (pa_cons pe_int pa_nil)) (pg_name (i := 2) sc_law.nd rfl (Or.inl rfl)) (pss_cons (ps_set (i := 3) sc_law.nd rfl (Or.inl rfl) (pe_call (ok__law_one_of T) (hr.mono (by decide)) rfl T.g__law_one_of T.F__law_one_of.kp (bind__law_one_of T) .nil pass0 (pa_cons (pv 1) (pa_cons (pe_lst (pa_cons pe_int (pa_cons pe_int (pa_cons pe_int (pa_cons (pe_call (ok__law_draw T) (hr.mono (by decide)) rfl T.g__law_draw T.F__law_draw.kp (bind__law_draw T) .nil pass0 (pa_cons (pv 1) (pa_cons (pe_op op_pow pe_int pe_int) pa_nil))) pa_nil))))) pa_nil))))
      (pss_cons (ps_set (i := 4) sc_law.nd rfl (Or.inl rfl) (pe_call (ok__law_one_of T) (hr.mono (by decide)) rfl T.g__law_one_of T.F__law_one_of.kp (bind__law_one_of T) .nil pass0 (pa_cons (pv 1) (pa_cons (pe_lst (pa_cons pe_non (pa_cons pe_bl (pa_cons pe_str (pa_cons (pe_tup (pa_cons pe_int (pa_cons pe_int pa_nil))) (pa_cons (pe_lst pa_nil) (pa_cons pe_dnewK (pa_cons (pv 3) (pa_cons (pe_un un_neg pe_int) pa_nil))))))))) pa_nil))))
      (pss_one (ps_if (PW.pt (pw_or (pt_not (pt_val (pe_callG (ok__law_indexed T) (hr.mono (by decide)) hg rfl T.g__law_indexed T.F__law_indexed.kp (bind__law_indexed T) .nil pass0 (pa_cons (pv 3) pa_nil)))) (pw_or1 (pt_not (pt_val (pe_callG (ok__law_others T) (hr.mono (by decide)) hg rfl T.g__law_others T.F__law_others.kp (bind__law_others T) .nil pass0 (pa_cons (pv 3) (pa_cons (pv 4) pa_nil)))))))) (pss_one (ps_ret pe_bl)) pss_nil)))))
      (pss_one (ps_ret (pe_and (pe_call (ok__law_right T) (hr.mono (by decide)) rfl T.g__law_right T.F__law_right.kp (bind__law_right T) .nil pass0 (pa_cons pe_int (pa_cons pe_int (pa_cons (pe_lst (pa_cons (pe_m0 PySem.F.excBase_ValueError (z0_InvalidClaim T).1 (z0_InvalidClaim T).2 (by rfl) T.gx_InvalidClaim) pa_nil)) pa_nil)))) (pe_one (pe_call (ok__law_right T) (hr.mono (by decide)) rfl T.g__law_right T.F__law_right.kp (bind__law_right T) .nil pass0 (pa_cons pe_int (pa_cons pe_int (pa_cons (pe_lst (pa_cons (pe_m0 PySem.F.excBase_RuntimeError (z0_NothingDone T).1 (z0_NothingDone T).2 (by rfl) T.gx_NothingDone) pa_nil)) pa_nil)))))))))), ?_⟩)
  · obtain ⟨a, ns, rfl, _⟩ := h
    rfl
  · obtain ⟨a, ns, rfl, hS, hlen, k⟩ := h
    refine ⟨_, rfl, a, ns, rfl, hS, fun p g H1 sH1 np P1 => ?_⟩
    refine ⟨3, rfl, by decide, by decide, for_range (lo := 0) (n := 3) (fun i σ H' => Pen H' p g ∧ ∃ v2 v3 v4, σ = [some (.ref a), some (.ref p), v2, v3, v4]) ?_ ?_ ?_⟩
    · exact ⟨P1, _, _, _, rfl⟩
    rotate_left
    · rintro σ H2 ⟨P2, v2, v3, v4, rfl⟩
      dsimp only
      refine ret_of (and_of2 (right1_read (n := 7) (by decide) (fun Q' hQ => fun a na => hQ a _ (same_new na) (.inl upd_same)) fun H3 s3 => ⟨true, rfl, iteT ?_⟩))
      exact right1_read (n := 13) (by decide) (fun Q' hQ => fun a na => hQ a _ (same_new na) (.inl upd_same)) fun H4 s4 => k H4
    rintro lap σ H0 _ ⟨P0, v2, v3, v4, rfl⟩
    -- count
    refine ⟨_, rfl, _, rfl, _, _, rfl, rfl, ⟨by decide, by decide, by decide⟩, p, g, _, rfl, P0, by decide, small_b (by decide), fun n H1 h0 h1 P1 B1 => ⟨by show 4 ≤ sizeLine; decide, fun l nl => ?_⟩⟩
    have s1 := same_new (o := .lst [V.int 0, V.int 1, V.int 17, V.int n]) nl
    refine ⟨p, g, l, _, rfl, same_pen s1 P1, (P1.new_ne nl).1, upd_same, List.cons_ne_nil _ _, by show 4 ≤ 1000; decide, fun v H2 hv P2 B2 => ?_⟩
    obtain ⟨c, ev, hc⟩ : ∃ c : Int, v = .int c ∧ Sm c := by
      simp only [List.mem_cons, List.not_mem_nil, or_false] at hv
      rcases hv with rfl | rfl | rfl | rfl
      · exact ⟨0, rfl, Sm.of (by decide)⟩
      · exact ⟨1, rfl, Sm.of (by decide)⟩
      · exact ⟨17, rfl, Sm.of (by decide)⟩
      · refine ⟨n, rfl, ?_⟩
        have h2 : n.natAbs < 10 ^ 60 := by
          have : (n.natAbs : Int) = n := Int.natAbs_of_nonneg h0
          have h1' : n < ((10 ^ 60 : Nat) : Int) := h1
          omega
        exact Nat.lt_of_lt_of_le h2 (by decide)
    subst ev
    -- thing
    refine ⟨_, rfl, by show 2 ≤ sizeLine; decide, fun q1 n1 => ⟨by show 0 ≤ sizeLine; decide, fun q2 n2 => fun q3 n3 => ⟨_, rfl, _, rfl, by show 8 ≤ sizeLine; decide, fun l2 nl2 => ?_⟩⟩⟩
    have t1 := same_new (o := .tup [V.int 0, V.int 1]) n1
    have g1 : (upd H2 q1 (.tup [V.int 0, V.int 1])) q1 = some (.tup [V.int 0, V.int 1]) := upd_same
    have d1 := (P2.new_ne n1).1
    have P3 := same_pen t1 P2
    generalize upd H2 q1 (.tup [V.int 0, V.int 1]) = H3 at *
    have t2 := same_new (o := .lst []) n2
    have g2 : (upd H3 q2 (.lst [])) q2 = some (.lst []) := upd_same
    have d2 := (P3.new_ne n2).1
    have P4 := same_pen t2 P3
    replace g1 := t2 _ _ g1
    generalize upd H3 q2 (.lst []) = H4 at *
    have t3 := same_new (o := .dK []) n3
    have g3 : (upd H4 q3 (.dK [])) q3 = some (.dK []) := upd_same
    have d3 := (P4.new_ne n3).1
    have P5 := same_pen t3 P4
    replace g1 := t3 _ _ g1
    replace g2 := t3 _ _ g2
    generalize upd H4 q3 (.dK []) = H5 at *
    have t4 := same_new (o := .lst [V.non, V.bl true, V.str "zz", V.ref q1, V.ref q2, V.ref q3, V.int c, V.int (-1)]) nl2
    refine ⟨p, g, l2, _, rfl, same_pen t4 P5, (P5.new_ne nl2).1, upd_same, List.cons_ne_nil _ _, by show 8 ≤ 1000; decide, fun w H6 hw P6 B6 => ?_⟩
    replace g1 := B6 _ _ (t4 _ _ g1) d1
    replace g2 := B6 _ _ (t4 _ _ g2) d2
    replace g3 := B6 _ _ (t4 _ _ g3) d3
    obtain ⟨d, hd, he⟩ : ∃ d, Dv K H6 w d ∧ El d := by
      simp only [List.mem_cons, List.not_mem_nil, or_false] at hw
      rcases hw with rfl | rfl | rfl | rfl | rfl | rfl | rfl | rfl
      · exact ⟨_, .dp .non, el_non⟩
      · exact ⟨_, .dp (.bl true), el_of (by decide +kernel)⟩
      · exact ⟨_, .dp (.str _), el_of (by decide +kernel)⟩
      · exact ⟨.tuple [.int 0, .int 1], .dp (.tup (SqT.of g1) (.cons (.int _) (.cons (.int _) .nil))), el_of (by decide +kernel)⟩
      · exact ⟨.list [], .dp (.lst (SqL.of g2) .nil), el_of (by decide +kernel)⟩
      · exact ⟨_, .dic g3, el_of (by decide +kernel)⟩
      · exact ⟨_, .dp (.int _), el_int hc⟩
      · exact ⟨_, .dp (.int _), el_int (Sm.of (by decide))⟩
    refine ⟨_, rfl, c, rfl, hc, fun H7 s7 => ?_⟩
    refine ⟨_, rfl, ?_⟩
    refine ite2 (fun z => absurd z (by decide)) (fun _ => ?_)
    refine ⟨_, rfl, _, rfl, c, w, d, rfl, hc, dv_same s7 hd, he, fun H8 s8 => ?_⟩
    have f2 : Same H6 H8 := s7.trans s8
    refine ⟨_, rfl, ite2 (fun z => absurd z (by decide)) (fun _ => ?_)⟩
    exact ⟨same_pen f2 P6, _, _, _, rfl⟩


end
end K86
namespace K86
open PySem PySem.Spec PyProof.Rows L2 Gd
def h__law_pen : He.DefD := ⟨("_law_pen", none), "_law_pen", "_law_pen", defArgs s__law_pen, defBody s__law_pen, defScope s__law_pen, [], []⟩
def h__law_fresh : He.DefD := ⟨("_law_fresh", none), "_law_fresh", "_law_fresh", defArgs s__law_fresh, defBody s__law_fresh, defScope s__law_fresh, [], []⟩
def h__law_draw : He.DefD := ⟨("_law_draw", none), "_law_draw", "_law_draw", defArgs s__law_draw, defBody s__law_draw, defScope s__law_draw, [], []⟩
def h__law_one_of : He.DefD := ⟨("_law_one_of", none), "_law_one_of", "_law_one_of", defArgs s__law_one_of, defBody s__law_one_of, defScope s__law_one_of, [], []⟩
def h_InvalidHistory___init__ : He.DefD := ⟨("InvalidHistory", some "__init__"), "__init__", "InvalidHistory.__init__", defArgs s_InvalidHistory___init__, defBody s_InvalidHistory___init__, defScope s_InvalidHistory___init__, [], []⟩
def h_InvalidRules___init__ : He.DefD := ⟨("InvalidRules", some "__init__"), "__init__", "InvalidRules.__init__", defArgs s_InvalidRules___init__, defBody s_InvalidRules___init__, defScope s_InvalidRules___init__, [], []⟩
def h_InvalidWay___init__ : He.DefD := ⟨("InvalidWay", some "__init__"), "__init__", "InvalidWay.__init__", defArgs s_InvalidWay___init__, defBody s_InvalidWay___init__, defScope s_InvalidWay___init__, [], []⟩
def h_InvalidWeights___init__ : He.DefD := ⟨("InvalidWeights", some "__init__"), "__init__", "InvalidWeights.__init__", defArgs s_InvalidWeights___init__, defBody s_InvalidWeights___init__, defScope s_InvalidWeights___init__, [], []⟩
def h_InvalidOptions___init__ : He.DefD := ⟨("InvalidOptions", some "__init__"), "__init__", "InvalidOptions.__init__", defArgs s_InvalidOptions___init__, defBody s_InvalidOptions___init__, defScope s_InvalidOptions___init__, [], []⟩
def h_InvalidLog___init__ : He.DefD := ⟨("InvalidLog", some "__init__"), "__init__", "InvalidLog.__init__", defArgs s_InvalidLog___init__, defBody s_InvalidLog___init__, defScope s_InvalidLog___init__, [], []⟩
def h_InvalidNames___init__ : He.DefD := ⟨("InvalidNames", some "__init__"), "__init__", "InvalidNames.__init__", defArgs s_InvalidNames___init__, defBody s_InvalidNames___init__, defScope s_InvalidNames___init__, [], []⟩
def h_ParseError___init__ : He.DefD := ⟨("ParseError", some "__init__"), "__init__", "ParseError.__init__", defArgs s_ParseError___init__, defBody s_ParseError___init__, defScope s_ParseError___init__, [], []⟩
def h_UnknownName___init__ : He.DefD := ⟨("UnknownName", some "__init__"), "__init__", "UnknownName.__init__", defArgs s_UnknownName___init__, defBody s_UnknownName___init__, defScope s_UnknownName___init__, [], []⟩
def h_UnknownWord___init__ : He.DefD := ⟨("UnknownWord", some "__init__"), "__init__", "UnknownWord.__init__", defArgs s_UnknownWord___init__, defBody s_UnknownWord___init__, defScope s_UnknownWord___init__, [], []⟩
def h_CannotStep___init__ : He.DefD := ⟨("CannotStep", some "__init__"), "__init__", "CannotStep.__init__", defArgs s_CannotStep___init__, defBody s_CannotStep___init__, defScope s_CannotStep___init__, [], []⟩
def h_LimitExceeded___init__ : He.DefD := ⟨("LimitExceeded", some "__init__"), "__init__", "LimitExceeded.__init__", defArgs s_LimitExceeded___init__, defBody s_LimitExceeded___init__, defScope s_LimitExceeded___init__, [], []⟩
def h_Refused___init__ : He.DefD := ⟨("Refused", some "__init__"), "__init__", "Refused.__init__", defArgs s_Refused___init__, defBody s_Refused___init__, defScope s_Refused___init__, [], []⟩
def h__law_which : He.DefD := ⟨("_law_which", none), "_law_which", "_law_which", defArgs s__law_which, defBody s__law_which, defScope s__law_which, [], []⟩
def h__law_base : He.DefD := ⟨("_law_base", none), "_law_base", "_law_base", defArgs s__law_base, defBody s__law_base, defScope s__law_base, [], []⟩
def h__law_right : He.DefD := ⟨("_law_right", none), "_law_right", "_law_right", defArgs s__law_right, defBody s__law_right, defScope s__law_right, [], []⟩
def h__law_indexed : He.DefD := ⟨("_law_indexed", none), "_law_indexed", "_law_indexed", defArgs s__law_indexed, defBody s__law_indexed, defScope s__law_indexed, [], []⟩
def h__law_others : He.DefD := ⟨("_law_others", none), "_law_others", "_law_others", defArgs s__law_others, defBody s__law_others, defScope s__law_others, [], []⟩
def h_law : He.DefD := ⟨("law", none), "law", "law", defArgs s_law, defBody s_law, defScope s_law, [], []⟩
def fn : List He.DefD := [h__law_pen, h__law_fresh, h__law_draw, h__law_one_of, h_InvalidHistory___init__, h_InvalidRules___init__, h_InvalidWay___init__, h_InvalidWeights___init__, h_InvalidOptions___init__, h_InvalidLog___init__, h_InvalidNames___init__, h_ParseError___init__, h_UnknownName___init__, h_UnknownWord___init__, h_CannotStep___init__, h_LimitExceeded___init__, h_Refused___init__, h__law_which, h__law_base, h__law_right, h__law_indexed, h__law_others, h_law]
def fa : List He.Fa := [.glo "_law_pen", .glo "_law_fresh", .glo "_law_draw", .glo "_law_one_of", .glo "InvalidHistory", .glo "InvalidRules", .glo "InvalidWay", .glo "InvalidWeights", .glo "InvalidOptions", .glo "InvalidLog", .glo "InvalidNames", .glo "ParseError", .glo "UnknownName", .glo "UnknownWord", .glo "CannotStep", .glo "LimitExceeded", .glo "Refused", .glo "_law_which", .glo "_law_base", .glo "_law_right", .glo "_law_indexed", .glo "_law_others", .glo "law", .free "IndexError", .free "KeyError", .free "LookupError", .free "NotImplementedError", .free "OverflowError", .free "RuntimeError", .free "ValueError", .free "enumerate", .free "int", .free "isinstance", .free "len", .free "list", .free "range", .free "repr", .glo "NothingDone", .glo "InvalidClaim"]
abbrev R : PySem.W.OpenRow := PySem.W.OpenLaw.row PySem.Challenge.rw_movedrows_k86_errors_required
def ex (K : PySem.W.Frag) : Bool := (exB K "InvalidHistory" mroV "ValueError.__new__" ["index"]) && ((exB K "InvalidRules" mroV "ValueError.__new__" ["index"]) && ((exB K "InvalidWay" mroV "ValueError.__new__" ["index"]) && ((exB K "InvalidWeights" mroV "ValueError.__new__" ["index"]) && ((exB K "InvalidOptions" mroV "ValueError.__new__" ["index"]) && ((exB K "InvalidLog" mroV "ValueError.__new__" ["index"]) && ((exB K "InvalidNames" mroV "ValueError.__new__" ["index"]) && ((exB K "ParseError" mroV "ValueError.__new__" ["line"]) && ((exB K "UnknownName" mroL "LookupError.__new__" ["value"]) && ((exB K "UnknownWord" mroL "LookupError.__new__" ["value"]) && ((exB K "CannotStep" mroR "RuntimeError.__new__" ["index"]) && ((exB K "LimitExceeded" mroO "OverflowError.__new__" ["limit"]) && ((exB K "Refused" mroR "RuntimeError.__new__" ["index", "reason"]) && ((exOwn K))))))))))))))
abbrev hk : PySem.W.Hook := hookX 6 fa fn ex
def ob (s : PySem.W.SharedT) : He.AlD × Bool := obsX 6 fa fn ex (HandSHeadRun.getT s)
theorem ob_eq (s : PySem.W.SharedT) : ob s = hk.obs s.abs := obsX_eq (HandSHeadRun.getT_eq s)
def names : List PySem.Str := ["InvalidHistory", "InvalidRules", "InvalidWay", "InvalidWeights", "InvalidOptions", "InvalidLog", "InvalidNames", "InvalidClaim", "ParseError", "UnknownName", "UnknownWord", "CannotStep", "Refused", "NothingDone", "LimitExceeded", "_law_pen", "_law_fresh", "_law_draw", "_law_one_of", "_law_which", "_law_base", "_law_right", "_law_indexed", "_law_others"]
theorem run (w : World) : HandSHeadRun.RunEq R (PySem.W.view R.prog [26]) hk ob 20000 names w := by
  intro os
  kernel_rfl
noncomputable def txt {K : PySem.W.Frag} {h : Heap} {mg : Str → Option Value} (X : K.In h) (G : h.Ns mainGlobals mg) (c : He.SaysD fa fn K) (xx : ex K = true) : Txt K mg where
  f__law_pen := _
  d__law_pen := _
  F__law_pen := (c.def_ 0 (d := h__law_pen) rfl).choose_spec
  g__law_pen := He.glo_ok X G (c.fact 0 (f := .glo "_law_pen") rfl)
  f__law_fresh := _
  d__law_fresh := _
  F__law_fresh := (c.def_ 1 (d := h__law_fresh) rfl).choose_spec
  g__law_fresh := He.glo_ok X G (c.fact 1 (f := .glo "_law_fresh") rfl)
  f__law_draw := _
  d__law_draw := _
  F__law_draw := (c.def_ 2 (d := h__law_draw) rfl).choose_spec
  g__law_draw := He.glo_ok X G (c.fact 2 (f := .glo "_law_draw") rfl)
  f__law_one_of := _
  d__law_one_of := _
  F__law_one_of := (c.def_ 3 (d := h__law_one_of) rfl).choose_spec
  g__law_one_of := He.glo_ok X G (c.fact 3 (f := .glo "_law_one_of") rfl)
  d_InvalidHistory___init__ := _
  F_InvalidHistory___init__ := (c.def_ 4 (d := h_InvalidHistory___init__) rfl).choose_spec
  d_InvalidRules___init__ := _
  F_InvalidRules___init__ := (c.def_ 5 (d := h_InvalidRules___init__) rfl).choose_spec
  d_InvalidWay___init__ := _
  F_InvalidWay___init__ := (c.def_ 6 (d := h_InvalidWay___init__) rfl).choose_spec
  d_InvalidWeights___init__ := _
  F_InvalidWeights___init__ := (c.def_ 7 (d := h_InvalidWeights___init__) rfl).choose_spec
  d_InvalidOptions___init__ := _
  F_InvalidOptions___init__ := (c.def_ 8 (d := h_InvalidOptions___init__) rfl).choose_spec
  d_InvalidLog___init__ := _
  F_InvalidLog___init__ := (c.def_ 9 (d := h_InvalidLog___init__) rfl).choose_spec
  d_InvalidNames___init__ := _
  F_InvalidNames___init__ := (c.def_ 10 (d := h_InvalidNames___init__) rfl).choose_spec
  d_ParseError___init__ := _
  F_ParseError___init__ := (c.def_ 11 (d := h_ParseError___init__) rfl).choose_spec
  d_UnknownName___init__ := _
  F_UnknownName___init__ := (c.def_ 12 (d := h_UnknownName___init__) rfl).choose_spec
  d_UnknownWord___init__ := _
  F_UnknownWord___init__ := (c.def_ 13 (d := h_UnknownWord___init__) rfl).choose_spec
  d_CannotStep___init__ := _
  F_CannotStep___init__ := (c.def_ 14 (d := h_CannotStep___init__) rfl).choose_spec
  d_LimitExceeded___init__ := _
  F_LimitExceeded___init__ := (c.def_ 15 (d := h_LimitExceeded___init__) rfl).choose_spec
  d_Refused___init__ := _
  F_Refused___init__ := (c.def_ 16 (d := h_Refused___init__) rfl).choose_spec
  f__law_which := _
  d__law_which := _
  F__law_which := (c.def_ 17 (d := h__law_which) rfl).choose_spec
  g__law_which := He.glo_ok X G (c.fact 17 (f := .glo "_law_which") rfl)
  f__law_base := _
  d__law_base := _
  F__law_base := (c.def_ 18 (d := h__law_base) rfl).choose_spec
  g__law_base := He.glo_ok X G (c.fact 18 (f := .glo "_law_base") rfl)
  f__law_right := _
  d__law_right := _
  F__law_right := (c.def_ 19 (d := h__law_right) rfl).choose_spec
  g__law_right := He.glo_ok X G (c.fact 19 (f := .glo "_law_right") rfl)
  f__law_indexed := _
  d__law_indexed := _
  F__law_indexed := (c.def_ 20 (d := h__law_indexed) rfl).choose_spec
  g__law_indexed := He.glo_ok X G (c.fact 20 (f := .glo "_law_indexed") rfl)
  f__law_others := _
  d__law_others := _
  F__law_others := (c.def_ 21 (d := h__law_others) rfl).choose_spec
  g__law_others := He.glo_ok X G (c.fact 21 (f := .glo "_law_others") rfl)
  f_law := _
  d_law := _
  F_law := (c.def_ 22 (d := h_law) rfl).choose_spec
  g_law := He.glo_ok X G (c.fact 22 (f := .glo "law") rfl)
  n_IndexError := He.free_ok X G (c.fact 23 (f := .free "IndexError") rfl)
  n_KeyError := He.free_ok X G (c.fact 24 (f := .free "KeyError") rfl)
  n_LookupError := He.free_ok X G (c.fact 25 (f := .free "LookupError") rfl)
  n_NotImplementedError := He.free_ok X G (c.fact 26 (f := .free "NotImplementedError") rfl)
  n_OverflowError := He.free_ok X G (c.fact 27 (f := .free "OverflowError") rfl)
  n_RuntimeError := He.free_ok X G (c.fact 28 (f := .free "RuntimeError") rfl)
  n_ValueError := He.free_ok X G (c.fact 29 (f := .free "ValueError") rfl)
  n_enumerate := He.free_ok X G (c.fact 30 (f := .free "enumerate") rfl)
  n_int := He.free_ok X G (c.fact 31 (f := .free "int") rfl)
  n_isinstance := He.free_ok X G (c.fact 32 (f := .free "isinstance") rfl)
  n_len := He.free_ok X G (c.fact 33 (f := .free "len") rfl)
  n_list := He.free_ok X G (c.fact 34 (f := .free "list") rfl)
  n_range := He.free_ok X G (c.fact 35 (f := .free "range") rfl)
  n_repr := He.free_ok X G (c.fact 36 (f := .free "repr") rfl)
  gx_InvalidHistory := He.glo_ok X G (c.fact 4 (f := .glo "InvalidHistory") rfl)
  x_InvalidHistory := exB_ok basV (ba2 xx).1
  gx_InvalidRules := He.glo_ok X G (c.fact 5 (f := .glo "InvalidRules") rfl)
  x_InvalidRules := exB_ok basV (ba2 (ba2 xx).2).1
  gx_InvalidWay := He.glo_ok X G (c.fact 6 (f := .glo "InvalidWay") rfl)
  x_InvalidWay := exB_ok basV (ba2 (ba2 (ba2 xx).2).2).1
  gx_InvalidWeights := He.glo_ok X G (c.fact 7 (f := .glo "InvalidWeights") rfl)
  x_InvalidWeights := exB_ok basV (ba2 (ba2 (ba2 (ba2 xx).2).2).2).1
  gx_InvalidOptions := He.glo_ok X G (c.fact 8 (f := .glo "InvalidOptions") rfl)
  x_InvalidOptions := exB_ok basV (ba2 (ba2 (ba2 (ba2 (ba2 xx).2).2).2).2).1
  gx_InvalidLog := He.glo_ok X G (c.fact 9 (f := .glo "InvalidLog") rfl)
  x_InvalidLog := exB_ok basV (ba2 (ba2 (ba2 (ba2 (ba2 (ba2 xx).2).2).2).2).2).1
  gx_InvalidNames := He.glo_ok X G (c.fact 10 (f := .glo "InvalidNames") rfl)
  x_InvalidNames := exB_ok basV (ba2 (ba2 (ba2 (ba2 (ba2 (ba2 (ba2 xx).2).2).2).2).2).2).1
  gx_ParseError := He.glo_ok X G (c.fact 11 (f := .glo "ParseError") rfl)
  x_ParseError := exB_ok basV (ba2 (ba2 (ba2 (ba2 (ba2 (ba2 (ba2 (ba2 xx).2).2).2).2).2).2).2).1
  gx_UnknownName := He.glo_ok X G (c.fact 12 (f := .glo "UnknownName") rfl)
  x_UnknownName := exB_ok basL (ba2 (ba2 (ba2 (ba2 (ba2 (ba2 (ba2 (ba2 (ba2 xx).2).2).2).2).2).2).2).2).1
  gx_UnknownWord := He.glo_ok X G (c.fact 13 (f := .glo "UnknownWord") rfl)
  x_UnknownWord := exB_ok basL (ba2 (ba2 (ba2 (ba2 (ba2 (ba2 (ba2 (ba2 (ba2 (ba2 xx).2).2).2).2).2).2).2).2).2).1
  gx_CannotStep := He.glo_ok X G (c.fact 14 (f := .glo "CannotStep") rfl)
  x_CannotStep := exB_ok basR (ba2 (ba2 (ba2 (ba2 (ba2 (ba2 (ba2 (ba2 (ba2 (ba2 (ba2 xx).2).2).2).2).2).2).2).2).2).2).1
  gx_LimitExceeded := He.glo_ok X G (c.fact 15 (f := .glo "LimitExceeded") rfl)
  x_LimitExceeded := exB_ok basO (ba2 (ba2 (ba2 (ba2 (ba2 (ba2 (ba2 (ba2 (ba2 (ba2 (ba2 (ba2 xx).2).2).2).2).2).2).2).2).2).2).2).1
  gx_Refused := He.glo_ok X G (c.fact 16 (f := .glo "Refused") rfl)
  x_Refused := exB_ok basR (ba2 (ba2 (ba2 (ba2 (ba2 (ba2 (ba2 (ba2 (ba2 (ba2 (ba2 (ba2 (ba2 xx).2).2).2).2).2).2).2).2).2).2).2).2).1
  own := (ba2 (ba2 (ba2 (ba2 (ba2 (ba2 (ba2 (ba2 (ba2 (ba2 (ba2 (ba2 (ba2 xx).2).2).2).2).2).2).2).2).2).2).2).2).2
  gx_NothingDone := He.glo_ok X G (c.fact 37 (f := .glo "NothingDone") rfl)
  gx_InvalidClaim := He.glo_ok X G (c.fact 38 (f := .glo "InvalidClaim") rfl)
theorem bindA {K : PySem.W.Frag} {mg : Str → Option Value} (T : Txt K mg) (s : Shared) (v : Value) : BindsTo s T.d_law ⟨[v], []⟩ [("script", v)] :=
  FunD.bindsA (ps := ["script"]) T.F_law (fun _ _ _ _ _ _ us hl => match us, hl with | [_], _ => rfl) s [v] rfl
end K86
open PySem PySem.W PySem.Calls PyProof.Rows
set_option maxRecDepth 100000 in
set_option maxHeartbeats 0 in
theorem PySem.Challenge.cw_movedrows_k86_errors_required_holds : PySem.Challenge.rw_movedrows_k86_errors_required.Holds := by
  w_on; o_law
  refine HandSHeadRun.head_any (r := OpenLaw.row PySem.Challenge.rw_movedrows_k86_errors_required) (q := view (OpenLaw.row PySem.Challenge.rw_movedrows_k86_errors_required).prog [26])
    (H := K86.hk) (ob := K86.ob) (M := 20000) (loose := K86.names)
    (d := HandSHeadRun.topDef (OpenLaw.row PySem.Challenge.rw_movedrows_k86_errors_required).prog 26) (kwd := []) K86.ob_eq
    (by kernel_rfl) (fun s => by kernel_rfl) K86.run (by kernel_rfl) (by kernel_rfl) (by kernel_rfl) (by rfl)
    (by first | assumption | decide +kernel) (by decide +kernel) ⟨rfl, rfl, rfl, rfl, rfl, by decide +kernel⟩ ?hw ?hc
  case hw => w_witness2
  case hc =>
    refine Gd.walkG (l := PySem.Challenge.rw_movedrows_k86_errors_required) (n := 63) (k := 4) (x := "script") (CX := L2.CX0) rfl (by decide) (by kernel_rfl)
      ⟨rfl, by decide, by decide⟩ ?F (fun _ _ _ _ z => z)
    intro w mg fa h Y G hmg0
    obtain ⟨K, KX, c, xx⟩ := Y
    have hmg : mg ("law" : PySem.Str) = some (.ref fa) := by
      have e : (HandSHeadRun.topDef (OpenLaw.row PySem.Challenge.rw_movedrows_k86_errors_required).prog 26).name = ("law" : PySem.Str) := by kernel_rfl
      rw [← e]
      exact hmg0
    have e := hmg.symm.trans (K86.txt KX G c xx).g_law
    have e2 : fa = (K86.txt KX G c xx).f_law := by
      injection e with e
      injection e
    subst e2
    exact ⟨K, _, K86.sp_law K, KX, fun s v => K86.bindA (K86.txt KX G c xx) s v, fun H a ns hl _ hS => ⟨a, ns, rfl, hS, hl, fun _ => rfl⟩,
      fun base _ _ => K86.ok_law (K86.txt KX G c xx)⟩

