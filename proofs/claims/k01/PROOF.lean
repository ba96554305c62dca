import PyProof.Rows.All
import Wide.All
import OpenK.AllK
import Wide.FinOn
import KE.KStateDown
import HandS.ForMost
import HandS.Wide
import HandS.Defaults
import HandS.RaiseMore
import HandS.Head0
import HandS.Head1
import HandS.Head2
import HandS.HeadEnd
import HandS.HeadHook1
import HandS.HeadHook2
import HandS.Exc
import HandS.TryOnly
import HandS.ExcOwn
import HandS.ExcInit
import HandS.ExcField
import HandS.WordsExc
import KE.KExcInit
import HandS.Iter
import KE.GoesEnum
import HandS.IsInst
import HandS.Dict
import HandS.TupAny
import HandS.Zip
import HandS.Zip0
import KE.GoesEnumKw
import HandS.Walk
import HandS.More
import HandS.Star
import HandS.TupMul
import HandS.RevTup
import PySem.Challenge.RW_movedrows_k01_histories_and_entries
set_option Elab.async false
set_option linter.all false
set_option maxRecDepth 100000
set_option maxHeartbeats 4000000

/-! Defs that are called while no repr is under way (guards), and repr of data. -/
namespace Gd
open PySem PySem.Spec PyProof.Rows L2
/-- a def's promise, asked only where no repr is under way -/
structure FnG (P : Program) (w : World) (K : PySem.W.Frag) (mg : Str → Option Value) (base : Heap)
    (CX : CXT) (k : Nat) (f : Addr) (fd : FuncData) (ps : List Str) (sp : Sp) : Prop where
  len : ∀ vs H Q E, sp vs H Q E → vs.length = ps.length
  run : ∀ (A : Around) (outer : List Env) (s : Shared) (H : Hp)
    (args : Args) (us : List Value) (vs : List V) (Q : VK) (E : XK),
    Room k A → A.guards = some [] →
    Env0 P w K mg base A outer s H →
    BindsTo s fd args (ps.zip us) → Vals vs us → sp vs H Q E →
    codeAny (model P w) A (.call (.ref f) args) (CR CX outer P w H s Q E) s
section
variable {P : Program} {w : World} {K : PySem.W.Frag} {mg : Str → Option Value}
variable {base : Heap} {CX : CXT} {k : Nat} {f : Addr} {fd : FuncData} {ps : List Str} {sp : Sp}
theorem FnG.of (F : FnOk P w K mg base CX k f fd ps sp) : FnG P w K mg base CX k f fd ps sp :=
  ⟨F.len, fun A o s H a us vs Q E r _ => F.run A o s H a us vs Q E r⟩
theorem FnG.mono {j : Nat} (F : FnG P w K mg base CX j f fd ps sp) (h : j ≤ k) :
    FnG P w K mg base CX k f fd ps sp :=
  ⟨F.len, fun A o s H a us vs Q E r => F.run A o s H a us vs Q E (r.mono h)⟩
/-- the rule for such a def: its body with guards known -/
theorem fnG_of {name qual : Str} {params : Arguments} {body : List Stmt} {scope : Scope}
    {dV kV doc pm cdv ct oc : Value} {an od : Option Addr}
    {osl : Array (Option Value)} {N : List Str}
    (lk : K.lookup f = some ⟨oc, od, .func (PySem.W.fnOf name qual params body scope dV kV doc pm an cdv ct), osl⟩)
    (hcd : PySem.W.codeIn K cdv qual = true) (S : FnScope N ps scope)
    (len : ∀ vs H Q E, sp vs H Q E → vs.length = ps.length)
    (hbody : ∀ (A : Around) (outer : List Env) (s : Shared) (H : Hp) (vs : List V) (Q : VK) (E : XK),
      Room k (A.deeper (envOfC qual scope s.heap.objs.size f cdv)) → A.guards = some [] → sp vs H Q E →
      ∃ t, PSs (cxOf CX P w K mg base N qual scope f cdv A outer s H E) body t ∧
        t { nx := fun _ H' => Q .non H', rt := Q } (start N vs) H) :
    FnG P w K mg base CX (k + 1) f (PySem.W.fnOf name qual params body scope dV kV doc pm an cdv ct) ps sp := by
  refine ⟨len, ?_⟩
  intro A outer s H args us vs Q E room hg e0 hb rel want
  have hlen := len _ _ _ _ want
  have up : ∀ b o, base.get? b = some o → s.heap.get? b = some o := fun b o e => (e0.bs b o e).1
  have inK : K.In s.heap := e0.mod.kin.keeps up
  have hkinds : ∀ y ∈ ps.zip us,
      scope.names.lookup y.1 = some .local ∨
      (scope.names.lookup y.1 = some .cell ∧
        ((cellsFrom (s.heap.objs.size + 1) scope.names []).lookup y.1).isSome = true) := by
    intro y hy
    obtain ⟨n, v⟩ := y
    rcases S.par n (List.of_mem_zip hy).1 with q | q
    · exact Or.inl q
    · exact Or.inr ⟨q, PySem.W.cellsFrom_some _ _ _ (Or.inl q)⟩
  refine codeAny_call_function room.depth (inK _ _ lk) rfl S.co S.gen rfl
    (PySem.W.codeRec_of inK hcd) (hb _ _ _ _ ?_)
  refine wpAny_newFunctionEnv_cells S.kind hkinds ?_
  intro env he s1 x
  subst he
  refine ⟨(e0.mod.nolimit.keeps up).keeps x.toInCall.keep, codeAny_func ?_⟩
  obtain ⟨t, ht, hq⟩ := hbody A outer s H vs Q E (room.deeper _) hg want
  have I := inv_start (CX := CX) (E := E) (cd := cdv) S room.hd e0 hlen rel x
  refine wpAny_mono (ht.run [] s1 (start N vs) H _ I hq) ?_ (fun _ _ z => z)
  intro fl s' hs
  cases fl with
  | ret u =>
    obtain ⟨v, _, H', J, rv, q⟩ := hs
    exact ⟨v, H', J.os, J.bare, J.base, J.hok, rv, q⟩
  | next =>
    obtain ⟨_, H', J, q⟩ := hs
    exact ⟨V.non, H', J.os, J.bare, J.base, J.hok, rfl, q⟩
  | brk => exact False.elim hs.choose_spec.choose_spec.2
  | cont => exact False.elim hs.choose_spec.choose_spec.2
/-- the same from what the head tells of a def -/
theorem okG {x qual : Str} {params : Arguments} {body : List Stmt} {scope : Scope}
    {dvs : List V} {kws : List (Str × V)} {N : List Str}
    (F : FunD K x qual params body scope dvs kws f fd) (S : FnScope N ps scope)
    (len : ∀ vs H Q E, sp vs H Q E → vs.length = ps.length)
    (hbody : ∀ (cdv : Value) (A : Around) (outer : List Env) (s : Shared) (H : Hp) (vs : List V) (Q : VK) (E : XK),
      Room k (A.deeper (envOfC qual scope s.heap.objs.size f cdv)) → A.guards = some [] → sp vs H Q E →
      ∃ t, PSs (cxOf CX P w K mg base N qual scope f cdv A outer s H E) body t ∧
        t { nx := fun _ H' => Q .non H', rt := Q } (start N vs) H) :
    FnG P w K mg base CX (k + 1) f fd ps sp := by
  obtain ⟨_, _, _, _, _, _, _, cdv, _, _, rfl, lk, hcd, _, _⟩ := F.ex
  exact fnG_of lk hcd S len (fun A outer s H => hbody cdv A outer s H)
end
section
variable {X : Cx} {CX : CXT} {k : Nat} {f : Addr} {fd : FuncData} {ps : List Str} {sp : Sp}
variable {dvs : List V} {ds : List Value} {E : XK} {x : Str} {p pos : Pos} {e : Expr} {es : List Expr} {t : TA}
theorem runG {pins : List (Addr × Obj)} {σ : L2.St} {H : Hp} {s : Shared} {Q : VK} {us : List Value} {vs : List V}
    (F : FnG X.prog X.w X.K X.mg X.base CX k f fd ps sp) (hr : Room k X.A) (hg : X.A.guards = some [])
    (hb : Binds X.K fd ps ds) (hd : Vals dvs ds) (hx : Passes CX X E)
    (I : Inv X pins σ H s) (r : Vals vs us) (h : sp (vs ++ dvs) H Q E) :
    wpAny (model X.prog X.w) X.A (call (.ref f) us) (EP X pins σ Q) X.xe s := by
  have both : Vals (vs ++ dvs) (us ++ ds) := r.append hd
  have n : (us ++ ds).length = ps.length := both.length.symm.trans (F.len _ _ _ _ h)
  have go := F.run X.A X.stack s H ⟨us, []⟩ (us ++ ds) (vs ++ dvs) Q E hr hg I.env0
    (hb s us I.kIn n) both h
  refine wpAny_call (codeAny_mono go ?_)
  intro r' s' hq
  rcases r' with er | fl
  · exact hx pins σ H s er s' I hq
  · cases fl with
    | ret u => exact I.after hq
    | next => exact hq.elim
    | brk => exact hq.elim
    | cont => exact hq.elim
/-- f(e, ..) of such a def -/
theorem pe_callG (F : FnG X.prog X.w X.K X.mg X.base CX k f fd ps sp) (hr : Room k X.A) (hgd : X.A.guards = some [])
    (hg : Gl X x) (hm : X.mg x = some (.ref f)) (hk : PySem.W.keepIn X.K (.ref f) = true)
    (hb : Binds X.K fd ps ds) (hd : Vals dvs ds) (hx : Passes CX X E)
    (ha : PA X (e :: es) t) (hdb : (x == ("__debug__" : Str)) = false := by decide)
    (he : starEach (e :: es) X.env = (false, eval e X.env) :: starEach es X.env := by rfl)
    (hpl : (backTo pos (starEach es X.env)).any (·.1) = false := by rfl) :
    PE X (.Call (.Name x p) (e :: es) [] pos) (tCall sp dvs E t) := by
  refine ⟨?_⟩
  intro pins s σ H Q I h
  refine wpAny_Call_Name_kw (ld_glob I hg hm ?_ hdb)
  refine PySem.W.callWith_K (h₀ := X.base) I.ok.mod.kin hk ?_ he hpl
  exact thn (ha.run pos pins s σ H _ I h) fun us s1 ⟨vs, H1, I1, r, q⟩ =>
    ⟨I1.kIn, runG F hr hgd hb hd hx I1 r q⟩
/-- repr of data -/
theorem call_reprD (hgd : X.A.guards = some []) (hu : X.A.units + 65 < cLine) :
    CallR X (.builtin "repr") (fun xs H Q => ∃ a d, xs = [.ref a] ∧ Dp X.K H (.ref a) d ∧ d.showable = true ∧
      d.depth ≤ 64 ∧ d.hasDict = false ∧ d.shown.length ≤ sizeLine ∧ Q (.str d.shown) H) := by
  intro pins s σ H xs us Q I r h
  obtain ⟨a, d, rfl, hd, hs, h64, hD, hz, q⟩ := h
  obtain ⟨u, rfl, rx⟩ := vals1 r
  obtain ⟨as, rd⟩ := Dp.reads I d _ _ hd rx
  cases rx
  refine repr_of_reads' rd hs (fun z => by rw [hD] at z; cases z) hgd (by omega) (fun _ _ e => e) ?_ hz
  intro h' u tk hk
  exact ⟨.str d.shown, H, I.kept hk, ⟨_, rfl⟩, q⟩
end
/-- a law's call from outside: its def promised for where no repr is under way -/
theorem law_callG {P : Program} {w : World} {K : PySem.W.Frag} {mg mb : Str → Option Value}
    {CX : CXT} {k : Nat} {fa a : Addr} {fd : FuncData} {x : Str} {sp : Sp}
    {s₁ : Shared} {vs : List Value} {ns : List Int}
    (KX : K.In s₁.heap) (hns : s₁.heap.Ns mainGlobals mg) (hb : s₁.heap.Ns builtinsNs mb)
    (hbb : ∀ x : Str, x ≠ "__name__" → mb x = bootBuiltins x) (hlim : s₁.heap.NoLimit) (hg : s₁.gens = #[])
    (ha : s₁.heap.get? a = some { cls := .type "list", data := .seq vs.toArray })
    (hi : IntsAre vs ns) (hl : ns.length ≤ sizeLine) (hr : Room k callerA)
    (F : ∀ base : Heap, K.In base → base.Ns mainGlobals mg → FnG P w K mg base CX k fa fd [x] sp)
    (hbind : ∀ (s : Shared) (u : Value), BindsTo s fd ⟨[u], []⟩ [(x, u)])
    (hsp : ∀ H : Hp, Only H → SqL K H a (ns.map V.int) → sp [.ref a] H (fun v _ => v = .bl true) fun _ _ _ => False)
    (hCX : ∀ H e s', CX [] H s₁ (fun _ _ _ => False) e s' → False) :
    codeAny (model P w) callerA (.call (.ref fa) ⟨[.ref a], []⟩)
      (fun r s' => r = .ok (.ret (.bool true)) ∧ OldK s₁.heap s'.heap ∧ s'.os = s₁.os ∧ AllBare s'.gens) s₁ := by
  have rints := vals_ints hi
  have nn := hi.length
  have main : ∀ H : Hp, Only H → SqL K H a (ns.map V.int) → HOk P w H s₁.heap →
      (∀ b, H b ≠ none → b = a) → (H a ≠ none → K.lookup a = none) →
      codeAny (model P w) callerA (.call (.ref fa) ⟨[.ref a], []⟩)
        (fun r s' => r = .ok (.ret (.bool true)) ∧ OldK s₁.heap s'.heap ∧ s'.os = s₁.os ∧ AllBare s'.gens) s₁ := by
    intro H only sq ok one noK
    have plainD : ∀ {b : Addr} {o : Obj} {es : Array DictEntry} {ep : Nat},
        s₁.heap.get? b = some o → o.data = .dict es ep → H b = none := by
      intro b o es ep e d
      rcases q : H b with _ | u
      · rfl
      · have e' : b = a := one b (by rw [q]; exact Option.some_ne_none u)
        subst e'
        rw [ha] at e
        cases e
        cases (show Data.seq vs.toArray _ = Data.dict es ep from d)
    have names : ∀ {b : Addr} {m : Str → Option Value},
        s₁.heap.Ns b m → (hidT s₁.heap H).Ns b m := by
      intro b m z
      obtain ⟨o, es, ep, e, d, r⟩ := z
      exact ⟨o, es, ep, hidT_get e (plainD e d), d, r⟩
    have kin : K.In (hidT s₁.heap H) := by
      intro b o e
      refine hidT_get (KX b o e) ?_
      rcases q : H b with _ | u
      · rfl
      · have e' : b = a := one b (by rw [q]; exact Option.some_ne_none u)
        subst e'
        rw [noK (by rw [q]; exact Option.some_ne_none u)] at e
        cases e
    have lim : (hidT s₁.heap H).NoLimit := by
      obtain ⟨mc, h1, h2⟩ := hlim
      exact ⟨mc, names h1, h2⟩
    have md : Mod K mg (hidT s₁.heap H) := ⟨kin, names hns, ⟨mb, names hb, hbb⟩, lim⟩
    have env : Env0 P w K mg (hidT s₁.heap H) callerA [] s₁ H :=
      { frames := rfl, mod := md, bs := fun _ _ e => of_hidT e, bsz := Nat.le_of_eq (hidT_size _ _)
        funs := trivial, frf := fun b hb => absurd hb List.not_mem_nil, hok := ok, bare := .of_eq hg }
    have go := (F _ kin (names hns)).run callerA [] s₁ H ⟨[.ref a], []⟩ [.ref a] [.ref a] _ _ hr rfl env
      (hbind s₁ (.ref a)) (.cons rfl .nil) (hsp H only sq)
    refine codeAny_mono go ?_
    intro r s' h
    rcases r with e | fl
    · exact (hCX H e s' h).elim
    · cases fl with
      | next => exact h.elim
      | brk => exact h.elim
      | cont => exact h.elim
      | ret u =>
        obtain ⟨v, H', os, bare, un, ok', rv, q⟩ := h
        have tr : v = .bl true := q
        subst tr
        obtain rfl : u = Value.bool true := rv
        refine ⟨rfl, OldK.of_keep ?_, os, bare⟩
        intro b o e
        rcases z : H b with _ | u
        · exact un.keep b o e z (fun y => absurd (show b ∈ ([] : List Addr) from y) List.not_mem_nil) List.not_mem_nil
        · rcases only b with y | ⟨ob, xs, y⟩
          · rw [z] at y
            cases y
          · obtain ⟨e1, _⟩ := ok b _ y
            obtain ⟨e2, _⟩ := ok' b _ (un.frzs b ob _ y)
            rw [e] at e1
            cases e1
            exact e2
  rcases hk : K.lookup a with _ | o
  · let o1 : Obj := { cls := .type "list", data := .seq vs.toArray }
    let H1 : Hp := fun b => if b = a then some (.frz o1 (.lst (ns.map V.int))) else none
    have at1 : H1 a = some (.frz o1 (.lst (ns.map V.int))) := if_pos rfl
    have off : ∀ b, b ≠ a → H1 b = none := fun b h => if_neg h
    refine main H1 ?_ (.inl (.inr ⟨o1, at1⟩)) ?_ ?_ (fun _ => hk)
    · intro b
      by_cases h : b = a
      · exact .inr ⟨o1, ns.map V.int, by rw [h]; exact at1⟩
      · exact .inl (off b h)
    · intro b u z
      by_cases h : b = a
      · subst h
        rw [at1] at z
        cases z
        exact ⟨ha, by rw [List.length_map]; exact hl, vs, _, rints, ha⟩
      · rw [off b h] at z
        cases z
    · intro b z
      by_cases h : b = a
      · exact h
      · exact absurd (off b h) z
  · have e := KX a o hk
    rw [ha] at e
    cases e
    refine main (fun _ => none) (fun _ => .inl rfl)
      (.inr ⟨_, vs.toArray, _, hk, rfl, rfl, rfl, by rw [List.size_toArray, nn]; exact hl, by simpa using rints⟩)
      ?_ (fun b z => absurd rfl z) (fun z => absurd rfl z)
    intro b u z
    cases (show (none : Option HO) = some u from z)
/-- the goal that the head leaves -/
theorem walkG {l : PySem.W.OpenLaw} {n k : Nat} {q : Program} {loose : List Str}
    {XP : (Str → Option Value) → Heap → Prop} {YP : World → Heap → Prop} {d : DefRec} {CX : CXT} {x : Str}
    (hn : l.most = some n) (hn2 : n ≤ sizeLine) (hdf : d.params.defaults = []) (hr : Room k callerA)
    (F : ∀ (w : World) (mg : Str → Option Value) (fa : Addr) (h : Heap),
      YP w h → h.Ns mainGlobals mg → mg d.name = some (.ref fa) →
      ∃ (K : PySem.W.Frag) (fd : FuncData) (sp : Sp), K.In h ∧
        (∀ (s : Shared) (u : Value), BindsTo s fd ⟨[u], []⟩ [(x, u)]) ∧
        (∀ (H : Hp) (a : Addr) (ns : List Int), ns.length ≤ n → Only H → SqL K H a (ns.map V.int) →
          sp [.ref a] H (fun v _ => v = .bl true) fun _ _ _ => False) ∧
        ∀ base : Heap, K.In base → base.Ns mainGlobals mg → FnG l.prog w K mg base CX k fa fd [x] sp)
    (hCX : ∀ (H : Hp) (s : Shared) (e : Value) (s' : Shared), CX [] H s (fun _ _ _ => False) e s' → False) :
    PySem.W.WalkO q loose XP YP l.row.toRowW d [] (fun f vs => PySem.call f vs) := by
  refine Att.attach_call hn hdf ?_
  intro w s₀ s₁ mg mb fa o pm cd doc a vs ns G Y ho hd hcd hmg hobj hints hlen hg
  obtain ⟨K, fd, sp, KX, hb, hsp, hF⟩ := F w mg fa _ Y G.T.g hmg
  exact law_callG KX G.T.g G.T.b G.T.builtins G.T.nolimit hg hobj hints (Nat.le_trans hlen hn2) hr hF hb
    (fun H hO hS => hsp H a ns hlen hO hS) (fun H e s' => hCX H s₁ e s')
end Gd

/-! The drawing pen of the laws: its object, and small lemmas about heaps, data and tests. -/
namespace Gd
open PySem PySem.Spec PyProof.Rows L2
/-- the pen p: its cells ns stand at g, the next one's place, what is left of a great number -/
structure PenAt (H : Hp) (p g : Addr) (ns : List Int) (seat left : Int) : Prop where
  ne : p ≠ g
  at_ : H p = some (.lst [.ref g, .int seat, .int left])
  cells : H g = some (.lst (ns.map V.int))
def Pen (H : Hp) (p g : Addr) : Prop := ∃ ns seat left, PenAt H p g ns seat left
/-- all but the pen stands as before -/
def But (p : Addr) (H H' : Hp) : Prop := ∀ b o, H b = some o → b ≠ p → H' b = some o
theorem But.refl (p : Addr) (H : Hp) : But p H H := fun _ _ h _ => h
theorem But.trans {p : Addr} {H H1 H2 : Hp} (a : But p H H1) (b : But p H1 H2) : But p H H2 :=
  fun c o h n => b c o (a c o h n) n
theorem But.same {p : Addr} {H H1 H2 : Hp} (a : But p H H1) (b : Same H1 H2) : But p H H2 :=
  fun c o h n => b c o (a c o h n)
theorem But.wr {p : Addr} {H H1 : Hp} {o : HO} (a : But p H H1) : But p H (upd H1 p o) := by
  intro c u h n
  rw [upd_ne n]
  exact a c u h n
theorem same_new {H : Hp} {q : Addr} {o : HO} (h : H q = none) : Same H (upd H q o) := by
  intro c u e
  rw [upd_ne (ne_of_none e h)]
  exact e
theorem same_pen {H H' : Hp} {p g : Addr} (s : Same H H') (P : Pen H p g) : Pen H' p g := by
  obtain ⟨ns, a, b, n, x, y⟩ := P
  exact ⟨ns, a, b, n, s _ _ x, s _ _ y⟩
theorem Pen.lst {H : Hp} {p g : Addr} (P : Pen H p g) : ∃ xs, H p = some (.lst xs) := by
  obtain ⟨ns, a, b, n, x, y⟩ := P
  exact ⟨_, x⟩
theorem Pen.new_ne {H : Hp} {p g q : Addr} (P : Pen H p g) (h : H q = none) : q ≠ p ∧ q ≠ g := by
  obtain ⟨ns, a, b, n, x, y⟩ := P
  exact ⟨(ne_of_none x h).symm, (ne_of_none y h).symm⟩
/-- a store elsewhere -/
theorem Pen.upd {H : Hp} {p g q : Addr} {o : HO} (P : Pen H p g) (h1 : q ≠ p) (h2 : q ≠ g) : Pen (upd H q o) p g := by
  obtain ⟨ns, a, b, n, x, y⟩ := P
  exact ⟨ns, a, b, n, by rw [upd_ne h1.symm]; exact x, by rw [upd_ne h2.symm]; exact y⟩
/-- a store at an object that was not there ahead -/
theorem But.upd {p q : Addr} {H H1 : Hp} {o : HO} (B : But p H H1) (h : H q = none) : But p H (upd H1 q o) := by
  intro b u e n
  rw [upd_ne (ne_of_none e h)]
  exact B b u e n
/-- tuples stand, whatever is drawn -/
theorem but_tup {K : PySem.W.Frag} {p a : Addr} {H H' : Hp} {ys xs : List V} (B : But p H H') (hp : H p = some (.lst ys)) (h : SqT K H a xs) : SqT K H' a xs := by
  rcases h with (h | ⟨o, h⟩) | h
  · exact .inl (.inl (B _ _ h (ne_of h hp (by intro z; cases z))))
  · exact .inl (.inr ⟨o, B _ _ h (ne_of h hp (by intro z; cases z))⟩)
  · exact .inr h
theorem same_penAt {H H' : Hp} {p g : Addr} {ns : List Int} {a b : Int} (s : Same H H') (P : PenAt H p g ns a b) : PenAt H' p g ns a b :=
  ⟨P.ne, s _ _ P.at_, s _ _ P.cells⟩
theorem same_tup {K : PySem.W.Frag} {H H' : Hp} {a : Addr} {xs : List V} (e : Same H H') (h : SqT K H a xs) : SqT K H' a xs := by
  rcases h with (h | ⟨o, h⟩) | h
  · exact .inl (.inl (e _ _ h))
  · exact .inl (.inr ⟨o, e _ _ h⟩)
  · exact .inr h
mutual
theorem dp_same {K : PySem.W.Frag} {H H' : Hp} (e : Same H H') : ∀ {d : PyData} {v : V}, Dp K H v d → Dp K H' v d
  | .none, _, h => by cases h; constructor
  | .bool _, _, h => by cases h; constructor
  | .int _, _, h => by cases h; constructor
  | .str _, _, h => by cases h; constructor
  | .list ds, _, h => by
    cases h with
    | lst a b => exact .lst (e.seq a) (dpAll_same e b)
  | .tuple ds, _, h => by
    cases h with
    | tup a b => exact .tup (same_tup e a) (dpAll_same e b)
  | .dict _, _, h => by cases h
theorem dpAll_same {K : PySem.W.Frag} {H H' : Hp} (e : Same H H') : ∀ {ds : List PyData} {vs : List V}, DpAll K H vs ds → DpAll K H' vs ds
  | [], _, h => by cases h; exact .nil
  | d :: ds, _, h => by
    cases h with
    | cons a b => exact .cons (dp_same e a) (dpAll_same e b)
end
/-- lists of whole numbers as data -/
theorem dp_ints {K : PySem.W.Frag} {H : Hp} : ∀ ns : List Int, DpAll K H (ns.map V.int) (ns.map PyData.int)
  | [] => .nil
  | n :: ns => .cons (.int n) (dp_ints ns)
theorem lay_ints : ∀ ns : List Int, PyData.canLayAll0 (ns.map PyData.int) = true
  | [] => by simp [PyData.canLayAll0]
  | n :: ns => by simp [PyData.canLayAll0, PyData.canLay0, lay_ints ns]
theorem depth_ints : ∀ ns : List Int, PyData.depthAll (ns.map PyData.int) = 0
  | [] => by simp [PyData.depthAll]
  | n :: ns => by simp [PyData.depthAll, PyData.depth, depth_ints ns]
theorem shaped_ints (ns : List Int) : SeqAt.shaped (.list (ns.map PyData.int)) = true := by
  simp [SeqAt.shaped, PyData.canLay0, lay_ints, PyData.depth, depth_ints]
theorem eqv_nil (ns : List Int) : PyData.eqv (.list (ns.map PyData.int)) (.list []) = ns.isEmpty := by
  cases ns <;> simp [PyData.eqv, PyData.eqvAll]
/-- a value by a test -/
theorem ite_val {c : Prop} [Decidable c] {ta tb : VK → Prop} {Q : VK} (S : V → Hp → Prop)
    (h1 : c → ∀ Q' : VK, (∀ v H, S v H → Q' v H) → ta Q') (h2 : ¬ c → ∀ Q' : VK, (∀ v H, S v H → Q' v H) → tb Q')
    (hQ : ∀ v H, S v H → Q v H) : if c then ta Q else tb Q := by
  by_cases h : c
  · rw [if_pos h]
    exact h1 h Q hQ
  · rw [if_neg h]
    exact h2 h Q hQ
/-- statements by a test whose answer does not matter -/
theorem ifs_any {c : TT} {t u : TS} {D : Ends} {σ : L2.St} {H : Hp} (hc : ∀ K' : Bool → Hp → Prop, (∀ b, K' b H) → c σ H K')
    (h1 : t D σ H) (h2 : u D σ H) : tIfS c t u D σ H := by
  refine hc _ (fun b => ?_)
  cases b with
  | true => exact iteT h1
  | false => exact iteF h2
theorem seq_if {c : TT} {t u r : TS} {D : Ends} {σ : L2.St} {H : Hp} (hc : ∀ K' : Bool → Hp → Prop, (∀ b, K' b H) → c σ H K')
    (h1 : t { D with nx := r D } σ H) (h2 : u { D with nx := r D } σ H) : tSeq (tIfS c t u) r D σ H := ifs_any hc h1 h2
theorem nx_of {i : Nat} {v : V} {σ : L2.St} {H : Hp} {nx : L2.St → Hp → Prop} (h : nx (σ.set i (some v)) H) : gName i v σ H nx := h
/-- statements by a test, joined behind it -/
theorem ite_stm {c : Prop} [Decidable c] {t u : TS} {D : Ends} {σ : L2.St} {H : Hp} (S : L2.St → Hp → Prop)
    (h1 : c → ∀ nx : L2.St → Hp → Prop, (∀ σ H, S σ H → nx σ H) → t { D with nx := nx } σ H)
    (h2 : ¬ c → ∀ nx : L2.St → Hp → Prop, (∀ σ H, S σ H → nx σ H) → u { D with nx := nx } σ H)
    (hS : ∀ σ H, S σ H → D.nx σ H) : if c then t D σ H else u D σ H := by
  by_cases h : c
  · rw [if_pos h]
    exact h1 h D.nx hS
  · rw [if_neg h]
    exact h2 h D.nx hS
theorem fmod_pos {a b : Int} (h : 0 < b) : 0 ≤ a.fmod b ∧ a.fmod b < b := by
  rw [Int.fmod_eq_emod_of_nonneg a (Int.le_of_lt h)]
  exact ⟨Int.emod_nonneg a (by omega), Int.emod_lt_of_pos a h⟩
theorem atI_some {α : Type} {xs : List α} {i : Int} (h0 : 0 ≤ i) (h1 : i < xs.length) : ∃ v, xs[i.toNat]? = some v ∧ atI xs i = some v := by
  have hj : i.toNat < xs.length := by omega
  have e : (i.toNat : Int) = i := Int.toNat_of_nonneg h0
  refine ⟨xs[i.toNat], List.getElem?_eq_getElem hj, ?_⟩
  unfold atI ixN
  rw [if_pos h0, if_pos h1]
  exact List.getElem?_eq_getElem hj
end Gd
namespace Gd
open PySem PySem.Spec PyProof.Rows L2
theorem u65 {k : Nat} {A : Around} (r : Room k A) : A.units + 65 < cLine := by
  have := r.un
  omega
/-- numbers of fewer than 300 bits are shown -/
def Sm (i : Int) : Prop := i.natAbs < 2 ^ 300
theorem Sm.log {i : Int} (h : Sm i) : i.natAbs.log2 < 1920 :=
  Nat.lt_of_lt_of_le (PySem.Flt.log2_lt_of (by decide) h) (by decide)
theorem Sm.of {i : Int} (h : i.natAbs < 1000000000) : Sm i :=
  Nat.lt_of_lt_of_le h (by have : (2 : Nat) ^ 30 ≤ 2 ^ 300 := Nat.pow_le_pow_right (by decide) (by decide); omega)
/-- data that repr shows -/
structure Fit (d : PyData) : Prop where
  sh : d.showable = true
  lv : d.leavesShort 400 = true
  nd : d.hasDict = false
  dp : d.depth ≤ 64
  bk : d.bulk ≤ 30000
theorem Fit.len {d : PyData} (h : Fit d) : d.shown.length ≤ sizeLine := by
  have a := PyData.shown_le_bulk 400 (by decide) d h.lv
  have b := h.bk
  rw [sizeLine_eq]
  omega
theorem Sm.short {i : Int} (h : Sm i) : (PyData.shown (.int i)).length ≤ 400 := by
  have h2 : i.natAbs.log2 < 300 := PySem.Flt.log2_lt_of (by decide) h
  have h3 := int_text_length_le (a := i) (k := 300) (by decide) h2
  have e : (PyData.shown (.int i)).length = (toString i).length := by
    show (Str.ofString (toString i)).length = _
    exact PySem.ofString_length _
  omega
end Gd
namespace Gd
open PySem PySem.Spec PyProof.Rows L2
theorem small_b {b : Int} (h : b.natAbs < 2 ^ 200) : b.natAbs < 2 ^ 9000 :=
  Nat.lt_of_lt_of_le h (Nat.pow_le_pow_right (by decide) (by decide))
end Gd
namespace Gd
open PySem PySem.Spec PyProof.Rows L2
/-- tuples stand when a list is changed -/
theorem tup_lst {K : PySem.W.Frag} {H : Hp} {L a : Addr} {xs ys zs : List V} (hL : H L = some (.lst xs)) (h : SqT K H a zs) : SqT K (upd H L (.lst ys)) a zs := by
  rcases h with (h | ⟨o, h⟩) | h
  · exact .inl (.inl (by rw [upd_ne (ne_of h hL (by intro z; cases z))]; exact h))
  · exact .inl (.inr ⟨o, by rw [upd_ne (ne_of h hL (by intro z; cases z))]; exact h⟩)
  · exact .inr h
end Gd
namespace Gd
open PySem PySem.Spec PyProof.Rows L2
theorem yes_of {σ : L2.St} {H : Hp} {Q : Bool → Hp → Prop} (h : Q true H) : tYes σ H Q := h
end Gd
namespace Gd
open PySem PySem.Spec PyProof.Rows L2
/-- an if whose two ends meet -/
theorem seq_join {c : TT} {t u r : TS} {D : Ends} {σ : L2.St} {H : Hp} (S : L2.St → Hp → Prop)
    (h : ∀ nx : L2.St → Hp → Prop, (∀ σ H, S σ H → nx σ H) → tIfS c t u { D with nx := nx } σ H) (hS : ∀ σ H, S σ H → r D σ H) : tSeq (tIfS c t u) r D σ H := h _ hS
end Gd

/-! Own exception classes straight over a built-in one, with an own __init__ that stores. -/
namespace Gd
open PySem PySem.Spec PyProof.Rows L2
/-- what the library says of a built-in base -/
structure Bas (B newId initId : String) (bmB : List Value) : Prop where
  FB : ExcBaseFacts B newId initId bmB
  SF : StoreFacts B bmB "object.__setattr__" "object"
abbrev mroV : List Value := [.type "ValueError", .type "Exception", .type "BaseException", .type "object"]
abbrev mroL : List Value := [.type "LookupError", .type "Exception", .type "BaseException", .type "object"]
abbrev mroR : List Value := [.type "RuntimeError", .type "Exception", .type "BaseException", .type "object"]
abbrev mroO : List Value := [.type "OverflowError", .type "ArithmeticError", .type "Exception", .type "BaseException", .type "object"]
theorem basV : Bas "ValueError" "ValueError.__new__" "ValueError.__init__" mroV := ⟨PySem.F.excBase_ValueError, PySem.F.store_ValueError⟩
theorem basL : Bas "LookupError" "LookupError.__new__" "LookupError.__init__" mroL := ⟨PySem.F.excBase_LookupError, PySem.F.store_LookupError⟩
theorem basR : Bas "RuntimeError" "RuntimeError.__new__" "RuntimeError.__init__" mroR := ⟨PySem.F.excBase_RuntimeError, PySem.F.store_RuntimeError⟩
theorem basO : Bas "OverflowError" "OverflowError.__new__" "OverflowError.__init__" mroO := ⟨PySem.F.excBase_OverflowError, PySem.F.store_OverflowError⟩
/-- what the top has left of an own exception class -/
structure Xc (K : PySem.W.Frag) (C : Addr) : Prop where
  bas : ∃ B newId initId bmB, Bas B newId initId bmB ∧ PySem.W.excInitIn K C bmB newId = true ∧ PySem.W.excOver K C bmB = true
  hd : PySem.W.hasDictIn K C = true
  sa : PySem.W.findIn K (.ref C) "__setattr__" = some (some (.builtin "object.__setattr__"))
  exC : PySem.W.subIn K (.ref C) (.type "BaseException") = some true
  tyC : PySem.W.typeIn K (.ref C) = some (.type "type")
  kC : PySem.W.keepIn K (.ref C) = true
  ga : PySem.W.findIn K (.ref C) "__getattribute__" = some (some (.builtin "BaseException.__getattribute__"))
  gg : PySem.W.findIn K (.ref C) "__getattr__" = some none
  self : PySem.W.exmOne K (.ref C) (.ref C) = some true
theorem Xc.xf {K : PySem.W.Frag} {C : Addr} (T : Xc K C) : XfC K C := ⟨T.ga, T.gg, T.exC, T.hd⟩
/-- the same, decided -/
def xcB (K : PySem.W.Frag) (C : Addr) (bmB : List Value) (newId : String) : Bool :=
  PySem.W.excInitIn K C bmB newId && (PySem.W.excOver K C bmB && (PySem.W.hasDictIn K C &&
    (decide (PySem.W.findIn K (.ref C) "__setattr__" = some (some (.builtin "object.__setattr__"))) &&
    (decide (PySem.W.subIn K (.ref C) (.type "BaseException") = some true) && (decide (PySem.W.typeIn K (.ref C) = some (.type "type")) &&
    (PySem.W.keepIn K (.ref C) && (decide (PySem.W.findIn K (.ref C) "__getattribute__" = some (some (.builtin "BaseException.__getattribute__"))) &&
    (decide (PySem.W.findIn K (.ref C) "__getattr__" = some none) && decide (PySem.W.exmOne K (.ref C) (.ref C) = some true)))))))))
theorem ba2 {a b : Bool} (h : (a && b) = true) : a = true ∧ b = true := Bool.and_eq_true_iff.mp h
theorem xcB_ok {K : PySem.W.Frag} {C : Addr} {B newId initId : String} {bmB : List Value} (F : Bas B newId initId bmB) (h : xcB K C bmB newId = true) : Xc K C := by
  obtain ⟨h1, h⟩ := ba2 h
  obtain ⟨h2, h⟩ := ba2 h
  obtain ⟨h3, h⟩ := ba2 h
  obtain ⟨h4, h⟩ := ba2 h
  obtain ⟨h5, h⟩ := ba2 h
  obtain ⟨h6, h⟩ := ba2 h
  obtain ⟨h7, h⟩ := ba2 h
  obtain ⟨h8, h⟩ := ba2 h
  obtain ⟨h9, h10⟩ := ba2 h
  exact ⟨⟨B, newId, initId, bmB, F, h1, h2⟩, h3, of_decide_eq_true h4, of_decide_eq_true h5, of_decide_eq_true h6, h7, of_decide_eq_true h8, of_decide_eq_true h9, of_decide_eq_true h10⟩
section
open Builtin Builtin.ObjectAttr
variable {prog : Program} {w : World} {A : Around} {R : Result → Shared → Prop}
variable {hp : Heap} {g : Array GenState} {d : Drawn} {t : Nat} {os : OsState} {K : PySem.W.Frag} {C : Addr}
theorem taker_of {f : Str} (h : PySem.W.findIn K (.ref C) f = some none) : PySem.W.takerIn K C f = some none := by
  unfold PySem.W.takerIn
  rw [h]
  rfl
/-- object.__setattr__ of an exception without a dict -/
theorem osaNew {name : Str} {tk : Tok} {v : Value} {x : Addr} {fv : Array Value} (T : Xc K C) (X : K.In hp)
    (hx : hp.get? x = some { cls := .ref C, data := .fields fv })
    (ha : PySem.W.findIn K (.ref C) name = some none)
    (hq : ∀ h' tk' dx, (∀ b o, b ≠ x → hp.get? b = some o → h'.get? b = some o) →
      hp.objs.size ≤ dx → dx ≠ x → h'.get? x = some { cls := .ref C, dict := some dx, data := .fields fv } →
      h'.Ns1 dx (fun y => if y = name then some v else none) → R (.ok (.ret .none)) ⟨h', g, d, tk', os⟩) :
    codeAny (model prog w) A (.call (.builtin "object.__setattr__") ⟨[.ref x, .str name tk, v], []⟩) R ⟨hp, g, d, t, os⟩ := by
  obtain ⟨B, newId, initId, bmB, F, hi, ho⟩ := T.bas
  have atx : PySem.W.InstAt hp x { cls := .ref C, data := .fields fv } C none := ⟨hx, rfl, rfl, trivial⟩
  have apart : x ≠ hp.objs.size := Nat.ne_of_lt (Heap.lt_size hx)
  obtain ⟨cd, hcd, hdict⟩ := PySem.W.any_some T.hd
  have look : PySem.W.Looks (model prog w) hp (classData C) cd := PySem.W.looks_clsIn X hcd
  refine PySem.W.osa_openX (s := ⟨hp, g, d, t, os⟩) F.SF X atx ho (taker_of ha) ?_
  intro b
  show wpAny _ _ (storeInOwnDict (.ref x) (.ref C) (.str name tk) name v b) _ _ _
  obtain ⟨nm, bs, mro, ns, qn, hd, sn, sb, ab, col, del⟩ := cd
  dsimp only at hdict
  subst hdict
  unfold storeInOwnDict ownDictForStores
  repeat (first
    | with_reducible refine PySem.HandSPX.store_in_new ?_ ?_
    | with_reducible refine wpAny_loadPart_at hx ?_
    | with_reducible refine look.at ?_
    | wp_step)
  · exact ⟨_, #[], _,
      (Heap.get?_update_ne _ _ _ _ apart.symm).trans
        (Heap.get?_push_at rfl rfl),
      rfl, fun e he => absurd he (by simp), fun _ => rfl⟩
  · intro h' tk' hn' hs
    have pushed : (hp.push { cls := .type "dict", data := .dict #[] }).get? x = some { cls := .ref C, data := .fields fv } :=
      Heap.get?_push_of_some _ hx
    refine hq h' tk' hp.objs.size (fun c o hc he => ?_) (Nat.le_refl _) apart.symm ?_ hn'
    · refine (hs.2 c (Nat.ne_of_lt (Heap.lt_size he))).trans ?_
      exact (Heap.get?_update_ne _ _ _ _ hc).trans (Heap.get?_push_of_some _ he)
    · exact (hs.2 x apart).trans (Heap.get?_update_self _ pushed rfl)
/-- .. of one with a dict -/
theorem osaOld {name : Str} {tk : Tok} {v : Value} {x dx : Addr} {fv : Array Value} {m0 : Str → Option Value} {nl : List Str}
    (T : Xc K C) (X : K.In hp) (hx : hp.get? x = some { cls := .ref C, dict := some dx, data := .fields fv })
    (hns : hp.Ns1 dx m0) (hw : Within m0 nl) (hz : nl.length ≤ 1000)
    (ha : PySem.W.findIn K (.ref C) name = some none)
    (hq : ∀ h' tk', (∀ b o, b ≠ dx → hp.get? b = some o → h'.get? b = some o) →
      h'.Ns1 dx (fun y => if y = name then some v else m0 y) → R (.ok (.ret .none)) ⟨h', g, d, tk', os⟩) :
    codeAny (model prog w) A (.call (.builtin "object.__setattr__") ⟨[.ref x, .str name tk, v], []⟩) R ⟨hp, g, d, t, os⟩ := by
  obtain ⟨B, newId, initId, bmB, F, hi, ho⟩ := T.bas
  obtain ⟨oD, esD, epD, hoD, hdD, _⟩ := hns.count hw
  have atx : PySem.W.InstAt hp x { cls := .ref C, dict := some dx, data := .fields fv } C (some oD) := ⟨hx, rfl, rfl, hoD⟩
  obtain ⟨cd, hcd, hdict⟩ := PySem.W.any_some T.hd
  have look : PySem.W.Looks (model prog w) hp (classData C) cd := PySem.W.looks_clsIn X hcd
  refine PySem.W.osa_openX (s := ⟨hp, g, d, t, os⟩) F.SF X atx ho (taker_of ha) ?_
  intro b
  show wpAny _ _ (storeInOwnDict (.ref x) (.ref C) (.str name tk) name v b) _ _ _
  obtain ⟨nm, bs, mro, ns, qn, hd, sn, sb, ab, col, del⟩ := cd
  dsimp only at hdict
  subst hdict
  unfold storeInOwnDict ownDictForStores
  repeat (first
    | with_reducible refine PySem.OEX.store_in_old hns hw hz ?_
    | with_reducible refine wpAny_loadPart_at hx ?_
    | with_reducible refine look.at ?_
    | wp_step)
  intro h' tk' hn' hs
  exact hq h' tk' (fun c o hc he => (hs.2 c hc).trans he) hn'
end
section
variable {X : Cx} {pins : List (Addr × Obj)} {σ : L2.St} {H : Hp} {s : Shared} {a C dx : Addr} {f : Str} {y : V} {u : Value}
variable {fs : List (Str × V)} {Q : Unit → Shared → Prop} {E : Value → Shared → Prop} {A : Around}
/-- self.f = y of a fresh exception -/
theorem stNew (T : Xc X.K C) (I : Inv X pins σ H s) (e : H a = some (exo a C none))
    (hno : PySem.W.findIn X.K (.ref C) f = some none) (ry : RelV y u)
    (h : ∀ dx s', H dx = none → dx ≠ a →
      Inv X pins σ (upd (upd H dx (exd dx [(f, y)])) a (exo a C (some dx))) s' → Q () s') :
    wpAny (model X.prog X.w) A (setAttr (.ref a) f u) Q E s := by
  obtain ⟨t1, ho⟩ := exo_at I.hok e
  obtain ⟨hp, g, d, t, os⟩ := s
  have atx : PySem.W.InstAt hp a { cls := .ref C, dict := none, data := .fields #[.ref t1, .none, .none, .none, .bool false, .none] } C none :=
    ⟨ho, rfl, rfl, trivial⟩
  refine PySem.W.set_plain I.kIn atx T.sa ?_
  refine osaNew T I.kIn ho hno ?_
  intro h' tk' dx k dn dne hx hn
  have freeD : H dx = none := I.hok.fresh dn
  have old : ∀ {b : Addr} {o : Obj}, hp.get? b = some o → b ≠ dx :=
    fun q => Nat.ne_of_lt (Nat.lt_of_lt_of_le (Heap.lt_size q) dn)
  have offA : ∀ {b : Addr}, H b = none → b ≠ a := by
    intro b n z
    rw [z, e] at n
    cases n
  have un : Un X.fs [] H (upd (upd H dx (exd dx [(f, y)])) a (exo a C (some dx))) hp h' :=
    { keep := fun b o q n _ _ => k b o (offA n) q
      slot := fun b o q n _ _ => ⟨o.slots, k b o (offA n) q⟩
      free := fun b o q n _ => (upd_ne (offA n)).trans ((upd_ne (old q)).trans n)
      there := fun b o q _ => if hb : b = a then ⟨_, hb ▸ hx⟩ else ⟨o, k b o hb q⟩
      tups := fun b xs q => (upd_ne (at_ne e q exo_tup)).trans ((upd_ne (ne_of_none q freeD)).trans q)
      frzs := fun b o v q => (upd_ne (at_ne e q exo_frz)).trans ((upd_ne (ne_of_none q freeD)).trans q)
      tbls := fun b ps q => ⟨#[], by
        rw [upd_ne (at_ne e q exo_tbl), upd_ne (ne_of_none q freeD), q]
        simp⟩ }
  refine h dx _ freeD dne (I.un (t' := tk') un ?_)
  intro b o q
  by_cases hb : b = a
  · subst hb
    rw [upd_same] at q
    cases q
    exact exo_ok hx
  rw [upd_ne hb] at q
  by_cases hd : b = dx
  · subst hd
    rw [upd_same] at q
    cases q
    exact exd_ok hn (relO_put (fs := []) ry fun _ => True.intro)
  rw [upd_ne hd] at q
  refine (I.hok b o q).stay ?_ ?_ ?_
  · intro c v hc z
    refine k c v ?_ z
    rcases hc with hc | hc
    · exact hc ▸ hb
    · exact at_ne e hc exo_own
  · intro c hc
    exact (upd_ne (at_ne e hc exo_own)).trans ((upd_ne (ne_of_none hc freeD)).trans hc)
  · intro c xs hc
    exact (upd_ne (at_ne e hc exo_tup)).trans ((upd_ne (ne_of_none hc freeD)).trans hc)
/-- a further one -/
theorem stOld (T : Xc X.K C) (I : Inv X pins σ H s) (e : H a = some (exo a C (some dx))) (ed : H dx = some (exd dx fs))
    (hl : fs.length ≤ 900) (hno : PySem.W.findIn X.K (.ref C) f = some none) (ry : RelV y u)
    (h : ∀ s', Inv X pins σ (upd H dx (exd dx ((f, y) :: fs))) s' → Q () s') :
    wpAny (model X.prog X.w) A (setAttr (.ref a) f u) Q E s := by
  obtain ⟨t1, ho⟩ := exo_at I.hok e
  obtain ⟨mA, hns, rel⟩ := exd_at I.hok ed
  have hw := within_of rel
  obtain ⟨hp, g, d, t, os⟩ := s
  obtain ⟨oD, _, _, hoD, _, _⟩ := hns.count hw
  have atx : PySem.W.InstAt hp a { cls := .ref C, dict := some dx, data := .fields #[.ref t1, .none, .none, .none, .bool false, .none] } C (some oD) :=
    ⟨ho, rfl, rfl, hoD⟩
  refine PySem.W.set_plain I.kIn atx T.sa ?_
  refine osaOld T I.kIn ho hns hw (by rw [List.length_map]; omega) hno ?_
  intro h' tk' k hn
  have there : ∃ o, h'.get? dx = some o := hn.elim fun o z => z.elim fun _ z => z.elim fun _ z => ⟨o, z.1⟩
  refine h _ (I.write (t' := tk') (x := dx) (e := dx) (o := exd dx ((f, y) :: fs)) ?_ (.inl rfl) k there (exd_ok hn (relO_put ry rel)))
  rw [ed]
  exact True.intro
end
/-- self.f = e in such an __init__ -/
def tSt (K : PySem.W.Frag) (f : Str) (to te : TE) : TS := fun D σ H => te σ H fun y H1 => to σ H1 fun x H2 =>
  ∃ a C : Addr, x = .ref a ∧ Xc K C ∧ PySem.W.findIn K (.ref C) f = some none ∧
  ((H2 a = some (exo a C none) ∧ ∀ dx, H2 dx = none → dx ≠ a → D.nx σ (upd (upd H2 dx (exd dx [(f, y)])) a (exo a C (some dx)))) ∨
    ∃ (dx : Addr) (fs : List (Str × V)), H2 a = some (exo a C (some dx)) ∧ H2 dx = some (exd dx fs) ∧ fs.length ≤ 900 ∧
      D.nx σ (upd H2 dx (exd dx ((f, y) :: fs))))
section
variable {X : Cx} {o e : Expr} {es : List Expr} {to te : TE} {ta : TA} {f : Str} {p p' pos : Pos}
theorem ps_st (ho : PE X o to) (he : PE X e te)
    (hs : swapsWith e (some (.Attribute o f p')) pos.line X.env = pure false := by rfl) :
    PS X (.Assign [.Attribute o f p'] e pos) (tSt X.K f to te) := by
  refine ⟨?_⟩
  intro pins s σ H D I h
  refine plainObj_wpAny_Assign_Attribute ?_ hs
  refine thn (he.run pins s σ H _ I h) fun v s1 ⟨y, H1, I1, r1, q1⟩ => ?_
  refine thn (ho.run pins s1 σ H1 _ I1 q1) fun u s2 ⟨x, H2, I2, r2, a, C, ex, T, hno, q⟩ => ?_
  subst ex
  obtain rfl : u = Value.ref a := r2
  rcases q with ⟨ea, q⟩ | ⟨dx, fs, ea, ed, hl, q⟩
  · exact stNew T I2 ea hno r1 fun dx s' n ne J => ⟨σ, _, J, q dx n ne⟩
  · exact stOld T I2 ea ed hl hno r1 fun s' J => ⟨σ, _, J, q⟩
/-- C(e, ..) to be raised -/
theorem pmk_x {CX : CXT} {x : Str} {C fI : Addr} {k : Nat} {fd : FuncData} {ps : List Str} {sp : Sp} {ds : List Value} {dvs : List V}
    (T : Xc X.K C) (iC : PySem.W.findIn X.K (.ref C) "__init__" = some (some (.ref fI)))
    (tI : PySem.W.typeIn X.K (.ref fI) = some (.type "function"))
    (F1 : FnOk X.prog X.w X.K X.mg X.base CX k fI fd ps sp) (hr : Room (k + 1) X.A)
    (hb : Binds X.K fd ps ds) (hd : Vals dvs ds) (hx : Passes CX X (fun _ _ _ => False))
    (hg : Gl X x) (hm : X.mg x = some (.ref C)) (ha : PA X (e :: es) ta)
    (hdb : (x == ("__debug__" : Str)) = false := by decide)
    (he : starEach (e :: es) X.env = (false, eval e X.env) :: starEach es X.env := by rfl)
    (hpl : (backTo pos (starEach es X.env)).any (·.1) = false := by rfl) :
    PMk X (.Call (.Name x p) (e :: es) [] pos) (tMkO C sp dvs ta) := by
  intro pins s σ H Q I h
  obtain ⟨B, newId, initId, bmB, F, hi, ho⟩ := T.bas
  refine wpAny_Call_Name_kw (ld_glob I hg hm ?_ hdb)
  refine PySem.W.callWith_K (h₀ := X.base) I.ok.mod.kin T.kC ?_ he hpl
  refine thn (ha.run pos pins s σ H _ I h) fun us s1 ⟨vs, H1, I1, r1, hz, q1⟩ => ⟨I1.kIn, ?_⟩
  show wpAny _ _ (call (.ref C) us) _ _ _
  obtain ⟨hp, g, dr, tk, os⟩ := s1
  obtain ⟨nm, N, qn, bs, bm, hdct, sn, sub, ab, col, dd, k0, k1, k2, k3, k5, hC, hT⟩ := PySem.W.excInit_of I1.kIn hi
  have over : hp.objs.size ≤ hp.objs.size + 1 := Nat.le_succ _
  have hn : H1 (hp.objs.size + 1) = none := I1.hok.fresh over
  have hq := q1 (hp.objs.size + 1) hn
  have kk : ∀ b o, hp.get? b = some o →
      ((hp.push (PySem.W.kdv_tup us)).push (PySem.HandSPX.excO C hp.objs.size)).get? b = some o :=
    fun b o z => Heap.get?_push_of_some _ (Heap.get?_push_of_some _ z)
  have hget : ((hp.push (PySem.W.kdv_tup us)).push (PySem.HandSPX.excO C hp.objs.size)).get? (hp.objs.size + 1) =
      some (PySem.HandSPX.excO C hp.objs.size) := by heap_get
  have I2 : Inv X pins σ (upd H1 (hp.objs.size + 1) (exo (hp.objs.size + 1) C none))
      ⟨(hp.push (PySem.W.kdv_tup us)).push (PySem.HandSPX.excO C hp.objs.size), g, dr, tk, os⟩ :=
    I1.laid (t' := tk) (a := hp.objs.size + 1) (o := exo (hp.objs.size + 1) C none)
      (h' := (hp.push (PySem.W.kdv_tup us)).push (PySem.HandSPX.excO C hp.objs.size)) kk over (exo_ok hget)
  have r2 : Vals (V.ref (hp.objs.size + 1) :: (vs ++ dvs)) (Value.ref (hp.objs.size + 1) :: (us ++ ds)) :=
    .cons rfl (r1.append hd)
  have hl : (Value.ref (hp.objs.size + 1) :: us ++ ds).length = ps.length :=
    r2.length.symm.trans (F1.len _ _ _ _ hq)
  have hus : us.length ≤ sizeLine := by
    rw [← Paired.length r1, sizeLine_eq]
    omega
  refine wpAny_call (PySem.HandSPX.call_own F.FB hT hC (PySem.W.looks_findIn I1.kIn iC)
    (fun self => PySem.W.bind_fn I1.kIn self tI) hus (codeAny_mono (F1.run _ X.stack _ _
      ⟨Value.ref (hp.objs.size + 1) :: us, []⟩ (Value.ref (hp.objs.size + 1) :: (us ++ ds)) _ _ (fun _ _ _ => False)
      (hr.make C us []) (I2.env0.make C us []) (hb _ (Value.ref (hp.objs.size + 1) :: us) I2.kIn hl) r2 hq) ?_))
  intro r s' hq'
  rcases r with er | fl
  · exact hx pins σ _ _ er s' I2 hq'
  cases fl with
  | next => exact hq'.elim
  | brk => exact hq'.elim
  | cont => exact hq'.elim
  | ret u =>
    obtain ⟨v, H2, os2, bare2, un2, hok2, rv, ev, d, fs, ea, ed, hd1, q2⟩ := hq'
    subst ev
    obtain ⟨h2, g2, d2, t2, os'⟩ := s'
    exact ⟨rv, mk_end (raises_own T.exC T.tyC) I1 over kk un2 hok2 os2 bare2 ea ed hd1 q2⟩
end
end Gd

/-! for i, x in enumerate(t), t a tuple. -/
namespace Gd
open PySem PySem.Spec PyProof.Rows L2
section
open Sem (wp)
set_option maxHeartbeats 4000000 in
theorem meets_enum1 {v : Value} {o : Obj} {H : Heap → Prop} (B : Begins v o H) :
    Meets (Builtin.«enumerate.__new__» ⟨[.type "enumerate", v], []⟩) (fun _ R s => H s.heap ∧
      R (.ok (.ret (.ref (s.heap.push o).objs.size)))
        { s with heap := (s.heap.push o).push { cls := .type "enumerate", data := .fields #[.none, .bool false, .ref s.heap.objs.size, rawInt 0, .none, .none] } }) := by
  refine .of_wp fun prog w A R s h => ?_
  obtain ⟨hp, g, d, tk, os⟩ := s
  obtain ⟨h1, h⟩ := h
  have hsub := sub_enumerate
  have begun : ∀ {A' : Around} {E : Value → Shared → Prop} {Q : Value → Shared → Prop},
      Q (.ref hp.objs.size) ⟨hp.push o, g, d, tk, os⟩ → wpAny (model prog w) A' (pyIter v) Q E ⟨hp, g, d, tk, os⟩ :=
    fun q => B.iter prog w _ _ ⟨hp, g, d, tk, os⟩ _ h1 q
  wp_walk using begun
  refine wpAny_stack_any fun st => wpAny_pure ?_
  split
  · rename_i c _ _ _ _ _
    cases (c == Value.type "enumerate") <;> (wp_walk using begun; exact ⟨_, rfl, h⟩)
  · wp_walk using begun
    exact ⟨_, rfl, h⟩
theorem call_enum1 {prog : Program} {w : World} {A : Around} {E : Value → Shared → Prop} {s : Shared}
    {v : Value} {o : Obj} {H : Heap → Prop} {Q : Value → Shared → Prop} (B : Begins v o H) (h1 : H s.heap)
    (h : ∀ h', IsEnum h' (s.heap.objs.size + 1) s.heap.objs.size 0 .none → h'.get? s.heap.objs.size = some o →
      (∀ b o, s.heap.get? b = some o → h'.get? b = some o) → Q (.ref (s.heap.objs.size + 1)) { s with heap := h' }) :
    wpAny (model prog w) A (call (.type "enumerate") [v]) Q E s := by
  refine callType_new F.called_enumerate (by decide) (F.typeCall_enumerate_1 _) (F.newCall_enumerate_1 _)
    (fun obj => F.args_object_init_2 obj _) F.entry_enumerate_new (meets_enum1 B) ⟨h1, ?_⟩
  have size1 : (s.heap.push o).objs.size = s.heap.objs.size + 1 := Heap.size_push ..
  show _ ∧ _
  rw [size1]
  have made := Heap.get?_push_size (s.heap.push o)
    (o := { cls := .type "enumerate", data := .fields #[.none, .bool false, .ref s.heap.objs.size, rawInt 0, .none, .none] }) rfl
  rw [size1] at made
  exact ⟨⟨_, made, rfl⟩, h _ made (Heap.get?_push_of_some _ (Heap.get?_push_size _ B.free))
    fun b o x => Heap.get?_push_of_some _ (Heap.get?_push_of_some _ x)⟩
end
/-- the tuple at a, each item in a new pair with its place -/
def Itet (K : PySem.W.Frag) (a : Addr) : It where
  go := fun i H => ∃ (xs : List V) (x : V), SqT K H a xs ∧ xs[i]? = some x
  yld := fun i H v H' => ∃ T x, v = .ref T ∧ H T = none ∧ H' = upd H T (.tup [.int (i : Nat), x]) ∧
    ∀ xs, SqT K H a xs → xs[i]? = some x
  stop := fun i H => ∃ xs : List V, SqT K H a xs ∧ xs.length ≤ i
theorem turnEt {P : Program} {w : World} {K : PySem.W.Frag} {elts : List Expr} {kk : Nat} {tpos : Pos} (a e it : Addr) :
    Turn P w K (.Tuple elts kk tpos) (Itet K a) [e, it] e
      (fun i h => (∃ old, IsEnum h e it ((i : Nat) : Int) old) ∧ h.IsTupleIter it a i ∧ e ≠ it ∧ a ≠ it ∧ a ≠ e) where
  mem := List.mem_cons_self ..
  obj := by
    intro i h st b hb
    obtain ⟨⟨old, he⟩, ⟨o, ho, _, hd⟩, _⟩ := st
    rcases List.mem_cons.mp hb with z | z
    · rw [z]
      exact ⟨_, he, fun v q => nomatch q⟩
    · have z' := List.mem_singleton.mp z
      exact ⟨o, z' ▸ ho, fun v q => by rw [hd] at q; cases q⟩
  keep := by
    intro i h h' st k
    obtain ⟨⟨old, he⟩, hi, n⟩ := st
    exact ⟨⟨old, k e (by simp) _ he⟩, hi.at fun o q => k it (by simp) o q, n⟩
  item := by
    intro X hP hw hK hc i pins s σ H E I hf st hg
    subst hP hw hK
    obtain ⟨⟨old, he⟩, hit, hne, hai, hae⟩ := st
    obtain ⟨xs, x, hq, hx⟩ := hg
    obtain ⟨its, rv, tup, hz⟩ := I.tuple hq
    obtain ⟨u, hu, ru⟩ := rv.get hx
    obtain ⟨ot, hot, hoc, nt, hod⟩ := tup
    have len : i < its.toArray.size := by
      have y := (List.getElem?_eq_some_iff.mp hu).1
      simpa using y
    have D := Draws.tuple (prog := X.prog) (w := X.w) (A := X.A.in1) (I.ok.hd hc) it a hai its.toArray
    refine wpAny_pyNext_enum_itemC D he ⟨hit, ⟨ot, hot, hoc, nt, hod⟩⟩ len hne (by simp [hne, hae.symm]) ?_
    intro x2 h' tk hx2 ho st' hT hsz hk
    have ex : x2 = u := by
      have y : its.toArray[i]? = some u := by simpa using hu
      rw [y] at hx2
      exact (Option.some.inj hx2).symm
    subst ex
    refine ⟨_, rfl, wpAny_letOwnedTupleGo_enum (s := { s with heap := h', toks := tk + 1 }) ho ?_⟩
    intro h2 he2 sb
    have le : e < s.heap.objs.size := Heap.lt_size he
    have li : it < s.heap.objs.size := Heap.lt_size hit.choose_spec.1
    have hT2 : h2.get? s.heap.objs.size = some { cls := .type "tuple", data := .seq #[.int i tk, x2] } :=
      (sb.2 _ (Nat.ne_of_gt le)).trans hT
    have ok : ObjOk X.prog X.w (upd H s.heap.objs.size (.tup [.int (i : Nat), x])) h2 s.heap.objs.size (.tup [.int (i : Nat), x]) :=
      ⟨by show 2 ≤ sizeLine; decide, [.int i tk, x2], .cons ⟨_, rfl⟩ (.cons ru .nil), ⟨_, hT2, rfl, _, rfl⟩⟩
    have I1 : Inv X pins σ (upd H s.heap.objs.size (.tup [.int (i : Nat), x])) { s with heap := h2, toks := tk + 1 } := by
      refine I.turnedNew (ch := [e, it]) ?_ hf (Nat.le_refl _) ok
      intro b ob hb q
      have b1 : b ≠ e := fun z => hb (by simp [z])
      have b2 : b ≠ it := fun z => hb (by simp [z])
      exact (sb.2 b b1).trans (hk b ob b1 b2 q)
    refine ⟨.ref s.heap.objs.size, _, I1, rfl, ⟨_, x, rfl, I.hok.fresh (Nat.le_refl _), rfl, ?_⟩, ⟨⟨x2, ?_⟩, ?_, hne, hai, hae⟩, ?_⟩
    · intro ys hy
      rw [I.tuple_inj hy hq]
      exact hx
    · have e1 : ((i + 1 : Nat) : Int) = (i : Int) + 1 := by omega
      rw [e1]
      exact he2
    · exact st'.1.at fun o q => (sb.2 it hne.symm).trans q
    · intro b hb
      have lb : b < s.heap.objs.size := by
        rcases List.mem_cons.mp hb with z | z
        · exact z ▸ le
        · exact (List.mem_singleton.mp z) ▸ li
      rw [upd_ne (Nat.ne_of_lt lb)]
      exact (hf b hb).1
  done := by
    intro X hP hw hK hc i pins s σ H E I hf st hg
    subst hP hw hK
    obtain ⟨⟨old, he⟩, hit, hne, hai, hae⟩ := st
    obtain ⟨xs, hq, hx⟩ := hg
    obtain ⟨its, rv, tup, hz⟩ := I.tuple hq
    obtain ⟨ot, hot, hoc, nt, hod⟩ := tup
    obtain ⟨f0, f1, f2, f3, f4, f5⟩ := hf it (by simp)
    have len := rv.length
    have hT : s.TypeIs (.ref e) "enumerate" := ⟨_, he, rfl⟩
    have none_at : its.toArray[i]? = none := by simp; omega
    unfold pyNext
    refine wpAny_bind (wpAny_attempt (wpAny_callSpecial?_slot (name := Str.ofString "__next__") hT F.slot_enumerate_next
      (wpAny_call_entry F.slot_enumerate_next hT F.entry_enumerate_next ?_ (F.args_enumerate_next_1 _))))
    show wpAny _ _ (field (.ref e) 2 >>= _) _ _ _
    refine wpAny_bind (wpAny_field he rfl (x := .ref it) rfl ?_)
    refine wpAny_bind (wpAny_nextOf_tuple_end (show X.A.in1.handled = none from I.ok.hd hc) hit ⟨ot, hot, hoc, nt, hod⟩ none_at ?_)
    intro h' y hh' hy
    obtain ⟨o, ho, hc'⟩ := hy
    refine wpAny_bind (wpAny_isInstance (T := "StopIteration") (b := true) ⟨o, ho, hc'⟩ isSubtype_stop ?_)
    refine wpAny_pure ⟨rfl, ?_⟩
    exact I.turned (t' := s.toks) (fun b o hb q => hh' b o hb q) f0 f1 f3 f4 f5
  self := fun A i s Q E st h => let ⟨⟨_, he⟩, _⟩ := st; wpAny_pyIter_enum he h
def iEnumT (K : PySem.W.Frag) (ta : TA) : TI := fun σ H R => ta σ H fun vs H1 => ∃ a xs, vs = [.ref a] ∧ SqT K H1 a xs ∧ R (Itet K a) H1
theorem pi_enumT {X : Cx} {e : Expr} {ta : TA} {p pos tpos : Pos} {elts : List Expr} {kk : Nat}
    (hg : Gl X "enumerate") (hm : X.mg "enumerate" = none) (ha : PA X [e] ta)
    (hs : starEach [e] X.env = [(false, eval e X.env)] := by rfl) :
    PI X (.Tuple elts kk tpos) (.Call (.Name "enumerate" p) [e] [] pos) (iEnumT X.K ta) := by
  refine ⟨?_⟩
  intro pins s σ H R I h
  refine Call_ (ld_blt I hg hm boot_enumerate (PyProof.Rows.callWith_type1 (thn (ha.run pos pins s σ H _ I h) ?_) hs rfl))
  intro us s1 hu
  obtain ⟨vs, H1, I1, r1, a, xs, ex, hq, q⟩ := hu
  subst ex
  obtain ⟨u, rfl, ru⟩ := vals1 r1
  cases ru
  obtain ⟨its, rv, tup, hz⟩ := I1.tuple hq
  obtain ⟨ot, hot, hoc, nt, hod⟩ := tup
  refine call_enum1 (begins_tuple a its.toArray) ⟨ot, hot, hoc, nt, hod⟩ ?_
  intro h' he hit hk
  refine wpAny_pyIter_enum he ?_
  have I2 : Inv X pins σ H1 { s1 with heap := h' } := I1.kept (t' := s1.toks) hk
  have la : a < s1.heap.objs.size := Heap.lt_size hot
  refine ⟨s1.heap.objs.size + 1, [s1.heap.objs.size + 1, s1.heap.objs.size], _, _, H1, rfl, I2,
    turnEt a (s1.heap.objs.size + 1) s1.heap.objs.size,
    ⟨⟨.none, he⟩, ⟨_, hit, rfl, rfl⟩, Nat.succ_ne_self _, Nat.ne_of_lt la, Nat.ne_of_lt (Nat.lt_succ_of_lt la)⟩, ?_, q⟩
  intro b hb
  have le : s1.heap.objs.size ≤ b := by
    rcases List.mem_cons.mp hb with z | z
    · rw [z]
      exact Nat.le_succ _
    · rw [List.mem_singleton.mp z]
      exact Nat.le_refl _
  exact I1.fpOk le (I1.hok.fresh le)
/-- the loop over it -/
theorem for_enT {K : PySem.W.Frag} {a : Addr} {xs : List V} {g : TG} {tb : TS} {D : Ends} {σ : L2.St} {H : Hp} (Pv : Nat → L2.St → Hp → Prop)
    (h0 : Pv 0 σ H) (hl : ∀ i σ H, i ≤ xs.length → Pv i σ H → SqT K H a xs)
    (hs : ∀ i x σ H T, xs[i]? = some x → Pv i σ H → H T = none →
      g (.ref T) σ (upd H T (.tup [.int (i : Nat), x])) fun σ2 H2 => tb { D with nx := Pv (i + 1), ct := Pv (i + 1), bk := D.nx } σ2 H2)
    (hd : ∀ σ H, Pv xs.length σ H → D.nx σ H) :
    ∃ W : Nat → Nat → L2.St → Hp → Prop, (∃ m, W 0 m σ H) ∧ ∀ i m σ H, W i m σ H →
      ((Itet K a).stop i H ∧ D.nx σ H) ∨ ((Itet K a).go i H ∧ ∃ N : L2.St → Hp → Prop,
        (∀ σ' H', N σ' H' → ∃ m', m' < m ∧ W (i + 1) m' σ' H') ∧
        ∀ x H', (Itet K a).yld i H x H' → g x σ H' fun σ2 H2 => tb { D with nx := N, ct := N, bk := D.nx } σ2 H2) := by
  refine ⟨fun i m σ H => m = xs.length - i ∧ i ≤ xs.length ∧ Pv i σ H, ⟨xs.length, by simp, Nat.zero_le _, h0⟩, ?_⟩
  intro i m σ H hW
  obtain ⟨em, hi, p⟩ := hW
  subst em
  have q := hl i σ H hi p
  by_cases lt : i < xs.length
  · refine .inr ⟨⟨xs, xs[i], q, List.getElem?_eq_getElem lt⟩, Pv (i + 1), fun σ' H' p' => ⟨xs.length - (i + 1), by omega, rfl, lt, p'⟩, ?_⟩
    intro x H' y
    obtain ⟨T, x', ev, nT, eH, hx⟩ := y
    subst ev eH
    exact hs i x' σ H T (hx xs q) p nT
  · have e : i = xs.length := by omega
    subst e
    exact .inl ⟨⟨xs, q, Nat.le_refl _⟩, hd σ H p⟩
/-- a comprehension over it -/
theorem lc_enT {K : PySem.W.Frag} {a : Addr} {xs : List V} {g : TG} {tt : TT} {te : TE} {vs : List Nat} {σ : L2.St} {H1 : Hp} {D : Addr} {Qd : Hp → Prop}
    (Pv : Nat → Hp → Prop) (h0 : Pv 0 (upd H1 D (.lst []))) (hl : ∀ i H, i ≤ xs.length → Pv i H → SqT K H a xs)
    (hs : ∀ i x H T, xs[i]? = some x → Pv i H → H T = none →
      g (.ref T) (wipe σ vs) (upd H T (.tup [.int (i : Nat), x])) fun σ2 H2 => wipe σ2 vs = wipe σ vs ∧ tt σ2 H2 fun b H3 =>
        if b = true then te σ2 H3 fun y H4 => ∃ acc, H4 D = some (.lst acc) ∧ acc.length < sizeLine ∧ Pv (i + 1) (upd H4 D (.lst (acc ++ [y])))
        else Pv (i + 1) H3)
    (hd : ∀ H, Pv xs.length H → Qd H) :
    ∃ W : Nat → Nat → Hp → Prop, (∃ m, W 0 m (upd H1 D (.lst []))) ∧ ∀ i m H, W i m H →
      ((Itet K a).stop i H ∧ Qd H) ∨ ((Itet K a).go i H ∧ ∃ Nx : Hp → Prop, (∀ H', Nx H' → ∃ m', m' < m ∧ W (i + 1) m' H') ∧
        ∀ x H', (Itet K a).yld i H x H' → g x (wipe σ vs) H' fun σ2 H2 => wipe σ2 vs = wipe σ vs ∧ tt σ2 H2 fun b H3 =>
          if b = true then te σ2 H3 fun y H4 => ∃ acc, H4 D = some (.lst acc) ∧ acc.length < sizeLine ∧ Nx (upd H4 D (.lst (acc ++ [y])))
          else Nx H3) := by
  refine ⟨fun i m H => m = xs.length - i ∧ i ≤ xs.length ∧ Pv i H, ⟨xs.length, by simp, Nat.zero_le _, h0⟩, ?_⟩
  intro i m H hW
  obtain ⟨em, hi, p⟩ := hW
  subst em
  have q := hl i H hi p
  by_cases lt : i < xs.length
  · refine .inr ⟨⟨xs, xs[i], q, List.getElem?_eq_getElem lt⟩, Pv (i + 1), fun H' p' => ⟨xs.length - (i + 1), by omega, rfl, lt, p'⟩, ?_⟩
    intro x H' y
    obtain ⟨T, x', ev, nT, eH, hx⟩ := y
    subst ev eH
    exact hs i x' H T (hx xs q) p nT
  · have e : i = xs.length := by omega
    subst e
    exact .inl ⟨⟨xs, q, Nat.le_refl _⟩, hd H p⟩
end Gd

/-! Values of any kind: data, an empty dict, tuples of such. -/
namespace Gd
open PySem PySem.Spec PyProof.Rows L2
/-- data, or an empty dict -/
inductive Dv (K : PySem.W.Frag) (H : Hp) : V → PyData → Prop where
  | dp {v : V} {d : PyData} (h : Dp K H v d) : Dv K H v d
  | dic {a : Addr} (h : H a = some (.dK [])) : Dv K H (.ref a) (.dict [])
/-- such, or a tuple of such -/
inductive Dw (K : PySem.W.Frag) (H : Hp) : V → PyData → Prop where
  | dv {v : V} {d : PyData} (h : Dv K H v d) : Dw K H v d
  | tup {a : Addr} {xs : List V} {ds : List PyData} (h : SqT K H a xs) (hs : Paired (Dv K H) xs ds) : Dw K H (.ref a) (.tuple ds)
section
variable {K : PySem.W.Frag} {H H' : Hp}
theorem dv_same (e : Same H H') {v : V} {d : PyData} (h : Dv K H v d) : Dv K H' v d := by
  cases h with
  | dp h => exact .dp (dp_same e h)
  | dic h => exact .dic (e _ _ h)
theorem dvs_same (e : Same H H') : ∀ {xs : List V} {ds : List PyData}, Paired (Dv K H) xs ds → Paired (Dv K H') xs ds
  | _, _, .nil => .nil
  | _, _, .cons a b => .cons (dv_same e a) (dvs_same e b)
theorem dw_same (e : Same H H') {v : V} {d : PyData} (h : Dw K H v d) : Dw K H' v d := by
  cases h with
  | dv h => exact .dv (dv_same e h)
  | tup h hs => exact .tup (same_tup e h) (dvs_same e hs)
mutual
theorem dp_nodict : ∀ {d : PyData} {v : V}, Dp K H v d → d.hasDict = false
  | .none, _, _ => rfl
  | .bool _, _, _ => rfl
  | .int _, _, _ => rfl
  | .str _, _, _ => rfl
  | .list ds, _, h => by
    cases h with
    | lst a b => exact dps_nodict b
  | .tuple ds, _, h => by
    cases h with
    | tup a b => exact dps_nodict b
  | .dict _, _, h => by cases h
theorem dps_nodict : ∀ {ds : List PyData} {vs : List V}, DpAll K H vs ds → PyData.hasDictAll ds = false
  | [], _, _ => rfl
  | d :: ds, _, h => by
    cases h with
    | cons a b =>
      show (d.hasDict || PyData.hasDictAll ds) = false
      rw [dp_nodict a, dps_nodict b]
      rfl
end
end
/-- what repr wants of data -/
structure Sh (d : PyData) : Prop where
  sh : d.showable = true
  dp : d.depth ≤ 64
  len : d.shown.length ≤ sizeLine
section
variable {X : Cx} {pins : List (Addr × Obj)} {σ : L2.St} {H : Hp} {s : Shared}
theorem dic_reads (I : Inv X pins σ H s) {a : Addr} (h : H a = some (.dK [])) :
    Reads s.heap (.ref a) (.dict []) (a :: [] ++ []) ∧ a ≠ sysModules := by
  obtain ⟨_, hs, vs, kv, o, es, ep, ho, hex, hd, _, hp, _⟩ := (show ObjOk X.prog X.w H s.heap a (.dK []) from I.hok a _ h)
  cases kv
  have e : es = #[] := by
    have l := hp.length
    have l2 : es.toList.length = 0 := by simpa using l
    exact Array.toList_inj.mp (by simpa using List.length_eq_zero_iff.mp l2)
  subst e
  exact ⟨.dict ho hex.1 hd .nil .nil, fun z => by rw [z] at hs; exact absurd hs (by decide)⟩
theorem dv_reads (I : Inv X pins σ H s) {v : V} {d : PyData} {u : Value} (h : Dv X.K H v d) (r : RelV v u) :
    ∃ as, Reads s.heap u d as ∧ (d.hasDict = true → sysModules ∉ as) := by
  cases h with
  | dp h =>
    obtain ⟨as, z⟩ := Dp.reads I d v u h r
    exact ⟨as, z, fun y => by rw [dp_nodict h] at y; cases y⟩
  | dic h =>
    cases r
    obtain ⟨z, n⟩ := dic_reads I h
    exact ⟨_, z, fun _ y => n (List.mem_singleton.mp y).symm⟩
theorem shown_mem {ds : List PyData} {t : Str} (h : t ∈ PyData.shownAll ds) : t.length ≤ (tupleText (PyData.shownAll ds)).length := tupleText_mem_le h
theorem dvs_reads (I : Inv X pins σ H s) : ∀ {xs : List V} {ds : List PyData} {us : List Value}, Paired (Dv X.K H) xs ds → Vals xs us → ∃ as, ReadsAll s.heap us ds as
  | _, _, _, .nil, .nil => ⟨_, .nil⟩
  | _, _, _, .cons a b, .cons r rs => by
    obtain ⟨as, z, _⟩ := dv_reads I a r
    obtain ⟨bs, zs⟩ := dvs_reads I b rs
    exact ⟨_, .cons z zs⟩
theorem dvs_repr (prog : Program) (w : World) (I : Inv X pins σ H s) : ∀ {xs : List V} {ds : List PyData} {us : List Value}, Paired (Dv X.K H) xs ds → Vals xs us →
    PyData.showableAll ds = true → (∀ t ∈ PyData.shownAll ds, t.length ≤ sizeLine) →
    ∃ bs, ReadAtMost s.heap (PyData.depthAll ds) bs ∧ ReprAllK prog w bs s.heap (PyData.depthAll ds) us (PyData.shownAll ds)
  | _, _, _, .nil, .nil, _, _ => ⟨[], fun b hb => absurd hb List.not_mem_nil, .nil⟩
  | _, _, _, @Paired.cons _ _ _ _ d _ ds a b, .cons r rs, hs, hz => by
    have hs' : d.showable = true ∧ PyData.showableAll ds = true := by simpa [PyData.showableAll] using hs
    obtain ⟨as, z, nod⟩ := dv_reads I a r
    obtain ⟨b1, m1, k1⟩ := ReprK.of_reads (prog := prog) (w := w) z hs'.1 nod
      (hz _ (by simp only [PyData.shownAll]; exact List.mem_cons_self ..))
    obtain ⟨b2, m2, k2⟩ := dvs_repr prog w I b rs hs'.2
      (fun t ht => hz t (by simp only [PyData.shownAll]; exact List.mem_cons_of_mem _ ht))
    refine ⟨b1 ++ b2, ?_, ?_⟩
    · simp only [PyData.depthAll]
      exact (m1.mono (Nat.le_max_left _ _)).append (m2.mono (Nat.le_max_right _ _))
    · simp only [PyData.depthAll, PyData.shownAll]
      exact .cons ((k1.more fun c hc => List.mem_append_left _ hc).level_le (Nat.le_max_left _ _))
        (k2.more_le (fun c hc => List.mem_append_right _ hc) (Nat.le_max_right _ _))
end
section
variable {X : Cx}
/-- repr of any such value -/
theorem call_reprW (hgd : X.A.guards = some []) (hu : X.A.units + 65 < cLine) :
    CallR X (.builtin "repr") (fun xs H Q => ∃ v d, xs = [v] ∧ Dw X.K H v d ∧ Sh d ∧ Q (.str d.shown) H) := by
  intro pins s σ H xs us Q I r h
  obtain ⟨v, d, rfl, hd, ⟨hs, hp, hz⟩, q⟩ := h
  obtain ⟨u, rfl, rx⟩ := vals1 r
  have byref : ∀ a : Addr, v = .ref a → ∀ as, Reads s.heap (.ref a) d as → (d.hasDict = true → sysModules ∉ as) →
      wpAny (model X.prog X.w) X.A (call (.builtin "repr") [u]) (EP X pins σ Q) X.xe s := by
    intro a ev as rd nod
    subst ev
    cases rx
    refine repr_of_reads' rd hs nod hgd (by omega) (fun _ _ e => e) ?_ hz
    intro h' u tk hk
    exact ⟨.str d.shown, H, I.kept hk, ⟨_, rfl⟩, q⟩
  cases hd with
  | dv hd =>
    cases hd with
    | dp hd =>
      cases hd with
      | non =>
        cases rx
        exact PySem.P.repr_of_none ⟨.str _, H, I.tok _, ⟨_, rfl⟩, q⟩
      | bl b =>
        cases rx
        exact PySem.P.repr_of_bool ⟨.str _, H, I.tok _, ⟨_, rfl⟩, q⟩
      | int i =>
        obtain ⟨t, rfl⟩ := rx
        have hs' : i.natAbs.log2 < 1920 := by simpa [PyData.showable] using hs
        exact PySem.P.repr_of_int hs' ⟨.str _, H, I.tok _, ⟨_, rfl⟩, q⟩
      | str x =>
        obtain ⟨t, rfl⟩ := rx
        exact PySem.P.repr_of_str ⟨.str _, H, I.tok _, ⟨_, rfl⟩, q⟩ hz
      | lst a b =>
        obtain ⟨as, rd⟩ := Dp.reads I _ _ _ (.lst a b) rx
        cases rx
        exact byref _ rfl as rd fun y => by rw [dp_nodict (.lst a b)] at y; cases y
      | tup a b =>
        obtain ⟨as, rd⟩ := Dp.reads I _ _ _ (.tup a b) rx
        cases rx
        exact byref _ rfl as rd fun y => by rw [dp_nodict (.tup a b)] at y; cases y
    | dic hd =>
      cases rx
      obtain ⟨z, n⟩ := dic_reads I hd
      exact byref _ rfl _ z fun _ y => n (List.mem_singleton.mp y).symm
  | @tup a xs ds ht hv =>
    cases rx
    obtain ⟨its, rv, ⟨o, ho, hc, n, hdat⟩, _⟩ := I.tuple ht
    obtain ⟨as, rds⟩ := dvs_reads I hv rv
    have rd : Reads s.heap (.ref a) (.tuple ds) as := .tuple ho hc hdat rds
    have hz' : (tupleText (PyData.shownAll ds)).length ≤ sizeLine := by simpa only [PyData.shown] using hz
    obtain ⟨bs, mb, hk⟩ := dvs_repr X.prog X.w I hv rv (by simpa [PyData.showable] using hs)
      (fun t ht => Nat.le_trans (tupleText_mem_le ht) hz')
    have hna : a ∉ bs := not_mem_of_deeper rd (by simp only [PyData.depth]; omega) mb
    have hp' : PyData.depthAll ds + 1 ≤ 64 := by simpa [PyData.depth] using hp
    refine call_repr_slot (by omega) ⟨o, ho, hc⟩ PySem.F.slot_tuple_repr ?_
    refine call_tuple_reprK ho hc hdat hna hk (g := []) hgd (fun b _ => Clear.nil b)
      (by show X.A.units + 1 + (PyData.depthAll ds + 1) < cLine; omega) (fun _ _ e => e) ?_ hz'
    intro h' u tk hk'
    refine ⟨_, _, rfl, ?_⟩
    exact ⟨.str (PyData.tuple ds).shown, H, I.kept hk', ⟨u, by simp only [PyData.shown]⟩, q⟩
end
end Gd
namespace Gd
open PySem PySem.Spec PyProof.Rows L2
theorem call_reprW2 {X : Cx} {K : PySem.W.Frag} (hK : X.K = K) (hgd : X.A.guards = some []) (hu : X.A.units + 65 < cLine) :
    CallR X (.builtin "repr") (fun xs H Q => ∃ v d, xs = [v] ∧ Dw K H v d ∧ Sh d ∧ Q (.str d.shown) H) := by
  subst hK
  exact call_reprW hgd hu
end Gd

/-! Kinds of values, == with a text, exceptions of one field, a head that tells more. -/
namespace Gd
open PySem PySem.Spec PyProof.Rows L2
/-- the type of a datum -/
def tyD : PyData → String
  | .none => "NoneType"
  | .bool _ => "bool"
  | .int _ => "int"
  | .str _ => "str"
  | .list _ => "list"
  | .tuple _ => "tuple"
  | .dict _ => "dict"
section
variable {K : PySem.W.Frag} {H : Hp}
theorem dv_ty {v : V} {d : PyData} (h : Dv K H v d) : TyX K H v (.type (tyD d)) := by
  cases h with
  | dic h => exact .base (.dK h)
  | dp h =>
    cases h with
    | non => exact .base .non
    | bl b => exact .base (.bl b)
    | int i => exact .base (.int i)
    | str x => exact .base (.str x)
    | lst a b =>
      rcases a with (a | ⟨o, a⟩) | ⟨o, its, n, hk, hc, _⟩
      · exact .base (.lst a)
      · exact .base (.frz a)
      · exact .kList hk hc
    | tup a b =>
      rcases a with (a | ⟨o, a⟩) | ⟨o, its, n, hk, hc, _⟩
      · exact .base (.tup a)
      · exact .fTuple a
      · exact .kTuple hk hc
theorem dw_ty {v : V} {d : PyData} (h : Dw K H v d) : TyX K H v (.type (tyD d)) := by
  cases h with
  | dv h => exact dv_ty h
  | tup a b =>
    rcases a with (a | ⟨o, a⟩) | ⟨o, its, n, hk, hc, _⟩
    · exact .base (.tup a)
    · exact .fTuple a
    · exact .kTuple hk hc
def isTup : PyData → Bool
  | .tuple _ => true
  | _ => false
def isBool : PyData → Bool
  | .bool _ => true
  | _ => false
def isInt : PyData → Bool
  | .bool _ => true
  | .int _ => true
  | _ => false
def isStr : PyData → Bool
  | .str _ => true
  | _ => false
theorem kit_tup : ∀ d : PyData, PySem.W.kitOne K (.type (tyD d)) (.type "tuple") = some (isTup d)
  | .none => kit_ty (a := "NoneType") (b := "tuple") (r := false) (by decide +kernel)
  | .bool _ => kit_ty (a := "bool") (b := "tuple") (r := false) (by decide +kernel)
  | .int _ => kit_ty (a := "int") (b := "tuple") (r := false) (by decide +kernel)
  | .str _ => kit_ty (a := "str") (b := "tuple") (r := false) (by decide +kernel)
  | .list _ => kit_ty (a := "list") (b := "tuple") (r := false) (by decide +kernel)
  | .tuple _ => kit_ty (a := "tuple") (b := "tuple") (r := true) (by decide +kernel)
  | .dict _ => kit_ty (a := "dict") (b := "tuple") (r := false) (by decide +kernel)
theorem kit_bool : ∀ d : PyData, PySem.W.kitOne K (.type (tyD d)) (.type "bool") = some (isBool d)
  | .none => kit_ty (a := "NoneType") (b := "bool") (r := false) (by decide +kernel)
  | .bool _ => kit_ty (a := "bool") (b := "bool") (r := true) (by decide +kernel)
  | .int _ => kit_ty (a := "int") (b := "bool") (r := false) (by decide +kernel)
  | .str _ => kit_ty (a := "str") (b := "bool") (r := false) (by decide +kernel)
  | .list _ => kit_ty (a := "list") (b := "bool") (r := false) (by decide +kernel)
  | .tuple _ => kit_ty (a := "tuple") (b := "bool") (r := false) (by decide +kernel)
  | .dict _ => kit_ty (a := "dict") (b := "bool") (r := false) (by decide +kernel)
theorem kit_int : ∀ d : PyData, PySem.W.kitOne K (.type (tyD d)) (.type "int") = some (isInt d)
  | .none => kit_ty (a := "NoneType") (b := "int") (r := false) (by decide +kernel)
  | .bool _ => kit_ty (a := "bool") (b := "int") (r := true) (by decide +kernel)
  | .int _ => kit_ty (a := "int") (b := "int") (r := true) (by decide +kernel)
  | .str _ => kit_ty (a := "str") (b := "int") (r := false) (by decide +kernel)
  | .list _ => kit_ty (a := "list") (b := "int") (r := false) (by decide +kernel)
  | .tuple _ => kit_ty (a := "tuple") (b := "int") (r := false) (by decide +kernel)
  | .dict _ => kit_ty (a := "dict") (b := "int") (r := false) (by decide +kernel)
theorem kit_str : ∀ d : PyData, PySem.W.kitOne K (.type (tyD d)) (.type "str") = some (isStr d)
  | .none => kit_ty (a := "NoneType") (b := "str") (r := false) (by decide +kernel)
  | .bool _ => kit_ty (a := "bool") (b := "str") (r := false) (by decide +kernel)
  | .int _ => kit_ty (a := "int") (b := "str") (r := false) (by decide +kernel)
  | .str _ => kit_ty (a := "str") (b := "str") (r := true) (by decide +kernel)
  | .list _ => kit_ty (a := "list") (b := "str") (r := false) (by decide +kernel)
  | .tuple _ => kit_ty (a := "tuple") (b := "str") (r := false) (by decide +kernel)
  | .dict _ => kit_ty (a := "dict") (b := "str") (r := false) (by decide +kernel)
end
/-! ### == with a text -/
section
open AutoSeq1 (wpAny_loadPart')
theorem dict_declines_str (l : Addr) (es : Array DictEntry) (n : Nat) (dd : Option Addr) (sl : Array (Option Value)) (b : Str) (u : Tok) :
    Meets (Builtin.«dict.__eq__» ⟨[.ref l, .str b u], []⟩) (fun _ R s =>
      s.heap.get? l = some { cls := .type "dict", dict := dd, data := .dict es n, slots := sl } ∧ R (.ok (.ret .notImplemented)) s) := by
  refine .of_wp fun prog w A R s h => ?_
  obtain ⟨hp, g, d, tk, os⟩ := s
  obtain ⟨hl, h⟩ := h
  have f1 := F.sub_str_dict
  wp_walk using wpAny_loadPart' hl, wpAny_load hl
  exact ⟨_, rfl, h⟩
theorem str_declines_dict (b : Str) (u : Tok) (l : Addr) (c : Value) (es : Array DictEntry) (n : Nat) (dd : Option Addr) (sl : Array (Option Value)) :
    Meets (Builtin.«str.__eq__» ⟨[.str b u, .ref l], []⟩) (fun _ R s =>
      s.heap.get? l = some { cls := c, dict := dd, data := .dict es n, slots := sl } ∧ R (.ok (.ret .notImplemented)) s) := by
  refine .of_wp fun prog w A R s h => ?_
  obtain ⟨hp, g, d, tk, os⟩ := s
  obtain ⟨hl, h⟩ := h
  wp_walk using wpAny_loadPart' hl, wpAny_load hl
  exact ⟨_, rfl, h⟩
theorem eq_dict_str {prog : Program} {w : World} {A : Around} {E : Value → Shared → Prop} {s : Shared} {l : Addr} {o : Obj} {es : Array DictEntry} {n : Nat}
    (b : Str) (u : Tok) (ho : s.heap.get? l = some o) (hc : o.cls = .type "dict") (hd : o.data = .dict es n) (hu : A.units < cLine)
    {Q : Value → Shared → Prop} (h : Q (.bool false) s) : wpAny (model prog w) A (compareOp .Eq (.ref l) (.str b u)) Q E s := by
  obtain ⟨cls, dd, data, sl⟩ := o
  simp only at hc hd
  subst hc hd
  exact SeqAt.rc_eq_decline_or (k := false) ⟨_, ho, rfl⟩ (typeIs_str s b u) (by decide) F.sub_str_dict F.slot_dict_eq F.slot_str_eq_refl
    (fun _ hq => call_meets F.slot_dict_eq ⟨_, ho, rfl⟩ F.entry_dict_eq (F.args_dict_eq_2 _ _) (dict_declines_str l es n dd sl b u) ⟨ho, hq⟩)
    (fun _ hq => call_meets F.slot_str_eq_refl (typeIs_str s b u) F.entry_str_eq (F.args_str_eq_2 _ _) (str_declines_dict b u l (.type "dict") es n dd sl) ⟨ho, hq⟩)
    (fun _ hq => wpAny_of_eq (rfl : isSame (.ref l) (.str b u) = pure false) hq) (.inr hu) h
end
/-- whether a datum is this text -/
def sameStr (t : Str) : PyData → Bool
  | .str x => x == t
  | _ => false
section
variable {X : Cx}
theorem op_eqS (hu : X.A.units + 64 < cLine) : OpR X (compareOp .Eq) (fun x y H Q => ∃ d t, Dv X.K H x d ∧ y = .str t ∧
    PyData.strOk t = true ∧ (SeqAt.shaped d = true ∨ d = .dict []) ∧ Q (.bl (sameStr t d)) H) := by
  intro pins s σ H x y v u Q I rx ry h
  obtain ⟨d, t, hd, rfl, ht, hs, q⟩ := h
  obtain ⟨tk, rfl⟩ := ry
  cases hd with
  | dp hd =>
    have hs' : SeqAt.shaped d = true := by
      rcases hs with hs | rfl
      · exact hs
      · cases hd
    obtain ⟨as, r1⟩ := Dp.reads I d _ v hd rx
    have st : SeqAt.shaped (.str t) = true := by
      simp [SeqAt.shaped, PyData.canLay0, ht, PyData.depth]
    have e : PyData.eqv d (.str t) = sameStr t d := by
      cases d <;> simp [PyData.eqv, sameStr]
    refine SeqAt.compareEq_shaped r1 (Reads.str t tk) hs' st hu ⟨.bl _, H, I, rfl, ?_⟩
    rw [e]
    exact q
  | @dic a hd =>
    cases rx
    obtain ⟨_, _, vs, _, o, es, ep, ho, hex, hdt, _⟩ := (show ObjOk X.prog X.w H s.heap a (.dK []) from I.hok a _ hd)
    exact eq_dict_str t tk ho hex.1 hdt (by omega) ⟨.bl false, H, I, rfl, q⟩
end
/-! ### an exception of one field -/
/-- what such an __init__ promises -/
def spInit1 (f : Str) (K : PySem.W.Frag) : Sp := fun vs H Q _ => ∃ (a C : Addr) (y : V), vs = [.ref a, y] ∧ Xc K C ∧ PySem.W.findIn K (.ref C) f = some none ∧
  H a = some (exo a C none) ∧ ∀ dx, H dx = none → dx ≠ a → Q .non (upd (upd H dx (exd dx [(f, y)])) a (exo a C (some dx)))
theorem mk_one {K : PySem.W.Frag} {C : Addr} {f : Str} {y : V} {H1 : Hp} {Q : XK} (T : Xc K C) (no : PySem.W.findIn K (.ref C) f = some none)
    (h : ∀ d H', Same H1 H' → H1 d = none → H' d = some (.xd [(f, y)]) → Q (.ref C) (some d) H') : ∀ a, H1 a = none →
    spInit1 f K (.ref a :: ([y] ++ [])) (upd H1 a (exo a C none))
      (fun v H2 => v = .non ∧ ∃ (d : Addr) (fs : List (Str × V)), H2 a = some (exo a C (some d)) ∧ H2 d = some (exd d fs) ∧ H1 d = none ∧
        Q (.ref C) (some d) (upd (del H2 a) d (.xd fs))) (fun _ _ _ => False) := by
  intro a na
  refine ⟨a, C, y, rfl, T, no, upd_same, ?_⟩
  intro dx nd ne
  have nd1 : H1 dx = none := by
    rw [upd_ne ne] at nd
    exact nd
  refine ⟨rfl, dx, [(f, y)], upd_same, by rw [upd_ne ne, upd_same], nd1, ?_⟩
  refine h dx _ ?_ nd1 upd_same
  intro b o hb
  have ba : b ≠ a := ne_of_none hb na
  have bd : b ≠ dx := ne_of_none hb nd1
  rw [upd_ne bd, del_ne ba, upd_ne ba, upd_ne bd, upd_ne ba]
  exact hb
/-! ### a head that tells more -/
/-- the facts by names, and any further one that is decided -/
def hookX (n : Nat) (fa : List He.Fa) (fn : List He.DefD) (ex : PySem.W.Frag → Bool) : PySem.W.Hook where
  α := He.AlD × Bool
  obs := fun s => (He.obsDG n fa fn s.heap.get?, ex (He.frG s.heap.get? (He.asD s.heap.get? n)))
  val := fun _ => (He.valD fn, true)
  says := fun _ h => ∃ K : PySem.W.Frag, K.In h ∧ He.SaysD fa fn K ∧ ex K = true
  of := fun _ _ e => ⟨_, He.frG_in, congrArg (fun z : He.AlD × Bool => z.1) e, congrArg (fun z : He.AlD × Bool => z.2) e⟩
  keeps := fun _ _ _ ⟨K, hK, c⟩ k => ⟨K, PySem.W.Frag.In.keeps hK k, c⟩
def obsX (n : Nat) (fa : List He.Fa) (fn : List He.DefD) (ex : PySem.W.Frag → Bool) (g : Addr → Option Obj) : He.AlD × Bool :=
  (He.obsDG n fa fn g, ex (He.frG g (He.asD g n)))
theorem obsX_eq {n : Nat} {fa : List He.Fa} {fn : List He.DefD} {ex : PySem.W.Frag → Bool} {g : Addr → Option Obj} {s : Shared} (h : ∀ a, g a = s.heap.get? a) :
    obsX n fa fn ex g = (hookX n fa fn ex).obs s := by
  have e : g = s.heap.get? := funext h
  rw [e]
  rfl
/-- what is decided of an exception class by its name -/
def exB (K : PySem.W.Frag) (x : Str) (bmB : List Value) (newId : String) (fs : List Str) : Bool :=
  xcB K (He.ga K x) bmB newId && (decide (PySem.W.findIn K (.ref (He.ga K x)) "__init__" = some (some (.ref (He.ma K (He.ga K x) "__init__")))) &&
    (decide (PySem.W.typeIn K (.ref (He.ma K (He.ga K x) "__init__")) = some (.type "function")) &&
      fs.all fun f => decide (PySem.W.findIn K (.ref (He.ga K x)) f = some none)))
structure Xn (K : PySem.W.Frag) (x : Str) (fs : List Str) : Prop where
  c : Xc K (He.ga K x)
  i : PySem.W.findIn K (.ref (He.ga K x)) "__init__" = some (some (.ref (He.ma K (He.ga K x) "__init__")))
  t : PySem.W.typeIn K (.ref (He.ma K (He.ga K x) "__init__")) = some (.type "function")
  no : ∀ f ∈ fs, PySem.W.findIn K (.ref (He.ga K x)) f = some none
theorem exB_ok {K : PySem.W.Frag} {x : Str} {B newId initId : String} {bmB : List Value} {fs : List Str} (F : Bas B newId initId bmB) (h : exB K x bmB newId fs = true) : Xn K x fs := by
  obtain ⟨h1, h⟩ := ba2 h
  obtain ⟨h2, h⟩ := ba2 h
  obtain ⟨h3, h4⟩ := ba2 h
  exact ⟨xcB_ok F h1, of_decide_eq_true h2, of_decide_eq_true h3, fun f hf => of_decide_eq_true (List.all_eq_true.mp h4 f hf)⟩
end Gd

/-! for k, (x, y) in enumerate(zip(a, b), start=n), a and b tuples: the zip keeps its pair handed out. -/
namespace PySem
namespace GdZ
open PySem.Sem (wp)
section
variable {prog : Program} {w : World} {A : Around} {E : Value → Shared → Prop} {s : Shared} {M : Model}
theorem look_alive {a : Addr} {Q : Option Obj → Shared → Prop} (h : Q (s.heap.get? a) s) : wpAny M A (loadIfAlive a) Q E s := fun _ _ _ => h
/-- a zip whatever it has handed out -/
abbrev IsZ (h : Heap) (z TI TO : Addr) (v : Value) (b : Bool) : Prop :=
  h.get? z = some { cls := .type "zip", dict := none, data := .fields #[v, .bool b, .bool false, .ref TI, .ref TO], slots := #[] }
/-- what it may have handed out -/
def Own (v : Value) : Prop := v = .none ∨ ∃ T : Nat, v = rawInt T
theorem own_look {z TI TO : Addr} {v : Value} {b : Bool} {Q : Bool → Shared → Prop} (o : Own v) (hz : IsZ s.heap z TI TO v b)
    (free : Q true s) (kept : ∀ h', IsZ h' z TI TO v true → Heap.SameBut z s.heap h' → Q false { s with heap := h' }) :
    wpAny (model prog w) A (Builtin.SmallTypes.ownedTupleIsFree (.ref z)) Q E s := by
  unfold Builtin.SmallTypes.ownedTupleIsFree
  rcases o with rfl | ⟨T, rfl⟩
  · exact wpAny_bind (wpAny_field hz rfl (x := .none) rfl (wpAny_pure free))
  refine wpAny_bind (wpAny_field hz rfl (x := rawInt T) rfl ?_)
  show wpAny _ _ (loadIfAlive _ >>= _) _ _ s
  refine wpAny_bind (look_alive ?_)
  cases hT : s.heap.get? (T : Int).toNat with
  | none =>
    simp only [Option.isNone_none, if_true]
    exact wpAny_pure free
  | some ob =>
    simp only [Option.isNone_some, Bool.false_eq_true, if_false]
    refine wpAny_bind (wpAny_field hz rfl (x := .bool b) rfl ?_)
    cases b with
    | true =>
      show wpAny _ _ (if _ then _ else _) _ _ s
      rw [if_neg (by decide)]
      exact wpAny_bind (wpAny_pure (wpAny_pure (by
        have e := kept s.heap hz ⟨rfl, fun _ _ => rfl⟩
        exact e)))
    | false =>
      show wpAny _ _ (if _ then _ else _) _ _ s
      rw [if_pos (by decide)]
      refine wpAny_bind (wpAny_setField_rec hz (by simp) fun h1 z1 s1 => ?_)
      exact wpAny_pure (kept h1 z1 s1)
/-- zip's next pair, whatever it has handed out -/
theorem zip_step {z TI TO i1 i2 l1 l2 : Addr} {k1 k2 : Nat} {xs ys : Array Value} {x y a b v : Value} {c : Bool} {Q : Value → Shared → Prop} (D : ZipApart z TI TO i1 i2 l1 l2)
    (o : Own v) (hz : IsZ s.heap z TI TO v c) (hTI : IsPair s.heap TI (.ref i1) (.ref i2)) (hTO : IsPair s.heap TO a b)
    (h1 : s.heap.IsTupleIter i1 l1 k1) (h2 : s.heap.IsTupleIter i2 l2 k2) (hl1 : s.heap.IsTuple l1 xs) (hl2 : s.heap.IsTuple l2 ys) (hx : xs[k1]? = some x) (hy : ys[k2]? = some y)
    (hQ : ∀ h' v' c', Own v' → IsZ h' z TI TO v' c' → (∃ a b, IsPair h' TO a b) → h'.IsTupleIter i1 l1 (k1 + 1) → h'.IsTupleIter i2 l2 (k2 + 1) →
      IsPair h' s.heap.objs.size x y → h'.objs.size = s.heap.objs.size + 1 →
      (∀ c o, c ≠ z → c ≠ TO → c ≠ i1 → c ≠ i2 → s.heap.get? c = some o → h'.get? c = some o) → Q (.ref s.heap.objs.size) { s with heap := h' }) :
    wpAny (model prog w) A (Builtin.«zip.__next__» ⟨[.ref z], []⟩) (fun fin s' => ∃ v, fin = .done (.ret v) ∧ Q v s') E s := by
  show wpAny _ _ (field (.ref z) 2 >>= _) _ _ _
  refine wpAny_bind (wpAny_field hz rfl (x := .bool false) rfl ?_)
  show wpAny _ _ (field (.ref z) 3 >>= _) _ _ _
  refine wpAny_bind (wpAny_field hz rfl (x := .ref TI) rfl ?_)
  refine wpAny_bind (wpAny_seqItems hTI rfl ?_)
  show wpAny _ _ (Builtin.SmallTypes.ownedTupleIsFree (.ref z) >>= _) _ _ _
  refine wpAny_bind (own_look o hz ?_ ?_)
  · simp only [if_true]
    refine wpAny_bind (wpAny_rule ?_)
    refine wpAny_bind (wpAny_field hz rfl (x := .ref TO) rfl ?_)
    refine wpAny_bind (wpAny_setField_rec hz (by simp) fun g1 zz1 e1 => ?_)
    replace zz1 : IsZ g1 z TI TO .ellipsis c := zz1
    refine wpAny_bind ?_
    simp only [List.zipIdx_cons, List.zipIdx_nil, List.forIn_cons, List.forIn_nil]
    refine wpAny_bind (wpAny_bind (wpAny_onRaise ?_))
    show wpAny _ _ (Builtin.SmallTypes.nextOf (.ref i1) >>= _) _ _ _
    refine wpAny_bind (RZ.nextOf_tuple_item (h1.extBut e1.extBut D.i1z) (hl1.extBut e1.extBut D.l1z) hx fun g2 it2 e2 => wpAny_pure ?_)
    have to2 : IsPair g2 TO a b := e2.extBut _ _ D.TOi1 (e1.extBut _ _ D.TOz hTO)
    refine wpAny_bind (wpAny_seqItems to2 rfl ?_)
    refine wpAny_bind (wpAny_updateSeq_pair to2 fun g3 to3 e3 => ?_)
    replace to3 : IsPair g3 TO x b := to3
    refine wpAny_bind (wpAny_letGo (wpAny_pure ?_))
    refine wpAny_bind (wpAny_bind (wpAny_onRaise ?_))
    show wpAny _ _ (Builtin.SmallTypes.nextOf (.ref i2) >>= _) _ _ _
    have it3 : g3.IsTupleIter i2 l2 k2 := ((h2.extBut e1.extBut D.i2z).extBut e2.extBut D.i12.symm).extBut e3.extBut D.TOi2.symm
    have tl3 : g3.IsTuple l2 ys := ((hl2.extBut e1.extBut D.l2z).extBut e2.extBut D.l2i1).extBut e3.extBut D.l2TO
    refine wpAny_bind (RZ.nextOf_tuple_item it3 tl3 hy fun g4 it4 e4 => wpAny_pure ?_)
    have to4 : IsPair g4 TO x b := e4.extBut _ _ D.TOi2 to3
    refine wpAny_bind (wpAny_seqItems to4 rfl ?_)
    refine wpAny_bind (wpAny_updateSeq_pair to4 fun g5 to5 e5 => ?_)
    replace to5 : IsPair g5 TO x y := to5
    refine wpAny_bind (wpAny_letGo (wpAny_pure (wpAny_pure ?_)))
    refine wpAny_bind (wpAny_seqItems to5 rfl ?_)
    refine wpAny_bind (wpAny_newTuple ?_)
    have size5 : g5.objs.size = s.heap.objs.size := by rw [e5.1, e4.1, e3.1, e2.1, e1.1]
    have zz5 : IsZ g5 z TI TO .ellipsis c :=
      e5.extBut _ _ D.TOz.symm (e4.extBut _ _ D.i2z.symm (e3.extBut _ _ D.TOz.symm (e2.extBut _ _ D.i1z.symm zz1)))
    have keep5 : ∀ c o, c ≠ z → c ≠ TO → c ≠ i1 → c ≠ i2 → s.heap.get? c = some o → g5.get? c = some o :=
      fun c o c1 c2 c3 c4 e => e5.extBut _ _ c2 (e4.extBut _ _ c4 (e3.extBut _ _ c2 (e2.extBut _ _ c3 (e1.extBut _ _ c1 e))))
    have a5 : g5.IsTupleIter i1 l1 (k1 + 1) := ((it2.extBut e3.extBut D.TOi1.symm).extBut e4.extBut D.i12).extBut e5.extBut D.TOi1.symm
    have b5 : g5.IsTupleIter i2 l2 (k2 + 1) := it4.extBut e5.extBut D.TOi2.symm
    have zlt : z < g5.objs.size := Heap.lt_size zz5
    show wpAny _ _ (Builtin.SmallTypes.ownedTupleHandOut (.ref z) (.ref g5.objs.size) >>= _) _ _ _
    refine wpAny_bind ?_
    unfold Builtin.SmallTypes.ownedTupleHandOut
    have zz6 : IsZ (g5.push { cls := .type "tuple", data := .seq #[x, y] }) z TI TO .ellipsis c := Heap.get?_push_of_some _ zz5
    refine wpAny_bind (wpAny_setField_rec zz6 (by simp) fun g7 zz7 e7 => ?_)
    replace zz7 : IsZ g7 z TI TO (rawInt g5.objs.size) c := zz7
    refine wpAny_setField_rec zz7 (by simp) fun g8 zz8 e8 => ?_
    replace zz8 : IsZ g8 z TI TO (rawInt g5.objs.size) false := zz8
    have up : ∀ c o, c ≠ z → g5.get? c = some o → g8.get? c = some o :=
      fun c o c1 e => e8.extBut _ _ c1 (e7.extBut _ _ c1 (Heap.get?_push_of_some _ e))
    have made : IsPair g8 g5.objs.size x y :=
      e8.extBut _ _ (Nat.ne_of_gt zlt) (e7.extBut _ _ (Nat.ne_of_gt zlt) (Heap.get?_push_size _ rfl))
    have size8 : g8.objs.size = g5.objs.size + 1 := by rw [e8.1, e7.1, Heap.size_push]
    refine wpAny_pure ⟨_, rfl, ?_⟩
    show Q (.ref g5.objs.size) _
    rw [size5] at zz8 made size8 ⊢
    exact hQ g8 _ _ (.inr ⟨_, rfl⟩) zz8 ⟨_, _, up _ _ D.TOz to5⟩ (a5.at fun o e => up _ o D.i1z e) (b5.at fun o e => up _ o D.i2z e) made size8
      fun c o c1 c2 c3 c4 e => up c o c1 (keep5 c o c1 c2 c3 c4 e)
  · intro g0 zz0 e0
    simp only [Bool.false_eq_true, if_false, ← Array.forIn_toList, List.forIn_cons, List.forIn_nil]
    refine wpAny_bind (wpAny_bind (wpAny_bind (wpAny_holding ?_)))
    show wpAny _ _ (Builtin.SmallTypes.nextOf (.ref i1) >>= _) _ _ _
    refine wpAny_bind (RZ.nextOf_tuple_item (h1.extBut e0.extBut D.i1z) (hl1.extBut e0.extBut D.l1z) hx fun g2 it2 e2 => wpAny_pure (wpAny_pure ?_))
    refine wpAny_bind (wpAny_bind (wpAny_holding ?_))
    show wpAny _ _ (Builtin.SmallTypes.nextOf (.ref i2) >>= _) _ _ _
    have it3 : g2.IsTupleIter i2 l2 k2 := (h2.extBut e0.extBut D.i2z).extBut e2.extBut D.i12.symm
    have tl3 : g2.IsTuple l2 ys := (hl2.extBut e0.extBut D.l2z).extBut e2.extBut D.l2i1
    refine wpAny_bind (RZ.nextOf_tuple_item it3 tl3 hy fun g4 it4 e4 => wpAny_pure (wpAny_pure (wpAny_pure ?_)))
    have size4 : g4.objs.size = s.heap.objs.size := by rw [e4.1, e2.1, e0.1]
    show wpAny _ _ (newTuple [x, y] >>= _) _ _ _
    refine wpAny_bind (wpAny_newTuple ?_)
    refine wpAny_pure ⟨_, rfl, ?_⟩
    show Q (.ref g4.objs.size) _
    have keep4 : ∀ c o, c ≠ z → c ≠ i1 → c ≠ i2 → s.heap.get? c = some o → (g4.push { cls := .type "tuple", data := .seq #[x, y] }).get? c = some o :=
      fun c o c1 c3 c4 e => Heap.get?_push_of_some _ (e4.extBut _ _ c4 (e2.extBut _ _ c3 (e0.extBut _ _ c1 e)))
    have made : IsPair (g4.push { cls := .type "tuple", data := .seq #[x, y] }) g4.objs.size x y := Heap.get?_push_size _ rfl
    have zz4 : IsZ (g4.push { cls := .type "tuple", data := .seq #[x, y] }) z TI TO v true :=
      Heap.get?_push_of_some _ (e4.extBut _ _ D.i2z.symm (e2.extBut _ _ D.i1z.symm zz0))
    have size8 : (g4.push { cls := .type "tuple", data := .seq #[x, y] } : Heap).objs.size = g4.objs.size + 1 := Heap.size_push ..
    rw [size4] at made size8 ⊢
    exact hQ _ v true o zz4 ⟨a, b, keep4 _ _ D.TOz D.TOi1 D.TOi2 hTO⟩ ((it2.extBut e4.extBut D.i12).at fun o e => Heap.get?_push_of_some _ e)
      (it4.at fun o e => Heap.get?_push_of_some _ e) made size8 fun c o c1 _ c3 c4 e => keep4 c o c1 c3 c4 e
/-- zip at its end -/
theorem zip_last {z TI TO i1 i2 l1 l2 : Addr} {k1 k2 : Nat} {xs ys : Array Value} {a b v : Value} {c : Bool} {Q : Fin → Shared → Prop} (hh : A.handled = none) (D : ZipApart z TI TO i1 i2 l1 l2)
    (o : Own v) (hz : IsZ s.heap z TI TO v c) (hTI : IsPair s.heap TI (.ref i1) (.ref i2)) (hTO : IsPair s.heap TO a b)
    (h1 : s.heap.IsTupleIter i1 l1 k1) (h2 : s.heap.IsTupleIter i2 l2 k2) (hl1 : s.heap.IsTuple l1 xs) (hl2 : s.heap.IsTuple l2 ys) (hend : xs[k1]? = none ∨ ys[k2]? = none)
    (hE : ∀ h' e, (∀ c o, c ≠ z → c ≠ TO → c ≠ i1 → c ≠ i2 → s.heap.get? c = some o → h'.get? c = some o) →
      (∃ o, h'.get? e = some o ∧ o.cls = .type "StopIteration") → E (.ref e) { s with heap := h' }) :
    wpAny (model prog w) A (Builtin.«zip.__next__» ⟨[.ref z], []⟩) Q E s := by
  show wpAny _ _ (field (.ref z) 2 >>= _) _ _ _
  refine wpAny_bind (wpAny_field hz rfl (x := .bool false) rfl ?_)
  show wpAny _ _ (field (.ref z) 3 >>= _) _ _ _
  refine wpAny_bind (wpAny_field hz rfl (x := .ref TI) rfl ?_)
  refine wpAny_bind (wpAny_seqItems hTI rfl ?_)
  show wpAny _ _ (Builtin.SmallTypes.ownedTupleIsFree (.ref z) >>= _) _ _ _
  refine wpAny_bind (own_look o hz ?_ ?_)
  · simp only [if_true]
    refine wpAny_bind (wpAny_rule ?_)
    refine wpAny_bind (wpAny_field hz rfl (x := .ref TO) rfl ?_)
    refine wpAny_bind (wpAny_setField_rec hz (by simp) fun g1 zz1 e1 => ?_)
    replace zz1 : IsZ g1 z TI TO .ellipsis c := zz1
    refine wpAny_bind ?_
    simp only [List.zipIdx_cons, List.zipIdx_nil, List.forIn_cons, List.forIn_nil]
    refine wpAny_bind (wpAny_bind (wpAny_onRaise ?_))
    show wpAny _ _ (Builtin.SmallTypes.nextOf (.ref i1) >>= _) _ _ _
    cases hx : xs[k1]? with
    | none =>
      refine wpAny_bind (RZ.nextOf_tuple_end hh (h1.extBut e1.extBut D.i1z) (hl1.extBut e1.extBut D.l1z) hx fun g2 e e2 he => ?_)
      obtain ⟨oe, hoe, hce⟩ := he
      have zz2 : IsZ g2 z TI TO .ellipsis c := e2 _ _ D.i1z.symm zz1
      have off : e ≠ z := by
        intro q
        subst q
        rw [zz2] at hoe
        cases hoe
        simp at hce
      refine wpAny_setField_rec zz2 (by simp) fun g3 _ e3 => ?_
      exact hE g3 e (fun c o c1 _ c3 _ q => e3.extBut _ _ c1 (e2 _ _ c3 (e1.extBut _ _ c1 q))) ⟨oe, e3.extBut _ _ off hoe, hce⟩
    | some x =>
      have hy : ys[k2]? = none := by
        rcases hend with h | h
        · rw [hx] at h
          cases h
        · exact h
      refine wpAny_bind (RZ.nextOf_tuple_item (h1.extBut e1.extBut D.i1z) (hl1.extBut e1.extBut D.l1z) hx fun g2 it2 e2 => wpAny_pure ?_)
      have to2 : IsPair g2 TO a b := e2.extBut _ _ D.TOi1 (e1.extBut _ _ D.TOz hTO)
      refine wpAny_bind (wpAny_seqItems to2 rfl ?_)
      refine wpAny_bind (wpAny_updateSeq_pair to2 fun g3 to3 e3 => ?_)
      refine wpAny_bind (wpAny_letGo (wpAny_pure ?_))
      refine wpAny_bind (wpAny_bind (wpAny_onRaise ?_))
      show wpAny _ _ (Builtin.SmallTypes.nextOf (.ref i2) >>= _) _ _ _
      have it3 : g3.IsTupleIter i2 l2 k2 := ((h2.extBut e1.extBut D.i2z).extBut e2.extBut D.i12.symm).extBut e3.extBut D.TOi2.symm
      have tl3 : g3.IsTuple l2 ys := ((hl2.extBut e1.extBut D.l2z).extBut e2.extBut D.l2i1).extBut e3.extBut D.l2TO
      refine wpAny_bind (RZ.nextOf_tuple_end hh it3 tl3 hy fun g4 e e4 he => ?_)
      obtain ⟨oe, hoe, hce⟩ := he
      have zz4 : IsZ g4 z TI TO .ellipsis c := e4 _ _ D.i2z.symm (e3.extBut _ _ D.TOz.symm (e2.extBut _ _ D.i1z.symm zz1))
      have off : e ≠ z := by
        intro q
        subst q
        rw [zz4] at hoe
        cases hoe
        simp at hce
      refine wpAny_setField_rec zz4 (by simp) fun g5 _ e5 => ?_
      exact hE g5 e (fun c o c1 c2 c3 c4 q => e5.extBut _ _ c1 (e4 _ _ c4 (e3.extBut _ _ c2 (e2.extBut _ _ c3 (e1.extBut _ _ c1 q))))) ⟨oe, e5.extBut _ _ off hoe, hce⟩
  · intro g0 zz0 e0
    simp only [Bool.false_eq_true, if_false, ← Array.forIn_toList, List.forIn_cons, List.forIn_nil]
    refine wpAny_bind (wpAny_bind (wpAny_bind (wpAny_holding ?_)))
    show wpAny _ _ (Builtin.SmallTypes.nextOf (.ref i1) >>= _) _ _ _
    cases hx : xs[k1]? with
    | none =>
      refine wpAny_bind (RZ.nextOf_tuple_end hh (h1.extBut e0.extBut D.i1z) (hl1.extBut e0.extBut D.l1z) hx fun g2 e e2 he => ?_)
      exact hE g2 e (fun c o c1 _ c3 _ q => e2 _ _ c3 (e0.extBut _ _ c1 q)) he
    | some x =>
      have hy : ys[k2]? = none := by
        rcases hend with h | h
        · rw [hx] at h
          cases h
        · exact h
      refine wpAny_bind (RZ.nextOf_tuple_item (h1.extBut e0.extBut D.i1z) (hl1.extBut e0.extBut D.l1z) hx fun g2 it2 e2 => wpAny_pure (wpAny_pure ?_))
      refine wpAny_bind (wpAny_bind (wpAny_holding ?_))
      show wpAny _ _ (Builtin.SmallTypes.nextOf (.ref i2) >>= _) _ _ _
      have it3 : g2.IsTupleIter i2 l2 k2 := (h2.extBut e0.extBut D.i2z).extBut e2.extBut D.i12.symm
      have tl3 : g2.IsTuple l2 ys := (hl2.extBut e0.extBut D.l2z).extBut e2.extBut D.l2i1
      refine wpAny_bind (RZ.nextOf_tuple_end hh it3 tl3 hy fun g4 e e4 he => ?_)
      exact hE g4 e (fun c o c1 _ c3 c4 q => e4 _ _ c4 (e2.extBut _ _ c3 (e0.extBut _ _ c1 q))) he
/-- next of a zip -/
theorem nextOf_zip {z : Addr} {TI TO : Addr} {v : Value} {c : Bool} {Q : Value → Shared → Prop} (hz : IsZ s.heap z TI TO v c)
    (h : wpAny (model prog w) A.in1 (Builtin.«zip.__next__» ⟨[.ref z], []⟩) (fun fin s' => ∃ v, fin = .done (.ret v) ∧ Q v s') E s) :
    wpAny (model prog w) A (Builtin.SmallTypes.nextOf (.ref z)) Q E s := by
  have hT : s.TypeIs (.ref z) "zip" := ⟨_, hz, rfl⟩
  unfold Builtin.SmallTypes.nextOf
  refine wpAny_bind (wpAny_callSpecial?_slot (name := Str.ofString "__next__") hT F.slot_zip_next
    (wpAny_call_entry F.slot_zip_next hT F.entry_zip_next ?_ (F.args_zip_next_1 _)))
  exact wpAny_mono h (fun fin s' hh => hh.elim fun v q => ⟨v, q.1, wpAny_pure q.2⟩) (fun _ _ x => x)
/-- enumerate's next, its inner's next given -/
theorem enum_over {e it : Addr} {c : Int} {old : Value} {Q : Value → Shared → Prop} {R : Value → Heap → Prop} (he : IsEnum s.heap e it c old)
    (inner : ∀ {Q' : Value → Shared → Prop}, (∀ x h1, R x h1 → Q' x { s with heap := h1 }) → wpAny (model prog w) A (Builtin.SmallTypes.nextOf (.ref it)) Q' E s)
    (stay : ∀ x h1, R x h1 → IsEnum h1 e it c old)
    (hQ : ∀ x h1 h' tk, R x h1 → IsEnumOut h' e it (c + 1) x h1.objs.size → h'.get? h1.objs.size = some { cls := .type "tuple", data := .seq #[.int c tk, x] } →
      h'.objs.size = h1.objs.size + 1 → (∀ b o, b ≠ e → h1.get? b = some o → h'.get? b = some o) → Q (.ref h1.objs.size) { s with heap := h', toks := tk + 1 }) :
    wpAny (model prog w) A (Builtin.«enumerate.__next__» ⟨[.ref e], []⟩) (fun fin s' => ∃ v, fin = .done (.ret v) ∧ Q v s') E s := by
  obtain ⟨hp, g, d, tk, os⟩ := s
  show wpAny _ _ (field (.ref e) 2 >>= _) _ _ _
  refine wpAny_bind (wpAny_field he rfl (x := .ref it) rfl ?_)
  refine wpAny_bind (inner fun x h1 hR => ?_)
  have z1 := stay x h1 hR
  have el : e < h1.objs.size := Heap.lt_size z1
  show wpAny _ _ (field (.ref e) 3 >>= _) _ _ ⟨h1, g, d, tk, os⟩
  refine wpAny_bind (wpAny_field z1 rfl (x := rawInt c) rfl ?_)
  show wpAny _ _ (field (.ref e) 4 >>= _) _ _ ⟨h1, g, d, tk, os⟩
  refine wpAny_bind (wpAny_field z1 rfl (x := .none) rfl ?_)
  show wpAny _ _ (mkInt c >>= _) _ _ ⟨h1, g, d, tk, os⟩
  refine wpAny_bind (wpAny_mkInt ?_)
  show wpAny _ _ (setField (.ref e) 3 (rawInt (c + 1)) >>= _) _ _ ⟨h1, g, d, tk + 1, os⟩
  refine wpAny_bind (wpAny_setField_rec z1 (by simp) fun h2 z2 s2 => ?_)
  replace s2 : Heap.SameBut e h1 h2 := s2
  replace z2 : IsEnum h2 e it (c + 1) old := z2
  show wpAny _ _ (setField (.ref e) 4 .none >>= _) _ _ ⟨h2, g, d, tk + 1, os⟩
  refine wpAny_bind (wpAny_setField_rec z2 (by simp) fun h3 z3 s3 => ?_)
  replace s3 : Heap.SameBut e h2 h3 := s3
  replace z3 : IsEnum h3 e it (c + 1) old := z3
  show wpAny _ _ (newTuple [.int c tk, x] >>= _) _ _ ⟨h3, g, d, tk + 1, os⟩
  refine wpAny_bind (wpAny_newTuple ?_)
  have z4 : IsEnum (h3.push { cls := .type "tuple", data := .seq #[.int c tk, x] }) e it (c + 1) old := Heap.get?_push_of_some _ z3
  have size3 : h3.objs.size = h1.objs.size := by rw [s3.1, s2.1]
  have keep4 : ∀ b o, b ≠ e → h1.get? b = some o → (h3.push { cls := .type "tuple", data := .seq #[.int c tk, x] }).get? b = some o :=
    fun b o n q => Heap.get?_push_of_some _ (s3.extBut b o n (s2.extBut b o n q))
  have made : (h3.push { cls := .type "tuple", data := .seq #[.int c tk, x] }).get? h3.objs.size = some { cls := .type "tuple", data := .seq #[.int c tk, x] } :=
    Heap.get?_push_size _ rfl
  have size4 : (h3.push { cls := .type "tuple", data := .seq #[.int c tk, x] } : Heap).objs.size = h3.objs.size + 1 := Heap.size_push ..
  rw [size3] at made size4
  show wpAny _ _ (Builtin.SmallTypes.ownedTupleIsFree (.ref e) >>= _) _ _ ⟨h3.push { cls := .type "tuple", data := .seq #[.int c tk, x] }, g, d, tk + 1, os⟩
  rw [size3]
  generalize h3.push { cls := .type "tuple", data := .seq #[.int c tk, x] } = h4 at z4 keep4 made size4
  refine wpAny_bind ?_
  unfold Builtin.SmallTypes.ownedTupleIsFree
  refine wpAny_bind (wpAny_field z4 rfl (x := .none) rfl (wpAny_pure ?_))
  simp only [if_true]
  refine wpAny_bind (wpAny_rule ?_)
  refine wpAny_bind (wpAny_field z4 rfl (x := old) rfl ?_)
  refine wpAny_bind (wpAny_setField_rec z4 (by simp) fun h5 z5 s5 => ?_)
  replace s5 : Heap.SameBut e h4 h5 := s5
  replace z5 : IsEnum h5 e it (c + 1) x := z5
  show wpAny _ _ (Builtin.SmallTypes.ownedTupleHandOut (.ref e) (.ref h1.objs.size) >>= _) _ _ ⟨h5, g, d, tk + 1, os⟩
  refine wpAny_bind ?_
  unfold Builtin.SmallTypes.ownedTupleHandOut
  refine wpAny_bind (wpAny_setField_rec z5 (by simp) fun h6 z6 s6 => ?_)
  replace s6 : Heap.SameBut e h5 h6 := s6
  replace z6 : IsEnumOut h6 e it (c + 1) x h1.objs.size := z6
  refine wpAny_setField_rec z6 (by simp) fun h7 z7 s7 => ?_
  replace s7 : Heap.SameBut e h6 h7 := s7
  replace z7 : IsEnumOut h7 e it (c + 1) x h1.objs.size := z7
  refine wpAny_bind (wpAny_letGo (wpAny_pure ⟨_, rfl, hQ x h1 h7 tk hR z7 ?_ ?_ ?_⟩))
  · exact s7.extBut _ _ (Nat.ne_of_gt el) (s6.extBut _ _ (Nat.ne_of_gt el) (s5.extBut _ _ (Nat.ne_of_gt el) made))
  · rw [s7.1, s6.1, s5.1, size4]
  · exact fun b o n q => s7.extBut b o n (s6.extBut b o n (s5.extBut b o n (keep4 b o n q)))
/-- the turn of enumerate over a zip -/
theorem enumZ_item {e z TI TO i1 i2 l1 l2 : Addr} {k1 k2 : Nat} {xs ys : Array Value} {x y a b v old : Value} {c : Bool} {n : Int} {Q : Option Value → Shared → Prop} (D : ZipApart z TI TO i1 i2 l1 l2)
    (ez : e ≠ z) (eTO : e ≠ TO) (e1 : e ≠ i1) (e2 : e ≠ i2) (he : IsEnum s.heap e z n old)
    (o : Own v) (hz : IsZ s.heap z TI TO v c) (hTI : IsPair s.heap TI (.ref i1) (.ref i2)) (hTO : IsPair s.heap TO a b)
    (h1 : s.heap.IsTupleIter i1 l1 k1) (h2 : s.heap.IsTupleIter i2 l2 k2) (hl1 : s.heap.IsTuple l1 xs) (hl2 : s.heap.IsTuple l2 ys) (hx : xs[k1]? = some x) (hy : ys[k2]? = some y)
    (hQ : ∀ h' v' c' tk, Own v' → IsZ h' z TI TO v' c' → (∃ a b, IsPair h' TO a b) → h'.IsTupleIter i1 l1 (k1 + 1) → h'.IsTupleIter i2 l2 (k2 + 1) →
      IsPair h' s.heap.objs.size x y → IsEnumOut h' e z (n + 1) (.ref s.heap.objs.size) (s.heap.objs.size + 1) →
      h'.get? (s.heap.objs.size + 1) = some { cls := .type "tuple", data := .seq #[.int n tk, .ref s.heap.objs.size] } → h'.objs.size = s.heap.objs.size + 2 →
      (∀ c o, c ≠ e → c ≠ z → c ≠ TO → c ≠ i1 → c ≠ i2 → s.heap.get? c = some o → h'.get? c = some o) →
      Q (some (.ref (s.heap.objs.size + 1))) { s with heap := h', toks := tk + 1 }) :
    wpAny (model prog w) A (pyNext (.ref e)) Q E s := by
  have hT : s.TypeIs (.ref e) "enumerate" := ⟨_, he, rfl⟩
  have el : e < s.heap.objs.size := Heap.lt_size he
  unfold pyNext
  refine wpAny_bind (wpAny_attempt (wpAny_callSpecial?_slot (name := Str.ofString "__next__") hT F.slot_enumerate_next
    (wpAny_call_entry F.slot_enumerate_next hT F.entry_enumerate_next ?_ (F.args_enumerate_next_1 _))))
  refine wpAny_mono (enum_over (Q := fun v s' => Q (some v) s') (R := fun u h' => u = .ref s.heap.objs.size ∧ ∃ v' c', Own v' ∧ IsZ h' z TI TO v' c' ∧ (∃ a b, IsPair h' TO a b) ∧ h'.IsTupleIter i1 l1 (k1 + 1) ∧ h'.IsTupleIter i2 l2 (k2 + 1) ∧
    IsPair h' s.heap.objs.size x y ∧ h'.objs.size = s.heap.objs.size + 1 ∧ (∀ c o, c ≠ z → c ≠ TO → c ≠ i1 → c ≠ i2 → s.heap.get? c = some o → h'.get? c = some o)) he ?_ ?_ ?_) (fun fin s' ⟨v, e, q⟩ => ⟨v, e, wpAny_pure q⟩) (fun _ _ x => x)
  · intro Q' hQ'
    exact nextOf_zip hz (zip_step D o hz hTI hTO h1 h2 hl1 hl2 hx hy fun h' v' c' a1 a2 a3 a4 a5 a6 a7 a8 => hQ' _ h' ⟨rfl, v', c', a1, a2, a3, a4, a5, a6, a7, a8⟩)
  · rintro u h' ⟨_, v', c', _, _, _, _, _, _, _, k⟩
    exact k e _ ez eTO e1 e2 he
  · rintro u h' h2' tk ⟨rfl, v', c', p1, p2, ⟨a', b', p3⟩, p4, p5, p6, p7, p8⟩ q1 q2 q3 q4
    rw [p7] at q1 q2 q3 ⊢
    have ne : ∀ {c : Addr} {o : Obj}, h'.get? c = some o → c ≠ e → h2'.get? c = some o := fun h n => q4 _ _ n h
    have P : s.heap.objs.size ≠ e := Nat.ne_of_gt el
    exact hQ h2' v' c' tk p1 (ne p2 ez.symm) ⟨a', b', ne p3 eTO.symm⟩ (p4.at fun o q => ne q e1.symm) (p5.at fun o q => ne q e2.symm) (ne p6 P) q1 q2 q3
      fun c o c0 c1 c2 c3 c4 q => ne (p8 c o c1 c2 c3 c4 q) c0
/-- .. its end -/
theorem enumZ_last {e z TI TO i1 i2 l1 l2 : Addr} {k1 k2 : Nat} {xs ys : Array Value} {a b v old : Value} {c : Bool} {n : Int} {Q : Option Value → Shared → Prop} (hh : A.handled = none) (D : ZipApart z TI TO i1 i2 l1 l2)
    (he : IsEnum s.heap e z n old)
    (o : Own v) (hz : IsZ s.heap z TI TO v c) (hTI : IsPair s.heap TI (.ref i1) (.ref i2)) (hTO : IsPair s.heap TO a b)
    (h1 : s.heap.IsTupleIter i1 l1 k1) (h2 : s.heap.IsTupleIter i2 l2 k2) (hl1 : s.heap.IsTuple l1 xs) (hl2 : s.heap.IsTuple l2 ys) (hend : xs[k1]? = none ∨ ys[k2]? = none)
    (hQ : ∀ h', (∀ c o, c ≠ z → c ≠ TO → c ≠ i1 → c ≠ i2 → s.heap.get? c = some o → h'.get? c = some o) → Q none { s with heap := h' }) :
    wpAny (model prog w) A (pyNext (.ref e)) Q E s := by
  have hT : s.TypeIs (.ref e) "enumerate" := ⟨_, he, rfl⟩
  unfold pyNext
  refine wpAny_bind (wpAny_attempt (wpAny_callSpecial?_slot (name := Str.ofString "__next__") hT F.slot_enumerate_next
    (wpAny_call_entry F.slot_enumerate_next hT F.entry_enumerate_next ?_ (F.args_enumerate_next_1 _))))
  show wpAny _ _ (field (.ref e) 2 >>= _) _ _ _
  refine wpAny_bind (wpAny_field he rfl (x := .ref z) rfl ?_)
  refine wpAny_bind (wpAny_mono (nextOf_zip (Q := fun _ _ => False) hz (zip_last (show A.in1.in1.handled = none from hh) D o hz hTI hTO h1 h2 hl1 hl2 hend fun h' y k hy => ?_)) (fun _ _ f => f.elim) (fun _ _ x => x))
  obtain ⟨ob, hob, hcb⟩ := hy
  refine wpAny_bind (wpAny_isInstance (T := "StopIteration") (b := true) ⟨ob, hob, hcb⟩ isSubtype_stop ?_)
  exact wpAny_pure (hQ h' k)
end
end GdZ
end PySem
namespace PySem
namespace GdZ
open PySem.Sem (wp)
abbrev enumO (z : Addr) (k : Int) : Obj := { cls := .type "enumerate", data := .fields #[.none, .bool false, .ref z, rawInt k, .none, .none] }
set_option maxHeartbeats 4000000 in
theorem meets_enumK {z TI TO : Addr} {v : Value} (k : Int) (t : Tok) (fit : Builtin.SmallTypes.fitsIndex k = true) :
    Meets (Builtin.«enumerate.__new__» ⟨[.type "enumerate", .ref z], [(Str.ofString "start", .int k t)]⟩) (fun _ R s => IsZip s.heap z TI TO v ∧
      R (.ok (.ret (.ref s.heap.objs.size))) { s with heap := s.heap.push (enumO z k) }) := by
  refine .of_wp fun prog w A R s h => ?_
  obtain ⟨hp, g, d, tk, os⟩ := s
  obtain ⟨h1, h⟩ := h
  have hsub := sub_enumerate
  have nofit : (!Builtin.SmallTypes.fitsIndex k) = false := by
    rw [fit]
    rfl
  have begun : ∀ {A' : Around} {E : Value → Shared → Prop} {Q : Value → Shared → Prop},
      Q (.ref z) ⟨hp, g, d, tk, os⟩ → wpAny (model prog w) A' (pyIter (.ref z)) Q E ⟨hp, g, d, tk, os⟩ :=
    fun q => wpAny_pyIter_zip h1 q
  have w1 : (Str.ofString "start" == ("start" : Str)) = true := by decide +kernel
  have w2 : (Str.ofString "start" != ("start" : Str)) = false := by decide +kernel
  have w3 : (Str.ofString "start" != ("iterable" : Str)) = true := by decide +kernel
  have w4 : (("start" : Str) == Str.ofString "start") = true := by decide +kernel
  have w5 : (("iterable" : Str) == Str.ofString "start") = false := by decide +kernel
  wp_walk using begun
  refine wpAny_stack_any fun st => wpAny_pure ?_
  split
  · rename_i c _ _ _ _ _
    cases (c == Value.type "enumerate") <;> (wp_walk using begun; exact ⟨_, rfl, h⟩)
  · wp_walk using begun
    exact ⟨_, rfl, h⟩
theorem call_enumK {prog : Program} {w : World} {A : Around} {E : Value → Shared → Prop} {s : Shared} {z TI TO : Addr} {v : Value} {k : Int} {t : Tok} {Q : Value → Shared → Prop} (hz : IsZip s.heap z TI TO v) (k0 : -(2 ^ 63) ≤ k) (k1 : k < 2 ^ 63)
    (h : Q (.ref s.heap.objs.size) { s with heap := s.heap.push (enumO z k) }) :
    wpAny (model prog w) A (call (.type "enumerate") [.ref z] [(Str.ofString "start", .int k t)]) Q E s := by
  refine callType_newKw F.called_enumerate (by decide) (F.typeCall_enumerate_start _ _) (F.newCall_enumerate_start _ _) (fun obj => F.args_object_init_start obj _ _) F.entry_enumerate_new
    (meets_enumK k t (fits_start k0 k1)) ⟨hz, ?_⟩
  exact ⟨⟨_, Heap.get?_push_size _ rfl, rfl⟩, h⟩
end GdZ
end PySem
namespace Gd
open PySem PySem.Spec PyProof.Rows L2
section
variable {X : Cx} {pins : List (Addr × Obj)} {σ : L2.St} {H : Hp} {s : Shared}
/-- records have turned, and two new objects are laid -/
theorem turned2 {h' : Heap} {t' : Nat} {ch : List Addr} {P T : Addr} {oP oT : HO} (I : Inv X pins σ H s) (k : ∀ b o, b ∉ ch → s.heap.get? b = some o → h'.get? b = some o)
    (hf : ∀ b ∈ ch, FpOk X pins H b) (hP : s.heap.objs.size ≤ P) (hT : s.heap.objs.size ≤ T) (ne : T ≠ P)
    (nP : ObjOk X.prog X.w (upd (upd H P oP) T oT) h' P oP) (nT : ObjOk X.prog X.w (upd (upd H P oP) T oT) h' T oT) :
    Inv X pins σ (upd (upd H P oP) T oT) { s with heap := h', toks := t' } := by
  have n1 : H P = none := I.hok.fresh hP
  have n2 : H T = none := I.hok.fresh hT
  have off : ∀ {b : Addr} {u : HO}, H b = some u → upd (upd H P oP) T oT b = some u := fun {b u} e => by
    rw [upd_ne (ne_of_none e n2), upd_ne (ne_of_none e n1)]
    exact e
  have nit : ∀ b u, H b = some u → b ∉ ch := fun b u e z => by
    have q := (hf b z).1
    rw [q] at e
    cases e
  have old : ∀ {b : Addr} {o : Obj}, s.heap.get? b = some o → b ≠ P ∧ b ≠ T := fun e =>
    ⟨Nat.ne_of_lt (Nat.lt_of_lt_of_le (Heap.lt_size e) hP), Nat.ne_of_lt (Nat.lt_of_lt_of_le (Heap.lt_size e) hT)⟩
  refine I.step (g' := s.gens) (d' := s.drawn) (ch := ch) ?_ (fun b o _ _ hc e _ => k b o hc e) (fun b o _ _ hc e _ => ⟨o.slots, k b o hc e⟩)
    (fun b o _ e n => ?_) (fun b o hc e => ⟨o, k b o hc e⟩) (fun b xs e => off e) (fun b o u e => off e) (fun b ps e => ⟨#[], ?_⟩) (fun m hm => ?_) (fun b u e => ?_) I.bare
  · intro b hb
    obtain ⟨f0, f1, f2, f3, f4, f5⟩ := hf b hb
    exact ⟨f3, f1, f4, f5⟩
  · rw [upd_ne (old e).2, upd_ne (old e).1]
    exact n
  · rw [off e]
    simp
  · obtain ⟨o, es, ep, ho, r⟩ := hm
    exact ⟨o, es, ep, k _ o (fun z => (hf _ z).2.1 rfl) ho, r⟩
  · by_cases hb : b = T
    · subst hb
      rw [upd_same] at e
      cases e
      exact nT
    rw [upd_ne hb] at e
    by_cases hb2 : b = P
    · subst hb2
      rw [upd_same] at e
      cases e
      exact nP
    rw [upd_ne hb2] at e
    refine (I.hok b u e).stay (fun c v hc q => k c v ?_ q) (fun c q => off q) fun c xs q => off q
    rcases hc with z | z
    · exact z ▸ nit b u e
    · exact nit c _ z
end
/-- enumerate(zip(a, b), start=n), a and b tuples -/
def Itez (K : PySem.W.Frag) (a b : Addr) (n : Int) : It where
  go := fun i H => ∃ (xs ys : List V) (x y : V), SqT K H a xs ∧ SqT K H b ys ∧ xs[i]? = some x ∧ ys[i]? = some y
  yld := fun i H v H' => ∃ P T x y, v = .ref T ∧ H P = none ∧ H T = none ∧ T ≠ P ∧ H' = upd (upd H P (.tup [x, y])) T (.tup [.int (n + (i : Nat)), .ref P]) ∧
    (∀ xs, SqT K H a xs → xs[i]? = some x) ∧ ∀ ys, SqT K H b ys → ys[i]? = some y
  stop := fun i H => ∃ xs ys : List V, SqT K H a xs ∧ SqT K H b ys ∧ (xs.length ≤ i ∨ ys.length ≤ i)
/-- what the iterators hold -/
def EzSt (a b e z TI TO i1 i2 : Addr) (n : Int) (i : Nat) (h : Heap) : Prop :=
  (∃ old, IsEnum h e z (n + (i : Nat)) old) ∧ (∃ v c, GdZ.Own v ∧ GdZ.IsZ h z TI TO v c) ∧ IsPair h TI (.ref i1) (.ref i2) ∧ (∃ x y, IsPair h TO x y) ∧ h.IsTupleIter i1 a i ∧ h.IsTupleIter i2 b i
structure EzNe (a b e z TI TO i1 i2 : Addr) : Prop where
  D : ZipApart z TI TO i1 i2 a b
  ez : e ≠ z
  eTI : e ≠ TI
  eTO : e ≠ TO
  e1 : e ≠ i1
  e2 : e ≠ i2
theorem turnEz {P : Program} {w : World} {K : PySem.W.Frag} {elts : List Expr} {kk : Nat} {tpos : Pos} {a b e z TI TO i1 i2 : Addr} {n : Int} (N : EzNe a b e z TI TO i1 i2) :
    Turn P w K (.Tuple elts kk tpos) (Itez K a b n) [e, z, TI, TO, i1, i2] e (EzSt a b e z TI TO i1 i2 n) where
  mem := List.mem_cons_self ..
  obj := by
    intro i h st c hc
    obtain ⟨⟨old, he⟩, ⟨v, c0, _, hz⟩, hTI, ⟨x, y, hTO⟩, ⟨o1, g1, _, d1⟩, ⟨o2, g2, _, d2⟩⟩ := st
    simp only [List.mem_cons, List.not_mem_nil, or_false] at hc
    rcases hc with q | q | q | q | q | q <;> subst q
    · exact ⟨_, he, fun v q => nomatch q⟩
    · exact ⟨_, hz, fun v q => nomatch q⟩
    · exact ⟨_, hTI, fun v q => nomatch q⟩
    · exact ⟨_, hTO, fun v q => nomatch q⟩
    · exact ⟨o1, g1, fun v q => by rw [d1] at q; cases q⟩
    · exact ⟨o2, g2, fun v q => by rw [d2] at q; cases q⟩
  keep := by
    intro i h h' st k
    obtain ⟨⟨old, he⟩, ⟨v, c0, ow, hz⟩, hTI, ⟨x, y, hTO⟩, h1, h2⟩ := st
    exact ⟨⟨old, k e (by simp) _ he⟩, ⟨v, c0, ow, k z (by simp) _ hz⟩, k TI (by simp) _ hTI, ⟨x, y, k TO (by simp) _ hTO⟩, h1.at fun o q => k i1 (by simp) o q, h2.at fun o q => k i2 (by simp) o q⟩
  item := by
    intro X hP hw hK hc i pins s σ H E I hf st hg
    subst hP hw hK
    obtain ⟨⟨old, he⟩, ⟨v, c0, ow, hz⟩, hTI, ⟨x0, y0, hTO⟩, h1, h2⟩ := st
    obtain ⟨xs, ys, x, y, hqx, hqy, hx, hy⟩ := hg
    obtain ⟨its, rv, p, _⟩ := I.tuple hqx
    obtain ⟨its2, rv2, p2, _⟩ := I.tuple hqy
    obtain ⟨u, hu, ru⟩ := rv.get hx
    obtain ⟨u2, hu2, ru2⟩ := rv2.get hy
    have le : e < s.heap.objs.size := Heap.lt_size he
    have lz : z < s.heap.objs.size := Heap.lt_size hz
    have lTI : TI < s.heap.objs.size := Heap.lt_size hTI
    have lTO : TO < s.heap.objs.size := Heap.lt_size hTO
    have l1 : i1 < s.heap.objs.size := Heap.lt_size h1.choose_spec.1
    have l2 : i2 < s.heap.objs.size := Heap.lt_size h2.choose_spec.1
    refine GdZ.enumZ_item N.D N.ez N.eTO N.e1 N.e2 he ow hz hTI hTO h1 h2 p p2 (x := u) (y := u2) (by simpa using hu) (by simpa using hu2) ?_
    intro h' v' c' tk a1 a2 a3 a4 a5 a6 a7 a8 a9 k
    refine ⟨_, rfl, wpAny_letOwnedTupleGo_enum (s := { s with heap := h', toks := tk + 1 }) a7 ?_⟩
    intro hh he2 sb
    have up : ∀ {c : Addr} {o : Obj}, h'.get? c = some o → c ≠ e → hh.get? c = some o := fun q ne => (sb.2 _ ne).trans q
    have gP : hh.get? s.heap.objs.size = some { cls := .type "tuple", data := .seq #[u, u2] } := up a6 (Nat.ne_of_gt le)
    have gT : hh.get? (s.heap.objs.size + 1) = some { cls := .type "tuple", data := .seq #[.int (n + (i : Nat)) tk, .ref s.heap.objs.size] } :=
      up a8 (Nat.ne_of_gt (Nat.lt_succ_of_lt le))
    have ne : s.heap.objs.size + 1 ≠ s.heap.objs.size := Nat.succ_ne_self _
    have nP : ObjOk X.prog X.w (upd (upd H s.heap.objs.size (.tup [x, y])) (s.heap.objs.size + 1) (.tup [.int (n + (i : Nat)), .ref s.heap.objs.size])) hh s.heap.objs.size (.tup [x, y]) :=
      ⟨by show 2 ≤ sizeLine; decide, [u, u2], .cons ru (.cons ru2 .nil), ⟨_, gP, rfl, _, rfl⟩⟩
    have nT : ObjOk X.prog X.w (upd (upd H s.heap.objs.size (.tup [x, y])) (s.heap.objs.size + 1) (.tup [.int (n + (i : Nat)), .ref s.heap.objs.size])) hh (s.heap.objs.size + 1) (.tup [.int (n + (i : Nat)), .ref s.heap.objs.size]) :=
      ⟨by show 2 ≤ sizeLine; decide, [.int (n + (i : Nat)) tk, .ref s.heap.objs.size], .cons ⟨_, rfl⟩ (.cons rfl .nil), ⟨_, gT, rfl, _, rfl⟩⟩
    have I1 := turned2 (t' := tk + 1) (ch := [e, z, TI, TO, i1, i2]) (h' := hh) I (fun c o hc q => by
      have hc' : c ≠ e ∧ c ≠ z ∧ c ≠ TI ∧ c ≠ TO ∧ c ≠ i1 ∧ c ≠ i2 := by simpa using hc
      exact up (k c o hc'.1 hc'.2.1 hc'.2.2.2.1 hc'.2.2.2.2.1 hc'.2.2.2.2.2 q) hc'.1) hf (Nat.le_refl _) (Nat.le_succ _) ne nP nT
    refine ⟨.ref (s.heap.objs.size + 1), _, I1, rfl, ⟨s.heap.objs.size, s.heap.objs.size + 1, x, y, rfl, I.hok.fresh (Nat.le_refl _), I.hok.fresh (Nat.le_succ _), ne, rfl, ?_, ?_⟩, ⟨⟨.ref s.heap.objs.size, ?_⟩, ⟨v', c', a1, ?_⟩, ?_, ?_, ?_, ?_⟩, ?_⟩
    · intro l hl
      rw [I.tuple_inj hl hqx]
      exact hx
    · intro l hl
      rw [I.tuple_inj hl hqy]
      exact hy
    · have e1 : n + ((i + 1 : Nat) : Int) = n + (i : Nat) + 1 := by omega
      rw [e1]
      exact he2
    · exact up a2 N.ez.symm
    · exact up (k TI _ N.eTI.symm N.D.TIz N.D.TITO N.D.TIi1 N.D.TIi2 hTI) N.eTI.symm
    · obtain ⟨x1, y1, q⟩ := a3
      exact ⟨x1, y1, up q N.eTO.symm⟩
    · exact a4.at fun o q => up q N.e1.symm
    · exact a5.at fun o q => up q N.e2.symm
    · intro c hc
      have lt : c < s.heap.objs.size := by
        simp only [List.mem_cons, List.not_mem_nil, or_false] at hc
        rcases hc with q | q | q | q | q | q <;> subst q <;> assumption
      rw [upd_ne (Nat.ne_of_lt (Nat.lt_succ_of_lt lt)), upd_ne (Nat.ne_of_lt lt)]
      exact (hf c hc).1
  done := by
    intro X hP hw hK hc i pins s σ H E I hf st hg
    subst hP hw hK
    obtain ⟨⟨old, he⟩, ⟨v, c0, ow, hz⟩, hTI, ⟨x0, y0, hTO⟩, h1, h2⟩ := st
    obtain ⟨xs, ys, hqx, hqy, hend⟩ := hg
    obtain ⟨its, rv, p, _⟩ := I.tuple hqx
    obtain ⟨its2, rv2, p2, _⟩ := I.tuple hqy
    have l1 := rv.length
    have l2 := rv2.length
    have hend' : its.toArray[i]? = none ∨ its2.toArray[i]? = none := by
      rcases hend with q | q
      · exact .inl (by simp; omega)
      · exact .inr (by simp; omega)
    refine GdZ.enumZ_last (I.ok.hd hc) N.D he ow hz hTI hTO h1 h2 p p2 hend' fun h' k => ⟨rfl, ?_⟩
    refine I.turnedL (t' := s.toks) (ch := [e, z, TI, TO, i1, i2]) (fun c o hc q => ?_) hf
    have hc' : c ≠ e ∧ c ≠ z ∧ c ≠ TI ∧ c ≠ TO ∧ c ≠ i1 ∧ c ≠ i2 := by simpa using hc
    exact k c o hc'.2.1 hc'.2.2.2.1 hc'.2.2.2.2.1 hc'.2.2.2.2.2 q
  self := fun A i s Q E st h => let ⟨⟨_, he⟩, _⟩ := st; wpAny_pyIter_enum he h
theorem callWith_tyKw {M : Model} {A : Around} {E : Value → Shared → Prop} {s : Shared} {pos : Pos} {T : String} {first : List Value} {args : List (Bool × Sem Value)} {keywords : List (Option Str × Sem Value)} {Q : Value → Shared → Prop}
    (hplain : args.any (·.1) = false) (hkw : keywords.any (·.1.isNone) = false)
    (h : wpAny M A (evalArgs (.type T) true args keywords) (fun a s₁ => wpAny M A (call (.type T) (first ++ a.pos) a.kw) Q E s₁) E s) :
    wpAny M A (callWith pos (.type T) first args keywords) Q E s := by
  unfold callWith
  refine wpAny_bind (wpAny_holding (wpAny_mono h ?_ fun _ _ x => x))
  intro a s1 h1
  refine wpAny_bind (wpAny_standAt ?_)
  simp only [hplain, hkw, Bool.or_false]
  refine wpAny_bind (wpAny_pure ?_)
  refine wpAny_bind (wpAny_mono h1 ?_ fun _ _ x => x)
  intro r s2 hr
  exact wpAny_bind (wpAny_holding (wpAny_point (wpAny_pure hr)))
def iEnZ (K : PySem.W.Frag) (n : Int) (ta : TA) : TI := fun σ H R => ta σ H fun vs H1 => ∃ a b xs ys, vs = [.ref a, .ref b] ∧ SqT K H1 a xs ∧ SqT K H1 b ys ∧ R (Itez K a b n) H1
theorem pi_enZ {X : Cx} {e e2 : Expr} {ta : TA} {p p2 p3 p4 pos pos2 tpos : Pos} {elts : List Expr} {kk j : Nat} {n : Int}
    (hg : Gl X "enumerate") (hm : X.mg "enumerate" = none) (hg2 : Gl X "zip") (hm2 : X.mg "zip" = none) (k0 : -(2 ^ 63) ≤ n) (k1 : n < 2 ^ 63) (ha : PA X [e, e2] ta)
    (hs : starEach [e, e2] X.env = (false, eval e X.env) :: starEach [e2] X.env := by rfl)
    (hpl : (backTo pos2 (starEach [e2] X.env)).any (·.1) = false := by rfl) :
    PI X (.Tuple elts kk tpos) (.Call (.Name "enumerate" p) [.Call (.Name "zip" p2) [e, e2] [] pos2] [⟨some "start", .Constant (.int n) j p3, p4⟩] pos) (iEnZ X.K n ta) := by
  refine ⟨?_⟩
  intro pins s σ H R I h
  refine wpAny_Call_Name_kw (ld_blt I hg hm boot_enumerate ?_)
  refine callWith_tyKw (by rfl) (by rfl) (evalArgs_kw2 (by rfl) ?_)
  show wpAny _ _ (spliced [(false, eval (.Call (.Name "zip" p2) [e, e2] [] pos2) X.env)]) _ _ s
  refine Calls.spliced_cons ?_
  refine Call_ (ld_blt I hg2 hm2 PyProof.Rows.boot_zip (PyProof.Rows.callWith_type1 (thn (ha.run pos2 pins s σ H _ I h) ?_) hs hpl))
  intro us s1 hu
  obtain ⟨vs, H1, I1, r1, a, b, xs, ys, ex, hqx, hqy, q⟩ := hu
  subst ex
  cases r1 with
  | cons r rr =>
    cases rr with
    | cons r' rr =>
      cases rr
      cases r
      cases r'
      obtain ⟨its, rv, t1, _⟩ := I1.tuple hqx
      obtain ⟨its2, rv2, t2, _⟩ := I1.tuple hqy
      have la : a < s1.heap.objs.size := Heap.lt_size t1.choose_spec.1
      have lb : b < s1.heap.objs.size := Heap.lt_size t2.choose_spec.1
      refine RZ.call_zipT t1 t2 fun h' hz hTI hTO h1 h2 hsz hk => ?_
      refine Calls.spliced_nil ?_
      show wpAny _ _ (evalAll ((do let v ← eval (.Constant (.int n) j p3) X.env; standAt pos; pure v) :: [])) _ _ _
      refine wpAny_evalAll_cons (wpAny_bind (wpAny_Constant_int (wpAny_bind (wpAny_standAt (wpAny_pure (wpAny_evalAll_nil ?_))))))
      show wpAny _ _ (call (.type "enumerate") [.ref (s1.heap.objs.size + 4)] [(Str.ofString "start", .int n _)]) _ _ _
      refine GdZ.call_enumK hz k0 k1 ?_
      have size : h'.objs.size = s1.heap.objs.size + 5 := hsz
      have up : ∀ c o, h'.get? c = some o → (h'.push (GdZ.enumO (s1.heap.objs.size + 4) n)).get? c = some o := fun c o e => Heap.get?_push_of_some _ e
      have he : IsEnum (h'.push (GdZ.enumO (s1.heap.objs.size + 4) n)) (s1.heap.objs.size + 5) (s1.heap.objs.size + 4) n .none := by
        have z := Heap.get?_push_size h' (o := GdZ.enumO (s1.heap.objs.size + 4) n) rfl
        rw [size] at z
        exact z
      refine wpAny_pyIter_enum (by rw [size]; exact he) ?_
      have I2 : Inv X pins σ H1 { s1 with heap := h'.push (GdZ.enumO (s1.heap.objs.size + 4) n), toks := s1.toks + 1 } := I1.kept (t' := s1.toks + 1) fun c o e => up c o (hk c o e)
      refine ⟨s1.heap.objs.size + 5, [s1.heap.objs.size + 5, s1.heap.objs.size + 4, s1.heap.objs.size + 2, s1.heap.objs.size + 3, s1.heap.objs.size, s1.heap.objs.size + 1], _, _, H1, by rw [size], I2,
        turnEz (n := n) ⟨PySem.W.ktu_apart s1.heap.objs.size a b la lb, ?_, ?_, ?_, ?_, ?_⟩,
        ⟨⟨.none, ?_⟩, ⟨.none, false, .inl rfl, up _ _ hz⟩, up _ _ hTI, ⟨_, _, up _ _ hTO⟩, h1.at fun o e => up _ o e, h2.at fun o e => up _ o e⟩, ?_, q⟩
      all_goals try exact Nat.ne_of_gt (by omega)
      · rw [show n + ((0 : Nat) : Int) = n from Int.add_zero n]
        exact he
      · intro c hc
        have lc : s1.heap.objs.size ≤ c := by
          simp only [List.mem_cons, List.not_mem_nil, or_false] at hc
          rcases hc with q | q | q | q | q | q <;> subst q <;> omega
        exact I1.fpOk lc (I1.hok.fresh lc)
theorem walk_enZ {K : PySem.W.Frag} {a b : Addr} {xs ys : List V} {n : Int} {m : Nat} (hm : m = min xs.length ys.length) :
    Walk (Itez K a b n) m (fun H => SqT K H a xs ∧ SqT K H b ys) (fun i H v H' => ∃ P T x y, v = .ref T ∧ H P = none ∧ H T = none ∧ T ≠ P ∧
      H' = upd (upd H P (.tup [x, y])) T (.tup [.int (n + (i : Nat)), .ref P]) ∧ xs[i]? = some x ∧ ys[i]? = some y) := by
  subst hm
  refine ⟨fun i _ hi q => ?_, fun _ q => ⟨xs, ys, q.1, q.2, by omega⟩, fun i H v H' _ q y => ?_⟩
  · exact ⟨xs, ys, xs[i]'(by omega), ys[i]'(by omega), q.1, q.2, by simp, by simp⟩
  · obtain ⟨P, T, x, y', e1, e2, e3, e4, e5, e6, e7⟩ := y
    exact ⟨P, T, x, y', e1, e2, e3, e4, e5, e6 xs q.1, e7 ys q.2⟩
end Gd

/-! Star calls of plain defs, walks in walks, greater repeats of tuples, entries. -/
namespace Gd
open PySem PySem.Spec PyProof.Rows L2
theorem fnR_of {P : Program} {w : World} {K : PySem.W.Frag} {mg : Str → Option Value} {base : Heap} {CX : CXT} {k : Nat} {f : Addr} {fd : FuncData} {ps : List Str} {sp : Sp}
    (F : FnOk P w K mg base CX k f fd ps sp) (hb : Binds K fd ps []) : FnR P w K mg base CX k f sp := by
  intro A outer s H us vs Q E hr e0 r hs
  have n : (us ++ []).length = ps.length := by
    rw [List.append_nil]
    exact r.length.symm.trans (F.len _ _ _ _ hs)
  have up : K.In s.heap := e0.mod.kin.keeps fun b o e => (e0.bs b o e).1
  have z := hb s us up n
  rw [List.append_nil] at z
  exact F.run A outer s H ⟨us, []⟩ us vs Q E hr e0 z r hs
/-- a walk, whatever its turns do -/
theorem walk_go {J : It} {n : Nat} {G : Hp → Prop} {Y : Nat → Hp → V → Hp → Prop} (w : Walk J n G Y) {H0 : Hp} {Qd : Hp → Prop} {B : (Hp → Prop) → V → Hp → Prop} (Pv : Nat → Hp → Prop)
    (h0 : Pv 0 H0) (hG : ∀ i H, i ≤ n → Pv i H → G H) (hs : ∀ i x H H', i < n → Pv i H → Y i H x H' → B (Pv (i + 1)) x H') (hd : ∀ H, Pv n H → Qd H) :
    ∃ W : Nat → Nat → Hp → Prop, (∃ m, W 0 m H0) ∧ ∀ i m H, W i m H →
      (J.stop i H ∧ Qd H) ∨ (J.go i H ∧ ∃ Nx : Hp → Prop, (∀ H', Nx H' → ∃ m', m' < m ∧ W (i + 1) m' H') ∧ ∀ x H', J.yld i H x H' → B Nx x H') := by
  refine ⟨fun i m H => m = n - i ∧ i ≤ n ∧ Pv i H, ⟨n, rfl, Nat.zero_le _, h0⟩, ?_⟩
  intro i m H hW
  obtain ⟨em, hi, p⟩ := hW
  subst em
  have q := hG i H hi p
  by_cases lt : i < n
  · exact .inr ⟨w.goes i H lt q, Pv (i + 1), fun H' p' => ⟨n - (i + 1), by omega, rfl, lt, p'⟩, fun x H' y => hs i x H H' lt p (w.yields i H x H' lt q y)⟩
  · have e : i = n := by omega
    subst e
    exact .inl ⟨w.stops H q, hd H p⟩
/-- a tuple many times -/
def rRepT2 (K : PySem.W.Frag) : R2 := fun x y H Q => ∃ l k xs, x = .ref l ∧ y = .int k ∧ SqT K H l xs ∧ xs ≠ [] ∧ 2 ≤ k ∧ k ≤ 2000 ∧ xs.length ≤ 100 ∧
  ∀ p, H p = none → Q (.ref p) (upd H p (.tup (List.replicate k.toNat xs).flatten))
theorem op_repT2 {X : Cx} : OpR X (binaryOp .Mult) (rRepT2 X.K) := by
  intro pins s σ H x y v u Q I rx ry h
  obtain ⟨l, k, xs, rfl, rfl, hT, hne, h1, h2, hz, q⟩ := h
  cases rx
  obtain ⟨t, rfl⟩ := ry
  obtain ⟨its, r, ⟨⟨cls, dd, data, sl⟩, ho, hc, n, hd⟩, hs⟩ := I.tuple hT
  simp only at hc hd
  subst hc hd
  have len : its.length = xs.length := r.length.symm
  have ne : its ≠ [] := by
    intro e
    rw [e] at len
    exact hne (List.eq_nil_of_length_eq_zero len.symm)
  have notE : its.toArray.isEmpty = false := by
    cases its with
    | nil => exact absurd rfl ne
    | cons a b => rfl
  have size0 : its.toArray.size = xs.length := by rw [List.size_toArray, len]
  have most : ((its.toArray.size : Nat) : Int) * k ≤ 200000 := by
    rw [size0]
    have a1 : ((xs.length : Nat) : Int) * k ≤ 100 * k := Int.mul_le_mul_of_nonneg_right (by omega) (by omega)
    omega
  have bound : k.toNat * xs.length ≤ 2000 * 100 := Nat.mul_le_mul (by omega) hz
  have flat : (List.replicate k.toNat its).flatten.length ≤ sizeLine := by
    rw [PyProof.Rows.lm_len_rep_flat, len, sizeLine_eq]
    omega
  have c0 : (decide (k < -(2 ^ 63)) || decide (k ≥ 2 ^ 63)) = false := by
    rw [decide_eq_false (by omega), decide_eq_false (by omega)] <;> rfl
  have c1 : (its.toArray.isEmpty || k == 1) = false := by
    rw [notE, Bool.false_or]
    exact beq_eq_false_iff_ne.mpr (by omega)
  have c2 : (decide (k ≤ 0) || its.toArray.isEmpty) = false := by
    rw [notE, Bool.or_false]
    exact decide_eq_false (by omega)
  have c4 : Builtin.Tuple.tupleTooMany (((its.toArray.size : Nat) : Int) * k) = false := by
    unfold Builtin.Tuple.tupleTooMany
    rw [sizeLine_eq]
    exact decide_eq_false (by omega)
  refine wpAny_binaryOp_repeat_ref (T := "tuple") (U := "int") (by decide) ⟨_, ho, rfl⟩ (fun s' => typeIs_int s' k t) noFill_tuple_mul F.fills_int_mul F.slot_int_rmul repeat_tuple F.slot_int_index.lookup ?_
  refine call_meets F.slot_int_rmul (typeIs_int s k t) F.entry_int_rmul (F.args_int_rmul_2 _ _) (int_rmul_tuple k t l its.toArray n dd sl) ⟨ho, rfl, ⟨_, ho, rfl⟩, ?_⟩
  refine call_meets F.slot_tuple_mul ⟨_, ho, rfl⟩ F.entry_tuple_mul (F.args_tuple_mul_2 _ _) (tuple_mulW l its.toArray n dd sl k t c0 c1 c2 (by omega) c4 ?_) ⟨ho, ?_⟩
  · rw [size_rep, List.size_toArray]
    exact flat
  rw [size_rep]
  refine ⟨.ref s.heap.objs.size, _, I.laid (t' := s.toks) (o := .tup (List.replicate k.toNat xs).flatten) (fun b ob q => Heap.get?_push_of_some _ q) (Nat.le_refl _) ?_, rfl, q _ (I.hok.fresh (Nat.le_refl _))⟩
  refine ⟨?_, _, r.rep k.toNat, IsTup.new _ _⟩
  rw [PyProof.Rows.lm_len_rep_flat, sizeLine_eq]
  omega
/-! ### entries -/
abbrev Ent := Int × Int × Int
def ET (K : PySem.W.Frag) (H : Hp) (v : V) (e : Ent) : Prop := ∃ q, v = .ref q ∧ SqT K H q [.int e.1, .int e.2.1, .int e.2.2]
theorem et_same {K : PySem.W.Frag} {H H' : Hp} {v : V} {e : Ent} (s : Same H H') (h : ET K H v e) : ET K H' v e := by
  obtain ⟨q, a, b⟩ := h
  exact ⟨q, a, same_tup s b⟩
theorem ets_same {K : PySem.W.Frag} {H H' : Hp} (s : Same H H') : ∀ {xs : List V} {es : List Ent}, Paired (ET K H) xs es → Paired (ET K H') xs es
  | _, _, .nil => .nil
  | _, _, .cons a b => .cons (et_same s a) (ets_same s b)
def entD (e : Ent) : PyData := .tuple [.int e.1, .int e.2.1, .int e.2.2]
theorem et_dp {K : PySem.W.Frag} {H : Hp} {v : V} {e : Ent} (h : ET K H v e) : Dp K H v (entD e) := by
  obtain ⟨q, rfl, b⟩ := h
  exact .tup b (.cons (.int _) (.cons (.int _) (.cons (.int _) .nil)))
theorem ets_dp {K : PySem.W.Frag} {H : Hp} : ∀ {xs : List V} {es : List Ent}, Paired (ET K H) xs es → DpAll K H xs (es.map entD)
  | _, _, .nil => .nil
  | _, _, .cons a b => .cons (et_dp a) (ets_dp b)
theorem ets_app {K : PySem.W.Frag} {H : Hp} {xs ys : List V} {es fs : List Ent} (h : Paired (ET K H) xs es) (h2 : Paired (ET K H) ys fs) : Paired (ET K H) (xs ++ ys) (es ++ fs) := by
  induction h with
  | nil => exact h2
  | cons a b ih => exact .cons a ih
/-- what a change tells -/
def entL (p l t : Int) : List Ent := (if p ≠ 0 ∧ p ≠ l then [(p, 0, t)] else []) ++ (if l ≠ 0 then [(l, 1, t)] else [])
/-- the changes of a history, the place ahead first -/
def chL : Int → Int → List Int → List Ent
  | _, _, [] => []
  | a, t, h :: r => (a, h, t) :: chL h (t + 1) r
theorem chL_len : ∀ (hs : List Int) (a t : Int), (chL a t hs).length = hs.length
  | [], _, _ => rfl
  | h :: r, a, t => by
    show (chL h (t + 1) r).length + 1 = _
    rw [chL_len r]
    rfl
theorem chL_get : ∀ (hs : List Int) (a t : Int) (i : Nat) (x y : Int), (a :: hs)[i]? = some x → hs[i]? = some y → (chL a t hs)[i]? = some (x, y, t + (i : Nat))
  | [], _, _, i, x, y, _, h => by simp at h
  | h :: r, a, t, 0, x, y, h1, h2 => by
    have e1 : a = x := by simpa using h1
    have e2 : h = y := by simpa using h2
    subst e1 e2
    simp [chL]
  | h :: r, a, t, i + 1, x, y, h1, h2 => by
    have z := chL_get r h (t + 1) i x y (by simpa using h1) (by simpa using h2)
    show (chL h (t + 1) r)[i]? = _
    rw [z]
    have e : t + 1 + (i : Int) = t + ((i + 1 : Nat) : Int) := by omega
    rw [e]
/-- the entries of a history -/
def entsL (hs : List Int) : List Ent := (chL 0 1 hs).flatMap fun e => entL e.1 e.2.1 e.2.2
theorem entL_len (p l t : Int) : (entL p l t).length ≤ 2 := by
  unfold entL
  rw [List.length_append]
  split <;> split <;> simp
theorem flat_len : ∀ cs : List Ent, (cs.flatMap fun e => entL e.1 e.2.1 e.2.2).length ≤ 2 * cs.length
  | [] => by simp
  | c :: r => by
    have a := entL_len c.1 c.2.1 c.2.2
    have b := flat_len r
    rw [List.flatMap_cons, List.length_append, List.length_cons]
    omega
theorem entsL_len (hs : List Int) : (entsL hs).length ≤ 2 * hs.length := by
  have a := flat_len (chL 0 1 hs)
  rw [chL_len] at a
  exact a
theorem flat_take {cs : List Ent} {i : Nat} {c : Ent} (h : cs[i]? = some c) :
    (cs.take (i + 1)).flatMap (fun e => entL e.1 e.2.1 e.2.2) = (cs.take i).flatMap (fun e => entL e.1 e.2.1 e.2.2) ++ entL c.1 c.2.1 c.2.2 := by
  rw [List.take_succ, h, List.flatMap_append]
  simp
end Gd
namespace Gd
open PySem PySem.Spec PyProof.Rows L2
theorem seq_set2 {te : TE} {i : Nat} {r : TS} {D : Ends} {σ : L2.St} {H : Hp} (h : te σ H fun v H1 => r D (σ.set i (some v)) H1) : tSeq (tAsg te (gName i)) r D σ H := h
theorem ret_of2 {te : TE} {D : Ends} {σ : L2.St} {H : Hp} (h : te σ H D.rt) : tRet te D σ H := h
/-- a value by what is said of it -/
theorem val_of {te : TE} {σ : L2.St} {H : Hp} {Q : VK} (S : V → Hp → Prop) (h : ∀ Q' : VK, (∀ v H, S v H → Q' v H) → te σ H Q') (hQ : ∀ v H, S v H → Q v H) : te σ H Q := h Q hQ
end Gd
namespace Gd
open PySem PySem.Spec PyProof.Rows L2
theorem et_lst {K : PySem.W.Frag} {H : Hp} {L : Addr} {zs ys : List V} {v : V} {e : Ent} (hL : H L = some (.lst zs)) (h : ET K H v e) : ET K (upd H L (.lst ys)) v e := by
  obtain ⟨q, a, b⟩ := h
  exact ⟨q, a, tup_lst hL b⟩
theorem ets_lst {K : PySem.W.Frag} {H : Hp} {L : Addr} {zs ys : List V} (hL : H L = some (.lst zs)) : ∀ {xs : List V} {es : List Ent}, Paired (ET K H) xs es → Paired (ET K (upd H L (.lst ys))) xs es
  | _, _, .nil => .nil
  | _, _, .cons a b => .cons (et_lst hL a) (ets_lst hL b)
/-- f(*e) -/
def tStar1 (K : PySem.W.Frag) (sp : Sp) (E : XK) (te : TE) : TE := fun σ H Q => te σ H fun y H1 => ∃ a xs, y = V.ref a ∧ (SqT K H1 a xs ∨ SqL K H1 a xs) ∧ sp xs H1 Q E
theorem pe_callSK {X : Cx} {K : PySem.W.Frag} {CX : CXT} {k : Nat} {f : Addr} {sp : Sp} {E : XK} {x : Str} {p sp_ pos : Pos} {e : Expr} {te : TE} (hK : X.K = K) (F : FnR X.prog X.w X.K X.mg X.base CX k f sp) (hr : Room k X.A)
    (hk : PySem.W.keepIn X.K (.ref f) = true) (hg : Gl X x) (hm : X.mg x = some (.ref f)) (hx : Passes CX X E) (he : PE X e te) (hd : (x == ("__debug__" : Str)) = false := by decide)
    (hst : starEach [.Starred e sp_] X.env = [(true, eval e X.env)] := by rfl) : PE X (.Call (.Name x p) [.Starred e sp_] [] pos) (tStar1 K sp E te) := by
  subst hK
  exact StX.pe_callS1 F hr hk hg hm hx he hd hst
end Gd
namespace Gd
open PySem PySem.Spec PyProof.Rows L2
theorem pi_tupK {X : Cx} {K : PySem.W.Frag} {tg l : Expr} {tl : TE} (hK : X.K = K) (hl : PE X l tl) : PI X tg l (iTup K tl) := by
  subst hK
  exact pi_tup hl
theorem pi_listK {X : Cx} {K : PySem.W.Frag} {tg l : Expr} {tl : TE} (hK : X.K = K) (hl : PE X l tl) : PI X tg l (iList K tl) := by
  subst hK
  exact pi_list hl
theorem same_lst {H H' : Hp} {D : Addr} {o : HO} (s : Same H H') (n : H D = none) : Same H (upd H' D o) := by
  intro b u e
  rw [upd_ne (ne_of_none e n)]
  exact s b u e
end Gd
namespace Gd
open PySem PySem.Spec PyProof.Rows L2
/-- a tuple and () -/
def rNeT0 (K : PySem.W.Frag) : R2 := fun x y H Q => ∃ a b xs, x = .ref a ∧ y = .ref b ∧ SqT K H a xs ∧ SqT K H b [] ∧ Q (.bl (!xs.isEmpty)) H
theorem op_neT0 {X : Cx} (hu : X.A.units < cLine) : OpR X (compareOp .NotEq) (rNeT0 X.K) := by
  intro pins s σ H x y v u Q I rx ry h
  obtain ⟨a, b, xs, rfl, rfl, ha, hb, q⟩ := h
  cases rx
  cases ry
  obtain ⟨its, rv, t1, _⟩ := I.tuple ha
  obtain ⟨its2, rv2, t2, _⟩ := I.tuple hb
  cases rv2
  have z : (!((List.range (min its.toArray.size ([] : List Value).toArray.size)).all (fun _ => true) && its.toArray.size == ([] : List Value).toArray.size)) = !xs.isEmpty := by
    cases rv with
    | nil => rfl
    | cons a b => simp
  refine SeqAt.RcNeAt.tuples (e := fun _ => true) t1 t2 hu (fun j _ h2 => absurd h2 (by simp)) X.prog X.w _ _ ⟨.bl (!xs.isEmpty), H, I, ?_, q⟩
  rw [z]
  rfl
theorem ints_dvX {K : PySem.W.Frag} {F : V → PyData → Prop} (hF : ∀ i : Int, F (.int i) (.int i)) : ∀ ns : List Int, Paired F (ns.map V.int) (ns.map PyData.int)
  | [] => .nil
  | n :: ns => .cons (hF n) (ints_dvX (K := K) hF ns)
theorem rep_get (m : Nat) (ns : List Int) : ∃ rs : List Int, (List.replicate m (ns.map V.int)).flatten = rs.map V.int ∧ rs.length = m * ns.length ∧ ∀ r ∈ rs, r ∈ ns := by
  induction m with
  | zero => exact ⟨[], rfl, by simp, fun r hr => absurd hr List.not_mem_nil⟩
  | succ m ih =>
    obtain ⟨rs, e, hl, hm⟩ := ih
    refine ⟨ns ++ rs, ?_, ?_, ?_⟩
    · rw [List.replicate_succ, List.flatten_cons, e, List.map_append]
    · rw [List.length_append, hl, Nat.succ_mul, Nat.add_comm]
    · intro r hr
      rcases List.mem_append.mp hr with z | z
      · exact z
      · exact hm r z
end Gd
namespace Gd
open PySem PySem.Spec PyProof.Rows L2
/-- an if by an or whose first part is a comparison -/
theorem seq_or {te : TE} {c2 : TT} {t u r : TS} {D : Ends} {σ : L2.St} {H : Hp}
    (h : te σ H fun x H1 => ∃ b, x = .bl b ∧ (if b = true then t { D with nx := r D } σ H1 else c2 σ H1 fun b2 H2 => if b2 = true then t { D with nx := r D } σ H2 else u { D with nx := r D } σ H2)) :
    tSeq (tIfS (tOr (tTest te) c2) t u) r D σ H := by
  refine Eq.mp ?_ h
  show (te σ H _) = (te σ H _)
  refine congrArg (te σ H) (funext fun x => funext fun H1 => propext ⟨?_, ?_⟩)
  · rintro ⟨b, e, z⟩
    refine ⟨b, e, ?_⟩
    cases b with
    | true => exact z
    | false => exact z
  · rintro ⟨b, e, z⟩
    refine ⟨b, e, ?_⟩
    cases b with
    | true => exact z
    | false => exact z
end Gd

namespace K01
open PySem PySem.Spec PyProof.Rows L2 Gd
def top (i : Nat) : Stmt := PySem.Challenge.pw_movedrows_k01_histories_and_entries.main.body.getD i (.Pass ⟨0, 0, 0, 0⟩)
abbrev s__law_pen : Stmt := top 17
abbrev s__law_fresh : Stmt := top 18
abbrev s__law_draw : Stmt := top 19
abbrev s__law_one_of : Stmt := top 20
abbrev s_InvalidHistory___init__ : Stmt := inClass (top 1) 0
abbrev s_is_integer : Stmt := top 3
abbrev s_is_between : Stmt := top 4
abbrev s__law_is_number : Stmt := top 23
abbrev s_is_change : Stmt := top 10
abbrev s_require_history : Stmt := top 11
abbrev s__law_required : Stmt := top 27
abbrev s_told_entries : Stmt := top 12
abbrev s_changes_of : Stmt := top 13
abbrev s_entries_of : Stmt := top 14
abbrev s_is_elder : Stmt := top 15
abbrev s__law_at : Stmt := top 24
abbrev s__law_odd : Stmt := top 25
abbrev s__law_history : Stmt := top 21
abbrev s__law_told : Stmt := top 22
abbrev s__law_history_due : Stmt := top 26
abbrev s__law_value : Stmt := top 28
abbrev s__law_entries_due : Stmt := top 29
abbrev s_law : Stmt := top 30
abbrev FnP (K : PySem.W.Frag) (x : Str) (st : Stmt) (f : Addr) (fd : FuncData) : Prop :=
  FunD K x x (defArgs st) (defBody st) (defScope st) [] [] f fd
theorem sc__law_pen : FnScope ["script"] ["script"] (defScope s__law_pen) :=
  ⟨rfl, rfl, rfl, by decide +kernel, rfl, by decide +kernel, by decide +kernel⟩
theorem sc__law_fresh : FnScope ["pen", "seat", "given", "cell", "prime", "state", "found", "lap"] ["pen"] (defScope s__law_fresh) :=
  ⟨rfl, rfl, rfl, by decide +kernel, rfl, by decide +kernel, by decide +kernel⟩
theorem sc__law_draw : FnScope ["pen", "bound", "digit"] ["pen", "bound"] (defScope s__law_draw) :=
  ⟨rfl, rfl, rfl, by decide +kernel, rfl, by decide +kernel, by decide +kernel⟩
theorem sc__law_one_of : FnScope ["pen", "some"] ["pen", "some"] (defScope s__law_one_of) :=
  ⟨rfl, rfl, rfl, by decide +kernel, rfl, by decide +kernel, by decide +kernel⟩
theorem sc_InvalidHistory___init__ : FnScope ["self", "index"] ["self", "index"] (defScope s_InvalidHistory___init__) :=
  ⟨rfl, rfl, rfl, by decide +kernel, rfl, by decide +kernel, by decide +kernel⟩
theorem sc_is_integer : FnScope ["value"] ["value"] (defScope s_is_integer) :=
  ⟨rfl, rfl, rfl, by decide +kernel, rfl, by decide +kernel, by decide +kernel⟩
theorem sc_is_between : FnScope ["value", "least", "greatest"] ["value", "least", "greatest"] (defScope s_is_between) :=
  ⟨rfl, rfl, rfl, by decide +kernel, rfl, by decide +kernel, by decide +kernel⟩
theorem sc__law_is_number : FnScope ["value", "low", "high"] ["value", "low", "high"] (defScope s__law_is_number) :=
  ⟨rfl, rfl, rfl, by decide +kernel, rfl, by decide +kernel, by decide +kernel⟩
theorem sc_is_change : FnScope ["place", "later"] ["place", "later"] (defScope s_is_change) :=
  ⟨rfl, rfl, rfl, by decide +kernel, rfl, by decide +kernel, by decide +kernel⟩
theorem sc_require_history : FnScope ["value", "ahead", "index", "place"] ["value"] (defScope s_require_history) :=
  ⟨rfl, rfl, rfl, by decide +kernel, rfl, by decide +kernel, by decide +kernel⟩
theorem sc__law_required : FnScope ["value", "found", "e"] ["value"] (defScope s__law_required) :=
  ⟨rfl, rfl, rfl, by decide +kernel, rfl, by decide +kernel, by decide +kernel⟩
theorem sc_told_entries : FnScope ["place", "later", "stamp", "strike", "row"] ["place", "later", "stamp"] (defScope s_told_entries) :=
  ⟨rfl, rfl, rfl, by decide +kernel, rfl, by decide +kernel, by decide +kernel⟩
theorem sc_changes_of : FnScope ["history", "ahead", "stamp", "place", "later"] ["history"] (defScope s_changes_of) :=
  ⟨rfl, rfl, rfl, by decide +kernel, rfl, by decide +kernel, by decide +kernel⟩
theorem sc_entries_of : FnScope ["history", "change", "entry"] ["history"] (defScope s_entries_of) :=
  ⟨rfl, rfl, rfl, by decide +kernel, rfl, by decide +kernel, by decide +kernel⟩
theorem sc_is_elder : FnScope ["one", "other", "_", "kind", "stamp", "other_kind", "other_stamp"] ["one", "other"] (defScope s_is_elder) :=
  ⟨rfl, rfl, rfl, by decide +kernel, rfl, by decide +kernel, by decide +kernel⟩
theorem sc__law_at : FnScope ["rows", "place", "thing"] ["rows", "place", "thing"] (defScope s__law_at) :=
  ⟨rfl, rfl, rfl, by decide +kernel, rfl, by decide +kernel, by decide +kernel⟩
theorem sc__law_odd : FnScope ["pen", "some"] ["pen"] (defScope s__law_odd) :=
  ⟨rfl, rfl, rfl, by decide +kernel, rfl, by decide +kernel, by decide +kernel⟩
theorem sc__law_history : FnScope ["pen", "most", "found", "here", "lap"] ["pen", "most"] (defScope s__law_history) :=
  ⟨rfl, rfl, rfl, by decide +kernel, rfl, by decide +kernel, by decide +kernel⟩
theorem sc__law_told : FnScope ["here", "later", "mark", "found"] ["here", "later", "mark"] (defScope s__law_told) :=
  ⟨rfl, rfl, rfl, by decide +kernel, rfl, by decide +kernel, by decide +kernel⟩
theorem sc__law_history_due : FnScope ["value", "here", "at", "later"] ["value"] (defScope s__law_history_due) :=
  ⟨rfl, rfl, rfl, by decide +kernel, rfl, by decide +kernel, by decide +kernel⟩
theorem sc__law_value : FnScope ["pen", "some", "option", "lap"] ["pen"] (defScope s__law_value) :=
  ⟨rfl, rfl, rfl, by decide +kernel, rfl, by decide +kernel, by decide +kernel⟩
theorem sc__law_entries_due : FnScope ["history", "found", "here", "at", "later"] ["history"] (defScope s__law_entries_due) :=
  ⟨rfl, rfl, rfl, by decide +kernel, rfl, by decide +kernel, by decide +kernel⟩
theorem sc_law : FnScope ["script", "pen", "lap", "value", "due", "kept", "some", "here", "later", "mark", "one", "other"] ["script"] (defScope s_law) :=
  ⟨rfl, rfl, rfl, by decide +kernel, rfl, by decide +kernel, by decide +kernel⟩
/-- what the top has left -/
structure Txt (K : PySem.W.Frag) (mg : Str → Option Value) where
  f__law_pen : Addr
  d__law_pen : FuncData
  F__law_pen : FnP K "_law_pen" s__law_pen f__law_pen d__law_pen
  g__law_pen : mg "_law_pen" = some (.ref f__law_pen)
  f__law_fresh : Addr
  d__law_fresh : FuncData
  F__law_fresh : FnP K "_law_fresh" s__law_fresh f__law_fresh d__law_fresh
  g__law_fresh : mg "_law_fresh" = some (.ref f__law_fresh)
  f__law_draw : Addr
  d__law_draw : FuncData
  F__law_draw : FnP K "_law_draw" s__law_draw f__law_draw d__law_draw
  g__law_draw : mg "_law_draw" = some (.ref f__law_draw)
  f__law_one_of : Addr
  d__law_one_of : FuncData
  F__law_one_of : FnP K "_law_one_of" s__law_one_of f__law_one_of d__law_one_of
  g__law_one_of : mg "_law_one_of" = some (.ref f__law_one_of)
  d_InvalidHistory___init__ : FuncData
  F_InvalidHistory___init__ : FunD K "__init__" "InvalidHistory.__init__" (defArgs s_InvalidHistory___init__) (defBody s_InvalidHistory___init__) (defScope s_InvalidHistory___init__) [] [] (He.ma K (He.ga K "InvalidHistory") "__init__") d_InvalidHistory___init__
  f_is_integer : Addr
  d_is_integer : FuncData
  F_is_integer : FnP K "is_integer" s_is_integer f_is_integer d_is_integer
  g_is_integer : mg "is_integer" = some (.ref f_is_integer)
  f_is_between : Addr
  d_is_between : FuncData
  F_is_between : FnP K "is_between" s_is_between f_is_between d_is_between
  g_is_between : mg "is_between" = some (.ref f_is_between)
  f__law_is_number : Addr
  d__law_is_number : FuncData
  F__law_is_number : FnP K "_law_is_number" s__law_is_number f__law_is_number d__law_is_number
  g__law_is_number : mg "_law_is_number" = some (.ref f__law_is_number)
  f_is_change : Addr
  d_is_change : FuncData
  F_is_change : FnP K "is_change" s_is_change f_is_change d_is_change
  g_is_change : mg "is_change" = some (.ref f_is_change)
  f_require_history : Addr
  d_require_history : FuncData
  F_require_history : FnP K "require_history" s_require_history f_require_history d_require_history
  g_require_history : mg "require_history" = some (.ref f_require_history)
  f__law_required : Addr
  d__law_required : FuncData
  F__law_required : FnP K "_law_required" s__law_required f__law_required d__law_required
  g__law_required : mg "_law_required" = some (.ref f__law_required)
  f_told_entries : Addr
  d_told_entries : FuncData
  F_told_entries : FnP K "told_entries" s_told_entries f_told_entries d_told_entries
  g_told_entries : mg "told_entries" = some (.ref f_told_entries)
  f_changes_of : Addr
  d_changes_of : FuncData
  F_changes_of : FnP K "changes_of" s_changes_of f_changes_of d_changes_of
  g_changes_of : mg "changes_of" = some (.ref f_changes_of)
  f_entries_of : Addr
  d_entries_of : FuncData
  F_entries_of : FnP K "entries_of" s_entries_of f_entries_of d_entries_of
  g_entries_of : mg "entries_of" = some (.ref f_entries_of)
  f_is_elder : Addr
  d_is_elder : FuncData
  F_is_elder : FnP K "is_elder" s_is_elder f_is_elder d_is_elder
  g_is_elder : mg "is_elder" = some (.ref f_is_elder)
  f__law_at : Addr
  d__law_at : FuncData
  F__law_at : FnP K "_law_at" s__law_at f__law_at d__law_at
  g__law_at : mg "_law_at" = some (.ref f__law_at)
  f__law_odd : Addr
  d__law_odd : FuncData
  F__law_odd : FnP K "_law_odd" s__law_odd f__law_odd d__law_odd
  g__law_odd : mg "_law_odd" = some (.ref f__law_odd)
  f__law_history : Addr
  d__law_history : FuncData
  F__law_history : FnP K "_law_history" s__law_history f__law_history d__law_history
  g__law_history : mg "_law_history" = some (.ref f__law_history)
  f__law_told : Addr
  d__law_told : FuncData
  F__law_told : FnP K "_law_told" s__law_told f__law_told d__law_told
  g__law_told : mg "_law_told" = some (.ref f__law_told)
  f__law_history_due : Addr
  d__law_history_due : FuncData
  F__law_history_due : FnP K "_law_history_due" s__law_history_due f__law_history_due d__law_history_due
  g__law_history_due : mg "_law_history_due" = some (.ref f__law_history_due)
  f__law_value : Addr
  d__law_value : FuncData
  F__law_value : FnP K "_law_value" s__law_value f__law_value d__law_value
  g__law_value : mg "_law_value" = some (.ref f__law_value)
  f__law_entries_due : Addr
  d__law_entries_due : FuncData
  F__law_entries_due : FnP K "_law_entries_due" s__law_entries_due f__law_entries_due d__law_entries_due
  g__law_entries_due : mg "_law_entries_due" = some (.ref f__law_entries_due)
  f_law : Addr
  d_law : FuncData
  F_law : FnP K "law" s_law f_law d_law
  g_law : mg "law" = some (.ref f_law)
  c_MOST_CHANGES : ∃ t, mg "MOST_CHANGES" = some (.int 1000 t)
  c_NOWHERE : ∃ t, mg "NOWHERE" = some (.int 0 t)
  c_ROW : ∃ t, mg "ROW" = some (.int 1 t)
  c_STRIKE : ∃ t, mg "STRIKE" = some (.int 0 t)
  n_bool : mg "bool" = none
  n_enumerate : mg "enumerate" = none
  n_int : mg "int" = none
  n_isinstance : mg "isinstance" = none
  n_len : mg "len" = none
  n_list : mg "list" = none
  n_range : mg "range" = none
  n_repr : mg "repr" = none
  n_tuple : mg "tuple" = none
  n_zip : mg "zip" = none
  gx_InvalidHistory : mg "InvalidHistory" = some (.ref (He.ga K "InvalidHistory"))
  x_InvalidHistory : Xn K "InvalidHistory" ["index"]
def sp__law_pen (K : PySem.W.Frag) : Sp := fun vs H Q _ => ∃ (a : Addr) (ns : List Int), vs = [.ref a] ∧ SqL K H a (ns.map V.int) ∧
  ∀ p g H', Same H H' → H p = none → Pen H' p g → Q (.ref p) H'
def sp__law_fresh (K : PySem.W.Frag) : Sp := fun vs H Q _ => ∃ (p g : Addr) (ns : List Int) (seat left : Int), vs = [.ref p] ∧ PenAt H p g ns seat left ∧
  ∀ (r : Int) H', PenAt H' p g ns (seat + 1) left → But p H H' → Q (.int r) H'
def sp__law_draw (K : PySem.W.Frag) : Sp := fun vs H Q _ => ∃ (p g : Addr) (b : Int), vs = [.ref p, .int b] ∧ Pen H p g ∧ 0 < b ∧ b.natAbs < 2 ^ 9000 ∧
  ∀ (n : Int) H', 0 ≤ n → n < b → Pen H' p g → But p H H' → Q (.int n) H'
def sp__law_one_of (K : PySem.W.Frag) : Sp := fun vs H Q _ => ∃ (p g l : Addr) (xs : List V), vs = [.ref p, .ref l] ∧ Pen H p g ∧ l ≠ p ∧ H l = some (.lst xs) ∧ xs ≠ [] ∧ xs.length ≤ 1000 ∧
  ∀ (v : V) H', v ∈ xs → Pen H' p g → But p H H' → Q v H'
/-! ### the data -/
def oddL : List PyData := [.none, .bool true, .bool false, .int (-1), .int 0, .int 1, .int 2, .int 3, .int 5, .int 6, .int 7, .str "", .str "0", .str "a", .str "over",
  .tuple [], .list [], .dict [], .tuple [.int 0], .tuple [.int 1, .int 2], .tuple [.int 0, .int 1, .int 2], .int (10 ^ 40), .tuple [.tuple []], .list [.int 1]]
/-- a part of a value -/
def Lf (d : PyData) : Prop := d ∈ oddL ∨ ∃ i : Int, d = .int i ∧ -1 ≤ i ∧ i ≤ 6
/-- a value that the law hands in -/
def Vl (d : PyData) : Prop := Lf d ∨ (∃ ds, d = .tuple ds ∧ (∀ e ∈ ds, Lf e) ∧ ds.length ≤ 1100) ∨ ∃ ns : List Int, d = .list (ns.map PyData.int) ∧ (∀ n ∈ ns, 0 ≤ n ∧ n < 6) ∧ ns.length ≤ 40
theorem strOk_app {a b : Str} (ha : PyData.strOk a = true) (hb : PyData.strOk b = true) : PyData.strOk (a ++ b) = true := by
  unfold PyData.strOk at *
  show (a.cps ++ b.cps).all _ = true
  rw [Array.all_append, ha, hb]
  rfl
theorem strOk_lit (s : String) : PyData.strOk (Str.ofString s) = true := by
  unfold PyData.strOk
  rw [PySem.Str.ofString_eq_toList]
  show ((s.toList.map Char.toNat).toArray).all _ = true
  rw [List.all_toArray, List.all_map, List.all_eq_true]
  intro c _
  have h := c.valid
  refine decide_eq_true ?_
  show c.val.toNat < 0x110000
  rcases h with h | h
  · exact Nat.lt_trans h (by decide)
  · exact h.2
/-- what repr and == want of a part -/
structure El (d : PyData) : Prop where
  sh : d.showable = true
  lv : d.leavesShort 400 = true
  dp : d.depth ≤ 3
  bk : d.bulk ≤ 10
  ok : PyData.strOk d.shown = true
  sp : SeqAt.shaped d = true ∨ d = .dict []
theorem el_int {i : Int} (h : Sm i) : El (.int i) := by
  refine ⟨by simp [PyData.showable, h.log], by simp [PyData.leavesShort, h.short], by simp [PyData.depth], by simp [PyData.bulk], strOk_lit _, .inl ?_⟩
  simp [SeqAt.shaped, PyData.canLay0, PyData.depth]
theorem el_odd : ∀ d ∈ oddL, El d := by
  have h : ∀ d ∈ oddL, (match d with | .int _ => true | d => d.showable && d.leavesShort 400 && decide (d.depth ≤ 3) && decide (d.bulk ≤ 10) && PyData.strOk d.shown && (SeqAt.shaped d || (match d with | .dict [] => true | _ => false))) = true := by
    decide +kernel
  have hi : ∀ d ∈ oddL, (match d with | .int i => decide (i.natAbs < 2 ^ 200) | _ => true) = true := by decide +kernel
  intro d hd
  have a := h d hd
  have b := hi d hd
  cases d with
  | int i =>
    have b' : i.natAbs < 2 ^ 200 := of_decide_eq_true b
    exact el_int (Nat.lt_of_lt_of_le b' (Nat.pow_le_pow_right (by decide) (by decide)))
  | _ =>
    simp only [Bool.and_eq_true, Bool.or_eq_true, decide_eq_true_eq] at a
    obtain ⟨⟨⟨⟨⟨a1, a2⟩, a3⟩, a4⟩, a5⟩, a6⟩ := a
    refine ⟨a1, a2, a3, a4, a5, ?_⟩
    rcases a6 with a6 | a6
    · exact .inl a6
    · first
        | (exfalso; revert a6; simp; done)
        | (split at a6
           · rename_i e
             exact .inr e
           · cases a6)
theorem el_lf {d : PyData} (h : Lf d) : El d := by
  rcases h with h | ⟨i, rfl, h0, h1⟩
  · exact el_odd d h
  · exact el_int (Sm.of (by omega))
theorem lf_sub {ds : List PyData} (h : Lf (.tuple ds)) : (∀ e ∈ ds, Lf e) ∧ ds.length ≤ 40 := by
  rcases h with h | ⟨i, e, _⟩
  · simp only [oddL, List.mem_cons, List.not_mem_nil, or_false, PyData.tuple.injEq, reduceCtorEq, false_or] at h
    rcases h with rfl | rfl | rfl | rfl | rfl
    · exact ⟨fun e he => absurd he List.not_mem_nil, by decide⟩
    · exact ⟨fun e he => .inr ⟨0, List.mem_singleton.mp he, by decide, by decide⟩, by decide⟩
    · refine ⟨fun e he => ?_, by decide⟩
      simp at he
      rcases he with rfl | rfl
      · exact .inr ⟨1, rfl, by decide, by decide⟩
      · exact .inr ⟨2, rfl, by decide, by decide⟩
    · refine ⟨fun e he => ?_, by decide⟩
      simp at he
      rcases he with rfl | rfl | rfl
      · exact .inr ⟨0, rfl, by decide, by decide⟩
      · exact .inr ⟨1, rfl, by decide, by decide⟩
      · exact .inr ⟨2, rfl, by decide, by decide⟩
    · refine ⟨fun e he => ?_, by decide⟩
      rw [List.mem_singleton.mp he]
      exact .inl (by simp [oddL])
  · cases e
theorem strOk_lits (s : String) : PyData.strOk (s : Str) = true := strOk_lit s
theorem strOk_join : ∀ ts : List Str, (∀ t ∈ ts, PyData.strOk t = true) → PyData.strOk (Str.join ", " ts) = true
  | [], _ => by decide +kernel
  | [x], h => h x (List.mem_singleton.mpr rfl)
  | x :: y :: r, h => by
    show PyData.strOk (x ++ ", " ++ Str.join ", " (y :: r)) = true
    exact strOk_app (strOk_app (h x (List.mem_cons_self ..)) (strOk_lit _)) (strOk_join (y :: r) fun t ht => h t (List.mem_cons_of_mem _ ht))
theorem strOk_tuple (ts : List Str) (h : ∀ t ∈ ts, PyData.strOk t = true) : PyData.strOk (tupleText ts) = true := by
  unfold tupleText
  exact strOk_app (strOk_app (strOk_lit _) (strOk_join ts h)) (strOk_lit _)
theorem strOk_from : ∀ (ts : List Str) (k : Nat) (acc : Str), PyData.strOk acc = true → (∀ t ∈ ts, PyData.strOk t = true) → PyData.strOk (textFrom k acc ts) = true
  | [], _, acc, ha, _ => ha
  | t :: r, k, acc, ha, h => by
    show PyData.strOk (textFrom (k + 1) (acc ++ (if k > 0 then ", " else "" : String) ++ t) r) = true
    exact strOk_from r _ _ (strOk_app (strOk_app ha (strOk_lit _)) (h t (List.mem_cons_self ..))) fun t ht => h t (List.mem_cons_of_mem _ ht)
theorem strOk_list (ts : List Str) (h : ∀ t ∈ ts, PyData.strOk t = true) : PyData.strOk (listText ts) = true := by
  unfold listText
  exact strOk_app (strOk_from ts _ _ (strOk_lit _) h) (strOk_lit _)
/-- a list of parts -/
theorem els_all : ∀ ds : List PyData, (∀ e ∈ ds, El e) → PyData.showableAll ds = true ∧ PyData.leavesShortAll 400 ds = true ∧ PyData.depthAll ds ≤ 3 ∧
    PyData.bulkAll ds ≤ 11 * ds.length ∧ ∀ t ∈ PyData.shownAll ds, PyData.strOk t = true
  | [], _ => ⟨rfl, rfl, Nat.zero_le _, Nat.zero_le _, fun t ht => absurd ht List.not_mem_nil⟩
  | d :: ds, h => by
    obtain ⟨a1, a2, a3, a4, a5⟩ := els_all ds fun e he => h e (List.mem_cons_of_mem _ he)
    have b := h d (List.mem_cons_self ..)
    refine ⟨by simp [PyData.showableAll, b.sh, a1], by simp [PyData.leavesShortAll, b.lv, a2], ?_, ?_, ?_⟩
    · have := b.dp
      simp only [PyData.depthAll]
      omega
    · have := b.bk
      simp only [PyData.bulkAll, List.length_cons]
      omega
    · intro t ht
      simp only [PyData.shownAll, List.mem_cons] at ht
      rcases ht with rfl | ht
      · exact b.ok
      · exact a5 t ht
theorem sh_of {d : PyData} (h1 : d.showable = true) (h2 : d.leavesShort 400 = true) (h3 : d.depth ≤ 64) (h4 : d.bulk ≤ 30000) : Sh d := by
  refine ⟨h1, h3, ?_⟩
  have a := PyData.shown_le_bulk 400 (by decide) d h2
  rw [sizeLine_eq]
  omega
theorem vl_ok {d : PyData} (h : Vl d) : Sh d ∧ PyData.strOk d.shown = true := by
  rcases h with h | ⟨ds, rfl, h, hl⟩ | ⟨ns, rfl, h, hl⟩
  · have e := el_lf h
    have e1 := e.dp
    have e2 := e.bk
    exact ⟨sh_of e.sh e.lv (by omega) (by omega), e.ok⟩
  · obtain ⟨a1, a2, a3, a4, a5⟩ := els_all ds fun e he => el_lf (h e he)
    refine ⟨sh_of (by simpa [PyData.showable] using a1) (by simpa [PyData.leavesShort] using a2) (by simp only [PyData.depth]; omega) (by simp only [PyData.bulk]; omega), ?_⟩
    simp only [PyData.shown]
    exact strOk_tuple _ a5
  · have hi : ∀ e ∈ ns.map PyData.int, El e := by
      intro e he
      obtain ⟨n, hn, rfl⟩ := List.mem_map.mp he
      have := h n hn
      exact el_int (Sm.of (by omega))
    obtain ⟨a1, a2, a3, a4, a5⟩ := els_all _ hi
    have hl' : (ns.map PyData.int).length ≤ 40 := by rw [List.length_map]; exact hl
    refine ⟨sh_of (by simpa [PyData.showable] using a1) (by simpa [PyData.leavesShort] using a2) (by simp only [PyData.depth]; omega) (by simp only [PyData.bulk]; omega), ?_⟩
    simp only [PyData.shown]
    exact strOk_list _ a5
/-! ### what is due -/
def isAct (lo hi : Int) : PyData → Bool
  | .int i => decide (lo ≤ i ∧ i ≤ hi)
  | _ => false
def badH : Int → Nat → List PyData → Option Nat
  | _, _, [] => none
  | a, i, d :: r => match d with
    | .int p => if 0 ≤ p ∧ p ≤ 2 ∧ (a ≠ 0 ∨ p ≠ 0) then badH p (i + 1) r else some i
    | _ => some i
/-- none: nothing is wrong; some ix: the index told -/
def due : PyData → Option PyData
  | .tuple ds => if ds.length ≤ 1000 then (badH 0 0 ds).map fun i => .int (i : Nat) else some .none
  | _ => some .none
def dueD (d : PyData) : PyData := match due d with
  | none => .tuple [.str "told", .str d.shown]
  | some ix => .tuple [.str "index", ix]
def dueV (d : PyData) : PyData := match due d with
  | none => .none
  | some ix => .tuple [ix]
theorem due_ix {d ix : PyData} (h : due d = some ix) : ix = .none ∨ ∃ i : Nat, ix = .int i := by
  cases d with
  | tuple ds =>
    have h' : (if ds.length ≤ 1000 then (badH 0 0 ds).map (fun i => PyData.int (i : Nat)) else some .none) = some ix := h
    by_cases hl : ds.length ≤ 1000
    · rw [if_pos hl] at h'
      obtain ⟨i, _, e⟩ := Option.map_eq_some_iff.mp h'
      exact .inr ⟨i, e.symm⟩
    · rw [if_neg hl] at h'
      injection h' with h'
      exact .inl h'.symm
  | _ =>
    injection h with h
    exact .inl h.symm
theorem bad_no {a : Int} {i : Nat} {d : PyData} {r : List PyData} (h : isAct 0 2 d = false) : badH a i (d :: r) = some i := by
  cases d with
  | int p =>
    have h' : ¬ (0 ≤ p ∧ p ≤ 2) := of_decide_eq_false h
    show (if _ then _ else _) = _
    exact if_neg fun z => h' ⟨z.1, z.2.1⟩
  | _ => rfl
theorem bad_int {a p : Int} {i : Nat} {r : List PyData} (h : isAct 0 2 (.int p) = true) : badH a i (.int p :: r) = if a ≠ 0 ∨ p ≠ 0 then badH p (i + 1) r else some i := by
  have h' : 0 ≤ p ∧ p ≤ 2 := of_decide_eq_true h
  show (if _ then _ else _) = _
  by_cases z : a ≠ 0 ∨ p ≠ 0
  · rw [if_pos z, if_pos ⟨h'.1, h'.2, z⟩]
  · rw [if_neg z, if_neg fun y => z y.2.2]
theorem due_not {d : PyData} (h : isTup d = false) : due d = some .none := by
  cases d with
  | tuple ds => cases h
  | _ => rfl
theorem due_long {ds : List PyData} (h : ¬ ds.length ≤ 1000) : due (.tuple ds) = some .none := if_neg h
theorem due_ok {ds : List PyData} (h : ds.length ≤ 1000) : due (.tuple ds) = (badH 0 0 ds).map fun i => .int (i : Nat) := if_pos h
theorem drop_cons {ds : List PyData} {i : Nat} {d : PyData} (h : ds[i]? = some d) : ds.drop i = d :: ds.drop (i + 1) := by
  obtain ⟨hl, e⟩ := List.getElem?_eq_some_iff.mp h
  rw [List.drop_eq_getElem_cons hl, e]
/-! ### promises -/
def sp_InvalidHistory___init__ (K : PySem.W.Frag) : Sp := spInit1 "index" K
def sp_is_integer (K : PySem.W.Frag) : Sp := fun vs H Q _ => ∃ (v : V) (d : PyData), vs = [v] ∧ Dv K H v d ∧ Q (.bl (isInt d && !isBool d)) H
def sp_is_between (K : PySem.W.Frag) : Sp := fun vs H Q _ => ∃ (v : V) (d : PyData) (lo hi : Int), vs = [v, .int lo, .int hi] ∧ Dv K H v d ∧ Q (.bl (isAct lo hi d)) H
def sp__law_is_number (K : PySem.W.Frag) : Sp := sp_is_between K
def sp_is_change (K : PySem.W.Frag) : Sp := fun vs H Q _ => ∃ a b : Int, vs = [.int a, .int b] ∧ Q (.bl (decide (a ≠ 0 ∨ b ≠ 0))) H
def sp_require_history (K : PySem.W.Frag) : Sp := fun vs H Q E => ∃ (v : V) (d : PyData), vs = [v] ∧ Dw K H v d ∧
  (due d = none → ∀ H', Same H H' → Q v H') ∧
  ∀ ix, due d = some ix → ∀ y dd H', Dp K H' y ix → Same H H' → H' dd = some (.xd [("index", y)]) → E (.ref (He.ga K "InvalidHistory")) (some dd) H'
def sp__law_required (K : PySem.W.Frag) : Sp := fun vs H Q _ => ∃ (v : V) (d : PyData), vs = [v] ∧ Dw K H v d ∧ Sh d ∧ ∀ v' H', Same H H' → Dp K H' v' (dueD d) → Q v' H'
def sp__law_history_due (K : PySem.W.Frag) : Sp := fun vs H Q _ => ∃ (v : V) (d : PyData), vs = [v] ∧ Dw K H v d ∧ ∀ v' H', Same H H' → Dp K H' v' (dueV d) → Q v' H'
def sp_told_entries (K : PySem.W.Frag) : Sp := fun vs H Q _ => ∃ p l t : Int, vs = [.int p, .int l, .int t] ∧
  ∀ a xs H', Same H H' → SqT K H' a xs → Paired (ET K H') xs (entL p l t) → Q (.ref a) H'
def sp_changes_of (K : PySem.W.Frag) : Sp := fun vs H Q _ => ∃ (a : Addr) (hs : List Int), vs = [.ref a] ∧ SqT K H a (hs.map V.int) ∧ hs.length ≤ 1100 ∧
  ∀ D xs H', Same H H' → H' D = some (.lst xs) → Paired (ET K H') xs (chL 0 1 hs) → Q (.ref D) H'
def sp_entries_of (K : PySem.W.Frag) : Sp := fun vs H Q _ => ∃ (a : Addr) (hs : List Int), vs = [.ref a] ∧ SqT K H a (hs.map V.int) ∧ hs.length ≤ 1100 ∧
  ∀ t xs H', Same H H' → SqT K H' t xs → Paired (ET K H') xs (entsL hs) → Q (.ref t) H'
def sp__law_entries_due (K : PySem.W.Frag) : Sp := sp_entries_of K
def sp__law_told (K : PySem.W.Frag) : Sp := fun vs H Q _ => ∃ p l t : Int, vs = [.int p, .int l, .int t] ∧
  ∀ a xs H', Same H H' → H a = none → H' a = some (.lst xs) → Paired (ET K H') xs (entL p l t) → Q (.ref a) H'
/-- an entry at a tuple -/
def Ea (K : PySem.W.Frag) (H : Hp) (v : V) (key kind stamp : Int) : Prop := ET K H v (key, kind, stamp)
def sp_is_elder (K : PySem.W.Frag) : Sp := fun vs H Q _ => ∃ (o1 o2 : V) (k1 a1 s1 k2 a2 s2 : Int), vs = [o1, o2] ∧ Ea K H o1 k1 a1 s1 ∧ Ea K H o2 k2 a2 s2 ∧ ∀ H', Same H H' → Q (.bl (HT.lexLt [s1, a1] [s2, a2])) H'
/-- a tuple with another thing at a place -/
def spAt (K : PySem.W.Frag) (vs : List V) (H : Hp) (Q : VK) (a : Addr) (xs : List V) (i : Int) (y : V) : Prop :=
  vs = [.ref a, .int i, y] ∧ SqT K H a xs ∧ xs.length ≤ 1000 ∧ 0 ≤ i ∧ i < xs.length ∧ ∀ t H', Same H H' → H' t = some (.tup (xs.set i.toNat y)) → Q (.ref t) H'
def sp__law_at (K : PySem.W.Frag) : Sp := fun vs H Q _ => ∃ a xs i y, spAt K vs H Q a xs i y
/-- a history, drawn -/
def HistAt (H : Hp) (t : Addr) (hs : List Int) (most : Nat) : Prop := H t = some (.tup (hs.map V.int)) ∧ hs.length ≤ most ∧ ∀ h ∈ hs, 0 ≤ h ∧ h ≤ 2
def sp__law_history (K : PySem.W.Frag) : Sp := fun vs H Q _ => ∃ (p g : Addr) (most : Nat), vs = [.ref p, .int most] ∧ Pen H p g ∧ most ≤ 100 ∧ ∀ t hs H', Pen H' p g → But p H H' → HistAt H' t hs most → Q (.ref t) H'
/-- such a value, whatever is drawn -/
def DvB (p : Addr) (K : PySem.W.Frag) (H : Hp) (v : V) (d : PyData) : Prop := ∀ H2, But p H H2 → Dv K H2 v d
def DwS (p : Addr) (K : PySem.W.Frag) (H : Hp) (v : V) (d : PyData) : Prop := (isTup d = false ∧ DvB p K H v d) ∨
  ∃ a xs ds, v = .ref a ∧ d = .tuple ds ∧ H a = some (.tup xs) ∧ a ≠ p ∧ Paired (DvB p K H) xs ds
theorem dvB_but {p : Addr} {K : PySem.W.Frag} {H H' : Hp} {v : V} {d : PyData} (B : But p H H') (h : DvB p K H v d) : DvB p K H' v d := fun H2 B2 => h H2 (B.trans B2)
theorem dvBs_but {p : Addr} {K : PySem.W.Frag} {H H' : Hp} (B : But p H H') : ∀ {xs : List V} {ds : List PyData}, Paired (DvB p K H) xs ds → Paired (DvB p K H') xs ds
  | _, _, .nil => .nil
  | _, _, .cons a b => .cons (dvB_but B a) (dvBs_but B b)
theorem dvBs_dv {p : Addr} {K : PySem.W.Frag} {H : Hp} : ∀ {xs : List V} {ds : List PyData}, Paired (DvB p K H) xs ds → Paired (Dv K H) xs ds
  | _, _, .nil => .nil
  | _, _, .cons a b => .cons (a H (But.refl p H)) (dvBs_dv b)
theorem dwS_but {p : Addr} {K : PySem.W.Frag} {H H' : Hp} {v : V} {d : PyData} (B : But p H H') (h : DwS p K H v d) : DwS p K H' v d := by
  rcases h with ⟨h1, h2⟩ | ⟨a, xs, ds, rfl, rfl, h, n, hp⟩
  · exact .inl ⟨h1, dvB_but B h2⟩
  · exact .inr ⟨a, xs, ds, rfl, rfl, B _ _ h n, n, dvBs_but B hp⟩
theorem dwS_dw {p : Addr} {K : PySem.W.Frag} {H : Hp} {v : V} {d : PyData} (h : DwS p K H v d) : Dw K H v d := by
  rcases h with ⟨h1, h2⟩ | ⟨a, xs, ds, rfl, rfl, h, n, hp⟩
  · exact .dv (h2 H (But.refl p H))
  · exact .tup (SqT.of h) (dvBs_dv hp)
theorem same_but {p : Addr} {H H' : Hp} (s : Same H H') : But p H H' := fun b o h _ => s b o h
theorem paired_in {F : V → PyData → Prop} : ∀ {xs : List V} {ds : List PyData} {v : V} {j : Nat}, Paired F xs ds → xs[j]? = some v → ∃ d, d ∈ ds ∧ F v d
  | _, _, v, j, .nil, h => by simp at h
  | _, _, v, 0, .cons a b, h => by
    cases h
    exact ⟨_, List.mem_cons_self .., a⟩
  | _, _, v, j + 1, .cons a b, h => by
    obtain ⟨d, m, r⟩ := paired_in b (show _ = some v from h)
    exact ⟨d, List.mem_cons_of_mem _ m, r⟩
theorem paired_set {F : V → PyData → Prop} : ∀ {xs : List V} {ds : List PyData} {v : V} {d : PyData} (j : Nat), Paired F xs ds → F v d → Paired F (xs.set j v) (ds.set j d)
  | _, _, v, d, j, .nil, h => .nil
  | _, _, v, d, 0, .cons a b, h => .cons h b
  | _, _, v, d, j + 1, .cons a b, h => .cons a (paired_set j b h)
def sp__law_odd (K : PySem.W.Frag) : Sp := fun vs H Q _ => ∃ p g, vs = [.ref p] ∧ Pen H p g ∧ ∀ v d H', Pen H' p g → But p H H' → DvB p K H' v d → DwS p K H' v d → d ∈ oddL → Q v H'
def sp__law_value (K : PySem.W.Frag) : Sp := fun vs H Q _ => ∃ p g, vs = [.ref p] ∧ Pen H p g ∧ ∀ v d H', Pen H' p g → But p H H' → DwS p K H' v d → Vl d → Q v H'
theorem shaped_two {a b : PyData} (h1 : a.canLay0 = true) (h2 : b.canLay0 = true) (h3 : a.depth = 0) (h4 : b.depth = 0) : SeqAt.shaped (.tuple [a, b]) = true := by
  simp [SeqAt.shaped, PyData.canLay0, PyData.canLayAll0, h1, h2, PyData.depth, PyData.depthAll, h3, h4]
theorem shaped_due {d : PyData} (h : PyData.strOk d.shown = true) : SeqAt.shaped (dueD d) = true := by
  unfold dueD
  cases e : due d with
  | none => exact shaped_two (by decide +kernel) (by simpa [PyData.canLay0] using h) rfl rfl
  | some ix =>
    rcases due_ix e with rfl | ⟨i, rfl⟩
    · exact shaped_two (by decide +kernel) rfl rfl rfl
    · exact shaped_two (by decide +kernel) rfl rfl rfl
def sp_law (K : PySem.W.Frag) : Sp := fun vs H Q _ => ∃ (a : Addr) (ns : List Int), vs = [.ref a] ∧ SqL K H a (ns.map V.int) ∧ ns.length ≤ 63 ∧ ∀ H', Q (.bl true) H'

section
variable {P : Program} {w : World} {K : PySem.W.Frag} {mg : Str → Option Value} {base : Heap}
theorem bind__law_pen (T : Txt K mg) : Binds K T.d__law_pen ["script"] [] :=
  T.F__law_pen.bindsN fun _ _ _ _ _ _ us hl => match us, hl with | [_], _ => rfl
theorem bind__law_fresh (T : Txt K mg) : Binds K T.d__law_fresh ["pen"] [] :=
  T.F__law_fresh.bindsN fun _ _ _ _ _ _ us hl => match us, hl with | [_], _ => rfl
theorem bind__law_draw (T : Txt K mg) : Binds K T.d__law_draw ["pen", "bound"] [] :=
  T.F__law_draw.bindsN fun _ _ _ _ _ _ us hl => match us, hl with | [_, _], _ => rfl
theorem bind__law_one_of (T : Txt K mg) : Binds K T.d__law_one_of ["pen", "some"] [] :=
  T.F__law_one_of.bindsN fun _ _ _ _ _ _ us hl => match us, hl with | [_, _], _ => rfl
theorem bind_InvalidHistory___init__ (T : Txt K mg) : Binds K T.d_InvalidHistory___init__ ["self", "index"] [] :=
  T.F_InvalidHistory___init__.bindsN fun _ _ _ _ _ _ us hl => match us, hl with | [_, _], _ => rfl
theorem bind_is_integer (T : Txt K mg) : Binds K T.d_is_integer ["value"] [] :=
  T.F_is_integer.bindsN fun _ _ _ _ _ _ us hl => match us, hl with | [_], _ => rfl
theorem bind_is_between (T : Txt K mg) : Binds K T.d_is_between ["value", "least", "greatest"] [] :=
  T.F_is_between.bindsN fun _ _ _ _ _ _ us hl => match us, hl with | [_, _, _], _ => rfl
theorem bind__law_is_number (T : Txt K mg) : Binds K T.d__law_is_number ["value", "low", "high"] [] :=
  T.F__law_is_number.bindsN fun _ _ _ _ _ _ us hl => match us, hl with | [_, _, _], _ => rfl
theorem bind_is_change (T : Txt K mg) : Binds K T.d_is_change ["place", "later"] [] :=
  T.F_is_change.bindsN fun _ _ _ _ _ _ us hl => match us, hl with | [_, _], _ => rfl
theorem bind_require_history (T : Txt K mg) : Binds K T.d_require_history ["value"] [] :=
  T.F_require_history.bindsN fun _ _ _ _ _ _ us hl => match us, hl with | [_], _ => rfl
theorem bind__law_required (T : Txt K mg) : Binds K T.d__law_required ["value"] [] :=
  T.F__law_required.bindsN fun _ _ _ _ _ _ us hl => match us, hl with | [_], _ => rfl
theorem bind_told_entries (T : Txt K mg) : Binds K T.d_told_entries ["place", "later", "stamp"] [] :=
  T.F_told_entries.bindsN fun _ _ _ _ _ _ us hl => match us, hl with | [_, _, _], _ => rfl
theorem bind_changes_of (T : Txt K mg) : Binds K T.d_changes_of ["history"] [] :=
  T.F_changes_of.bindsN fun _ _ _ _ _ _ us hl => match us, hl with | [_], _ => rfl
theorem bind_entries_of (T : Txt K mg) : Binds K T.d_entries_of ["history"] [] :=
  T.F_entries_of.bindsN fun _ _ _ _ _ _ us hl => match us, hl with | [_], _ => rfl
theorem bind_is_elder (T : Txt K mg) : Binds K T.d_is_elder ["one", "other"] [] :=
  T.F_is_elder.bindsN fun _ _ _ _ _ _ us hl => match us, hl with | [_, _], _ => rfl
theorem bind__law_at (T : Txt K mg) : Binds K T.d__law_at ["rows", "place", "thing"] [] :=
  T.F__law_at.bindsN fun _ _ _ _ _ _ us hl => match us, hl with | [_, _, _], _ => rfl
theorem bind__law_odd (T : Txt K mg) : Binds K T.d__law_odd ["pen"] [] :=
  T.F__law_odd.bindsN fun _ _ _ _ _ _ us hl => match us, hl with | [_], _ => rfl
theorem bind__law_history (T : Txt K mg) : Binds K T.d__law_history ["pen", "most"] [] :=
  T.F__law_history.bindsN fun _ _ _ _ _ _ us hl => match us, hl with | [_, _], _ => rfl
theorem bind__law_told (T : Txt K mg) : Binds K T.d__law_told ["here", "later", "mark"] [] :=
  T.F__law_told.bindsN fun _ _ _ _ _ _ us hl => match us, hl with | [_, _, _], _ => rfl
theorem bind__law_history_due (T : Txt K mg) : Binds K T.d__law_history_due ["value"] [] :=
  T.F__law_history_due.bindsN fun _ _ _ _ _ _ us hl => match us, hl with | [_], _ => rfl
theorem bind__law_value (T : Txt K mg) : Binds K T.d__law_value ["pen"] [] :=
  T.F__law_value.bindsN fun _ _ _ _ _ _ us hl => match us, hl with | [_], _ => rfl
theorem bind__law_entries_due (T : Txt K mg) : Binds K T.d__law_entries_due ["history"] [] :=
  T.F__law_entries_due.bindsN fun _ _ _ _ _ _ us hl => match us, hl with | [_], _ => rfl
theorem bind_law (T : Txt K mg) : Binds K T.d_law ["script"] [] :=
  T.F_law.bindsN fun _ _ _ _ _ _ us hl => match us, hl with | [_], _ => rfl
theorem ok__law_pen (T : Txt K mg) : FnOk P w K mg base CX0 1 T.f__law_pen T.d__law_pen ["script"] (sp__law_pen K) := by
  refine T.F__law_pen.ok sc__law_pen (fun vs H Q E h => ?_) (fun cdv A outer s H vs Q E hr h => ⟨_, PSs.nox (pss_one (ps_ret (pe_lst (pa_cons (pe_callTy call_list_of (by rfl) T.n_list (by decide +kernel) (pa_cons (pe_slice sl_list (pv 0) po_none (po_some pe_int)) pa_nil)) (pa_cons pe_int (pa_cons pe_int pa_nil)))))), ?_⟩)
  · obtain ⟨a, ns, rfl, _⟩ := h
    rfl
  · obtain ⟨a, ns, rfl, hS, k⟩ := h
    refine ⟨_, rfl, 63, rfl, a, _, rfl, hS, fun p1 n1 => ⟨p1, _, rfl, .inl (SqL.of upd_same), fun g ng => ⟨by show 3 ≤ sizeLine; decide, fun p np => ?_⟩⟩⟩
    have s1 : Same H (upd H p1 (.lst (cutV (ns.map V.int) none (some 63)))) := same_new n1
    have s2 := s1.trans (same_new (o := .lst (cutV (ns.map V.int) none (some 63))) ng)
    have pg : p ≠ g := by
      intro e
      subst e
      rw [upd_same] at np
      cases np
    refine k p g _ (s2.trans (same_new np)) (s2.free np) ⟨ns.take 63, 0, 0, pg, upd_same, ?_⟩
    rw [upd_ne pg.symm, upd_same]
    have e : cutV (ns.map V.int) none (some 63) = (ns.take 63).map V.int := by
      rw [List.map_take]
      unfold cutV
      show ((ns.map V.int).drop 0).take _ = _
      rw [List.drop_zero]
      show (ns.map V.int).take (min 63 (ns.map V.int).length - 0) = _
      rw [Nat.sub_zero, Nat.min_comm, List.take_eq_take_iff]
      omega
    rw [e]

theorem ok__law_fresh (T : Txt K mg) : FnOk P w K mg base CX0 1 T.f__law_fresh T.d__law_fresh ["pen"] (sp__law_fresh K) := by
  refine T.F__law_fresh.ok sc__law_fresh (fun vs H Q E h => ?_) (fun cdv A outer s H vs Q E hr h => ⟨_, PSs.nox (pss_cons (ps_par (i := 1) (j := 2) (by rfl) sc__law_fresh.nd rfl rfl (by decide) rfl rfl (pa_cons (pe_ix ix_list (pv 0) pe_int (fun _ _ => rfl)) (pa_cons (pe_ix ix_list (pv 0) pe_int (fun _ _ => rfl)) pa_nil)) (by rfl))
      (pss_cons (ps_asg (pe_op op_add (pv 1) pe_int) (pg_sub (pv 0) pe_int set_list))
      (pss_cons (ps_set (i := 3) sc__law_fresh.nd rfl (Or.inl rfl) (pe_ifExp (pt_cmpR (op_neD hr.units) (pv 2) (pe_lst pa_nil) (nomark _)) (pe_ix ix_list (pv 2) (pe_op op_modN (pe_callTy call_int1 (by rfl) T.n_int (by decide +kernel) (pa_cons (pv 1) pa_nil)) (pe_callB call_len_seq (by rfl) T.n_len (by decide +kernel) (pa_cons (pv 2) pa_nil))) (fun _ _ => rfl)) pe_int))
      (pss_cons (ps_if (PW.pt (pw_and (pt_cmpR op_lt (pv 1) (pe_callB call_len_seq (by rfl) T.n_len (by decide +kernel) (pa_cons (pv 2) pa_nil)) (nomark _)) (pw_and1 (pt_cmpR op_ge (pv 3) (pe_op op_pow pe_int pe_int) (nomark _))))) (pss_one (ps_ret (pe_op op_sub (pv 3) (pe_op op_pow pe_int pe_int)))) pss_nil)
      (pss_cons (ps_set (i := 4) sc__law_fresh.nd rfl (Or.inl rfl) pe_int)
      (pss_cons (ps_set (i := 5) sc__law_fresh.nd rfl (Or.inl rfl) (pe_op op_modN (pe_callTy call_int1 (by rfl) T.n_int (by decide +kernel) (pa_cons (pe_op op_add (pe_op op_add (pe_op op_mul (pv 3) pe_int) (pe_op op_mul pe_int (pv 1))) pe_int) pa_nil)) (pv 4)))
      (pss_cons (ps_set (i := 6) sc__law_fresh.nd rfl (Or.inl rfl) (pv 5))
      (pss_cons (ps_for PassesOwn.never rfl (pi_range1 (by rfl) T.n_range (pa_cons pe_int pa_nil)) (pg_name (i := 7) sc__law_fresh.nd rfl (Or.inl rfl)) (pss_cons (ps_set (i := 5) sc__law_fresh.nd rfl (Or.inl rfl) (pe_op op_modN (pe_callTy call_int1 (by rfl) T.n_int (by decide +kernel) (pa_cons (pe_op op_add (pe_op op_add (pe_op op_mul (pv 5) (pv 5)) (pe_op op_mul (pe_op op_mul pe_int (pe_op op_add (pv 7) pe_int)) (pe_op op_add (pv 1) pe_int))) (pv 3)) pa_nil)) (pv 4)))
      (pss_one (ps_set (i := 6) sc__law_fresh.nd rfl (Or.inl rfl) (pe_op op_add (pe_op op_mul (pv 6) (pv 4)) (pv 5))))))
      (pss_one (ps_ret (pv 6))))))))))), ?_⟩)
  · obtain ⟨p, g, ns, seat, left, rfl, _⟩ := h
    rfl
  · obtain ⟨p, g, ns, seat, left, rfl, ⟨pg, hp, hc⟩, k⟩ := h
    -- seat, given; the place moves on
    refine ⟨_, rfl, p, _, 1, .int seat, rfl, rfl, SqL.of hp, rfl, _, rfl, p, _, 0, .ref g, rfl, rfl, SqL.of hp, rfl, _, _, rfl, ?_⟩
    refine ⟨_, rfl, _, _, rfl, rfl, _, rfl, p, _, 1, 1, rfl, rfl, hp, rfl, ?_⟩
    have b1 : But p H (upd H p (.lst ([V.ref g, V.int seat, V.int left].set 1 (V.int (seat + 1))))) := (But.refl p H).wr
    have a1 : PenAt (upd H p (.lst ([V.ref g, V.int seat, V.int left].set 1 (V.int (seat + 1))))) p g ns (seat + 1) left :=
      ⟨pg, upd_same, by rw [upd_ne pg.symm]; exact hc⟩
    generalize upd H p (.lst ([V.ref g, V.int seat, V.int left].set 1 (V.int (seat + 1)))) = H1 at b1 a1
    -- cell
    refine ⟨_, rfl, by show 0 ≤ sizeLine; decide, fun q nq => ?_⟩
    have s2 : Same H1 (upd H1 q (.lst [])) := same_new nq
    have a2 : PenAt (upd H1 q (.lst [])) p g ns (seat + 1) left := same_penAt s2 a1
    have b2 := b1.same s2
    have hq : (upd H1 q (.lst [])) q = some (.lst []) := upd_same
    refine ⟨.list (ns.map PyData.int), .list [], .lst (SqL.of a2.cells) (dp_ints ns), .lst (SqL.of hq) .nil, shaped_ints ns, rfl, _, rfl, ?_⟩
    generalize upd H1 q (.lst []) = H2 at a2 b2
    rw [eqv_nil]
    refine ite_val (fun v H' => H' = H2 ∧ ∃ c : Int, v = .int c) (fun hne Q' hQ => ?_) (fun hne Q' hQ => ?_) ?_
    · have hne' : ns ≠ [] := by
        intro e
        subst e
        exact absurd hne (by decide)
      have hl : 0 < (ns.length : Int) := by
        cases ns with
        | nil => exact absurd rfl hne'
        | cons a r => simp
      have fm := fmod_pos (a := seat) hl
      obtain ⟨c, _, hat⟩ := atI_some (xs := ns) fm.1 fm.2
      have hat' : atI (ns.map V.int) (seat.fmod (ns.length : Int)) = some (V.int c) := by
        unfold atI ixN at hat ⊢
        rw [List.length_map]
        rw [if_pos fm.1, if_pos fm.2] at hat ⊢
        simp only [Option.bind_some, List.getElem?_map] at hat ⊢
        rw [hat]
        all_goals rfl
      refine ⟨_, rfl, _, rfl, .inl ⟨_, rfl, _, rfl, g, _, rfl, .inl (SqL.of a2.cells), _, _, rfl, rfl, ?_, g, _, _, _, rfl, rfl, SqL.of a2.cells, ?_, hQ _ _ ⟨rfl, c, rfl⟩⟩⟩
      · rw [List.length_map]
        omega
      · rw [List.length_map]
        exact hat'
    · exact hQ _ _ ⟨rfl, 0, rfl⟩
    rintro v H3 ⟨rfl, c, rfl⟩
    -- a great cell as it is
    refine nx_of ?_
    dsimp only
    refine seq_if (fun K' hK => ?_) ?_ ?_
    · refine ⟨_, rfl, _, rfl, g, _, rfl, .inl (SqL.of a2.cells), _, _, rfl, rfl, _, rfl, ite2 (fun _ => ?_) (fun _ => hK _)⟩
      exact ⟨_, rfl, _, _, rfl, rfl, ⟨by decide, by decide, by decide⟩, _, _, rfl, rfl, _, rfl, hK _⟩
    · exact ⟨_, rfl, _, _, rfl, rfl, ⟨by decide, by decide, by decide⟩, _, _, rfl, rfl, k _ _ a2 b2⟩
    -- mixed
    refine ⟨_, rfl, _, _, rfl, rfl, .inr ⟨by decide, by decide⟩, _, rfl, _, _, rfl, rfl, .inl ⟨by decide, by decide⟩, _, _, rfl, rfl, _, _, rfl, rfl, .inl ⟨_, rfl, _, rfl, _, _, rfl, rfl, (by show (2305843009213693951 : Int) ≠ 0; decide), ?_⟩⟩
    have f0 := fmod_pos (a := c * 39373 + 52013 * seat + 29) (b := 2305843009213693951) (by decide)
    refine ⟨_, rfl, 6, rfl, by decide, by decide, for_range (lo := 0) (n := 6) (fun i σ H' => H' = H3 ∧ ∃ (st fo : Int) (lv : Option V), 0 ≤ st ∧ st < 2305843009213693951 ∧
      σ = [some (.ref p), some (.int seat), some (.ref g), some (.int c), some (.int 2305843009213693951), some (.int st), some (.int fo), lv]) ?_ ?_ ?_⟩
    · exact ⟨rfl, _, _, none, f0.1, f0.2, rfl⟩
    · rintro i σ H' hi ⟨rfl, st, fo, lv, h0, h1, rfl⟩
      have f1 := fmod_pos (a := st * st + 62089 * (0 + (i : Int) + 3) * (seat + 1) + c) (b := 2305843009213693951) (by decide)
      refine ⟨_, rfl, _, rfl, _, _, rfl, rfl, .inl ⟨by omega, by omega⟩, _, rfl, _, _, rfl, rfl, _, _, rfl, rfl, .inl ⟨by decide, by decide⟩, _, rfl, _, _, rfl, rfl, _, _, rfl, rfl, .inl ⟨by omega, by omega⟩, _, _, rfl, rfl, _, rfl, _, _, rfl, rfl, .inl ⟨_, rfl, _, rfl, _, _, rfl, rfl, (by show (2305843009213693951 : Int) ≠ 0; decide), ?_⟩⟩
      refine ⟨_, rfl, _, rfl, _, _, rfl, rfl, .inr ⟨by decide, by decide⟩, _, rfl, _, _, rfl, rfl, ?_⟩
      exact ⟨rfl, _, _, _, f1.1, f1.2, rfl⟩
    · rintro σ H' ⟨rfl, st, fo, lv, h0, h1, rfl⟩
      exact ⟨_, rfl, k _ _ a2 b2⟩

theorem ok__law_draw (T : Txt K mg) : FnOk P w K mg base CX0 2 T.f__law_draw T.d__law_draw ["pen", "bound"] (sp__law_draw K) := by
  refine T.F__law_draw.ok sc__law_draw (fun vs H Q E h => ?_) (fun cdv A outer s H vs Q E hr h => ⟨_, PSs.nox (pss_cons (ps_if (pt_cmpR op_lt (pe_ix ix_list (pv 0) pe_int (fun _ _ => rfl)) (pv 1) (nomark _)) (pss_one (ps_asg (pe_call (ok__law_fresh T) (hr.mono (by decide)) rfl T.g__law_fresh T.F__law_fresh.kp (bind__law_fresh T) .nil pass0 (pa_cons (pv 0) pa_nil)) (pg_sub (pv 0) pe_int set_list))) pss_nil)
      (pss_cons (ps_set (i := 2) sc__law_draw.nd rfl (Or.inl rfl) (pe_op op_modN (pe_callTy call_int1 (by rfl) T.n_int (by decide +kernel) (pa_cons (pe_ix ix_list (pv 0) pe_int (fun _ _ => rfl)) pa_nil)) (pv 1)))
      (pss_cons (ps_asg (pe_op op_fdivW (pe_callTy call_int1 (by rfl) T.n_int (by decide +kernel) (pa_cons (pe_ix ix_list (pv 0) pe_int (fun _ _ => rfl)) pa_nil)) (pv 1)) (pg_sub (pv 0) pe_int set_list))
      (pss_one (ps_ret (pv 2)))))), ?_⟩)
  · obtain ⟨p, g, b, rfl, _⟩ := h
    rfl
  · obtain ⟨p, g, b, rfl, ⟨ns, seat, left, a0⟩, hb, hb9, k⟩ := h
    refine ⟨_, rfl, p, _, 2, .int left, rfl, rfl, SqL.of a0.at_, rfl, _, rfl, _, _, rfl, rfl, _, rfl, ?_⟩
    refine ite_stm (fun σ H' => ∃ (s1 l1 : Int), PenAt H' p g ns s1 l1 ∧ But p H H' ∧ σ = [some (.ref p), some (.int b), none]) (fun _ nx hn => ?_) (fun _ nx hn => ?_) ?_
    · refine ⟨_, rfl, p, g, ns, seat, left, rfl, a0, fun r H1 a1 b1 => ?_⟩
      refine ⟨_, rfl, p, _, 2, 2, rfl, rfl, a1.at_, rfl, hn _ _ ⟨seat + 1, r, ⟨a1.ne, upd_same, ?_⟩, b1.wr, rfl⟩⟩
      rw [upd_ne a1.ne.symm]
      exact a1.cells
    · exact hn _ _ ⟨seat, left, a0, But.refl p H, rfl⟩
    rintro σ H' ⟨s1, l1, a1, b1, rfl⟩
    have f := fmod_pos (a := l1) hb
    refine ⟨_, rfl, p, _, 2, .int l1, rfl, rfl, SqL.of a1.at_, rfl, .inl ⟨_, rfl, _, rfl, _, _, rfl, rfl, by omega, ?_⟩⟩
    refine ⟨_, rfl, p, _, 2, .int l1, rfl, rfl, SqL.of a1.at_, rfl, .inl ⟨_, rfl, _, rfl, _, _, rfl, rfl, wide_div hb hb9 (by decide) (by decide), ?_⟩⟩
    refine ⟨_, rfl, p, _, 2, 2, rfl, rfl, a1.at_, rfl, _, rfl, ?_⟩
    refine k _ _ f.1 f.2 ⟨ns, s1, l1 / b, a1.ne, upd_same, ?_⟩ b1.wr
    rw [upd_ne a1.ne.symm]
    exact a1.cells

theorem ok__law_one_of (T : Txt K mg) : FnOk P w K mg base CX0 3 T.f__law_one_of T.d__law_one_of ["pen", "some"] (sp__law_one_of K) := by
  refine T.F__law_one_of.ok sc__law_one_of (fun vs H Q E h => ?_) (fun cdv A outer s H vs Q E hr h => ⟨_, PSs.nox (pss_one (ps_ret (pe_ix ix_list (pv 1) (pe_call (ok__law_draw T) (hr.mono (by decide)) rfl T.g__law_draw T.F__law_draw.kp (bind__law_draw T) .nil pass0 (pa_cons (pv 0) (pa_cons (pe_callB call_len_seq (by rfl) T.n_len (by decide +kernel) (pa_cons (pv 1) pa_nil)) pa_nil))) (fun _ _ => rfl)))), ?_⟩)
  · obtain ⟨p, g, l, xs, rfl, _⟩ := h
    rfl
  · obtain ⟨p, g, l, xs, rfl, hp, hlp, hl, hne, hn, k⟩ := h
    have pos : 0 < (xs.length : Int) := by
      cases xs with
      | nil => exact absurd rfl hne
      | cons a r => simp
    have big : (2 : Nat) ^ 10 ≤ 2 ^ 9000 := Nat.pow_le_pow_right (by decide) (by decide)
    refine ⟨_, rfl, _, rfl, _, rfl, l, xs, rfl, .inl (SqL.of hl), p, g, (xs.length : Int), rfl, hp, pos, ?_, fun n H' h0 h1 P' B' => ?_⟩
    · have e : ((xs.length : Int)).natAbs = xs.length := Int.natAbs_natCast _
      rw [e]
      exact Nat.lt_of_lt_of_le (by omega) big
    · obtain ⟨v, hv, hat⟩ := atI_some (xs := xs) h0 h1
      exact ⟨l, xs, n, v, rfl, rfl, SqL.of (B' _ _ hl hlp), hat, k v H' (List.mem_of_getElem? hv) P' B'⟩

theorem ok_InvalidHistory___init__ (T : Txt K mg) : FnOk P w K mg base CX0 1 (He.ma K (He.ga K "InvalidHistory") "__init__") T.d_InvalidHistory___init__ ["self", "index"] (sp_InvalidHistory___init__ K) := by
  refine T.F_InvalidHistory___init__.ok sc_InvalidHistory___init__ (fun vs H Q E h => ?_) (fun cdv A outer s H vs Q E hr h => ⟨_, PSs.nox (pss_one (ps_st (pv 0) (pv 1))), ?_⟩)
  · obtain ⟨a, C, y, rfl, _⟩ := h
    rfl
  · obtain ⟨a, C, y, rfl, T1, no, ha, k⟩ := h
    exact ⟨_, rfl, _, rfl, a, C, rfl, T1, no, .inl ⟨ha, fun dx nd ne => k dx nd ne⟩⟩

theorem dv_int {K : PySem.W.Frag} {H : Hp} {v : V} {d : PyData} (h : Dv K H v d) (h1 : isBool d = false) (h2 : isInt d = true) : ∃ i, d = .int i ∧ v = .int i := by
  cases h with
  | dic h => cases h2
  | dp h =>
    cases h with
    | int i => exact ⟨i, rfl, rfl⟩
    | bl b => cases h1
    | _ => cases h2
theorem act_no {lo hi : Int} {d : PyData} (h : isBool d = true ∨ isInt d = false) : isAct lo hi d = false := by
  cases d with
  | int i => rcases h with h | h <;> cases h
  | _ => rfl
theorem act_int (lo hi i : Int) : isAct lo hi (.int i) = (decide (lo ≤ i) && decide (i ≤ hi)) := by
  show decide (lo ≤ i ∧ i ≤ hi) = _
  rw [Bool.decide_and]

theorem ok_is_integer (T : Txt K mg) : FnOk P w K mg base CX0 1 T.f_is_integer T.d_is_integer ["value"] (sp_is_integer K) := by
  refine T.F_is_integer.ok sc_is_integer (fun vs H Q E h => ?_) (fun cdv A outer s H vs Q E hr h => ⟨_, PSs.nox (pss_one (ps_ret (pe_and (pe_callB call_isi (by rfl) T.n_isinstance (by decide +kernel) (pa_cons (pv 0) (pa_cons (pe_bltn (v := .ty "int") (by rfl) T.n_int (by decide +kernel) rfl) pa_nil))) (pe_one (pe_not (pe_callB call_isi (by rfl) T.n_isinstance (by decide +kernel) (pa_cons (pv 0) (pa_cons (pe_bltn (v := .ty "bool") (by rfl) T.n_bool (by decide +kernel) rfl) pa_nil)))))))), ?_⟩)
  · obtain ⟨v, d, rfl, _⟩ := h
    rfl
  · obtain ⟨v, d, rfl, hd, k⟩ := h
    refine ⟨_, rfl, v, .ty "int", _, _, isInt d, rfl, .ty _, dv_ty hd, kit_int d, isInt d, rfl, ?_⟩
    cases z : isInt d with
    | false =>
      rw [z] at k
      exact iteF k
    | true =>
      refine iteT ?_
      refine ⟨_, rfl, v, .ty "bool", _, _, isBool d, rfl, .ty _, dv_ty hd, kit_bool d, isBool d, rfl, ?_⟩
      rw [z, Bool.true_and] at k
      exact k

theorem ok_is_between (T : Txt K mg) : FnOk P w K mg base CX0 2 T.f_is_between T.d_is_between ["value", "least", "greatest"] (sp_is_between K) := by
  refine T.F_is_between.ok sc_is_between (fun vs H Q E h => ?_) (fun cdv A outer s H vs Q E hr h => ⟨_, PSs.nox (pss_one (ps_ret (pe_and (pe_call (ok_is_integer T) (hr.mono (by decide)) rfl T.g_is_integer T.F_is_integer.kp (bind_is_integer T) .nil pass0 (pa_cons (pv 0) pa_nil)) (pe_one (pe_chain op_le op_le (pv 1) (pv 0) (pv 2)))))), ?_⟩)
  · obtain ⟨v, d, lo, hi, rfl, _⟩ := h
    rfl
  · obtain ⟨v, d, lo, hi, rfl, hd, k⟩ := h
    refine ⟨_, rfl, v, d, rfl, hd, isInt d && !isBool d, rfl, ?_⟩
    cases hi' : isInt d with
    | false =>
      rw [act_no (.inr hi')] at k
      exact iteF k
    | true =>
      cases hb : isBool d with
      | true =>
        rw [act_no (.inl hb)] at k
        exact iteF k
      | false =>
        refine iteT ?_
        obtain ⟨i, rfl, rfl⟩ := dv_int hd hb hi'
        rw [act_int] at k
        refine ⟨_, rfl, _, rfl, _, _, rfl, rfl, _, rfl, ite2 (fun y => ?_) (fun y => ?_)⟩
        · rw [y, Bool.true_and] at k
          exact ⟨_, rfl, _, _, rfl, rfl, k⟩
        · have y' : decide (lo ≤ i) = false := by simpa using y
          rw [y', Bool.false_and] at k
          exact k

theorem ok__law_is_number (T : Txt K mg) : FnOk P w K mg base CX0 1 T.f__law_is_number T.d__law_is_number ["value", "low", "high"] (sp__law_is_number K) := by
  refine T.F__law_is_number.ok sc__law_is_number (fun vs H Q E h => ?_) (fun cdv A outer s H vs Q E hr h => ⟨_, PSs.nox (pss_one (ps_ret (pe_and (pe_callB call_isi (by rfl) T.n_isinstance (by decide +kernel) (pa_cons (pv 0) (pa_cons (pe_bltn (v := .ty "int") (by rfl) T.n_int (by decide +kernel) rfl) pa_nil))) (pe_and (pe_not (pe_callB call_isi (by rfl) T.n_isinstance (by decide +kernel) (pa_cons (pv 0) (pa_cons (pe_bltn (v := .ty "bool") (by rfl) T.n_bool (by decide +kernel) rfl) pa_nil)))) (pe_one (pe_chain op_le op_le (pv 1) (pv 0) (pv 2))))))), ?_⟩)
  · obtain ⟨v, d, lo, hi, rfl, _⟩ := h
    rfl
  · obtain ⟨v, d, lo, hi, rfl, hd, k⟩ := h
    refine ⟨_, rfl, v, .ty "int", _, _, isInt d, rfl, .ty _, dv_ty hd, kit_int d, isInt d, rfl, ?_⟩
    refine ite2 (fun z => ?_) (fun z => ?_)
    · refine ⟨_, rfl, v, .ty "bool", _, _, isBool d, rfl, .ty _, dv_ty hd, kit_bool d, isBool d, rfl, _, rfl, ?_⟩
      cases hb : isBool d with
      | true =>
        rw [act_no (.inl hb)] at k
        exact iteF k
      | false =>
        refine iteT ?_
        obtain ⟨i, rfl, rfl⟩ := dv_int hd hb z
        rw [act_int] at k
        refine ⟨_, rfl, _, rfl, _, _, rfl, rfl, _, rfl, ite2 (fun y => ?_) (fun y => ?_)⟩
        · rw [y, Bool.true_and] at k
          exact ⟨_, rfl, _, _, rfl, rfl, k⟩
        · have y' : decide (lo ≤ i) = false := by simpa using y
          rw [y', Bool.false_and] at k
          exact k
    · rw [act_no (.inr (by simpa using z))] at k
      exact k

theorem ok_is_change (T : Txt K mg) : FnOk P w K mg base CX0 1 T.f_is_change T.d_is_change ["place", "later"] (sp_is_change K) := by
  refine T.F_is_change.ok sc_is_change (fun vs H Q E h => ?_) (fun cdv A outer s H vs Q E hr h => ⟨_, PSs.nox (pss_one (ps_ret (pe_or (pe_cmpR op_ne (pv 0) (pe_glob (v := .int 0) (by rfl) T.c_NOWHERE.choose_spec ⟨_, rfl⟩) (nomark _)) (pe_one (pe_cmpR op_ne (pv 1) (pe_glob (v := .int 0) (by rfl) T.c_NOWHERE.choose_spec ⟨_, rfl⟩) (nomark _)))))), ?_⟩)
  · obtain ⟨a, b, rfl, _⟩ := h
    rfl
  · obtain ⟨a, b, rfl, k⟩ := h
    refine ⟨_, rfl, rfl, _, rfl, ?_⟩
    by_cases ha : a = 0
    · subst ha
      refine ite2 (fun z => absurd z (by decide)) (fun _ => ?_)
      refine ⟨_, rfl, rfl, ?_⟩
      have e : (!decide (V.int b = V.int 0)) = decide ((0 : Int) ≠ 0 ∨ b ≠ 0) := by
        by_cases hb : b = 0
        · subst hb
          decide
        · rw [decide_eq_false (fun z => hb (by injection z)), decide_eq_true (.inr hb)]
          rfl
      rw [e]
      exact k
    · have e : (!decide (V.int a = V.int 0)) = true := by
        rw [decide_eq_false (fun z => ha (by injection z))]
        rfl
      rw [decide_eq_true (.inl ha)] at k
      exact ite2 (fun _ => k) (fun z => absurd e z)

theorem dw_tup {K : PySem.W.Frag} {H : Hp} {v : V} {d : PyData} (h : Dw K H v d) (ht : isTup d = true) : ∃ a xs ds, v = .ref a ∧ d = .tuple ds ∧ SqT K H a xs ∧ Paired (Dv K H) xs ds := by
  have dps : ∀ {xs : List V} {ds : List PyData}, DpAll K H xs ds → Paired (Dv K H) xs ds := by
    intro xs ds h
    induction ds generalizing xs with
    | nil =>
      cases h
      exact .nil
    | cons d ds ih =>
      cases h with
      | cons a b => exact .cons (.dp a) (ih b)
  cases h with
  | tup a b => exact ⟨_, _, _, rfl, rfl, a, b⟩
  | dv h =>
    cases h with
    | dic h => cases ht
    | dp h =>
      cases h with
      | tup a b => exact ⟨_, _, _, rfl, rfl, a, dps b⟩
      | _ => cases ht
theorem paired_at {K : PySem.W.Frag} {H : Hp} : ∀ {xs : List V} {ds : List PyData} {i : Nat} {x : V}, Paired (Dv K H) xs ds → xs[i]? = some x → ∃ d, ds[i]? = some d ∧ Dv K H x d
  | _, _, i, x, .nil, h => by simp at h
  | _, _, 0, x, .cons a b, h => by
    cases h
    exact ⟨_, rfl, a⟩
  | _, _, i + 1, x, .cons a b, h => by
    obtain ⟨d, e, r⟩ := paired_at b (show _ = some x from h)
    exact ⟨d, e, r⟩

theorem act_v {K : PySem.W.Frag} {H : Hp} {v : V} {d : PyData} {lo hi : Int} (h : Dv K H v d) (ha : isAct lo hi d = true) : ∃ i, d = .int i ∧ v = .int i := by
  cases h with
  | dic h => cases ha
  | dp h =>
    cases h with
    | int i => exact ⟨i, rfl, rfl⟩
    | _ => cases ha

theorem ok_require_history (T : Txt K mg) : FnOk P w K mg base (L2.CX P w) 3 T.f_require_history T.d_require_history ["value"] (sp_require_history K) := by
  refine T.F_require_history.ok sc_require_history (fun vs H Q E h => ?_) (fun cdv A outer s H vs Q E hr h => ⟨_, (pss_cons (ps_if (PW.pt (pw_or (pt_not (pt_val (pe_callB call_isi (by rfl) T.n_isinstance (by decide +kernel) (pa_cons (pv 0) (pa_cons (pe_bltn (v := .ty "tuple") (by rfl) T.n_tuple (by decide +kernel) rfl) pa_nil))))) (pw_or1 (pt_cmpR op_gt (pe_callB call_len_seq (by rfl) T.n_len (by decide +kernel) (pa_cons (pv 0) pa_nil)) (pe_glob (v := .int 1000) (by rfl) T.c_MOST_CHANGES.choose_spec ⟨_, rfl⟩) (nomark _))))) (pss_one (ps_raise rfl (takes_of rfl rfl rfl rfl) (pmk_x T.x_InvalidHistory.c T.x_InvalidHistory.i T.x_InvalidHistory.t (ok_InvalidHistory___init__ T) (hr.mono (by decide)) (bind_InvalidHistory___init__ T) .nil pass0 (by rfl) T.gx_InvalidHistory (pa_cons pe_non pa_nil)))) pss_nil)
      (pss_cons (ps_set (i := 1) sc_require_history.nd rfl (Or.inl rfl) (pe_glob (v := .int 0) (by rfl) T.c_NOWHERE.choose_spec ⟨_, rfl⟩))
      (pss_cons (ps_for (passes_of rfl) rfl (pi_enumT (by rfl) T.n_enumerate (pa_cons (pv 0) pa_nil)) (pg_tup (by rfl) (pgs_cons (pg_name (i := 2) sc_require_history.nd rfl (Or.inl rfl)) (pgs_cons (pg_name (i := 3) sc_require_history.nd rfl (Or.inl rfl)) pgs_nil))) (pss_cons (ps_if (PW.pt (pw_or (pt_not (pt_val (pe_call (ok_is_between T) (hr.mono (by decide)) rfl T.g_is_between T.F_is_between.kp (bind_is_between T) .nil pass0 (pa_cons (pv 3) (pa_cons pe_int (pa_cons pe_int pa_nil)))))) (pw_or1 (pt_not (pt_val (pe_call (ok_is_change T) (hr.mono (by decide)) rfl T.g_is_change T.F_is_change.kp (bind_is_change T) .nil pass0 (pa_cons (pv 1) (pa_cons (pv 3) pa_nil)))))))) (pss_one (ps_raise rfl (takes_of rfl rfl rfl rfl) (pmk_x T.x_InvalidHistory.c T.x_InvalidHistory.i T.x_InvalidHistory.t (ok_InvalidHistory___init__ T) (hr.mono (by decide)) (bind_InvalidHistory___init__ T) .nil pass0 (by rfl) T.gx_InvalidHistory (pa_cons (pv 2) pa_nil)))) pss_nil)
      (pss_one (ps_set (i := 1) sc_require_history.nd rfl (Or.inl rfl) (pv 3)))))
      (pss_one (ps_ret (pv 0)))))), ?_⟩)
  · obtain ⟨v, d, rfl, _⟩ := h
    rfl
  · obtain ⟨v, d, rfl, hd, kgood, kbad⟩ := h
    refine ⟨_, rfl, v, .ty "tuple", _, _, isTup d, rfl, .ty _, dw_ty hd, kit_tup d, isTup d, rfl, ?_⟩
    cases ht : isTup d with
    | false =>
      refine iteT (iteT ⟨by show 1 ≤ 1000; decide, mk_one T.x_InvalidHistory.c (T.x_InvalidHistory.no _ (by decide +kernel)) fun dd H' sH _ hdd => ?_⟩)
      exact kbad _ (due_not ht) .non dd H' .non sH hdd
    | true =>
      refine iteF ?_
      obtain ⟨a, xs, ds, rfl, rfl, hxs, hp⟩ := dw_tup hd ht
      have hlen := hp.length
      refine ⟨_, rfl, a, xs, rfl, .inr hxs, _, _, rfl, rfl, _, rfl, ?_⟩
      by_cases h10 : ds.length ≤ 1000
      · refine ite2 (fun z => ?_) (fun _ => ?_)
        · exfalso
          have z' := of_decide_eq_true z
          omega
        refine ⟨_, rfl, a, xs, rfl, hxs, for_enT (xs := xs) (fun i σ H' => Same H H' ∧ ∃ (c : Int) (iv av : Option V), σ = [some (.ref a), some (.int c), iv, av] ∧ badH 0 0 ds = badH c i (ds.drop i)) ?_ (fun i σ H' _ h => same_tup h.1 hxs) ?_ ?_⟩
        · exact ⟨Same.refl H, 0, none, none, rfl, rfl⟩
        · rintro i x σ H1 T1 hx ⟨s1, c, iv, av, rfl, hbad⟩ nT
          obtain ⟨e, he, hv⟩ := paired_at hp hx
          have sT := same_new (o := .tup [V.int (i : Nat), x]) nT
          rw [drop_cons he] at hbad
          refine ⟨T1, _, rfl, SqT.of upd_same, rfl, _, _, rfl, _, _, rfl, rfl, ?_⟩
          refine ⟨_, rfl, x, e, 0, 2, rfl, dv_same (s1.trans sT) hv, ?_⟩
          cases hb : isAct 0 2 e with
          | false =>
            refine ⟨false, rfl, iteT (iteT ⟨_, rfl, by show 1 ≤ 1000; decide, mk_one T.x_InvalidHistory.c (T.x_InvalidHistory.no _ (by decide +kernel)) fun dd H' sH _ hdd => ?_⟩)⟩
            refine kbad _ ?_ (.int i) dd H' (.int _) ((s1.trans sT).trans sH) hdd
            rw [due_ok h10, hbad, bad_no hb]
            rfl
          | true =>
            obtain ⟨q, rfl, rfl⟩ := act_v hv hb
            rw [bad_int hb] at hbad
            refine ⟨true, rfl, iteF ⟨_, rfl, _, rfl, c, q, rfl, ?_⟩⟩
            by_cases z : c ≠ 0 ∨ q ≠ 0
            · rw [if_pos z] at hbad
              rw [decide_eq_true z]
              exact ⟨true, rfl, iteF ⟨_, rfl, s1.trans sT, q, _, _, rfl, hbad⟩⟩
            · rw [if_neg z] at hbad
              rw [decide_eq_false z]
              refine ⟨false, rfl, iteT ⟨_, rfl, by show 1 ≤ 1000; decide, mk_one T.x_InvalidHistory.c (T.x_InvalidHistory.no _ (by decide +kernel)) fun dd H' sH _ hdd => ?_⟩⟩
              refine kbad _ ?_ (.int i) dd H' (.int _) ((s1.trans sT).trans sH) hdd
              rw [due_ok h10, hbad]
              rfl
        · rintro σ H1 ⟨s1, c, iv, av, rfl, hbad⟩
          refine ⟨_, rfl, kgood ?_ H1 s1⟩
          rw [due_ok h10, hbad, hlen, List.drop_length]
          rfl
      · refine ite2 (fun z => ?_) (fun z => ?_)
        · refine ⟨by show 1 ≤ 1000; decide, mk_one T.x_InvalidHistory.c (T.x_InvalidHistory.no _ (by decide +kernel)) fun dd H' sH _ hdd => ?_⟩
          exact kbad _ (due_long h10) .non dd H' .non sH hdd
        · exfalso
          apply z
          refine decide_eq_true ?_
          omega

theorem ok__law_required (T : Txt K mg) : FnG P w K mg base CX0 4 T.f__law_required T.d__law_required ["value"] (sp__law_required K) := by
  refine okG T.F__law_required sc__law_required (fun vs H Q E h => ?_) (fun cdv A outer s H vs Q E hr hg h => ⟨_, PSs.nox (pss_cons (ps_try_as (i := 2) rfl rfl sc__law_required.nd rfl rfl ⟨rfl, by decide, Or.inl T.gx_InvalidHistory⟩ takes0
      (fun W pn xe tk _ => (pss_one (ps_set (i := 1) sc__law_required.nd rfl (Or.inl rfl) (pe_callS (ok_require_history T) (hr.mono (by decide)) rfl T.g_require_history T.F_require_history.kp (bind_require_history T) (fun σ => passAt tk σ) (pa_cons (pv 0) pa_nil)))))
      (fun a oe cls d pn hz hf => (pss_one (ps_ret (pe_tup (pa_cons pe_str (pa_cons (pe_xf T.x_InvalidHistory.c.xf (T.x_InvalidHistory.no _ (by decide +kernel)) hz hf (pv 2)) pa_nil)))))))
      (pss_one (ps_ret (pe_tup (pa_cons pe_str (pa_cons (pe_callB (call_reprW2 (K := K) rfl hg (by have h65 := u65 hr; exact h65)) (by rfl) T.n_repr (by decide +kernel) (pa_cons (pv 1) pa_nil)) pa_nil)))))), ?_⟩)
  · obtain ⟨v, d, rfl, _⟩ := h
    rfl
  · obtain ⟨v, d, rfl, hd, hsh, k⟩ := h
    refine ⟨_, rfl, v, d, rfl, hd, fun hn H1 s1 => ?_, fun ix hx y dd H1 hy s1 hdd => ?_⟩
    · have e : dueD d = .tuple [.str "told", .str d.shown] := by unfold dueD; rw [hn]
      rw [e] at k
      refine ⟨_, rfl, v, d, rfl, dw_same s1 hd, hsh, by show 2 ≤ sizeLine; decide, fun p np => ?_⟩
      exact k _ _ (s1.trans (same_new np)) (.tup (SqT.of upd_same) (.cons (.str _) (.cons (.str _) .nil)))
    · have e : dueD d = .tuple [.str "index", ix] := by unfold dueD; rw [hx]
      rw [e] at k
      refine ⟨true, T.x_InvalidHistory.c.self, fun _ a na => ?_, fun z => Bool.noConfusion z⟩
      refine ⟨_, rfl, rfl, rfl, dd, _, y, rfl, hdd, rfl, by show 2 ≤ sizeLine; decide, fun p np => ?_⟩
      have sp := same_new (o := .tup [V.str "index", y]) np
      exact k _ _ (s1.trans sp) (.tup (SqT.of upd_same) (.cons (.str _) (.cons (dp_same sp hy) .nil)))


theorem ok_told_entries (T : Txt K mg) : FnOk P w K mg base CX0 1 T.f_told_entries T.d_told_entries ["place", "later", "stamp"] (sp_told_entries K) := by
  refine T.F_told_entries.ok sc_told_entries (fun vs H Q E h => ?_) (fun cdv A outer s H vs Q E hr h => ⟨_, PSs.nox (pss_cons (ps_set (i := 3) sc_told_entries.nd rfl (Or.inl rfl) (pe_ifExp (PW.pt (pw_and (pt_cmpR op_ne (pv 0) (pe_glob (v := .int 0) (by rfl) T.c_NOWHERE.choose_spec ⟨_, rfl⟩) (nomark _)) (pw_and1 (pt_cmpR op_ne (pv 0) (pv 1) (nomark _))))) (pe_tup (pa_cons (pe_tup (pa_cons (pv 0) (pa_cons (pe_glob (v := .int 0) (by rfl) T.c_STRIKE.choose_spec ⟨_, rfl⟩) (pa_cons (pv 2) pa_nil)))) pa_nil)) (pe_tup pa_nil)))
      (pss_cons (ps_set (i := 4) sc_told_entries.nd rfl (Or.inl rfl) (pe_ifExp (pt_cmpR op_ne (pv 1) (pe_glob (v := .int 0) (by rfl) T.c_NOWHERE.choose_spec ⟨_, rfl⟩) (nomark _)) (pe_tup (pa_cons (pe_tup (pa_cons (pv 1) (pa_cons (pe_glob (v := .int 1) (by rfl) T.c_ROW.choose_spec ⟨_, rfl⟩) (pa_cons (pv 2) pa_nil)))) pa_nil)) (pe_tup pa_nil)))
      (pss_one (ps_ret (pe_op op_catA (pv 3) (pv 4)))))), ?_⟩)
  · obtain ⟨p, l, t, rfl, _⟩ := h
    rfl
  · obtain ⟨p, l, t, rfl, k⟩ := h
    refine seq_set2 (val_of (fun v H1 => ∃ a xs, v = .ref a ∧ Same H H1 ∧ SqT K H1 a xs ∧ Paired (ET K H1) xs (if p ≠ 0 ∧ p ≠ l then [(p, 0, t)] else [])) (fun Q' hQ => ?_) ?_)
    · refine ⟨_, rfl, rfl, ?_⟩
      have no : ¬ (p ≠ 0 ∧ p ≠ l) → ∀ (q : Addr), H q = none → Q' (.ref q) (upd H q (.tup [])) := fun z q nq =>
        hQ _ _ ⟨q, [], rfl, same_new nq, SqT.of upd_same, by rw [if_neg z]; exact .nil⟩
      by_cases hp0 : p = 0
      · subst hp0
        refine ⟨_, rfl, ite2 (fun z => absurd z (by decide)) (fun _ => ?_)⟩
        exact iteF ⟨by show 0 ≤ sizeLine; decide, fun q nq => no (fun z => z.1 rfl) q nq⟩
      have e : (!decide (V.int p = V.int 0)) = true := by
        rw [decide_eq_false (fun z => hp0 (by injection z))]
        rfl
      refine ⟨_, rfl, ite2 (fun _ => ?_) (fun z => absurd e z)⟩
      refine ⟨_, rfl, _, rfl, rfl, _, rfl, ?_⟩
      by_cases hpl : p = l
      · subst hpl
        refine ite2 (fun z => absurd z (by simp)) (fun _ => ?_)
        exact ⟨by show 0 ≤ sizeLine; decide, fun q nq => no (fun z => z.2 rfl) q nq⟩
      have e2 : (!decide (V.int p = V.int l)) = true := by
        rw [decide_eq_false (fun z => hpl (by injection z))]
        rfl
      refine ite2 (fun _ => ?_) (fun z => absurd e2 z)
      refine ⟨_, rfl, _, rfl, by show 3 ≤ sizeLine; decide, fun q1 n1 => ⟨by show 1 ≤ sizeLine; decide, fun q nq => ?_⟩⟩
      have s1 := same_new (o := .tup [V.int p, V.int 0, V.int t]) n1
      have s2 := same_new (o := .tup [V.ref q1]) nq
      refine hQ _ _ ⟨q, [.ref q1], rfl, s1.trans s2, SqT.of upd_same, ?_⟩
      rw [if_pos ⟨hp0, hpl⟩]
      exact .cons ⟨q1, rfl, SqT.of (s2 _ _ upd_same)⟩ .nil
    · rintro _ H1 ⟨a, xs, rfl, s1, ha, hp⟩
      refine seq_set2 (val_of (fun v H2 => ∃ b ys, v = .ref b ∧ Same H1 H2 ∧ SqT K H2 b ys ∧ Paired (ET K H2) ys (if l ≠ 0 then [(l, 1, t)] else [])) (fun Q' hQ => ?_) ?_)
      · refine ⟨_, rfl, rfl, _, rfl, ?_⟩
        by_cases hl0 : l = 0
        · subst hl0
          refine ite2 (fun z => absurd z (by decide)) (fun _ => ?_)
          refine ⟨by show 0 ≤ sizeLine; decide, fun q nq => hQ _ _ ⟨q, [], rfl, same_new nq, SqT.of upd_same, ?_⟩⟩
          rw [if_neg (fun z => z rfl)]
          exact .nil
        have e : (!decide (V.int l = V.int 0)) = true := by
          rw [decide_eq_false (fun z => hl0 (by injection z))]
          rfl
        refine ite2 (fun _ => ?_) (fun z => absurd e z)
        refine ⟨_, rfl, _, rfl, by show 3 ≤ sizeLine; decide, fun q1 n1 => ⟨by show 1 ≤ sizeLine; decide, fun q nq => ?_⟩⟩
        have s1 := same_new (o := .tup [V.int l, V.int 1, V.int t]) n1
        have s2 := same_new (o := .tup [V.ref q1]) nq
        refine hQ _ _ ⟨q, [.ref q1], rfl, s1.trans s2, SqT.of upd_same, ?_⟩
        rw [if_pos hl0]
        exact .cons ⟨q1, rfl, SqT.of (s2 _ _ upd_same)⟩ .nil
      · rintro _ H2 ⟨b, ys, rfl, s2, hb, hp2⟩
        have all := ets_app (ets_same s2 hp) hp2
        have sum : xs.length + ys.length ≤ 2 := by
          have a1 := hp.length
          have a2 := hp2.length
          rw [a1, a2]
          have b1 : (if p ≠ 0 ∧ p ≠ l then [((p, 0, t) : Ent)] else []).length ≤ 1 := by split <;> simp
          have b2 : (if l ≠ 0 then [((l, 1, t) : Ent)] else []).length ≤ 1 := by split <;> simp
          omega
        refine ret_of2 ⟨_, rfl, _, rfl, a, b, xs, ys, rfl, rfl, same_tup s2 ha, hb, ?_, ?_, ?_, ?_⟩
        · rw [sizeLine_eq]
          omega
        · intro z
          rw [z] at all
          exact k b ys H2 (s1.trans s2) hb all
        · intro _ z
          rw [z, List.append_nil] at all
          exact k a xs H2 (s1.trans s2) (same_tup s2 ha) all
        · intro _ _ q nq
          have s3 := same_new (o := .tup (xs ++ ys)) nq
          exact k q _ _ ((s1.trans s2).trans s3) (SqT.of upd_same) (ets_same s3 all)

theorem ok_changes_of (T : Txt K mg) : FnOk P w K mg base CX0 1 T.f_changes_of T.d_changes_of ["history"] (sp_changes_of K) := by
  refine T.F_changes_of.ok sc_changes_of (fun vs H Q E h => ?_) (fun cdv A outer s H vs Q E hr h => ⟨_, PSs.nox (pss_cons (ps_set (i := 1) sc_changes_of.nd rfl (Or.inl rfl) (pe_op op_catA (pe_tup (pa_cons (pe_glob (v := .int 0) (by rfl) T.c_NOWHERE.choose_spec ⟨_, rfl⟩) pa_nil)) (pv 0)))
      (pss_one (ps_ret (pe_lc (own := [("stamp", 2), ("place", 3), ("later", 4)]) (g := gTup K 2 (gCons (gName 2) (gCons (gTup K 2 (gCons (gName 3) (gCons (gName 4) gNil))) gNil))) (tt := tYes) rfl sc_changes_of.nd (pi_enZ (by rfl) T.n_enumerate (by rfl) T.n_zip (by decide) (by decide) (pa_cons (pv 1) (pa_cons (pv 0) pa_nil))) (blkOk_by (N := ["history", "ahead", "stamp", "place", "later"]) (sc := defScope s_changes_of) (by decide +kernel)) (fun _ _ _ _ _ => (pg_tup (by rfl) (pgs_cons (pg_name (i := 2) sc_changes_of.nd rfl (Or.inl rfl)) (pgs_cons (pg_tup (by rfl) (pgs_cons (pg_name (i := 3) sc_changes_of.nd rfl (Or.inl rfl)) (pgs_cons (pg_name (i := 4) sc_changes_of.nd rfl (Or.inl rfl)) pgs_nil))) pgs_nil)))) (fun _ _ _ _ _ => pts_nil) (fun _ _ _ _ _ => (pe_tup (pa_cons (pv 3) (pa_cons (pv 4) (pa_cons (pv 2) pa_nil))))))))), ?_⟩)
  · obtain ⟨a, hs, rfl, _⟩ := h
    rfl
  · obtain ⟨a, hs, rfl, hS, hl, k⟩ := h
    refine seq_set2 (val_of (fun v H1 => ∃ b, v = .ref b ∧ Same H H1 ∧ SqT K H1 b (((0 : Int) :: hs).map V.int)) (fun Q' hQ => ?_) ?_)
    · refine ⟨by show 1 ≤ sizeLine; decide, fun p1 n1 => ⟨_, rfl, ?_⟩⟩
      have s1 := same_new (o := .tup [V.int 0]) n1
      refine ⟨p1, a, [.int 0], _, rfl, rfl, SqT.of upd_same, same_tup s1 hS, ?_, fun z => absurd z (List.cons_ne_nil _ _), ?_, ?_⟩
      · rw [List.length_map, sizeLine_eq]
        show 1 + hs.length ≤ _
        omega
      · intro _ z
        have z' : hs = [] := List.map_eq_nil_iff.mp z
        subst z'
        exact hQ _ _ ⟨p1, rfl, s1, SqT.of upd_same⟩
      · intro _ _ p2 n2
        exact hQ _ _ ⟨p2, rfl, s1.trans (same_new n2), SqT.of upd_same⟩
    rintro _ H1 ⟨b, rfl, s1, hb⟩
    refine ret_of2 ⟨_, rfl, _, rfl, b, a, _, _, rfl, hb, same_tup s1 hS, fun D nD => lc_it (walk_enZ (xs := ((0 : Int) :: hs).map V.int) (ys := hs.map V.int) (m := hs.length) (by simp))
      (fun i H' => Same H1 H' ∧ ∃ xs, H' D = some (.lst xs) ∧ Paired (ET K H') xs ((chL 0 1 hs).take i)) ?_ (fun i H' _ h => ⟨same_tup h.1 hb, same_tup (s1.trans h.1) hS⟩) ?_ ?_⟩
    · exact ⟨same_new nD, [], upd_same, .nil⟩
    · rintro i x Ha Hb hi ⟨s2, xs, hD, hp⟩ ⟨P, T1, y1, y2, rfl, nP, nT, ne, rfl, hx, hy⟩
      rw [List.getElem?_map] at hx hy
      obtain ⟨u1, hu1, rfl⟩ := Option.map_eq_some_iff.mp hx
      obtain ⟨u2, hu2, rfl⟩ := Option.map_eq_some_iff.mp hy
      have hc := chL_get hs 0 1 i u1 u2 hu1 hu2
      have sP := same_new (o := .tup [V.int u1, V.int u2]) nP
      have nT' : (upd Ha P (.tup [V.int u1, V.int u2])) T1 = none := by
        rw [upd_ne ne]
        exact nT
      have sT := sP.trans (same_new (o := .tup [V.int (1 + (i : Nat)), V.ref P]) nT')
      refine ⟨T1, _, rfl, SqT.of upd_same, rfl, _, _, rfl, _, _, rfl, P, _, rfl, SqT.of (by rw [upd_ne ne.symm]; exact upd_same), rfl, _, _, rfl, _, _, rfl, rfl, rfl, rfl, ?_⟩
      refine yes_of (iteT ⟨_, rfl, _, rfl, _, rfl, by show 3 ≤ sizeLine; decide, fun q nq => ?_⟩)
      have sQ := sT.trans (same_new (o := .tup [V.int u1, V.int u2, V.int (1 + (i : Nat))]) nq)
      refine ⟨xs, sQ _ _ hD, ?_, ?_, _, upd_same, ?_⟩
      · rw [hp.length, List.length_take, chL_len, sizeLine_eq]
        omega
      · intro c o hcc
        rw [upd_ne (ne_of_none hcc nD)]
        exact sQ _ _ (s2 _ _ hcc)
      · rw [List.take_succ, hc]
        exact ets_app (ets_lst (sQ _ _ hD) (ets_same sQ hp)) (.cons ⟨q, rfl, tup_lst (sQ _ _ hD) (SqT.of upd_same)⟩ .nil)
    · rintro H2 ⟨s2, xs, hD, hp⟩
      rw [← chL_len hs 0 1, List.take_length] at hp
      exact k D xs H2 (s1.trans s2) hD hp

theorem ents_get {K : PySem.W.Frag} {H : Hp} : ∀ {xs : List V} {es : List Ent} {i : Nat} {x : V}, Paired (ET K H) xs es → xs[i]? = some x → ∃ e, es[i]? = some e ∧ ET K H x e
  | _, _, i, x, .nil, h => by simp at h
  | _, _, 0, x, .cons a b, h => by
    cases h
    exact ⟨_, rfl, a⟩
  | _, _, i + 1, x, .cons a b, h => by
    obtain ⟨d, e, r⟩ := ents_get b (show _ = some x from h)
    exact ⟨d, e, r⟩
theorem ents_at {K : PySem.W.Frag} {H : Hp} {xs : List V} {es : List Ent} {i : Nat} {x : V} (h : Paired (ET K H) xs es) (hx : xs[i]? = some x) :
    ∃ e, es[i]? = some e ∧ ∃ q, x = .ref q ∧ SqT K H q [.int e.1, .int e.2.1, .int e.2.2] := by
  obtain ⟨e, he, q, a, b⟩ := ents_get h hx
  exact ⟨e, he, q, a, b⟩

theorem ok_entries_of (T : Txt K mg) : FnOk P w K mg base CX0 2 T.f_entries_of T.d_entries_of ["history"] (sp_entries_of K) := by
  refine T.F_entries_of.ok sc_entries_of (fun vs H Q E h => ?_) (fun cdv A outer s H vs Q E hr h => ⟨_, PSs.nox (pss_one (ps_ret (pe_callTy call_tuple_of (by rfl) T.n_tuple (by decide +kernel) (pa_cons (pe_lc2 (own := [("change", 1), ("entry", 2)]) (vs1 := [2]) (g := gName 1) (g1 := gName 2) (tt := tYes) (tt1 := tYes) rfl sc_entries_of.nd (pi_list (pe_call (ok_changes_of T) (hr.mono (by decide)) rfl T.g_changes_of T.F_changes_of.kp (bind_changes_of T) .nil pass0 (pa_cons (pv 0) pa_nil))) (blkOk_by (N := ["history", "change", "entry"]) (sc := defScope s_entries_of) (by decide +kernel)) (by decide) (fun _ _ _ _ _ => (pg_name (i := 1) sc_entries_of.nd rfl (Or.inl rfl))) (fun _ _ _ _ _ => pts_nil) (fun _ _ _ _ _ => (pi_tupK (K := K) rfl (pe_callSK (K := K) rfl ((fnR_of (ok_told_entries T) (bind_told_entries T)).mono (by decide)) hr T.F_told_entries.kp (by rfl) T.g_told_entries pass0 (pv 1)))) (fun _ _ _ _ _ => (pg_name (i := 2) sc_entries_of.nd rfl (Or.inl rfl))) (fun _ _ _ _ _ => pts_nil) (fun _ _ _ _ _ => (pv 2))) pa_nil)))), ?_⟩)
  · obtain ⟨a, hs, rfl, _⟩ := h
    rfl
  · obtain ⟨a, hs, rfl, hS, hl, k⟩ := h
    refine ret_of2 ⟨_, rfl, a, hs, rfl, hS, hl, fun C cs H1 s1 hC hc => ⟨C, rfl, ⟨_, SqL.of hC⟩, fun D nD => walk_go (walk_list (K := K) (a := C) (xs := cs))
      (fun i H' => Same H1 H' ∧ ∃ xs, H' D = some (.lst xs) ∧ Paired (ET K H') xs (((chL 0 1 hs).take i).flatMap fun e => entL e.1 e.2.1 e.2.2)) ?_ (fun i H' _ h => SqL.of (h.1 _ _ hC)) ?_ ?_⟩⟩
    · exact ⟨same_new nD, [], upd_same, .nil⟩
    · rintro i x Ha Hb hi ⟨s2, xs, hD, hp⟩ ⟨rfl, hx⟩
      obtain ⟨c, hci, q, rfl, hq⟩ := ents_at hc hx
      refine ⟨rfl, yes_of (iteT ⟨_, rfl, q, _, rfl, .inl (same_tup s2 hq), c.1, c.2.1, c.2.2, rfl, fun a2 ys H5 s5 ha2 hys => ⟨a2, rfl, ⟨_, ha2⟩, ?_⟩⟩)⟩
      refine walk_go (walk_tup (K := K) (a := a2) (xs := ys)) (fun j H' => Same H1 H' ∧ SqT K H' a2 ys ∧ Paired (ET K H') ys (entL c.1 c.2.1 c.2.2) ∧
        ∃ xs, H' D = some (.lst xs) ∧ Paired (ET K H') xs ((((chL 0 1 hs).take i).flatMap fun e => entL e.1 e.2.1 e.2.2) ++ (entL c.1 c.2.1 c.2.2).take j)) ?_ (fun j H' _ h => h.2.1) ?_ ?_
      · refine ⟨s2.trans s5, ha2, hys, xs, s5 _ _ hD, ?_⟩
        rw [List.take_zero, List.append_nil]
        exact ets_same s5 hp
      · rintro j y Hc Hd hj ⟨s6, ha6, hy6, zs, hD6, hz6⟩ ⟨rfl, hy⟩
        obtain ⟨d, hdj, hdy⟩ := ents_get hy6 hy
        refine ⟨rfl, yes_of (iteT ⟨_, rfl, zs, hD6, ?_, same_lst s6 nD, tup_lst hD6 ha6, ets_lst hD6 hy6, _, upd_same, ?_⟩)⟩
        · rw [hz6.length, List.length_append]
          have b1 := flat_len ((chL 0 1 hs).take i)
          have b2 := entL_len c.1 c.2.1 c.2.2
          rw [List.length_take, chL_len] at b1
          rw [List.length_take, sizeLine_eq]
          omega
        · rw [List.take_succ, hdj, ← List.append_assoc]
          exact ets_app (ets_lst hD6 hz6) (.cons (et_lst hD6 hdy) .nil)
      · rintro H6 ⟨s6, ha6, hy6, zs, hD6, hz6⟩
        refine ⟨s6, zs, hD6, ?_⟩
        rw [flat_take hci]
        rw [hy6.length, List.take_length] at hz6
        exact hz6
    · rintro H2 ⟨s2, xs, hD, hp⟩
      rw [hc.length, List.take_length] at hp
      refine ⟨D, xs, rfl, .inl ⟨SqL.of hD, fun t nt => ?_⟩⟩
      have s3 := same_new (o := .tup xs) nt
      exact k t xs _ ((s1.trans s2).trans s3) (SqT.of upd_same) (ets_same s3 hp)

theorem ok_is_elder (T : Txt K mg) : FnOk P w K mg base CX0 1 T.f_is_elder T.d_is_elder ["one", "other"] (sp_is_elder K) := by
  refine T.F_is_elder.ok sc_is_elder (fun vs H Q E h => ?_) (fun cdv A outer s H vs Q E hr h => ⟨_, PSs.nox (pss_cons (ps_asg (pv 0) (pg_tup (by rfl) (pgs_cons (pg_name (i := 2) sc_is_elder.nd rfl (Or.inl rfl)) (pgs_cons (pg_name (i := 3) sc_is_elder.nd rfl (Or.inl rfl)) (pgs_cons (pg_name (i := 4) sc_is_elder.nd rfl (Or.inl rfl)) pgs_nil)))))
      (pss_cons (ps_asg (pv 1) (pg_tup (by rfl) (pgs_cons (pg_name (i := 2) sc_is_elder.nd rfl (Or.inl rfl)) (pgs_cons (pg_name (i := 5) sc_is_elder.nd rfl (Or.inl rfl)) (pgs_cons (pg_name (i := 6) sc_is_elder.nd rfl (Or.inl rfl)) pgs_nil)))))
      (pss_one (ps_ret (pe_cmpR (op_ltT hr.units0) (pe_tup (pa_cons (pv 4) (pa_cons (pv 3) pa_nil))) (pe_tup (pa_cons (pv 6) (pa_cons (pv 5) pa_nil))) (nomark _)))))), ?_⟩)
  · obtain ⟨o1, o2, k1, a1, s1, k2, a2, s2, rfl, _⟩ := h
    rfl
  · obtain ⟨o1, o2, k1, a1, s1, k2, a2, s2, rfl, ⟨x1, rfl, h1⟩, ⟨x2, rfl, h2⟩, k⟩ := h
    refine ⟨_, rfl, x1, _, rfl, h1, rfl, _, _, rfl, _, _, rfl, _, _, rfl, rfl, ?_⟩
    refine ⟨_, rfl, x2, _, rfl, h2, rfl, _, _, rfl, _, _, rfl, _, _, rfl, rfl, ?_⟩
    refine ⟨_, rfl, _, rfl, by show 2 ≤ sizeLine; decide, fun p1 n1 => ⟨_, rfl, _, rfl, by show 2 ≤ sizeLine; decide, fun p2 n2 => ?_⟩⟩
    have s1' := same_new (o := .tup [V.int s1, V.int a1]) n1
    have s2' := same_new (o := .tup [V.int s2, V.int a2]) n2
    exact ⟨p1, p2, [s1, a1], [s2, a2], rfl, rfl, SqT.of (s2' _ _ upd_same), SqT.of upd_same, k _ (s1'.trans s2')⟩

theorem set_split {xs : List V} {j : Nat} {y : V} (h : j < xs.length) : xs.take j ++ [y] ++ xs.drop (j + 1) = xs.set j y := by
  rw [List.set_eq_take_append_cons_drop, if_pos h, List.append_assoc]
  rfl
theorem cut_lo {xs : List V} {j : Nat} (h : j ≤ xs.length) : cutV xs none (some (j : Int)) = xs.take j := by
  unfold cutV
  rw [HT.sIx_none, HT.sIx_nat, List.drop_zero, Nat.sub_zero, Nat.min_eq_left h]
theorem cut_hi {xs : List V} {j : Nat} (h : j ≤ xs.length) : cutV xs (some (j : Int)) none = xs.drop j := by
  unfold cutV
  rw [HT.sIx_none, HT.sIx_nat, Nat.min_eq_left h]
  exact List.take_of_length_le (by rw [List.length_drop]; exact Nat.le_refl _)
/-- rows[:i] + (y,) + rows[i + 1:], the three parts put together -/
def t_at (K : PySem.W.Frag) : TS := tRet (tOp (rCatA K) (tOp (rCatA K) (tSl (rSlT K) (tVar 0) tNoPart (tPart (tVar 1))) (tTup (tCons (tVar 2) tNil)))
  (tSl (rSlT K) (tVar 0) (tPart (tOp (rI0 fun i j => .int (i + j)) (tVar 1) (tC (.int 1)))) tNoPart))
theorem read_at {K : PySem.W.Frag} {D : Ends} {σ : L2.St} {H : Hp} {a : Addr} {xs : List V} {i : Int} {y : V} (e0 : σ[0]? = some (some (.ref a))) (e1 : σ[1]? = some (some (.int i))) (e2 : σ[2]? = some (some y))
    (hxs : SqT K H a xs) (hl : xs.length ≤ 1000) (h0 : 0 ≤ i) (h1 : i < xs.length)
    (k : ∀ t H', Same H H' → H' t = some (.tup (xs.set i.toNat y)) → D.rt (.ref t) H') : t_at K D σ H := by
  obtain ⟨j, rfl⟩ : ∃ j : Nat, i = j := ⟨i.toNat, (Int.toNat_of_nonneg h0).symm⟩
  have hj : j < xs.length := by omega
  have big : xs.length + 5 ≤ sizeLine := by
    rw [sizeLine_eq]
    omega
  refine ⟨_, e0, _, e1, j, rfl, a, xs, rfl, hxs, ?_, fun p1 n1 => ?_⟩
  · rw [HT.sIx_none, HT.sIx_nat, Nat.min_eq_left (Nat.le_of_lt hj)]
    omega
  rw [cut_lo (Nat.le_of_lt hj)]
  have s1 := same_new (o := .tup (xs.take j)) n1
  have g1 : (upd H p1 (.tup (xs.take j))) p1 = some (.tup (xs.take j)) := upd_same
  generalize upd H p1 (.tup (xs.take j)) = H1 at s1 g1
  refine ⟨_, e2, by show 1 ≤ sizeLine; decide, fun p2 n2 => ?_⟩
  have s2 := same_new (o := .tup [y]) n2
  have g2 : (upd H1 p2 (.tup [y])) p2 = some (.tup [y]) := upd_same
  have g1' := s2 _ _ g1
  generalize upd H1 p2 (.tup [y]) = H2 at s2 g2 g1'
  have fin : ∀ (c : Addr) (H3 : Hp), Same H2 H3 → H3 c = some (.tup (xs.take j ++ [y])) →
      tSl (rSlT K) (tVar 0) (tPart (tOp (rI0 fun i j => .int (i + j)) (tVar 1) (tC (.int 1)))) tNoPart σ H3 (fun y2 H4 => rCatA K (.ref c) y2 H4 D.rt) := by
    intro c H3 s3 gc
    have sA := (s1.trans s2).trans s3
    have ej : ((j : Nat) : Int) + 1 = ((j + 1 : Nat) : Int) := by omega
    refine ⟨_, e0, _, e1, _, _, rfl, rfl, ((j + 1 : Nat) : Int), congrArg V.int ej, a, xs, rfl, same_tup sA hxs, ?_, fun p4 n4 => ?_⟩
    · rw [HT.sIx_nat, Nat.min_eq_left hj]
      omega
    rw [cut_hi hj]
    have s4 := same_new (o := .tup (xs.drop (j + 1))) n4
    refine ⟨c, p4, _, _, rfl, rfl, SqT.of (s4 _ _ gc), SqT.of upd_same, ?_, ?_, ?_, ?_⟩
    · rw [List.length_append, List.length_take, List.length_drop]
      show min j xs.length + 1 + (xs.length - (j + 1)) ≤ sizeLine
      omega
    · intro z
      exact absurd z (by simp)
    · intro _ z
      refine k c _ (sA.trans s4) ?_
      have e := set_split (y := y) hj
      rw [z, List.append_nil] at e
      rw [Int.toNat_natCast, ← e]
      exact s4 _ _ gc
    · intro _ _ p5 n5
      refine k p5 _ ((sA.trans s4).trans (same_new n5)) ?_
      rw [Int.toNat_natCast, ← set_split hj]
      exact upd_same
  refine ⟨p1, p2, xs.take j, [y], rfl, rfl, SqT.of g1', SqT.of g2, ?_, ?_, ?_, ?_⟩
  · rw [List.length_take]
    show min j xs.length + 1 ≤ sizeLine
    omega
  · intro z
    refine fin p2 H2 (Same.refl _) ?_
    rw [z]
    exact g2
  · intro _ z
    cases z
  · intro _ _ p3 n3
    exact fin p3 _ (same_new n3) upd_same

theorem ok__law_at (T : Txt K mg) : FnOk P w K mg base CX0 1 T.f__law_at T.d__law_at ["rows", "place", "thing"] (sp__law_at K) := by
  refine T.F__law_at.ok sc__law_at (fun vs H Q E h => ?_) (fun cdv A outer s H vs Q E hr h => ⟨_, PSs.nox (pss_one (ps_ret (pe_op op_catA (pe_op op_catA (pe_slice sl_tup (pv 0) po_none (po_some (pv 1))) (pe_tup (pa_cons (pv 2) pa_nil))) (pe_slice sl_tup (pv 0) (po_some (pe_op op_add (pv 1) pe_int)) po_none)))), ?_⟩)
  · obtain ⟨a, xs, i, y, rfl, _⟩ := h
    rfl
  · obtain ⟨a, xs, i, y, rfl, hxs, hl, h0, h1, k⟩ := h
    exact read_at rfl rfl rfl hxs hl h0 h1 k

theorem ok__law_odd (T : Txt K mg) : FnOk P w K mg base CX0 3 T.f__law_odd T.d__law_odd ["pen"] (sp__law_odd K) := by
  refine T.F__law_odd.ok sc__law_odd (fun vs H Q E h => ?_) (fun cdv A outer s H vs Q E hr h => ⟨_, PSs.nox (pss_cons (ps_set (i := 1) sc__law_odd.nd rfl (Or.inl rfl) (pe_lst (pa_cons pe_non (pa_cons pe_bl (pa_cons pe_bl (pa_cons (pe_un un_neg pe_int) (pa_cons pe_int (pa_cons pe_int (pa_cons pe_int (pa_cons pe_int (pa_cons pe_int (pa_cons pe_int (pa_cons pe_int (pa_cons pe_str (pa_cons pe_str (pa_cons pe_str (pa_cons pe_str (pa_cons (pe_tup pa_nil) (pa_cons (pe_lst pa_nil) (pa_cons pe_dnewK (pa_cons (pe_tup (pa_cons pe_int pa_nil)) (pa_cons (pe_tup (pa_cons pe_int (pa_cons pe_int pa_nil))) pa_nil))))))))))))))))))))))
      (pss_cons (ps_set (i := 1) sc__law_odd.nd rfl (Or.inl rfl) (pe_op op_cat (pv 1) (pe_lst (pa_cons (pe_tup (pa_cons pe_int (pa_cons pe_int (pa_cons pe_int pa_nil)))) (pa_cons (pe_op op_pow pe_int pe_int) (pa_cons (pe_tup (pa_cons (pe_tup pa_nil) pa_nil)) (pa_cons (pe_lst (pa_cons pe_int pa_nil)) pa_nil)))))))
      (pss_one (ps_ret (pe_ix ix_list (pv 1) (pe_call (ok__law_draw T) (hr.mono (by decide)) rfl T.g__law_draw T.F__law_draw.kp (bind__law_draw T) .nil pass0 (pa_cons (pv 0) (pa_cons (pe_callB call_len_seq (by rfl) T.n_len (by decide +kernel) (pa_cons (pv 1) pa_nil)) pa_nil))) (fun _ _ => rfl)))))), ?_⟩)
  · obtain ⟨p, g, rfl, _⟩ := h
    rfl
  · obtain ⟨p, g, rfl, P0, k⟩ := h
    refine ⟨_, rfl, by show 0 ≤ sizeLine; decide, fun q1 n1 => ⟨by show 0 ≤ sizeLine; decide, fun q2 n2 => fun q3 n3 => ⟨by show 1 ≤ sizeLine; decide, fun q4 n4 => ⟨by show 2 ≤ sizeLine; decide, fun q5 n5 => ⟨by show 20 ≤ sizeLine; decide, fun S nS => ?_⟩⟩⟩⟩⟩
    have s1 := same_new (o := .tup []) n1
    have P1 := same_pen s1 P0
    have g1 : (upd H q1 (.tup [])) q1 = some (.tup []) := upd_same
    generalize upd H q1 (.tup []) = H1 at s1 P1 g1 n2 n3 n4 n5 nS ⊢
    have s2 := same_new (o := .lst []) n2
    have P2 := same_pen s2 P1
    have g2 : (upd H1 q2 (.lst [])) q2 = some (.lst []) := upd_same
    have d2 := (P1.new_ne n2).1
    replace g1 := s2 _ _ g1
    replace s2 := s1.trans s2
    generalize upd H1 q2 (.lst []) = H2 at s2 P2 g1 g2 n3 n4 n5 nS ⊢
    have s3 := same_new (o := .dK []) n3
    have P3 := same_pen s3 P2
    have g3 : (upd H2 q3 (.dK [])) q3 = some (.dK []) := upd_same
    replace g1 := s3 _ _ g1
    replace g2 := s3 _ _ g2
    replace s3 := s2.trans s3
    generalize upd H2 q3 (.dK []) = H3 at s3 P3 g1 g2 g3 n4 n5 nS ⊢
    have s4 := same_new (o := .tup [V.int 0]) n4
    have P4 := same_pen s4 P3
    have g4 : (upd H3 q4 (.tup [V.int 0])) q4 = some (.tup [V.int 0]) := upd_same
    replace g1 := s4 _ _ g1
    replace g2 := s4 _ _ g2
    replace g3 := s4 _ _ g3
    replace s4 := s3.trans s4
    generalize upd H3 q4 (.tup [V.int 0]) = H4 at s4 P4 g1 g2 g3 g4 n5 nS ⊢
    have s5 := same_new (o := .tup [V.int 1, V.int 2]) n5
    have P5 := same_pen s5 P4
    have g5 : (upd H4 q5 (.tup [V.int 1, V.int 2])) q5 = some (.tup [V.int 1, V.int 2]) := upd_same
    replace g1 := s5 _ _ g1
    replace g2 := s5 _ _ g2
    replace g3 := s5 _ _ g3
    replace g4 := s5 _ _ g4
    replace s5 := s4.trans s5
    generalize upd H4 q5 (.tup [V.int 1, V.int 2]) = H5 at s5 P5 g1 g2 g3 g4 g5 nS ⊢
    have sS := same_new (o := .lst [V.non, V.bl true, V.bl false, V.int (-1), V.int 0, V.int 1, V.int 2, V.int 3, V.int 5, V.int 6, V.int 7, V.str "", V.str "0", V.str "a", V.str "over", V.ref q1, V.ref q2, V.ref q3, V.ref q4, V.ref q5]) nS
    have PS := same_pen sS P5
    have gS : (upd H5 S (.lst [V.non, V.bl true, V.bl false, V.int (-1), V.int 0, V.int 1, V.int 2, V.int 3, V.int 5, V.int 6, V.int 7, V.str "", V.str "0", V.str "a", V.str "over", V.ref q1, V.ref q2, V.ref q3, V.ref q4, V.ref q5])) S = some (.lst [V.non, V.bl true, V.bl false, V.int (-1), V.int 0, V.int 1, V.int 2, V.int 3, V.int 5, V.int 6, V.int 7, V.str "", V.str "0", V.str "a", V.str "over", V.ref q1, V.ref q2, V.ref q3, V.ref q4, V.ref q5]) := upd_same
    replace g1 := sS _ _ g1
    replace g2 := sS _ _ g2
    replace g3 := sS _ _ g3
    replace g4 := sS _ _ g4
    replace g5 := sS _ _ g5
    replace sS := s5.trans sS
    generalize upd H5 S (.lst [V.non, V.bl true, V.bl false, V.int (-1), V.int 0, V.int 1, V.int 2, V.int 3, V.int 5, V.int 6, V.int 7, V.str "", V.str "0", V.str "a", V.str "over", V.ref q1, V.ref q2, V.ref q3, V.ref q4, V.ref q5]) = H6 at sS PS g1 g2 g3 g4 g5 gS ⊢
    refine ⟨_, rfl, by show 3 ≤ sizeLine; decide, fun q6 n6 => ⟨_, _, rfl, rfl, ⟨by decide, by decide, by decide⟩, by show 0 ≤ sizeLine; decide, fun q7 n7 => ⟨by show 1 ≤ sizeLine; decide, fun q8 n8 => ⟨by show 1 ≤ sizeLine; decide, fun q9 n9 => ⟨by show 4 ≤ sizeLine; decide, fun q10 n10 => ?_⟩⟩⟩⟩⟩
    generalize hx : (fun i j : Int => V.int (i ^ j.toNat)) 10 40 = x40
    have ex : x40 = V.int (10 ^ 40) := by rw [← hx]; rfl
    subst ex
    have s6 := same_new (o := .tup [V.int 0, V.int 1, V.int 2]) n6
    have P6 := same_pen s6 PS
    have g6 : (upd H6 q6 (.tup [V.int 0, V.int 1, V.int 2])) q6 = some (.tup [V.int 0, V.int 1, V.int 2]) := upd_same
    replace s6 : Same H6 (upd H6 q6 (.tup [V.int 0, V.int 1, V.int 2])) := s6
    generalize upd H6 q6 (.tup [V.int 0, V.int 1, V.int 2]) = H7 at s6 P6 g6 n7 n8 n9 n10 ⊢
    have s7 := same_new (o := .tup []) n7
    have P7 := same_pen s7 P6
    have g7 : (upd H7 q7 (.tup [])) q7 = some (.tup []) := upd_same
    replace g6 := s7 _ _ g6
    replace s7 := s6.trans s7
    generalize upd H7 q7 (.tup []) = H8 at s7 P7 g6 g7 n8 n9 n10 ⊢
    have s8 := same_new (o := .tup [V.ref q7]) n8
    have P8 := same_pen s8 P7
    have g8 : (upd H8 q8 (.tup [V.ref q7])) q8 = some (.tup [V.ref q7]) := upd_same
    replace g6 := s8 _ _ g6
    replace g7 := s8 _ _ g7
    replace s8 := s7.trans s8
    generalize upd H8 q8 (.tup [V.ref q7]) = H9 at s8 P8 g6 g7 g8 n9 n10 ⊢
    have s9 := same_new (o := .lst [V.int 1]) n9
    have P9 := same_pen s9 P8
    have g9 : (upd H9 q9 (.lst [V.int 1])) q9 = some (.lst [V.int 1]) := upd_same
    have d9 := (P8.new_ne n9).1
    replace g6 := s9 _ _ g6
    replace g7 := s9 _ _ g7
    replace g8 := s9 _ _ g8
    replace s9 := s8.trans s9
    generalize upd H9 q9 (.lst [V.int 1]) = H10 at s9 P9 g6 g7 g8 g9 n10 ⊢
    have sA := same_new (o := .lst [V.ref q6, V.int (10 ^ 40), V.ref q8, V.ref q9]) n10
    have PA' := same_pen sA P9
    have gA : (upd H10 q10 (.lst [V.ref q6, V.int (10 ^ 40), V.ref q8, V.ref q9])) q10 = some (.lst [V.ref q6, V.int (10 ^ 40), V.ref q8, V.ref q9]) := upd_same
    replace g6 := sA _ _ g6
    replace g7 := sA _ _ g7
    replace g8 := sA _ _ g8
    replace g9 := sA _ _ g9
    replace sA := s9.trans sA
    refine ⟨S, q10, _, _, rfl, rfl, sA _ _ gS, gA, by show 24 ≤ sizeLine; decide, fun L nL => ?_⟩
    generalize upd H10 q10 (.lst [V.ref q6, V.int (10 ^ 40), V.ref q8, V.ref q9]) = H11 at sA PA' g6 g7 g8 g9 gA nL ⊢
    have sL := same_new (o := .lst ([V.non, V.bl true, V.bl false, V.int (-1), V.int 0, V.int 1, V.int 2, V.int 3, V.int 5, V.int 6, V.int 7, V.str "", V.str "0", V.str "a", V.str "over", V.ref q1, V.ref q2, V.ref q3, V.ref q4, V.ref q5] ++ [V.ref q6, V.int (10 ^ 40), V.ref q8, V.ref q9])) nL
    have PL := same_pen sL PA'
    have dL := (PA'.new_ne nL).1
    have gL : (upd H11 L (.lst ([V.non, V.bl true, V.bl false, V.int (-1), V.int 0, V.int 1, V.int 2, V.int 3, V.int 5, V.int 6, V.int 7, V.str "", V.str "0", V.str "a", V.str "over", V.ref q1, V.ref q2, V.ref q3, V.ref q4, V.ref q5] ++ [V.ref q6, V.int (10 ^ 40), V.ref q8, V.ref q9]))) L = some (.lst ([V.non, V.bl true, V.bl false, V.int (-1), V.int 0, V.int 1, V.int 2, V.int 3, V.int 5, V.int 6, V.int 7, V.str "", V.str "0", V.str "a", V.str "over", V.ref q1, V.ref q2, V.ref q3, V.ref q4, V.ref q5] ++ [V.ref q6, V.int (10 ^ 40), V.ref q8, V.ref q9])) := upd_same
    have up := sA.trans sL
    replace g1 := up _ _ g1
    replace g2 := up _ _ g2
    replace g3 := up _ _ g3
    replace g4 := up _ _ g4
    replace g5 := up _ _ g5
    replace g6 := sL _ _ g6
    replace g7 := sL _ _ g7
    replace g8 := sL _ _ g8
    replace g9 := sL _ _ g9
    have all := sS.trans up
    generalize upd H11 L (.lst ([V.non, V.bl true, V.bl false, V.int (-1), V.int 0, V.int 1, V.int 2, V.int 3, V.int 5, V.int 6, V.int 7, V.str "", V.str "0", V.str "a", V.str "over", V.ref q1, V.ref q2, V.ref q3, V.ref q4, V.ref q5] ++ [V.ref q6, V.int (10 ^ 40), V.ref q8, V.ref q9])) = H12 at PL gL g1 g2 g3 g4 g5 g6 g7 g8 g9 all ⊢
    obtain ⟨px, hpx⟩ := PL.lst
    have off : ∀ {q : Addr} {xs : List V}, H12 q = some (.tup xs) → q ≠ p := fun hq => ne_of hq hpx (by intro z; cases z)
    have flat : ∀ {v : V} {d : PyData}, (∀ H', Dp K H' v d) → isTup d = false → DvB p K H12 v d ∧ DwS p K H12 v d := by
      intro v d hv ht
      have b : DvB p K H12 v d := fun H' _ => .dp (hv H')
      exact ⟨b, .inl ⟨ht, b⟩⟩
    have tupI : ∀ {q : Addr} {ns : List Int}, H12 q = some (.tup (ns.map V.int)) → DvB p K H12 (.ref q) (.tuple (ns.map PyData.int)) ∧ DwS p K H12 (.ref q) (.tuple (ns.map PyData.int)) := by
      intro q ns hq
      refine ⟨fun H' B => .dp (.tup (SqT.of (B _ _ hq (off hq))) (dp_ints ns)), .inr ⟨q, _, _, rfl, rfl, hq, off hq, ?_⟩⟩
      clear hq
      induction ns with
      | nil => exact .nil
      | cons n ns ih => exact .cons (fun H' _ => .dp (.int n)) ih
    have lstI : ∀ {q : Addr} {ns : List Int}, H12 q = some (.lst (ns.map V.int)) → q ≠ p → DvB p K H12 (.ref q) (.list (ns.map PyData.int)) ∧ DwS p K H12 (.ref q) (.list (ns.map PyData.int)) := by
      intro q ns hq hn
      have b : DvB p K H12 (.ref q) (.list (ns.map PyData.int)) := fun H' B => .dp (.lst (SqL.of (B _ _ hq hn)) (dp_ints ns))
      exact ⟨b, .inl ⟨rfl, b⟩⟩
    have dicI : DvB p K H12 (.ref q3) (.dict []) ∧ DwS p K H12 (.ref q3) (.dict []) := by
      have n3 : q3 ≠ p := ne_of g3 hpx (by intro z; cases z)
      have b : DvB p K H12 (.ref q3) (.dict []) := fun H' B => .dic (B _ _ g3 n3)
      exact ⟨b, .inl ⟨rfl, b⟩⟩
    have nest : DvB p K H12 (.ref q8) (.tuple [.tuple []]) ∧ DwS p K H12 (.ref q8) (.tuple [.tuple []]) := by
      refine ⟨fun H' B => .dp (.tup (SqT.of (B _ _ g8 (off g8))) (.cons (.tup (SqT.of (B _ _ g7 (off g7))) .nil) .nil)), .inr ⟨q8, _, _, rfl, rfl, g8, off g8, ?_⟩⟩
      exact .cons (fun H' B => .dp (.tup (SqT.of (B _ _ g7 (off g7))) .nil)) .nil
    have all24 : Paired (fun v d => DvB p K H12 v d ∧ DwS p K H12 v d) ([V.non, V.bl true, V.bl false, V.int (-1), V.int 0, V.int 1, V.int 2, V.int 3, V.int 5, V.int 6, V.int 7, V.str "", V.str "0", V.str "a", V.str "over", V.ref q1, V.ref q2, V.ref q3, V.ref q4, V.ref q5] ++ [V.ref q6, V.int (10 ^ 40), V.ref q8, V.ref q9]) oddL :=
      .cons (flat (fun _ => .non) rfl) (.cons (flat (fun _ => .bl _) rfl) (.cons (flat (fun _ => .bl _) rfl) (.cons (flat (fun _ => .int _) rfl) (.cons (flat (fun _ => .int _) rfl) (.cons (flat (fun _ => .int _) rfl)
        (.cons (flat (fun _ => .int _) rfl) (.cons (flat (fun _ => .int _) rfl) (.cons (flat (fun _ => .int _) rfl) (.cons (flat (fun _ => .int _) rfl) (.cons (flat (fun _ => .int _) rfl)
        (.cons (flat (fun _ => .str _) rfl) (.cons (flat (fun _ => .str _) rfl) (.cons (flat (fun _ => .str _) rfl) (.cons (flat (fun _ => .str _) rfl)
        (.cons (tupI (ns := []) g1) (.cons (lstI (ns := []) g2 d2) (.cons dicI (.cons (tupI (ns := [0]) g4) (.cons (tupI (ns := [1, 2]) g5) (.cons (tupI (ns := [0, 1, 2]) g6)
        (.cons (flat (fun _ => .int _) rfl) (.cons nest (.cons (lstI (ns := [1]) g9 d9) .nil)))))))))))))))))))))))
    refine ⟨_, rfl, _, rfl, _, rfl, L, _, rfl, .inl (SqL.of gL), p, g, 24, rfl, PL, by decide, small_b (by decide), fun n H' h0 h1 P' B' => ?_⟩
    obtain ⟨v, hv, hat⟩ := atI_some (xs := [V.non, V.bl true, V.bl false, V.int (-1), V.int 0, V.int 1, V.int 2, V.int 3, V.int 5, V.int 6, V.int 7, V.str "", V.str "0", V.str "a", V.str "over", V.ref q1, V.ref q2, V.ref q3, V.ref q4, V.ref q5] ++ [V.ref q6, V.int (10 ^ 40), V.ref q8, V.ref q9]) h0 h1
    obtain ⟨d, hd, hb, hs⟩ := paired_in all24 hv
    exact ⟨L, _, n, v, rfl, rfl, SqL.of (B' _ _ gL dL), hat, k v d H' P' ((same_but all).trans B') (dvB_but B' hb) (dwS_but B' hs) hd⟩


theorem ok__law_history (T : Txt K mg) : FnOk P w K mg base CX0 3 T.f__law_history T.d__law_history ["pen", "most"] (sp__law_history K) := by
  refine T.F__law_history.ok sc__law_history (fun vs H Q E h => ?_) (fun cdv A outer s H vs Q E hr h => ⟨_, PSs.nox (pss_cons (ps_par (i := 2) (j := 3) (by rfl) sc__law_history.nd rfl rfl (by decide) rfl rfl (pa_cons (pe_lst pa_nil) (pa_cons pe_int pa_nil)) (by rfl))
      (pss_cons (ps_for PassesOwn.never rfl (pi_range1 (by rfl) T.n_range (pa_cons (pe_call (ok__law_draw T) (hr.mono (by decide)) rfl T.g__law_draw T.F__law_draw.kp (bind__law_draw T) .nil pass0 (pa_cons (pv 0) (pa_cons (pe_op op_add (pv 1) pe_int) pa_nil))) pa_nil)) (pg_name (i := 4) sc__law_history.nd rfl (Or.inl rfl)) (pss_cons (ps_set (i := 3) sc__law_history.nd rfl (Or.inl rfl) (pe_ifExp (pt_cmpR op_ne (pv 3) pe_int (nomark _)) (pe_call (ok__law_draw T) (hr.mono (by decide)) rfl T.g__law_draw T.F__law_draw.kp (bind__law_draw T) .nil pass0 (pa_cons (pv 0) (pa_cons pe_int pa_nil))) (pe_op op_add pe_int (pe_call (ok__law_draw T) (hr.mono (by decide)) rfl T.g__law_draw T.F__law_draw.kp (bind__law_draw T) .nil pass0 (pa_cons (pv 0) (pa_cons pe_int pa_nil))))))
      (pss_one (ps_expr (pe_bm PySem.F.plainAttrs_list PySem.F.slot_list_append PySem.F.type_list_append mt_append (pv 2) (pa_cons (pv 3) pa_nil))))))
      (pss_one (ps_ret (pe_callTy call_tuple_of (by rfl) T.n_tuple (by decide +kernel) (pa_cons (pv 2) pa_nil)))))), ?_⟩)
  · obtain ⟨p, g, most, rfl, _⟩ := h
    rfl
  · obtain ⟨p, g, most, rfl, P0, hm, k⟩ := h
    refine ⟨by show 0 ≤ sizeLine; decide, fun L nL => ⟨_, _, rfl, ?_⟩⟩
    have s0 := same_new (o := .lst []) nL
    have dL := (P0.new_ne nL).1
    refine ⟨_, rfl, _, rfl, _, _, rfl, rfl, p, g, ((most : Nat) : Int) + 1, rfl, same_pen s0 P0, by omega, small_b (Nat.lt_of_le_of_lt (m := 101) (by omega) (by decide)), fun n H1 h0 h1 P1 B1 => ?_⟩
    refine ⟨n, rfl, by omega, by omega, for_range (lo := 0) (n := n.toNat) (fun i σ H' => Pen H' p g ∧ But p H H' ∧ ∃ (c : Int) (hs : List Int) (lv : Option V), σ = [some (.ref p), some (.int most), some (.ref L), some (.int c), lv] ∧ hs.length = i ∧
      (∀ h ∈ hs, 0 ≤ h ∧ h ≤ 2) ∧ H' L = some (.lst (hs.map V.int))) ?_ ?_ ?_⟩
    · exact ⟨P1, (same_but s0).trans B1, 0, [], none, rfl, rfl, fun h hh => absurd hh List.not_mem_nil, B1 _ _ upd_same dL⟩
    · rintro i σ H2 hi ⟨P2, B2, c, hs, lv, rfl, hlen, hr, hL⟩
      refine seq_set2 (val_of (fun v H3 => ∃ u : Int, v = .int u ∧ 0 ≤ u ∧ u ≤ 2 ∧ Pen H3 p g ∧ But p H2 H3) (fun Q' hQ => ?_) ?_)
      · refine ⟨_, rfl, rfl, _, rfl, ite2 (fun _ => ?_) (fun _ => ?_)⟩
        · exact ⟨_, rfl, p, g, 3, rfl, P2, by decide, by decide, fun u H3 u0 u1 P3 B3 => hQ _ _ ⟨u, rfl, u0, by omega, P3, B3⟩⟩
        · exact ⟨_, rfl, p, g, 2, rfl, P2, by decide, by decide, fun u H3 u0 u1 P3 B3 => ⟨_, _, rfl, rfl, hQ _ _ ⟨1 + u, rfl, by omega, by omega, P3, B3⟩⟩⟩
      rintro _ H3 ⟨u, rfl, u0, u1, P3, B3⟩
      have hL3 := B3 _ _ hL dL
      refine ⟨_, rfl, .inl ⟨rfl, _, SqL.of hL3⟩, _, rfl, L, _, _, rfl, rfl, hL3, ?_, P3.upd dL ?_, (B2.trans B3).upd nL, u, hs ++ [u], _, rfl, ?_, ?_, ?_⟩
      · rw [List.length_map, sizeLine_eq]
        omega
      · obtain ⟨ns, x1, x2, ng, x4, x5⟩ := P0
        exact ne_of_none x5 nL |>.symm
      · rw [List.length_append, hlen]
        rfl
      · intro h hh
        rcases List.mem_append.mp hh with z | z
        · exact hr h z
        · rw [List.mem_singleton.mp z]
          exact ⟨u0, u1⟩
      · rw [upd_same, List.map_append]
        rfl
    · rintro σ H2 ⟨P2, B2, c, hs, lv, rfl, hlen, hr, hL⟩
      refine ⟨_, rfl, L, _, rfl, .inl ⟨SqL.of hL, fun t nt => ?_⟩⟩
      have s3 := same_new (o := .tup (hs.map V.int)) nt
      exact k t hs _ (same_pen s3 P2) (B2.same s3) ⟨upd_same, by omega, hr⟩

theorem ok__law_told (T : Txt K mg) : FnOk P w K mg base CX0 1 T.f__law_told T.d__law_told ["here", "later", "mark"] (sp__law_told K) := by
  refine T.F__law_told.ok sc__law_told (fun vs H Q E h => ?_) (fun cdv A outer s H vs Q E hr h => ⟨_, PSs.nox (pss_cons (ps_set (i := 3) sc__law_told.nd rfl (Or.inl rfl) (pe_lst pa_nil))
      (pss_cons (ps_if (PW.pt (pw_and (pt_cmpR op_ne (pv 0) pe_int (nomark _)) (pw_and1 (pt_cmpR op_ne (pv 0) (pv 1) (nomark _))))) (pss_one (ps_expr (pe_bm PySem.F.plainAttrs_list PySem.F.slot_list_append PySem.F.type_list_append mt_append (pv 3) (pa_cons (pe_tup (pa_cons (pv 0) (pa_cons pe_int (pa_cons (pv 2) pa_nil)))) pa_nil)))) pss_nil)
      (pss_cons (ps_if (pt_cmpR op_ne (pv 1) pe_int (nomark _)) (pss_one (ps_expr (pe_bm PySem.F.plainAttrs_list PySem.F.slot_list_append PySem.F.type_list_append mt_append (pv 3) (pa_cons (pe_tup (pa_cons (pv 1) (pa_cons pe_int (pa_cons (pv 2) pa_nil)))) pa_nil)))) pss_nil)
      (pss_one (ps_ret (pv 3)))))), ?_⟩)
  · obtain ⟨p, l, t, rfl, _⟩ := h
    rfl
  · obtain ⟨p, l, t, rfl, k⟩ := h
    refine seq_set2 ⟨by show 0 ≤ sizeLine; decide, fun L nL => ?_⟩
    have s0 := same_new (o := .lst []) nL
    refine seq_join (fun σ H2 => σ = [some (.int p), some (.int l), some (.int t), some (.ref L)] ∧ Same H H2 ∧ ∃ xs, H2 L = some (.lst xs) ∧ Paired (ET K H2) xs (if p ≠ 0 ∧ p ≠ l then [(p, 0, t)] else [])) (fun nx hn => ?_) ?_
    · have no : ¬ (p ≠ 0 ∧ p ≠ l) → nx [some (.int p), some (.int l), some (.int t), some (.ref L)] (upd H L (.lst [])) := fun z =>
        hn _ _ ⟨rfl, s0, [], upd_same, by rw [if_neg z]; exact .nil⟩
      refine ⟨_, rfl, rfl, ?_⟩
      by_cases hp0 : p = 0
      · subst hp0
        refine ⟨_, rfl, ite2 (fun z => absurd z (by decide)) (fun _ => ?_)⟩
        exact iteF (no fun z => z.1 rfl)
      have e : (!decide (V.int p = V.int 0)) = true := by
        rw [decide_eq_false (fun z => hp0 (by injection z))]
        rfl
      refine ⟨_, rfl, ite2 (fun _ => ?_) (fun z => absurd e z)⟩
      refine ⟨_, rfl, _, rfl, rfl, _, rfl, ?_⟩
      by_cases hpl : p = l
      · subst hpl
        refine ite2 (fun z => absurd z (by simp)) (fun _ => ?_)
        exact no fun z => z.2 rfl
      have e2 : (!decide (V.int p = V.int l)) = true := by
        rw [decide_eq_false (fun z => hpl (by injection z))]
        rfl
      refine ite2 (fun _ => ?_) (fun z => absurd e2 z)
      refine ⟨_, rfl, .inl ⟨rfl, _, SqL.of upd_same⟩, _, rfl, _, rfl, by show 3 ≤ sizeLine; decide, fun q nq => ?_⟩
      have s1 := same_new (o := .tup [V.int p, V.int 0, V.int t]) nq
      refine ⟨L, [], _, rfl, rfl, s1 _ _ upd_same, by show 0 < sizeLine; decide, hn _ _ ⟨rfl, same_lst (s0.trans s1) nL, _, upd_same, ?_⟩⟩
      rw [if_pos ⟨hp0, hpl⟩]
      exact .cons ⟨q, rfl, tup_lst (s1 _ _ upd_same) (SqT.of upd_same)⟩ .nil
    rintro _ H1 ⟨rfl, s1, xs, hL, hp⟩
    refine seq_join (fun σ H2 => σ = [some (.int p), some (.int l), some (.int t), some (.ref L)] ∧ Same H H2 ∧ ∃ xs, H2 L = some (.lst xs) ∧ Paired (ET K H2) xs (entL p l t)) (fun nx hn => ?_) ?_
    · refine ⟨_, rfl, rfl, _, rfl, ?_⟩
      by_cases hl0 : l = 0
      · subst hl0
        refine ite2 (fun z => absurd z (by decide)) (fun _ => hn _ _ ⟨rfl, s1, xs, hL, ?_⟩)
        have e : entL p 0 t = if p ≠ 0 ∧ p ≠ 0 then [(p, 0, t)] else [] := by
          unfold entL
          rw [if_neg (fun z : (0 : Int) ≠ 0 => z rfl), List.append_nil]
        rw [e]
        exact hp
      have e : (!decide (V.int l = V.int 0)) = true := by
        rw [decide_eq_false (fun z => hl0 (by injection z))]
        rfl
      refine ite2 (fun _ => ?_) (fun z => absurd e z)
      refine ⟨_, rfl, .inl ⟨rfl, _, SqL.of hL⟩, _, rfl, _, rfl, by show 3 ≤ sizeLine; decide, fun q nq => ?_⟩
      have s2 := same_new (o := .tup [V.int l, V.int 1, V.int t]) nq
      refine ⟨L, xs, _, rfl, rfl, s2 _ _ hL, ?_, hn _ _ ⟨rfl, same_lst (s1.trans s2) nL, _, upd_same, ?_⟩⟩
      · have b1 : (if p ≠ 0 ∧ p ≠ l then [((p, 0, t) : Ent)] else []).length ≤ 1 := by split <;> simp
        rw [hp.length, sizeLine_eq]
        omega
      · unfold entL
        rw [if_pos hl0]
        exact ets_app (ets_lst (s2 _ _ hL) (ets_same s2 hp)) (.cons ⟨q, rfl, tup_lst (s2 _ _ hL) (SqT.of upd_same)⟩ .nil)
    rintro _ H2 ⟨rfl, s2, ys, hL2, hp2⟩
    exact ⟨_, rfl, k L ys H2 s2 nL hL2 hp2⟩

theorem ok__law_history_due (T : Txt K mg) : FnOk P w K mg base CX0 2 T.f__law_history_due T.d__law_history_due ["value"] (sp__law_history_due K) := by
  refine T.F__law_history_due.ok sc__law_history_due (fun vs H Q E h => ?_) (fun cdv A outer s H vs Q E hr h => ⟨_, PSs.nox (pss_cons (ps_if (PW.pt (pw_or (pt_not (pt_val (pe_callB call_isi (by rfl) T.n_isinstance (by decide +kernel) (pa_cons (pv 0) (pa_cons (pe_bltn (v := .ty "tuple") (by rfl) T.n_tuple (by decide +kernel) rfl) pa_nil))))) (pw_or1 (pt_cmpR op_gt (pe_callB call_len_seq (by rfl) T.n_len (by decide +kernel) (pa_cons (pv 0) pa_nil)) pe_int (nomark _))))) (pss_one (ps_ret (pe_tup (pa_cons pe_non pa_nil)))) pss_nil)
      (pss_cons (ps_set (i := 1) sc__law_history_due.nd rfl (Or.inl rfl) pe_int)
      (pss_cons (ps_for PassesOwn.never rfl (pi_enumT (by rfl) T.n_enumerate (pa_cons (pv 0) pa_nil)) (pg_tup (by rfl) (pgs_cons (pg_name (i := 2) sc__law_history_due.nd rfl (Or.inl rfl)) (pgs_cons (pg_name (i := 3) sc__law_history_due.nd rfl (Or.inl rfl)) pgs_nil))) (pss_cons (ps_if (PW.pt (pw_or (pt_not (pt_val (pe_call (ok__law_is_number T) (hr.mono (by decide)) rfl T.g__law_is_number T.F__law_is_number.kp (bind__law_is_number T) .nil pass0 (pa_cons (pv 3) (pa_cons pe_int (pa_cons pe_int pa_nil)))))) (pw_or1 (PW.pt (pw_and (pt_cmpR op_eq (pv 1) pe_int (nomark _)) (pw_and1 (pt_cmpR op_eq (pv 3) pe_int (nomark _)))))))) (pss_one (ps_ret (pe_tup (pa_cons (pv 2) pa_nil)))) pss_nil)
      (pss_one (ps_set (i := 1) sc__law_history_due.nd rfl (Or.inl rfl) (pv 3)))))
      (pss_one (ps_ret pe_non))))), ?_⟩)
  · obtain ⟨v, d, rfl, _⟩ := h
    rfl
  · obtain ⟨v, d, rfl, hd, k⟩ := h
    have no : due d = some .none → ∀ Q' : VK, (∀ v' H', Same H H' → Dp K H' v' (dueV d) → Q' v' H') → ∀ (q : Addr), H q = none → Q' (.ref q) (upd H q (.tup [V.non])) := by
      intro hn Q' k' q nq
      have e : dueV d = .tuple [.none] := by unfold dueV; rw [hn]
      rw [e] at k'
      exact k' _ _ (same_new nq) (.tup (SqT.of upd_same) (.cons .non .nil))
    refine ⟨_, rfl, v, .ty "tuple", _, _, isTup d, rfl, .ty _, dw_ty hd, kit_tup d, isTup d, rfl, ?_⟩
    cases ht : isTup d with
    | false => exact iteT (iteT ⟨by show 1 ≤ sizeLine; decide, fun q nq => no (due_not ht) _ k q nq⟩)
    | true =>
      refine iteF ?_
      obtain ⟨a, xs, ds, rfl, rfl, hxs, hp⟩ := dw_tup hd ht
      have hlen := hp.length
      refine ⟨_, rfl, a, xs, rfl, .inr hxs, _, _, rfl, rfl, _, rfl, ?_⟩
      by_cases h10 : ds.length ≤ 1000
      · refine ite2 (fun z => ?_) (fun _ => ?_)
        · exfalso
          have z' := of_decide_eq_true z
          omega
        have one : ∀ i : Nat, badH 0 0 ds = some i → dueV (.tuple ds) = .tuple [.int i] := by
          intro i hb
          have e := due_ok h10
          rw [hb] at e
          unfold dueV
          rw [e]
          rfl
        refine ⟨_, rfl, a, xs, rfl, hxs, for_enT (xs := xs) (fun i σ H' => Same H H' ∧ ∃ (c : Int) (iv av : Option V), σ = [some (.ref a), some (.int c), iv, av] ∧ badH 0 0 ds = badH c i (ds.drop i)) ?_ (fun i σ H' _ h => same_tup h.1 hxs) ?_ ?_⟩
        · exact ⟨Same.refl H, 0, none, none, rfl, rfl⟩
        · rintro i x σ H1 T1 hx ⟨s1, c, iv, av, rfl, hbad⟩ nT
          obtain ⟨e, he, hv⟩ := paired_at hp hx
          have sT := same_new (o := .tup [V.int (i : Nat), x]) nT
          rw [drop_cons he] at hbad
          refine ⟨T1, _, rfl, SqT.of upd_same, rfl, _, _, rfl, _, _, rfl, rfl, ?_⟩
          refine ⟨_, rfl, x, e, 0, 2, rfl, dv_same (s1.trans sT) hv, ?_⟩
          have fin : badH 0 0 ds = some i → ∀ (q : Addr), (upd H1 T1 (.tup [V.int (i : Nat), x])) q = none → Q (.ref q) (upd (upd H1 T1 (.tup [V.int (i : Nat), x])) q (.tup [V.int (i : Nat)])) := by
            intro hb q nq
            rw [one i hb] at k
            exact k _ _ ((s1.trans sT).trans (same_new nq)) (.tup (SqT.of upd_same) (.cons (.int _) .nil))
          cases hb : isAct 0 2 e with
          | false =>
            rw [bad_no hb] at hbad
            exact ⟨false, rfl, iteT (iteT ⟨_, rfl, by show 1 ≤ sizeLine; decide, fun q nq => fin hbad q nq⟩)⟩
          | true =>
            obtain ⟨q, rfl, rfl⟩ := act_v hv hb
            rw [bad_int hb] at hbad
            refine ⟨true, rfl, iteF ?_⟩
            refine ⟨_, rfl, rfl, _, rfl, ?_⟩
            by_cases hc0 : c = 0
            · subst hc0
              refine ite2 (fun _ => ?_) (fun z => absurd z (by decide))
              refine ⟨_, rfl, rfl, _, rfl, ?_⟩
              by_cases hq0 : q = 0
              · subst hq0
                rw [if_neg (by simp)] at hbad
                exact ite2 (fun _ => ⟨_, rfl, by show 1 ≤ sizeLine; decide, fun q nq => fin hbad q nq⟩) (fun z => absurd z (by decide))
              · rw [if_pos (.inr hq0)] at hbad
                exact ite2 (fun z => absurd (by injection (of_decide_eq_true z)) hq0) (fun _ => ⟨_, rfl, s1.trans sT, q, _, _, rfl, hbad⟩)
            · rw [if_pos (.inl hc0)] at hbad
              exact ite2 (fun z => absurd (by injection (of_decide_eq_true z)) hc0) (fun _ => iteF ⟨_, rfl, s1.trans sT, q, _, _, rfl, hbad⟩)
        · rintro σ H1 ⟨s1, c, iv, av, rfl, hbad⟩
          rw [hlen, List.drop_length] at hbad
          have e := due_ok h10
          rw [hbad] at e
          have e2 : dueV (.tuple ds) = .none := by
            unfold dueV
            rw [e]
            rfl
          rw [e2] at k
          exact k _ _ s1 .non
      · refine ite2 (fun z => ?_) (fun z => ?_)
        · exact ⟨by show 1 ≤ sizeLine; decide, fun q nq => no (due_long h10) _ k q nq⟩
        · exfalso
          apply z
          refine decide_eq_true ?_
          omega

theorem tup_off {p g : Addr} {H : Hp} {q : Addr} {xs : List V} (P : Pen H p g) (h : H q = some (.tup xs)) : q ≠ p := by
  obtain ⟨px, hpx⟩ := P.lst
  exact ne_of h hpx (by intro z; cases z)
theorem dvB_int {p : Addr} {K : PySem.W.Frag} {H : Hp} (i : Int) : DvB p K H (.int i) (.int i) := fun _ _ => .dp (.int i)
/-- a tuple of small numbers as a value -/
theorem dwS_nums {p : Addr} {K : PySem.W.Frag} {H : Hp} {t : Addr} {ns : List Int} (h : H t = some (.tup (ns.map V.int))) (n : t ≠ p) : DwS p K H (.ref t) (.tuple (ns.map PyData.int)) :=
  .inr ⟨t, _, _, rfl, rfl, h, n, ints_dvX (K := K) dvB_int ns⟩
theorem lf_nums {ns : List Int} (h : ∀ n ∈ ns, -1 ≤ n ∧ n ≤ 6) : ∀ e ∈ ns.map PyData.int, Lf e := by
  intro e he
  obtain ⟨n, hn, rfl⟩ := List.mem_map.mp he
  exact .inr ⟨n, rfl, (h n hn).1, (h n hn).2⟩
theorem vl_nums {ns : List Int} (h : ∀ n ∈ ns, -1 ≤ n ∧ n ≤ 6) (hl : ns.length ≤ 1100) : Vl (.tuple (ns.map PyData.int)) :=
  .inr (.inl ⟨_, rfl, lf_nums h, by rw [List.length_map]; exact hl⟩)
theorem lf_set {ds : List PyData} {d : PyData} (h : ∀ e ∈ ds, Lf e) (hd : Lf d) (j : Nat) : ∀ e ∈ ds.set j d, Lf e := by
  intro e he
  rcases List.mem_or_eq_of_mem_set he with z | z
  · exact h e z
  · exact z ▸ hd
theorem in_rep {ns : List Int} {lo hi : Int} (h : ∀ n ∈ ns, lo ≤ n ∧ n ≤ hi) {rs : List Int} (hm : ∀ r ∈ rs, r ∈ ns) : ∀ r ∈ rs, lo ≤ r ∧ r ≤ hi := fun r hr => h r (hm r hr)

theorem ok__law_value (T : Txt K mg) : FnOk P w K mg base CX0 4 T.f__law_value T.d__law_value ["pen"] (sp__law_value K) := by
  refine T.F__law_value.ok sc__law_value (fun vs H Q E h => ?_) (fun cdv A outer s H vs Q E hr h => ⟨_, PSs.nox (pss_cons (ps_set (i := 1) sc__law_value.nd rfl (Or.inl rfl) (pe_call (ok__law_history T) (hr.mono (by decide)) rfl T.g__law_history T.F__law_history.kp (bind__law_history T) .nil pass0 (pa_cons (pv 0) (pa_cons pe_int pa_nil))))
      (pss_cons (ps_set (i := 2) sc__law_value.nd rfl (Or.inl rfl) (pe_call (ok__law_draw T) (hr.mono (by decide)) rfl T.g__law_draw T.F__law_draw.kp (bind__law_draw T) .nil pass0 (pa_cons (pv 0) (pa_cons pe_int pa_nil))))
      (pss_cons (ps_if (pt_cmpR op_eq (pv 2) pe_int (nomark _)) (pss_one (ps_ret (pe_call (ok__law_at T) (hr.mono (by decide)) rfl T.g__law_at T.F__law_at.kp (bind__law_at T) .nil pass0 (pa_cons (pe_op op_repT2 (pe_tup (pa_cons pe_int (pa_cons pe_int pa_nil))) pe_int) (pa_cons (pe_call (ok__law_draw T) (hr.mono (by decide)) rfl T.g__law_draw T.F__law_draw.kp (bind__law_draw T) .nil pass0 (pa_cons (pv 0) (pa_cons pe_int pa_nil))) (pa_cons (pe_call (ok__law_one_of T) (hr.mono (by decide)) rfl T.g__law_one_of T.F__law_one_of.kp (bind__law_one_of T) .nil pass0 (pa_cons (pv 0) (pa_cons (pe_lst (pa_cons (pe_call (ok__law_odd T) (hr.mono (by decide)) rfl T.g__law_odd T.F__law_odd.kp (bind__law_odd T) .nil pass0 (pa_cons (pv 0) pa_nil)) (pa_cons pe_int (pa_cons pe_int (pa_cons (pe_un un_neg pe_int) pa_nil))))) pa_nil))) pa_nil)))))) pss_nil)
      (pss_cons (ps_if (pt_cmpR op_eq (pv 2) pe_int (nomark _)) (pss_one (ps_ret (pe_call (ok__law_one_of T) (hr.mono (by decide)) rfl T.g__law_one_of T.F__law_one_of.kp (bind__law_one_of T) .nil pass0 (pa_cons (pv 0) (pa_cons (pe_lst (pa_cons (pe_callTy call_list_of (by rfl) T.n_list (by decide +kernel) (pa_cons (pv 1) pa_nil)) (pa_cons (pe_op op_repT2 (pe_tup (pa_cons pe_int pa_nil)) pe_int) (pa_cons (pe_op op_repT2 (pe_tup (pa_cons pe_int pa_nil)) pe_int) (pa_cons (pe_op op_catA (pe_op op_repT2 (pe_tup (pa_cons pe_int (pa_cons pe_int pa_nil))) pe_int) (pe_tup (pa_cons pe_int pa_nil))) (pa_cons (pe_op op_repT2 (pe_tup (pa_cons pe_int pa_nil)) pe_int) (pa_cons (pe_call (ok__law_odd T) (hr.mono (by decide)) rfl T.g__law_odd T.F__law_odd.kp (bind__law_odd T) .nil pass0 (pa_cons (pv 0) pa_nil)) pa_nil))))))) pa_nil))))) pss_nil)
      (pss_cons (ps_for PassesOwn.never rfl (pi_range1 (by rfl) T.n_range (pa_cons (pe_call (ok__law_one_of T) (hr.mono (by decide)) rfl T.g__law_one_of T.F__law_one_of.kp (bind__law_one_of T) .nil pass0 (pa_cons (pv 0) (pa_cons (pe_lst (pa_cons pe_int (pa_cons pe_int (pa_cons pe_int (pa_cons pe_int pa_nil))))) pa_nil))) pa_nil)) (pg_name (i := 3) sc__law_value.nd rfl (Or.inl rfl)) (pss_one (ps_if (pt_cmpR (op_neT0 hr.units0) (pv 1) (pe_tup pa_nil) (nomark _)) (pss_one (ps_set (i := 1) sc__law_value.nd rfl (Or.inl rfl) (pe_call (ok__law_at T) (hr.mono (by decide)) rfl T.g__law_at T.F__law_at.kp (bind__law_at T) .nil pass0 (pa_cons (pv 1) (pa_cons (pe_call (ok__law_draw T) (hr.mono (by decide)) rfl T.g__law_draw T.F__law_draw.kp (bind__law_draw T) .nil pass0 (pa_cons (pv 0) (pa_cons (pe_callB call_len_seq (by rfl) T.n_len (by decide +kernel) (pa_cons (pv 1) pa_nil)) pa_nil))) (pa_cons (pe_call (ok__law_one_of T) (hr.mono (by decide)) rfl T.g__law_one_of T.F__law_one_of.kp (bind__law_one_of T) .nil pass0 (pa_cons (pv 0) (pa_cons (pe_lst (pa_cons (pe_call (ok__law_odd T) (hr.mono (by decide)) rfl T.g__law_odd T.F__law_odd.kp (bind__law_odd T) .nil pass0 (pa_cons (pv 0) pa_nil)) (pa_cons pe_int (pa_cons pe_int (pa_cons pe_int (pa_cons (pe_un un_neg pe_int) (pa_cons pe_bl pa_nil))))))) pa_nil))) pa_nil)))))) pss_nil)))
      (pss_one (ps_ret (pv 1)))))))), ?_⟩)
  · obtain ⟨p, g, rfl, _⟩ := h
    rfl
  · obtain ⟨p, g, rfl, P0, k⟩ := h
    refine ⟨_, rfl, p, g, 12, rfl, P0, by decide, fun t hs H1 P1 B1 hH => ?_⟩
    obtain ⟨ht, hlen, hran⟩ := hH
    refine ⟨_, rfl, p, g, 8, rfl, P1, by decide, by decide, fun n H2 n0 n1 P2 B2 => ?_⟩
    have ht2 := B2 _ _ ht (tup_off P1 ht)
    have bt := B1.trans B2
    refine ⟨_, rfl, rfl, _, rfl, ite2 (fun _ => ?_) (fun _ => ?_)⟩
    · -- one place of a long one
      refine ⟨by show 2 ≤ sizeLine; decide, fun q1 m1 => ⟨q1, 500, [.int 1, .int 2], rfl, rfl, SqT.of upd_same, List.cons_ne_nil _ _, by decide, by decide, by decide, fun q2 m2 => ?_⟩⟩
      obtain ⟨rs, er, hrl, hrm⟩ := rep_get 500 [1, 2]
      rw [show (List.replicate (500 : Int).toNat [V.int 1, V.int 2]).flatten = rs.map V.int from er]
      have hrr := in_rep (lo := 1) (hi := 2) (by decide) hrm
      have s1 := same_new (o := .tup [V.int 1, V.int 2]) m1
      have s2 := s1.trans (same_new (o := .tup (rs.map V.int)) m2)
      have g2 : (upd (upd H2 q1 (.tup [V.int 1, V.int 2])) q2 (.tup (rs.map V.int))) q2 = some (.tup (rs.map V.int)) := upd_same
      have P3 := same_pen s2 P2
      generalize upd (upd H2 q1 (.tup [V.int 1, V.int 2])) q2 (.tup (rs.map V.int)) = H3 at s2 g2 P3 ⊢
      refine ⟨_, rfl, p, g, 1000, rfl, P3, by decide, by decide, fun m H4 m0 m1' P4 B4 => ?_⟩
      refine ⟨_, rfl, _, rfl, p, g, rfl, P4, fun vo dO H5 P5 B5 hvo hso hdo => ⟨_, rfl, by show 4 ≤ sizeLine; decide, fun l nl => ?_⟩⟩
      have s6 := same_new (o := .lst [vo, V.int 0, V.int 3, V.int (-1)]) nl
      refine ⟨p, g, l, _, rfl, same_pen s6 P5, (P5.new_ne nl).1, upd_same, List.cons_ne_nil _ _, by show 4 ≤ 1000; decide, fun w H7 hw P7 B7 => ?_⟩
      have B57 := (same_but s6).trans B7
      have B37 := (B4.trans B5).trans B57
      have g7 := B37 _ _ g2 (tup_off P3 g2)
      obtain ⟨dw, hwd, hwl⟩ : ∃ dw, DvB p K H7 w dw ∧ Lf dw := by
        simp only [List.mem_cons, List.not_mem_nil, or_false] at hw
        rcases hw with rfl | rfl | rfl | rfl
        · exact ⟨dO, dvB_but B57 hvo, .inl hdo⟩
        · exact ⟨_, dvB_int 0, .inr ⟨0, rfl, by decide, by decide⟩⟩
        · exact ⟨_, dvB_int 3, .inr ⟨3, rfl, by decide, by decide⟩⟩
        · exact ⟨_, dvB_int (-1), .inr ⟨-1, rfl, by decide, by decide⟩⟩
      have hl1 : (rs.map V.int).length = 1000 := by rw [List.length_map, hrl]; rfl
      refine ⟨q2, rs.map V.int, m, w, rfl, SqT.of g7, by omega, m0, by omega, fun r H8 s8 hr8 => ?_⟩
      refine k _ (.tuple ((rs.map PyData.int).set m.toNat dw)) H8 (same_pen s8 P7) (((bt.same s2).trans B37).same s8) ?_ ?_
      · exact .inr ⟨r, _, _, rfl, rfl, hr8, tup_off (same_pen s8 P7) hr8, paired_set _ (ints_dvX (K := K) dvB_int rs) (dvB_but (same_but s8) hwd)⟩
      · refine .inr (.inl ⟨_, rfl, lf_set (lf_nums fun r hr => ⟨by have := hrr r hr; omega, by have := hrr r hr; omega⟩) hwl _, ?_⟩)
        rw [List.length_set, List.length_map, hrl]
        decide
    refine ⟨_, rfl, rfl, _, rfl, ite2 (fun _ => ?_) (fun _ => ?_)⟩
    · -- whole values
      refine ⟨_, rfl, _, rfl, t, _, rfl, .inr (SqT.of ht2), fun a1 m1 => ?_⟩
      have s3 := same_new (o := .lst (hs.map V.int)) m1
      have ga1 : (upd H2 a1 (.lst (hs.map V.int))) a1 = some (.lst (hs.map V.int)) := upd_same
      have P3 := same_pen s3 P2
      have da1 := (P2.new_ne m1).1
      generalize upd H2 a1 (.lst (hs.map V.int)) = H3 at *
      refine ⟨by show 1 ≤ sizeLine; decide, fun a2 m2 => ⟨a2, 1000, [.int 1], rfl, rfl, SqT.of upd_same, List.cons_ne_nil _ _, by decide, by decide, by decide, fun a3 m3 => ?_⟩⟩
      obtain ⟨ra, era, lra, ira⟩ := rep_get 1000 [1]
      rw [show (List.replicate (1000 : Int).toNat [V.int 1]).flatten = ra.map V.int from era]
      have s4 := same_new (o := .tup [V.int 1]) m2
      have ga2 : (upd H3 a2 (.tup [V.int 1])) a2 = some (.tup [V.int 1]) := upd_same
      have P4 := same_pen s4 P3
      replace ga1 := s4 _ _ ga1
      replace s4 := s3.trans s4
      generalize upd H3 a2 (.tup [V.int 1]) = H4 at *
      have s5 := same_new (o := .tup (ra.map V.int)) m3
      have ga3 : (upd H4 a3 (.tup (ra.map V.int))) a3 = some (.tup (ra.map V.int)) := upd_same
      have P5 := same_pen s5 P4
      replace ga1 := s5 _ _ ga1
      replace s5 := s4.trans s5
      generalize upd H4 a3 (.tup (ra.map V.int)) = H5 at *
      refine ⟨by show 1 ≤ sizeLine; decide, fun a4 m4 => ⟨a4, 1001, [.int 1], rfl, rfl, SqT.of upd_same, List.cons_ne_nil _ _, by decide, by decide, by decide, fun a5 m5 => ?_⟩⟩
      obtain ⟨rb, erb, lrb, irb⟩ := rep_get 1001 [1]
      rw [show (List.replicate (1001 : Int).toNat [V.int 1]).flatten = rb.map V.int from erb]
      have s6 := same_new (o := .tup [V.int 1]) m4
      have ga4 : (upd H5 a4 (.tup [V.int 1])) a4 = some (.tup [V.int 1]) := upd_same
      have P6 := same_pen s6 P5
      replace ga1 := s6 _ _ ga1
      replace ga3 := s6 _ _ ga3
      replace s6 := s5.trans s6
      generalize upd H5 a4 (.tup [V.int 1]) = H6 at *
      have s7 := same_new (o := .tup (rb.map V.int)) m5
      have ga5 : (upd H6 a5 (.tup (rb.map V.int))) a5 = some (.tup (rb.map V.int)) := upd_same
      have P7 := same_pen s7 P6
      replace ga1 := s7 _ _ ga1
      replace ga3 := s7 _ _ ga3
      replace s7 := s6.trans s7
      generalize upd H6 a5 (.tup (rb.map V.int)) = H7 at *
      refine ⟨by show 2 ≤ sizeLine; decide, fun a6 m6 => ⟨a6, 500, [.int 1, .int 0], rfl, rfl, SqT.of upd_same, List.cons_ne_nil _ _, by decide, by decide, by decide, fun a7 m7 => ?_⟩⟩
      obtain ⟨rc, erc, lrc, irc⟩ := rep_get 500 [1, 0]
      rw [show (List.replicate (500 : Int).toNat [V.int 1, V.int 0]).flatten = rc.map V.int from erc]
      have s8 := same_new (o := .tup [V.int 1, V.int 0]) m6
      have ga6 : (upd H7 a6 (.tup [V.int 1, V.int 0])) a6 = some (.tup [V.int 1, V.int 0]) := upd_same
      have P8 := same_pen s8 P7
      replace ga1 := s8 _ _ ga1
      replace ga3 := s8 _ _ ga3
      replace ga5 := s8 _ _ ga5
      replace s8 := s7.trans s8
      generalize upd H7 a6 (.tup [V.int 1, V.int 0]) = H8 at *
      have s9 := same_new (o := .tup (rc.map V.int)) m7
      have ga7 : (upd H8 a7 (.tup (rc.map V.int))) a7 = some (.tup (rc.map V.int)) := upd_same
      have P9 := same_pen s9 P8
      replace ga1 := s9 _ _ ga1
      replace ga3 := s9 _ _ ga3
      replace ga5 := s9 _ _ ga5
      replace s9 := s8.trans s9
      generalize upd H8 a7 (.tup (rc.map V.int)) = H9 at *
      refine ⟨by show 1 ≤ sizeLine; decide, fun a8 m8 => ?_⟩
      have s10 := same_new (o := .tup [V.int 1]) m8
      have ga8 : (upd H9 a8 (.tup [V.int 1])) a8 = some (.tup [V.int 1]) := upd_same
      have P10 := same_pen s10 P9
      replace ga1 := s10 _ _ ga1
      replace ga3 := s10 _ _ ga3
      replace ga5 := s10 _ _ ga5
      replace ga7 := s10 _ _ ga7
      replace s10 := s9.trans s10
      generalize upd H9 a8 (.tup [V.int 1]) = H10 at *
      have lc : (rc.map V.int).length = 1000 := by
        rw [List.length_map, lrc]
        rfl
      refine ⟨a7, a8, _, _, rfl, rfl, SqT.of ga7, SqT.of ga8, ?_, fun z => ?_, fun _ z => absurd z (List.cons_ne_nil _ _), fun _ _ a9 m9 => ?_⟩
      · rw [lc, sizeLine_eq]
        decide
      · rw [z] at lc
        cases lc
      have ec : rc.map V.int ++ [V.int 1] = (rc ++ [1]).map V.int := by
        rw [List.map_append]
        rfl
      rw [ec]
      have s11 := same_new (o := .tup ((rc ++ [1]).map V.int)) m9
      have ga9 : (upd H10 a9 (.tup ((rc ++ [1]).map V.int))) a9 = some (.tup ((rc ++ [1]).map V.int)) := upd_same
      have P11 := same_pen s11 P10
      replace ga1 := s11 _ _ ga1
      replace ga3 := s11 _ _ ga3
      replace ga5 := s11 _ _ ga5
      replace s11 := s10.trans s11
      generalize upd H10 a9 (.tup ((rc ++ [1]).map V.int)) = H11 at *
      refine ⟨by show 1 ≤ sizeLine; decide, fun b1 n1 => ⟨b1, 1001, [.int 0], rfl, rfl, SqT.of upd_same, List.cons_ne_nil _ _, by decide, by decide, by decide, fun b2 n2 => ?_⟩⟩
      obtain ⟨rd, erd, lrd, ird⟩ := rep_get 1001 [0]
      rw [show (List.replicate (1001 : Int).toNat [V.int 0]).flatten = rd.map V.int from erd]
      have s12 := same_new (o := .tup [V.int 0]) n1
      have gb1 : (upd H11 b1 (.tup [V.int 0])) b1 = some (.tup [V.int 0]) := upd_same
      have P12 := same_pen s12 P11
      replace ga1 := s12 _ _ ga1
      replace ga3 := s12 _ _ ga3
      replace ga5 := s12 _ _ ga5
      replace ga9 := s12 _ _ ga9
      replace s12 := s11.trans s12
      generalize upd H11 b1 (.tup [V.int 0]) = H12 at *
      have s13 := same_new (o := .tup (rd.map V.int)) n2
      have gb2 : (upd H12 b2 (.tup (rd.map V.int))) b2 = some (.tup (rd.map V.int)) := upd_same
      have P13 := same_pen s13 P12
      replace ga1 := s13 _ _ ga1
      replace ga3 := s13 _ _ ga3
      replace ga5 := s13 _ _ ga5
      replace ga9 := s13 _ _ ga9
      replace s13 := s12.trans s13
      generalize upd H12 b2 (.tup (rd.map V.int)) = H13 at *
      refine ⟨_, rfl, p, g, rfl, P13, fun vo dO H14 P14 B14 hvo hso hdo => ⟨by show 6 ≤ sizeLine; decide, fun l nl => ?_⟩⟩
      have s15 := same_new (o := .lst [V.ref a1, V.ref a3, V.ref a5, V.ref a9, V.ref b2, vo]) nl
      refine ⟨p, g, l, _, rfl, same_pen s15 P14, (P14.new_ne nl).1, upd_same, List.cons_ne_nil _ _, by show 6 ≤ 1000; decide, fun w H16 hw P16 B16 => ?_⟩
      have B46 := (same_but s15).trans B16
      have B36 := B14.trans B46
      have All := (bt.same s13).trans B36
      have one : ∀ {q : Addr} {rs : List Int}, H13 q = some (.tup (rs.map V.int)) → rs.length ≤ 1100 → (∀ r ∈ rs, 0 ≤ r ∧ r ≤ 1) → Q (.ref q) H16 := by
        intro q rs hq hl hr
        exact k _ _ H16 P16 All (dwS_nums (B36 _ _ hq (tup_off P13 hq)) (tup_off P13 hq)) (vl_nums (fun n hn => ⟨by have := hr n hn; omega, by have := hr n hn; omega⟩) hl)
      simp only [List.mem_cons, List.not_mem_nil, or_false] at hw
      rcases hw with rfl | rfl | rfl | rfl | rfl | rfl
      · refine k _ (.list (hs.map PyData.int)) H16 P16 All (.inl ⟨rfl, fun H' B => .dp (.lst (SqL.of (B _ _ (B36 _ _ ga1 da1) da1)) (dp_ints hs))⟩) (.inr (.inr ⟨hs, rfl, fun n hn => ⟨by have := hran n hn; omega, by have := hran n hn; omega⟩, by omega⟩))
      · exact one ga3 (by rw [lra]; decide) (in_rep (lo := 0) (hi := 1) (by decide) ira)
      · exact one ga5 (by rw [lrb]; decide) (in_rep (lo := 0) (hi := 1) (by decide) irb)
      · refine one ga9 (by rw [List.length_append, lrc]; decide) fun r hr => ?_
        rcases List.mem_append.mp hr with z | z
        · exact in_rep (lo := 0) (hi := 1) (by decide) irc r z
        · rw [List.mem_singleton.mp z]
          exact ⟨by decide, by decide⟩
      · exact one gb2 (by rw [lrd]; decide) (in_rep (lo := 0) (hi := 1) (by decide) ird)
      · exact k _ dO H16 P16 All (dwS_but B46 hso) (.inl (.inl hdo))
    · -- some places of a short one
      refine ⟨_, rfl, by show 4 ≤ sizeLine; decide, fun l nl => ?_⟩
      have s3 := same_new (o := .lst [V.int 0, V.int 0, V.int 1, V.int 2]) nl
      refine ⟨p, g, l, _, rfl, same_pen s3 P2, (P2.new_ne nl).1, upd_same, List.cons_ne_nil _ _, by show 4 ≤ 1000; decide, fun w H3 hw P3 B3 => ?_⟩
      have B23 := (same_but s3).trans B3
      obtain ⟨j, rfl, j0, j1⟩ : ∃ j : Int, w = .int j ∧ 0 ≤ j ∧ j ≤ 2 := by
        simp only [List.mem_cons, List.not_mem_nil, or_false] at hw
        rcases hw with rfl | rfl | rfl | rfl
        · exact ⟨0, rfl, by decide, by decide⟩
        · exact ⟨0, rfl, by decide, by decide⟩
        · exact ⟨1, rfl, by decide, by decide⟩
        · exact ⟨2, rfl, by decide, by decide⟩
      refine ⟨j, rfl, by omega, by omega, for_range (lo := 0) (n := j.toNat) (fun i σ H' => Pen H' p g ∧ But p H H' ∧ ∃ (t' : Addr) (xs : List V) (ds : List PyData) (lv : Option V), σ = [some (.ref p), some (.ref t'), some (.int n), lv] ∧
        H' t' = some (.tup xs) ∧ Paired (DvB p K H') xs ds ∧ (∀ d ∈ ds, Lf d) ∧ ds.length ≤ 12) ?_ ?_ ?_⟩
      · exact ⟨P3, bt.trans B23, t, _, _, none, rfl, B23 _ _ ht2 (tup_off P2 ht2), ints_dvX (K := K) dvB_int hs, lf_nums fun n hn => ⟨by have := hran n hn; omega, by have := hran n hn; omega⟩, by rw [List.length_map]; exact hlen⟩
      · rintro i σ Ha hi ⟨Pa, Ba, t', xs, ds, lv, rfl, hta, hpa, hla, hna⟩
        have ta := tup_off Pa hta
        refine ⟨_, rfl, by show 0 ≤ sizeLine; decide, fun q nq => ?_⟩
        have s1 := same_new (o := .tup []) nq
        have Pb := same_pen s1 Pa
        have hlen' := hpa.length
        refine ⟨t', q, xs, rfl, rfl, SqT.of (s1 _ _ hta), SqT.of upd_same, _, rfl, ?_⟩
        cases hxs : xs.isEmpty with
        | true =>
          refine iteF ⟨Pb, Ba.same s1, t', xs, ds, _, rfl, s1 _ _ hta, dvBs_but (same_but s1) hpa, hla, hna⟩
        | false =>
          have pos : 0 < xs.length := by
            cases xs with
            | nil => cases hxs
            | cons a b => simp
          refine iteT ?_
          refine ⟨_, rfl, _, rfl, _, rfl, t', xs, rfl, .inr (SqT.of (s1 _ _ hta)), p, g, (xs.length : Int), rfl, Pb, by omega, small_b (Nat.lt_of_le_of_lt (m := 12) (by omega) (by decide)), fun m H4 m0 m1' P4 B4 => ?_⟩
          refine ⟨_, rfl, _, rfl, p, g, rfl, P4, fun vo dO H5 P5 B5 hvo hso hdo => ⟨_, rfl, by show 6 ≤ sizeLine; decide, fun l nl => ?_⟩⟩
          have s6 := same_new (o := .lst [vo, V.int 0, V.int 0, V.int 3, V.int (-1), V.bl true]) nl
          refine ⟨p, g, l, _, rfl, same_pen s6 P5, (P5.new_ne nl).1, upd_same, List.cons_ne_nil _ _, by show 6 ≤ 1000; decide, fun w H7 hw P7 B7 => ?_⟩
          have B57 := (same_but s6).trans B7
          have Ba7 := ((same_but s1).trans B4).trans (B5.trans B57)
          have g7 := Ba7 _ _ hta ta
          obtain ⟨dw, hwd, hwl⟩ : ∃ dw, DvB p K H7 w dw ∧ Lf dw := by
            simp only [List.mem_cons, List.not_mem_nil, or_false] at hw
            rcases hw with rfl | rfl | rfl | rfl | rfl | rfl
            · exact ⟨dO, dvB_but B57 hvo, .inl hdo⟩
            · exact ⟨_, dvB_int 0, .inr ⟨0, rfl, by decide, by decide⟩⟩
            · exact ⟨_, dvB_int 0, .inr ⟨0, rfl, by decide, by decide⟩⟩
            · exact ⟨_, dvB_int 3, .inr ⟨3, rfl, by decide, by decide⟩⟩
            · exact ⟨_, dvB_int (-1), .inr ⟨-1, rfl, by decide, by decide⟩⟩
            · exact ⟨.bool true, fun _ _ => .dp (.bl true), .inl (by simp [oddL])⟩
          refine ⟨t', xs, m, w, rfl, SqT.of g7, by omega, m0, m1', fun r H8 s8 hr8 => ?_⟩
          refine ⟨same_pen s8 P7, (Ba.trans Ba7).same s8, r, _, ds.set m.toNat dw, _, rfl, hr8, paired_set _ (dvBs_but (Ba7.same s8) hpa) (dvB_but (same_but s8) hwd), lf_set hla hwl _, by rw [List.length_set]; exact hna⟩
      · rintro σ Ha ⟨Pa, Ba, t', xs, ds, lv, rfl, hta, hpa, hla, hna⟩
        exact ⟨_, rfl, k _ (.tuple ds) Ha Pa Ba (.inr ⟨t', xs, ds, rfl, rfl, hta, tup_off Pa hta, hpa⟩) (.inr (.inl ⟨ds, rfl, hla, by omega⟩))⟩

theorem ok__law_entries_due (T : Txt K mg) : FnOk P w K mg base CX0 2 T.f__law_entries_due T.d__law_entries_due ["history"] (sp__law_entries_due K) := by
  refine T.F__law_entries_due.ok sc__law_entries_due (fun vs H Q E h => ?_) (fun cdv A outer s H vs Q E hr h => ⟨_, PSs.nox (pss_cons (ps_par (i := 1) (j := 2) (by rfl) sc__law_entries_due.nd rfl rfl (by decide) rfl rfl (pa_cons (pe_lst pa_nil) (pa_cons pe_int pa_nil)) (by rfl))
      (pss_cons (ps_for PassesOwn.never rfl (pi_enumT (by rfl) T.n_enumerate (pa_cons (pv 0) pa_nil)) (pg_tup (by rfl) (pgs_cons (pg_name (i := 3) sc__law_entries_due.nd rfl (Or.inl rfl)) (pgs_cons (pg_name (i := 4) sc__law_entries_due.nd rfl (Or.inl rfl)) pgs_nil))) (pss_cons (ps_expr (pe_bm PySem.F.plainAttrs_list PySem.F.slot_list_extend PySem.F.type_list_extend mt_extend (pv 1) (pa_cons (pe_call (ok__law_told T) (hr.mono (by decide)) rfl T.g__law_told T.F__law_told.kp (bind__law_told T) .nil pass0 (pa_cons (pv 2) (pa_cons (pv 4) (pa_cons (pe_op op_add (pv 3) pe_int) pa_nil)))) pa_nil)))
      (pss_one (ps_set (i := 2) sc__law_entries_due.nd rfl (Or.inl rfl) (pv 4)))))
      (pss_one (ps_ret (pe_callTy call_tuple_of (by rfl) T.n_tuple (by decide +kernel) (pa_cons (pv 1) pa_nil)))))), ?_⟩)
  · obtain ⟨a, hs, rfl, _⟩ := h
    rfl
  · obtain ⟨a, hs, rfl, hS, hl, k⟩ := h
    refine ⟨by show 0 ≤ sizeLine; decide, fun L nL => ⟨_, _, rfl, ?_⟩⟩
    have s0 := same_new (o := .lst []) nL
    refine ⟨_, rfl, a, _, rfl, same_tup s0 hS, for_enT (xs := hs.map V.int) (fun i σ H' => Same H H' ∧ ∃ (c : Int) (xs : List V) (iv av : Option V), σ = [some (.ref a), some (.ref L), some (.int c), iv, av] ∧ H' L = some (.lst xs) ∧
      Paired (ET K H') xs (((chL 0 1 hs).take i).flatMap fun e => entL e.1 e.2.1 e.2.2) ∧ ((0 : Int) :: hs)[i]? = some c) ?_ (fun i σ H' _ h => same_tup h.1 hS) ?_ ?_⟩
    · exact ⟨s0, 0, [], none, none, rfl, upd_same, .nil, rfl⟩
    · rintro i x σ H1 T1 hx ⟨s1, c, xs, iv, av, rfl, hL, hp, hc⟩ nT
      rw [List.getElem?_map] at hx
      obtain ⟨u, hu, rfl⟩ := Option.map_eq_some_iff.mp hx
      have sT := same_new (o := .tup [V.int (i : Nat), V.int u]) nT
      have hcc := chL_get hs 0 1 i c u hc hu
      have hi := (List.getElem?_eq_some_iff.mp hu).1
      refine ⟨T1, _, rfl, SqT.of upd_same, rfl, _, _, rfl, _, _, rfl, rfl, ?_⟩
      refine ⟨_, rfl, .inl ⟨rfl, _, SqL.of (sT _ _ hL)⟩, _, rfl, _, rfl, _, rfl, _, _, rfl, rfl, c, u, (i : Nat) + 1, rfl, fun b ys H2 s2 nb hb hy => ?_⟩
      have hL2 := s2 _ _ (sT _ _ hL)
      have b1 := flat_len ((chL 0 1 hs).take i)
      rw [List.length_take, chL_len] at b1
      have b2 := entL_len c u ((i : Nat) + 1)
      refine ⟨L, b, xs, ys, rfl, rfl, hL2, hb, ?_, ?_⟩
      · rw [hp.length, hy.length, sizeLine_eq]
        omega
      refine ⟨_, rfl, same_lst ((s1.trans sT).trans s2) nL, u, _, _, _, rfl, upd_same, ?_, hu⟩
      rw [flat_take hcc]
      have e : (1 : Int) + (i : Nat) = (i : Nat) + 1 := by omega
      rw [e]
      exact ets_lst hL2 (ets_app (ets_same (sT.trans s2) hp) hy)
    · rintro σ H1 ⟨s1, c, xs, iv, av, rfl, hL, hp, hc⟩
      rw [List.length_map, ← chL_len hs 0 1, List.take_length] at hp
      refine ⟨_, rfl, L, xs, rfl, .inl ⟨SqL.of hL, fun t nt => ?_⟩⟩
      have s3 := same_new (o := .tup xs) nt
      exact k t xs _ (s1.trans s3) (SqT.of upd_same) (ets_same s3 hp)

theorem eqv_same {d : PyData} (h : SeqAt.shaped d = true) : PyData.eqv d d = true := SeqAt.eqv_refl d (SeqAt.canLay_of_shaped h)
theorem el_ent {a b c : Int} (h1 : Sm a) (h2 : Sm b) (h3 : Sm c) : El (entD (a, b, c)) := by
  have e1 := el_int h1
  have e2 := el_int h2
  have e3 := el_int h3
  refine ⟨by simp [entD, PyData.showable, PyData.showableAll, h1.log, h2.log, h3.log], by simp [entD, PyData.leavesShort, PyData.leavesShortAll, h1.short, h2.short, h3.short],
    by simp [entD, PyData.depth, PyData.depthAll], by simp [entD, PyData.bulk, PyData.bulkAll], ?_, .inl ?_⟩
  · simp only [entD, PyData.shown]
    refine strOk_tuple _ fun t ht => ?_
    simp only [PyData.shownAll, List.mem_cons, List.not_mem_nil, or_false] at ht
    rcases ht with rfl | rfl | rfl
    · exact e1.ok
    · exact e2.ok
    · exact e3.ok
  · simp [entD, SeqAt.shaped, PyData.canLay0, PyData.canLayAll0, PyData.depth, PyData.depthAll]
def Sm3 (e : Ent) : Prop := Sm e.1 ∧ Sm e.2.1 ∧ Sm e.2.2
theorem sh_ents {es : List Ent} (h : ∀ e ∈ es, Sm3 e) (hl : es.length ≤ 2400) : Sh (.tuple (es.map entD)) := by
  have he : ∀ d ∈ es.map entD, El d := by
    intro d hd
    obtain ⟨e, m, rfl⟩ := List.mem_map.mp hd
    obtain ⟨a, b, c⟩ := h e m
    exact el_ent a b c
  obtain ⟨a1, a2, a3, a4, a5⟩ := els_all _ he
  have hl' : (es.map entD).length ≤ 2400 := by
    rw [List.length_map]
    exact hl
  exact sh_of (by simpa [PyData.showable] using a1) (by simpa [PyData.leavesShort] using a2) (by simp only [PyData.depth]; omega) (by simp only [PyData.bulk]; omega)
theorem ents_dw {K : PySem.W.Frag} {H : Hp} {t : Addr} {xs : List V} {es : List Ent} (ht : SqT K H t xs) (h : Paired (ET K H) xs es) : Dw K H (.ref t) (.tuple (es.map entD)) := .dv (.dp (.tup ht (ets_dp h)))
theorem entL_sm {p l t : Int} (h1 : Sm p) (h2 : Sm l) (h3 : Sm t) : ∀ e ∈ entL p l t, Sm3 e := by
  intro e he
  unfold entL at he
  rcases List.mem_append.mp he with z | z
  · split at z
    · rw [List.mem_singleton.mp z]
      exact ⟨h1, Sm.of (by show (0 : Int).natAbs < _; decide), h3⟩
    · cases z
  · split at z
    · rw [List.mem_singleton.mp z]
      exact ⟨h2, Sm.of (by show (1 : Int).natAbs < _; decide), h3⟩
    · cases z
theorem chL_sm : ∀ (hs : List Int) (a t : Int), (0 ≤ a ∧ a ≤ 2) → (∀ h ∈ hs, 0 ≤ h ∧ h ≤ 2) → 0 ≤ t → t + hs.length ≤ 5000 → ∀ e ∈ chL a t hs, Sm3 e
  | [], _, _, _, _, _, _, e, he => absurd he List.not_mem_nil
  | h :: r, a, t, ha, hh, ht, hl, e, he => by
    have hl' : t + ((r.length + 1 : Nat) : Int) ≤ 5000 := hl
    rcases List.mem_cons.mp he with rfl | z
    · have h1 := hh h (List.mem_cons_self ..)
      refine ⟨Sm.of ?_, Sm.of ?_, Sm.of ?_⟩
      · show a.natAbs < _
        omega
      · show h.natAbs < _
        omega
      · show t.natAbs < _
        omega
    · exact chL_sm r h (t + 1) (hh h (List.mem_cons_self ..)) (fun x hx => hh x (List.mem_cons_of_mem _ hx)) (by omega) (by omega) e z
theorem entsL_sm {hs : List Int} (h : ∀ x ∈ hs, 0 ≤ x ∧ x ≤ 2) (hl : hs.length ≤ 1100) : ∀ e ∈ entsL hs, Sm3 e := by
  intro e he
  obtain ⟨c, hc, z⟩ := List.mem_flatMap.mp he
  obtain ⟨a, b, d⟩ := chL_sm hs 0 1 ⟨by decide, by decide⟩ h (by decide) (by omega) c hc
  exact entL_sm a b d e z
theorem sh_hist {hs : List Int} (h : ∀ x ∈ hs, 0 ≤ x ∧ x ≤ 2) (hl : hs.length ≤ 1100) : Sh (.tuple ((entsL hs).map entD)) :=
  sh_ents (entsL_sm h hl) (by have := entsL_len hs; omega)
theorem sh_bool (b : Bool) : Sh (.bool b) := by
  cases b
  · exact sh_of (by decide +kernel) (by decide +kernel) (by decide +kernel) (by decide +kernel)
  · exact sh_of (by decide +kernel) (by decide +kernel) (by decide +kernel) (by decide +kernel)

theorem ok_law (T : Txt K mg) : FnG P w K mg base CX0 5 T.f_law T.d_law ["script"] (sp_law K) := by
  refine okG T.F_law sc_law (fun vs H Q E h => ?_) (fun cdv A outer s H vs Q E hr hg h => ⟨_, PSs.nox (pss_cons (ps_set (i := 1) sc_law.nd rfl (Or.inl rfl) (pe_call (ok__law_pen T) (hr.mono (by decide)) rfl T.g__law_pen T.F__law_pen.kp (bind__law_pen T) .nil pass0 (pa_cons (pv 0) pa_nil)))
      (pss_cons (ps_for PassesOwn.never rfl (pi_range1 (by rfl) T.n_range (pa_cons pe_int pa_nil)) (pg_name (i := 2) sc_law.nd rfl (Or.inl rfl)) (pss_cons (ps_set (i := 3) sc_law.nd rfl (Or.inl rfl) (pe_call (ok__law_value T) (hr.mono (by decide)) rfl T.g__law_value T.F__law_value.kp (bind__law_value T) .nil pass0 (pa_cons (pv 1) pa_nil)))
      (pss_cons (ps_par (i := 4) (j := 5) (by rfl) sc_law.nd rfl rfl (by decide) rfl rfl (pa_cons (pe_call (ok__law_history_due T) (hr.mono (by decide)) rfl T.g__law_history_due T.F__law_history_due.kp (bind__law_history_due T) .nil pass0 (pa_cons (pv 3) pa_nil)) (pa_cons (pe_callB (call_reprW2 (K := K) rfl hg (by have h65 := u65 hr; exact h65)) (by rfl) T.n_repr (by decide +kernel) (pa_cons (pv 3) pa_nil)) pa_nil)) (by rfl))
      (pss_cons (ps_if (PW.pt (pw_or (pt_cmpR (op_neD hr.units) (pe_callG (ok__law_required T) (hr.mono (by decide)) hg rfl T.g__law_required T.F__law_required.kp (bind__law_required T) .nil pass0 (pa_cons (pv 3) pa_nil)) (pe_ifExp (pt_cmpR op_isN (pv 4) pe_non (nomark _)) (pe_tup (pa_cons pe_str (pa_cons (pv 5) pa_nil))) (pe_tup (pa_cons pe_str (pa_cons (pe_ix ix_tup (pv 4) pe_int (fun _ _ => rfl)) pa_nil)))) (nomark _)) (pw_or1 (pt_cmpR op_ne (pe_callB (call_reprW2 (K := K) rfl hg (by have h65 := u65 hr; exact h65)) (by rfl) T.n_repr (by decide +kernel) (pa_cons (pv 3) pa_nil)) (pv 5) (nomark _))))) (pss_one (ps_ret pe_bl)) pss_nil)
      (pss_cons (ps_set (i := 6) sc_law.nd rfl (Or.inl rfl) (pe_call (ok__law_history T) (hr.mono (by decide)) rfl T.g__law_history T.F__law_history.kp (bind__law_history T) .nil pass0 (pa_cons (pv 1) (pa_cons pe_int pa_nil))))
      (pss_cons (ps_if (pt_cmpR op_ne (pe_callB (call_reprW2 (K := K) rfl hg (by have h65 := u65 hr; exact h65)) (by rfl) T.n_repr (by decide +kernel) (pa_cons (pe_call (ok_entries_of T) (hr.mono (by decide)) rfl T.g_entries_of T.F_entries_of.kp (bind_entries_of T) .nil pass0 (pa_cons (pv 6) pa_nil)) pa_nil)) (pe_callB (call_reprW2 (K := K) rfl hg (by have h65 := u65 hr; exact h65)) (by rfl) T.n_repr (by decide +kernel) (pa_cons (pe_call (ok__law_entries_due T) (hr.mono (by decide)) rfl T.g__law_entries_due T.F__law_entries_due.kp (bind__law_entries_due T) .nil pass0 (pa_cons (pv 6) pa_nil)) pa_nil)) (nomark _)) (pss_one (ps_ret pe_bl)) pss_nil)
      (pss_cons (ps_par (i := 7) (j := 8) (by rfl) sc_law.nd rfl rfl (by decide) rfl rfl (pa_cons (pe_call (ok__law_draw T) (hr.mono (by decide)) rfl T.g__law_draw T.F__law_draw.kp (bind__law_draw T) .nil pass0 (pa_cons (pv 1) (pa_cons pe_int pa_nil))) (pa_cons (pe_call (ok__law_draw T) (hr.mono (by decide)) rfl T.g__law_draw T.F__law_draw.kp (bind__law_draw T) .nil pass0 (pa_cons (pv 1) (pa_cons pe_int pa_nil))) pa_nil)) (by rfl))
      (pss_cons (ps_set (i := 9) sc_law.nd rfl (Or.inl rfl) (pe_call (ok__law_one_of T) (hr.mono (by decide)) rfl T.g__law_one_of T.F__law_one_of.kp (bind__law_one_of T) .nil pass0 (pa_cons (pv 1) (pa_cons (pe_lst (pa_cons pe_int (pa_cons pe_int (pa_cons pe_int (pa_cons (pe_op op_pow pe_int pe_int) pa_nil))))) pa_nil))))
      (pss_cons (ps_set (i := 4) sc_law.nd rfl (Or.inl rfl) (pe_callTy call_tuple_of (by rfl) T.n_tuple (by decide +kernel) (pa_cons (pe_call (ok__law_told T) (hr.mono (by decide)) rfl T.g__law_told T.F__law_told.kp (bind__law_told T) .nil pass0 (pa_cons (pv 7) (pa_cons (pv 8) (pa_cons (pv 9) pa_nil)))) pa_nil)))
      (pss_cons (ps_if (PW.pt (pw_and (pt_cmpR op_gt (pe_op op_add (pv 7) (pv 8)) pe_int (nomark _)) (pw_and1 (pt_cmpR op_ne (pe_callB (call_reprW2 (K := K) rfl hg (by have h65 := u65 hr; exact h65)) (by rfl) T.n_repr (by decide +kernel) (pa_cons (pe_call (ok_told_entries T) (hr.mono (by decide)) rfl T.g_told_entries T.F_told_entries.kp (bind_told_entries T) .nil pass0 (pa_cons (pv 7) (pa_cons (pv 8) (pa_cons (pv 9) pa_nil)))) pa_nil)) (pe_callB (call_reprW2 (K := K) rfl hg (by have h65 := u65 hr; exact h65)) (by rfl) T.n_repr (by decide +kernel) (pa_cons (pv 4) pa_nil)) (nomark _))))) (pss_one (ps_ret pe_bl)) pss_nil)
      (pss_cons (ps_set (i := 10) sc_law.nd rfl (Or.inl rfl) (pe_tup (pa_cons (pe_op op_add pe_int (pe_call (ok__law_draw T) (hr.mono (by decide)) rfl T.g__law_draw T.F__law_draw.kp (bind__law_draw T) .nil pass0 (pa_cons (pv 1) (pa_cons pe_int pa_nil)))) (pa_cons (pe_call (ok__law_draw T) (hr.mono (by decide)) rfl T.g__law_draw T.F__law_draw.kp (bind__law_draw T) .nil pass0 (pa_cons (pv 1) (pa_cons pe_int pa_nil))) (pa_cons (pe_op op_add (pv 9) (pe_call (ok__law_draw T) (hr.mono (by decide)) rfl T.g__law_draw T.F__law_draw.kp (bind__law_draw T) .nil pass0 (pa_cons (pv 1) (pa_cons pe_int pa_nil)))) pa_nil)))))
      (pss_cons (ps_set (i := 11) sc_law.nd rfl (Or.inl rfl) (pe_tup (pa_cons (pe_op op_add pe_int (pe_call (ok__law_draw T) (hr.mono (by decide)) rfl T.g__law_draw T.F__law_draw.kp (bind__law_draw T) .nil pass0 (pa_cons (pv 1) (pa_cons pe_int pa_nil)))) (pa_cons (pe_call (ok__law_draw T) (hr.mono (by decide)) rfl T.g__law_draw T.F__law_draw.kp (bind__law_draw T) .nil pass0 (pa_cons (pv 1) (pa_cons pe_int pa_nil))) (pa_cons (pe_op op_add (pv 9) (pe_call (ok__law_draw T) (hr.mono (by decide)) rfl T.g__law_draw T.F__law_draw.kp (bind__law_draw T) .nil pass0 (pa_cons (pv 1) (pa_cons pe_int pa_nil)))) pa_nil)))))
      (pss_one (ps_if (pt_cmpR op_ne (pe_callB (call_reprW2 (K := K) rfl hg (by have h65 := u65 hr; exact h65)) (by rfl) T.n_repr (by decide +kernel) (pa_cons (pe_call (ok_is_elder T) (hr.mono (by decide)) rfl T.g_is_elder T.F_is_elder.kp (bind_is_elder T) .nil pass0 (pa_cons (pv 10) (pa_cons (pv 11) pa_nil))) pa_nil)) (pe_callB (call_reprW2 (K := K) rfl hg (by have h65 := u65 hr; exact h65)) (by rfl) T.n_repr (by decide +kernel) (pa_cons (pe_cmpR (op_ltT hr.units0) (pe_tup (pa_cons (pe_ix ix_tup (pv 10) pe_int (fun _ _ => rfl)) (pa_cons (pe_ix ix_tup (pv 10) pe_int (fun _ _ => rfl)) pa_nil))) (pe_tup (pa_cons (pe_ix ix_tup (pv 11) pe_int (fun _ _ => rfl)) (pa_cons (pe_ix ix_tup (pv 11) pe_int (fun _ _ => rfl)) pa_nil))) (nomark _)) pa_nil)) (nomark _)) (pss_one (ps_ret pe_bl)) pss_nil))))))))))))))
      (pss_one (ps_ret (pe_cmpR op_eq (pe_callB (call_reprW2 (K := K) rfl hg (by have h65 := u65 hr; exact h65)) (by rfl) T.n_repr (by decide +kernel) (pa_cons (pe_call (ok_entries_of T) (hr.mono (by decide)) rfl T.g_entries_of T.F_entries_of.kp (bind_entries_of T) .nil pass0 (pa_cons (pe_op op_repT2 (pe_tup (pa_cons pe_int (pa_cons pe_int pa_nil))) pe_int) pa_nil)) pa_nil)) (pe_callB (call_reprW2 (K := K) rfl hg (by have h65 := u65 hr; exact h65)) (by rfl) T.n_repr (by decide +kernel) (pa_cons (pe_call (ok__law_entries_due T) (hr.mono (by decide)) rfl T.g__law_entries_due T.F__law_entries_due.kp (bind__law_entries_due T) .nil pass0 (pa_cons (pe_op op_repT2 (pe_tup (pa_cons pe_int (pa_cons pe_int pa_nil))) pe_int) pa_nil)) pa_nil)) (nomark _)))))), ?_⟩)
  · obtain ⟨a, ns, rfl, _⟩ := h
    rfl
  · obtain ⟨a, ns, rfl, hS, hlen, k⟩ := h
    refine ⟨_, rfl, a, ns, rfl, hS, fun p g H1 sH1 np P1 => ?_⟩
    refine ⟨6, rfl, by decide, by decide, for_range (lo := 0) (n := 6) (fun i σ H' => Pen H' p g ∧ ∃ v2 v3 v4 v5 v6 v7 v8 v9 v10 v11, σ = [some (.ref a), some (.ref p), v2, v3, v4, v5, v6, v7, v8, v9, v10, v11]) ?_ ?_ ?_⟩
    · exact ⟨P1, _, _, _, _, _, _, _, _, _, _, rfl⟩
    rotate_left
    · rintro σ H2 ⟨P2, v2, v3, v4, v5, v6, v7, v8, v9, v10, v11, rfl⟩
      -- a thousand
      dsimp only
      refine ret_of2 ⟨by show 2 ≤ sizeLine; decide, fun q1 m1 => ⟨q1, 500, [.int 1, .int 2], rfl, rfl, SqT.of upd_same, List.cons_ne_nil _ _, by decide, by decide, by decide, fun q2 m2 => ?_⟩⟩
      obtain ⟨rs, er, hrl, hrm⟩ := rep_get 500 [1, 2]
      rw [show (List.replicate (500 : Int).toNat [V.int 1, V.int 2]).flatten = rs.map V.int from er]
      have hl11 : rs.length ≤ 1100 := by
        rw [hrl]
        decide
      have hrr := in_rep (lo := 0) (hi := 2) (by decide) hrm
      have g3 : (upd (upd H2 q1 (.tup [V.int 1, V.int 2])) q2 (.tup (rs.map V.int))) q2 = some (.tup (rs.map V.int)) := upd_same
      generalize upd (upd H2 q1 (.tup [V.int 1, V.int 2])) q2 (.tup (rs.map V.int)) = H3 at g3 ⊢
      refine ⟨q2, rs, rfl, SqT.of g3, hl11, fun e1 xs H4 s4 he1 hx1 => ⟨.ref e1, _, rfl, ents_dw he1 hx1, sh_hist hrr hl11, ?_⟩⟩
      refine ⟨by show 2 ≤ sizeLine; decide, fun q3 m3 => ⟨q3, 500, [.int 1, .int 2], rfl, rfl, SqT.of upd_same, List.cons_ne_nil _ _, by decide, by decide, by decide, fun q4 m4 => ?_⟩⟩
      rw [show (List.replicate (500 : Int).toNat [V.int 1, V.int 2]).flatten = rs.map V.int from er]
      refine ⟨q4, rs, rfl, SqT.of upd_same, hl11, fun e2 ys H6 s6 he2 hy2 => ⟨.ref e2, _, rfl, ents_dw he2 hy2, sh_hist hrr hl11, rfl, ?_⟩⟩
      rw [decide_eq_true rfl]
      exact k _
    rintro lap σ H0 _ ⟨P0, v2, v3, v4, v5, v6, v7, v8, v9, v10, v11, rfl⟩
    refine ⟨_, rfl, p, g, rfl, P0, fun v d H2 P2 B2 hds hvl => ?_⟩
    have hdw := dwS_dw hds
    have hsh := (vl_ok hvl).1
    have hok := (vl_ok hvl).2
    refine ⟨_, rfl, v, d, rfl, hdw, fun u H3 s3 hu => ⟨_, rfl, v, d, rfl, dw_same s3 hdw, hsh, _, _, rfl, ?_⟩⟩
    dsimp only
    refine seq_or (val_of (fun w H5 => w = .bl false ∧ Same H3 H5) (fun Q' hQ => ?_) ?_)
    · refine ⟨_, rfl, v, d, rfl, dw_same s3 hdw, hsh, fun r H4 s4 hr => ?_⟩
      have same1 : ∀ (q : Addr) (xs : List V), H4 q = none → Dp K (upd H4 q (.tup xs)) (.ref q) (dueD d) → rNeD K r (.ref q) (upd H4 q (.tup xs)) Q' := by
        intro q xs nq hy
        refine ⟨dueD d, dueD d, dp_same (same_new nq) hr, hy, shaped_due hok, shaped_due hok, ?_⟩
        rw [eqv_same (shaped_due hok)]
        exact hQ _ _ ⟨rfl, s4.trans (same_new nq)⟩
      cases hdue : due d with
      | none =>
        have eu : dueV d = .none := by unfold dueV; rw [hdue]
        have ed : dueD d = .tuple [.str "told", .str d.shown] := by unfold dueD; rw [hdue]
        rw [eu] at hu
        cases hu
        refine ⟨_, rfl, rfl, _, rfl, ite2 (fun _ => ?_) (fun z => absurd (by decide) z)⟩
        refine ⟨_, rfl, by show 2 ≤ sizeLine; decide, fun q nq => same1 q _ nq ?_⟩
        rw [ed]
        exact .tup (SqT.of upd_same) (.cons (.str _) (.cons (.str _) .nil))
      | some ix =>
        have eu : dueV d = .tuple [ix] := by unfold dueV; rw [hdue]
        have ed : dueD d = .tuple [.str "index", ix] := by unfold dueD; rw [hdue]
        rw [eu] at hu
        cases hu with
        | tup hb hall =>
          cases hall with
          | cons hx hn =>
            cases hn
            refine ⟨_, rfl, rfl, _, rfl, ite2 (fun z => absurd z (by simp)) (fun _ => ?_)⟩
            refine ⟨_, rfl, _, _, 0, _, rfl, rfl, same_tup s4 hb, atI_nat (j := 0) rfl, by show 2 ≤ sizeLine; decide, fun q nq => same1 q _ nq ?_⟩
            rw [ed]
            exact .tup (SqT.of upd_same) (.cons (.str _) (.cons (dp_same (s4.trans (same_new nq)) hx) .nil))
    rintro _ H5 ⟨rfl, s5⟩
    refine ⟨false, rfl, iteF ?_⟩
    refine ⟨_, rfl, v, d, rfl, dw_same (s3.trans s5) hdw, hsh, _, rfl, rfl, _, rfl, ite2 (fun z => absurd z (by simp)) (fun _ => ?_)⟩
    have P5 := same_pen (s3.trans s5) P2
    refine ⟨_, rfl, p, g, 30, rfl, P5, by decide, fun t hs H6 P6 B6 hH => ?_⟩
    obtain ⟨ht, hlt, hrt⟩ := hH
    have hl11 : hs.length ≤ 1100 := by omega
    refine ⟨_, rfl, t, hs, rfl, SqT.of ht, hl11, fun e1 xs H7 s7 he1 hx1 => ⟨.ref e1, _, rfl, ents_dw he1 hx1, sh_hist hrt hl11, ?_⟩⟩
    refine ⟨_, rfl, t, hs, rfl, SqT.of (s7 _ _ ht), hl11, fun e2 ys H8 s8 he2 hy2 => ⟨.ref e2, _, rfl, ents_dw he2 hy2, sh_hist hrt hl11, rfl, _, rfl, ite2 (fun z => absurd z (by simp)) (fun _ => ?_)⟩⟩
    have P8 := same_pen (s7.trans s8) P6
    refine ⟨_, rfl, p, g, 3, rfl, P8, by decide, by decide, fun x H9 x0 x1 P9 B9 => ⟨_, rfl, p, g, 3, rfl, P9, by decide, by decide, fun y H10 y0 y1 P10 B10 => ⟨_, _, rfl, ?_⟩⟩⟩
    refine ⟨_, rfl, _, _, rfl, rfl, ⟨by decide, by decide, by decide⟩, by show 4 ≤ sizeLine; decide, fun l nl => ?_⟩
    generalize hx30 : (fun i j : Int => V.int (i ^ j.toNat)) 10 30 = x30
    have ex : x30 = V.int (10 ^ 30) := by rw [← hx30]; rfl
    subst ex
    have sl := same_new (o := .lst [V.int 1, V.int 2, V.int 3, V.int (10 ^ 30)]) nl
    refine ⟨p, g, l, _, rfl, same_pen sl P10, (P10.new_ne nl).1, upd_same, List.cons_ne_nil _ _, by show 4 ≤ 1000; decide, fun mv H11 hmv P11 B11 => ?_⟩
    obtain ⟨mk, rfl, m0, m1⟩ : ∃ mk : Int, mv = .int mk ∧ 1 ≤ mk ∧ mk ≤ 10 ^ 30 := by
      simp only [List.mem_cons, List.not_mem_nil, or_false] at hmv
      rcases hmv with rfl | rfl | rfl | rfl
      · exact ⟨1, rfl, by decide, by decide⟩
      · exact ⟨2, rfl, by decide, by decide⟩
      · exact ⟨3, rfl, by decide, by decide⟩
      · exact ⟨10 ^ 30, rfl, by decide, by decide⟩
    have smk : Sm mk := Nat.lt_of_le_of_lt (m := 10 ^ 30) (by omega) (by decide)
    have smx : Sm x := Sm.of (by omega)
    have smy : Sm y := Sm.of (by omega)
    have shE : Sh (.tuple ((entL x y mk).map entD)) := sh_ents (entL_sm smx smy smk) (by have := entL_len x y mk; omega)
    refine nx_of ?_
    dsimp only
    refine seq_set2 ⟨_, rfl, _, rfl, _, rfl, x, y, mk, rfl, fun l2 zs H12 s12 nl2 hl2 hz2 => ⟨l2, zs, rfl, .inl ⟨SqL.of hl2, fun t2 nt2 => ?_⟩⟩⟩
    have s13 := s12.trans (same_new (o := .tup zs) nt2)
    have hz3 := ets_same (same_new (o := .tup zs) nt2) hz2
    have g13 : (upd H12 t2 (.tup zs)) t2 = some (.tup zs) := upd_same
    have P13 := same_pen s13 P11
    generalize upd H12 t2 (.tup zs) = H13 at s13 hz3 g13 P13 ⊢
    refine seq_join (fun σ H' => (∃ w3 w4 w5 w6 w10 w11, σ = [some (.ref a), some (.ref p), some (.int (0 + (lap : Nat))), w3, w4, w5, w6, some (.int x), some (.int y), some (.int mk), w10, w11]) ∧ Pen H' p g) (fun nx hn => ?_) ?_
    · have go : ∀ (w3 w4 w5 w6 w10 w11 : Option V) (H' : Hp), Same H13 H' → nx [some (.ref a), some (.ref p), some (.int (0 + (lap : Nat))), w3, w4, w5, w6, some (.int x), some (.int y), some (.int mk), w10, w11] H' :=
        fun w3 w4 w5 w6 w10 w11 H' s' => hn _ H' ⟨⟨w3, w4, w5, w6, w10, w11, rfl⟩, same_pen s' P13⟩
      refine ⟨_, rfl, _, rfl, _, _, rfl, rfl, _, _, rfl, rfl, _, rfl, ite2 (fun _ => ?_) (fun _ => iteF (go _ _ _ _ _ _ _ (Same.refl _)))⟩
      refine ⟨_, rfl, _, rfl, _, rfl, x, y, mk, rfl, fun t3 us H14 s14 ht3 hu3 => ⟨.ref t3, _, rfl, ents_dw ht3 hu3, shE, ?_⟩⟩
      exact ⟨_, rfl, .ref t2, _, rfl, ents_dw (SqT.of (s14 _ _ g13)) (ets_same s14 hz3), shE, rfl, _, rfl, ite2 (fun z => absurd z (by simp)) (fun _ => go _ _ _ _ _ _ _ s14)⟩
    rintro _ H14 ⟨⟨w3, w4, w5, w6, w10, w11, rfl⟩, P14⟩
    refine ⟨_, rfl, p, g, 2, rfl, P14, by decide, by decide, fun k1 Ha a0 a1 Pa Ba => ⟨_, _, rfl, rfl, _, rfl, p, g, 3, rfl, Pa, by decide, by decide, fun k2 Hb b0 b1 Pb Bb => ⟨_, rfl, _, rfl, p, g, 2, rfl, Pb, by decide, by decide, fun k3 Hc c0 c1 Pc Bc => ⟨_, _, rfl, rfl, by show 3 ≤ sizeLine; decide, fun q1 m1 => ?_⟩⟩⟩⟩
    have t1 := same_new (o := .tup [V.int (1 + k1), V.int k2, V.int (mk + k3)]) m1
    have g1 : (upd Hc q1 (.tup [V.int (1 + k1), V.int k2, V.int (mk + k3)])) q1 = some (.tup [V.int (1 + k1), V.int k2, V.int (mk + k3)]) := upd_same
    have P15 := same_pen t1 Pc
    generalize upd Hc q1 (.tup [V.int (1 + k1), V.int k2, V.int (mk + k3)]) = H15 at t1 g1 P15 ⊢
    refine ⟨_, rfl, p, g, 2, rfl, P15, by decide, by decide, fun j1 Hd d0 d1 Pd Bd => ⟨_, _, rfl, rfl, _, rfl, p, g, 3, rfl, Pd, by decide, by decide, fun j2 He e0 e1 Pe Be => ⟨_, rfl, _, rfl, p, g, 2, rfl, Pe, by decide, by decide, fun j3 Hf f0 f1 Pf Bf => ⟨_, _, rfl, rfl, by show 3 ≤ sizeLine; decide, fun q2 m2 => ?_⟩⟩⟩⟩
    have t2' := same_new (o := .tup [V.int (1 + j1), V.int j2, V.int (mk + j3)]) m2
    have g2 : (upd Hf q2 (.tup [V.int (1 + j1), V.int j2, V.int (mk + j3)])) q2 = some (.tup [V.int (1 + j1), V.int j2, V.int (mk + j3)]) := upd_same
    have g1' := t2' _ _ (((Bd.trans Be).trans Bf) _ _ g1 (tup_off P15 g1))
    have P16 := same_pen t2' Pf
    generalize upd Hf q2 (.tup [V.int (1 + j1), V.int j2, V.int (mk + j3)]) = H16 at t2' g2 g1' P16 ⊢
    refine ⟨_, rfl, _, rfl, .ref q1, .ref q2, 1 + k1, k2, mk + k3, 1 + j1, j2, mk + j3, rfl, ⟨q1, rfl, SqT.of g1'⟩, ⟨q2, rfl, SqT.of g2⟩, fun H17 s17 => ⟨.bl _, .bool _, rfl, .dv (.dp (.bl _)), sh_bool _, ?_⟩⟩
    have g1 := s17 _ _ g1'
    have g2 := s17 _ _ g2
    refine ⟨_, rfl, q1, _, 2, _, rfl, rfl, SqT.of g1, atI_nat (j := 2) rfl, _, rfl, q1, _, 1, _, rfl, rfl, SqT.of g1, atI_nat (j := 1) rfl, by show 2 ≤ sizeLine; decide, fun r1 n1 => ?_⟩
    have u1 := same_new (o := .tup [V.int (mk + k3), V.int k2]) n1
    refine ⟨_, rfl, q2, _, 2, _, rfl, rfl, SqT.of (u1 _ _ g2), atI_nat (j := 2) rfl, _, rfl, q2, _, 1, _, rfl, rfl, SqT.of (u1 _ _ g2), atI_nat (j := 1) rfl, by show 2 ≤ sizeLine; decide, fun r2 n2 => ?_⟩
    have u2 := same_new (o := .tup [V.int (mk + j3), V.int j2]) n2
    refine ⟨r1, r2, [mk + k3, k2], [mk + j3, j2], rfl, rfl, SqT.of (u2 _ _ upd_same), SqT.of upd_same, .bl _, .bool _, rfl, .dv (.dp (.bl _)), sh_bool _, rfl, _, rfl, ite2 (fun z => absurd z (by simp)) (fun _ => ?_)⟩
    exact ⟨same_pen ((s17.trans u1).trans u2) P16, _, _, _, _, _, _, _, _, _, _, rfl⟩


end
end K01
namespace K01
open PySem PySem.Spec PyProof.Rows L2 Gd
def h__law_pen : He.DefD := ⟨("_law_pen", none), "_law_pen", "_law_pen", defArgs s__law_pen, defBody s__law_pen, defScope s__law_pen, [], []⟩
def h__law_fresh : He.DefD := ⟨("_law_fresh", none), "_law_fresh", "_law_fresh", defArgs s__law_fresh, defBody s__law_fresh, defScope s__law_fresh, [], []⟩
def h__law_draw : He.DefD := ⟨("_law_draw", none), "_law_draw", "_law_draw", defArgs s__law_draw, defBody s__law_draw, defScope s__law_draw, [], []⟩
def h__law_one_of : He.DefD := ⟨("_law_one_of", none), "_law_one_of", "_law_one_of", defArgs s__law_one_of, defBody s__law_one_of, defScope s__law_one_of, [], []⟩
def h_InvalidHistory___init__ : He.DefD := ⟨("InvalidHistory", some "__init__"), "__init__", "InvalidHistory.__init__", defArgs s_InvalidHistory___init__, defBody s_InvalidHistory___init__, defScope s_InvalidHistory___init__, [], []⟩
def h_is_integer : He.DefD := ⟨("is_integer", none), "is_integer", "is_integer", defArgs s_is_integer, defBody s_is_integer, defScope s_is_integer, [], []⟩
def h_is_between : He.DefD := ⟨("is_between", none), "is_between", "is_between", defArgs s_is_between, defBody s_is_between, defScope s_is_between, [], []⟩
def h__law_is_number : He.DefD := ⟨("_law_is_number", none), "_law_is_number", "_law_is_number", defArgs s__law_is_number, defBody s__law_is_number, defScope s__law_is_number, [], []⟩
def h_is_change : He.DefD := ⟨("is_change", none), "is_change", "is_change", defArgs s_is_change, defBody s_is_change, defScope s_is_change, [], []⟩
def h_require_history : He.DefD := ⟨("require_history", none), "require_history", "require_history", defArgs s_require_history, defBody s_require_history, defScope s_require_history, [], []⟩
def h__law_required : He.DefD := ⟨("_law_required", none), "_law_required", "_law_required", defArgs s__law_required, defBody s__law_required, defScope s__law_required, [], []⟩
def h_told_entries : He.DefD := ⟨("told_entries", none), "told_entries", "told_entries", defArgs s_told_entries, defBody s_told_entries, defScope s_told_entries, [], []⟩
def h_changes_of : He.DefD := ⟨("changes_of", none), "changes_of", "changes_of", defArgs s_changes_of, defBody s_changes_of, defScope s_changes_of, [], []⟩
def h_entries_of : He.DefD := ⟨("entries_of", none), "entries_of", "entries_of", defArgs s_entries_of, defBody s_entries_of, defScope s_entries_of, [], []⟩
def h_is_elder : He.DefD := ⟨("is_elder", none), "is_elder", "is_elder", defArgs s_is_elder, defBody s_is_elder, defScope s_is_elder, [], []⟩
def h__law_at : He.DefD := ⟨("_law_at", none), "_law_at", "_law_at", defArgs s__law_at, defBody s__law_at, defScope s__law_at, [], []⟩
def h__law_odd : He.DefD := ⟨("_law_odd", none), "_law_odd", "_law_odd", defArgs s__law_odd, defBody s__law_odd, defScope s__law_odd, [], []⟩
def h__law_history : He.DefD := ⟨("_law_history", none), "_law_history", "_law_history", defArgs s__law_history, defBody s__law_history, defScope s__law_history, [], []⟩
def h__law_told : He.DefD := ⟨("_law_told", none), "_law_told", "_law_told", defArgs s__law_told, defBody s__law_told, defScope s__law_told, [], []⟩
def h__law_history_due : He.DefD := ⟨("_law_history_due", none), "_law_history_due", "_law_history_due", defArgs s__law_history_due, defBody s__law_history_due, defScope s__law_history_due, [], []⟩
def h__law_value : He.DefD := ⟨("_law_value", none), "_law_value", "_law_value", defArgs s__law_value, defBody s__law_value, defScope s__law_value, [], []⟩
def h__law_entries_due : He.DefD := ⟨("_law_entries_due", none), "_law_entries_due", "_law_entries_due", defArgs s__law_entries_due, defBody s__law_entries_due, defScope s__law_entries_due, [], []⟩
def h_law : He.DefD := ⟨("law", none), "law", "law", defArgs s_law, defBody s_law, defScope s_law, [], []⟩
def fn : List He.DefD := [h__law_pen, h__law_fresh, h__law_draw, h__law_one_of, h_InvalidHistory___init__, h_is_integer, h_is_between, h__law_is_number, h_is_change, h_require_history, h__law_required, h_told_entries, h_changes_of, h_entries_of, h_is_elder, h__law_at, h__law_odd, h__law_history, h__law_told, h__law_history_due, h__law_value, h__law_entries_due, h_law]
def fa : List He.Fa := [.glo "_law_pen", .glo "_law_fresh", .glo "_law_draw", .glo "_law_one_of", .glo "InvalidHistory", .glo "is_integer", .glo "is_between", .glo "_law_is_number", .glo "is_change", .glo "require_history", .glo "_law_required", .glo "told_entries", .glo "changes_of", .glo "entries_of", .glo "is_elder", .glo "_law_at", .glo "_law_odd", .glo "_law_history", .glo "_law_told", .glo "_law_history_due", .glo "_law_value", .glo "_law_entries_due", .glo "law", .free "bool", .free "enumerate", .free "int", .free "isinstance", .free "len", .free "list", .free "range", .free "repr", .free "tuple", .free "zip", .int "MOST_CHANGES" 1000, .int "NOWHERE" 0, .int "ROW" 1, .int "STRIKE" 0]
abbrev R : PySem.W.OpenRow := PySem.W.OpenLaw.row PySem.Challenge.rw_movedrows_k01_histories_and_entries
def ex (K : PySem.W.Frag) : Bool := (exB K "InvalidHistory" mroV "ValueError.__new__" ["index"])
abbrev hk : PySem.W.Hook := hookX 6 fa fn ex
def ob (s : PySem.W.SharedT) : He.AlD × Bool := obsX 6 fa fn ex (HandSHeadRun.getT s)
theorem ob_eq (s : PySem.W.SharedT) : ob s = hk.obs s.abs := obsX_eq (HandSHeadRun.getT_eq s)
def names : List PySem.Str := ["InvalidHistory", "is_integer", "is_between", "NOWHERE", "STRIKE", "ROW", "MOST_CHANGES", "is_change", "require_history", "told_entries", "changes_of", "entries_of", "is_elder", "_law_pen", "_law_fresh", "_law_draw", "_law_one_of", "_law_history", "_law_told", "_law_is_number", "_law_at", "_law_odd", "_law_history_due", "_law_required", "_law_value", "_law_entries_due"]
theorem run (w : World) : HandSHeadRun.RunEq R (PySem.W.view R.prog [30]) hk ob 20000 names w := by
  intro os
  kernel_rfl
noncomputable def txt {K : PySem.W.Frag} {h : Heap} {mg : Str → Option Value} (X : K.In h) (G : h.Ns mainGlobals mg) (c : He.SaysD fa fn K) (xx : ex K = true) : Txt K mg where
  f__law_pen := _
  d__law_pen := _
  F__law_pen := (c.def_ 0 (d := h__law_pen) rfl).choose_spec
  g__law_pen := He.glo_ok X G (c.fact 0 (f := .glo "_law_pen") rfl)
  f__law_fresh := _
  d__law_fresh := _
  F__law_fresh := (c.def_ 1 (d := h__law_fresh) rfl).choose_spec
  g__law_fresh := He.glo_ok X G (c.fact 1 (f := .glo "_law_fresh") rfl)
  f__law_draw := _
  d__law_draw := _
  F__law_draw := (c.def_ 2 (d := h__law_draw) rfl).choose_spec
  g__law_draw := He.glo_ok X G (c.fact 2 (f := .glo "_law_draw") rfl)
  f__law_one_of := _
  d__law_one_of := _
  F__law_one_of := (c.def_ 3 (d := h__law_one_of) rfl).choose_spec
  g__law_one_of := He.glo_ok X G (c.fact 3 (f := .glo "_law_one_of") rfl)
  d_InvalidHistory___init__ := _
  F_InvalidHistory___init__ := (c.def_ 4 (d := h_InvalidHistory___init__) rfl).choose_spec
  f_is_integer := _
  d_is_integer := _
  F_is_integer := (c.def_ 5 (d := h_is_integer) rfl).choose_spec
  g_is_integer := He.glo_ok X G (c.fact 5 (f := .glo "is_integer") rfl)
  f_is_between := _
  d_is_between := _
  F_is_between := (c.def_ 6 (d := h_is_between) rfl).choose_spec
  g_is_between := He.glo_ok X G (c.fact 6 (f := .glo "is_between") rfl)
  f__law_is_number := _
  d__law_is_number := _
  F__law_is_number := (c.def_ 7 (d := h__law_is_number) rfl).choose_spec
  g__law_is_number := He.glo_ok X G (c.fact 7 (f := .glo "_law_is_number") rfl)
  f_is_change := _
  d_is_change := _
  F_is_change := (c.def_ 8 (d := h_is_change) rfl).choose_spec
  g_is_change := He.glo_ok X G (c.fact 8 (f := .glo "is_change") rfl)
  f_require_history := _
  d_require_history := _
  F_require_history := (c.def_ 9 (d := h_require_history) rfl).choose_spec
  g_require_history := He.glo_ok X G (c.fact 9 (f := .glo "require_history") rfl)
  f__law_required := _
  d__law_required := _
  F__law_required := (c.def_ 10 (d := h__law_required) rfl).choose_spec
  g__law_required := He.glo_ok X G (c.fact 10 (f := .glo "_law_required") rfl)
  f_told_entries := _
  d_told_entries := _
  F_told_entries := (c.def_ 11 (d := h_told_entries) rfl).choose_spec
  g_told_entries := He.glo_ok X G (c.fact 11 (f := .glo "told_entries") rfl)
  f_changes_of := _
  d_changes_of := _
  F_changes_of := (c.def_ 12 (d := h_changes_of) rfl).choose_spec
  g_changes_of := He.glo_ok X G (c.fact 12 (f := .glo "changes_of") rfl)
  f_entries_of := _
  d_entries_of := _
  F_entries_of := (c.def_ 13 (d := h_entries_of) rfl).choose_spec
  g_entries_of := He.glo_ok X G (c.fact 13 (f := .glo "entries_of") rfl)
  f_is_elder := _
  d_is_elder := _
  F_is_elder := (c.def_ 14 (d := h_is_elder) rfl).choose_spec
  g_is_elder := He.glo_ok X G (c.fact 14 (f := .glo "is_elder") rfl)
  f__law_at := _
  d__law_at := _
  F__law_at := (c.def_ 15 (d := h__law_at) rfl).choose_spec
  g__law_at := He.glo_ok X G (c.fact 15 (f := .glo "_law_at") rfl)
  f__law_odd := _
  d__law_odd := _
  F__law_odd := (c.def_ 16 (d := h__law_odd) rfl).choose_spec
  g__law_odd := He.glo_ok X G (c.fact 16 (f := .glo "_law_odd") rfl)
  f__law_history := _
  d__law_history := _
  F__law_history := (c.def_ 17 (d := h__law_history) rfl).choose_spec
  g__law_history := He.glo_ok X G (c.fact 17 (f := .glo "_law_history") rfl)
  f__law_told := _
  d__law_told := _
  F__law_told := (c.def_ 18 (d := h__law_told) rfl).choose_spec
  g__law_told := He.glo_ok X G (c.fact 18 (f := .glo "_law_told") rfl)
  f__law_history_due := _
  d__law_history_due := _
  F__law_history_due := (c.def_ 19 (d := h__law_history_due) rfl).choose_spec
  g__law_history_due := He.glo_ok X G (c.fact 19 (f := .glo "_law_history_due") rfl)
  f__law_value := _
  d__law_value := _
  F__law_value := (c.def_ 20 (d := h__law_value) rfl).choose_spec
  g__law_value := He.glo_ok X G (c.fact 20 (f := .glo "_law_value") rfl)
  f__law_entries_due := _
  d__law_entries_due := _
  F__law_entries_due := (c.def_ 21 (d := h__law_entries_due) rfl).choose_spec
  g__law_entries_due := He.glo_ok X G (c.fact 21 (f := .glo "_law_entries_due") rfl)
  f_law := _
  d_law := _
  F_law := (c.def_ 22 (d := h_law) rfl).choose_spec
  g_law := He.glo_ok X G (c.fact 22 (f := .glo "law") rfl)
  n_bool := He.free_ok X G (c.fact 23 (f := .free "bool") rfl)
  n_enumerate := He.free_ok X G (c.fact 24 (f := .free "enumerate") rfl)
  n_int := He.free_ok X G (c.fact 25 (f := .free "int") rfl)
  n_isinstance := He.free_ok X G (c.fact 26 (f := .free "isinstance") rfl)
  n_len := He.free_ok X G (c.fact 27 (f := .free "len") rfl)
  n_list := He.free_ok X G (c.fact 28 (f := .free "list") rfl)
  n_range := He.free_ok X G (c.fact 29 (f := .free "range") rfl)
  n_repr := He.free_ok X G (c.fact 30 (f := .free "repr") rfl)
  n_tuple := He.free_ok X G (c.fact 31 (f := .free "tuple") rfl)
  n_zip := He.free_ok X G (c.fact 32 (f := .free "zip") rfl)
  c_MOST_CHANGES := He.int_ok X G (c.fact 33 (f := .int "MOST_CHANGES" 1000) rfl)
  c_NOWHERE := He.int_ok X G (c.fact 34 (f := .int "NOWHERE" 0) rfl)
  c_ROW := He.int_ok X G (c.fact 35 (f := .int "ROW" 1) rfl)
  c_STRIKE := He.int_ok X G (c.fact 36 (f := .int "STRIKE" 0) rfl)
  gx_InvalidHistory := He.glo_ok X G (c.fact 4 (f := .glo "InvalidHistory") rfl)
  x_InvalidHistory := exB_ok basV xx
theorem bindA {K : PySem.W.Frag} {mg : Str → Option Value} (T : Txt K mg) (s : Shared) (v : Value) : BindsTo s T.d_law ⟨[v], []⟩ [("script", v)] :=
  FunD.bindsA (ps := ["script"]) T.F_law (fun _ _ _ _ _ _ us hl => match us, hl with | [_], _ => rfl) s [v] rfl
end K01
open PySem PySem.W PySem.Calls PyProof.Rows
set_option maxRecDepth 100000 in
set_option maxHeartbeats 0 in
theorem PySem.Challenge.cw_movedrows_k01_histories_and_entries_holds : PySem.Challenge.rw_movedrows_k01_histories_and_entries.Holds := by
  w_on; o_law
  refine HandSHeadRun.head_any (r := OpenLaw.row PySem.Challenge.rw_movedrows_k01_histories_and_entries) (q := view (OpenLaw.row PySem.Challenge.rw_movedrows_k01_histories_and_entries).prog [30])
    (H := K01.hk) (ob := K01.ob) (M := 20000) (loose := K01.names)
    (d := HandSHeadRun.topDef (OpenLaw.row PySem.Challenge.rw_movedrows_k01_histories_and_entries).prog 30) (kwd := []) K01.ob_eq
    (by kernel_rfl) (fun s => by kernel_rfl) K01.run (by kernel_rfl) (by kernel_rfl) (by kernel_rfl) (by rfl)
    (by first | assumption | decide +kernel) (by decide +kernel) ⟨rfl, rfl, rfl, rfl, rfl, by decide +kernel⟩ ?hw ?hc
  case hw => w_witness2
  case hc =>
    refine Gd.walkG (l := PySem.Challenge.rw_movedrows_k01_histories_and_entries) (n := 63) (k := 5) (x := "script") (CX := L2.CX0) rfl (by decide) (by kernel_rfl)
      ⟨rfl, by decide, by decide⟩ ?F (fun _ _ _ _ z => z)
    intro w mg fa h Y G hmg0
    obtain ⟨K, KX, c, xx⟩ := Y
    have hmg : mg ("law" : PySem.Str) = some (.ref fa) := by
      have e : (HandSHeadRun.topDef (OpenLaw.row PySem.Challenge.rw_movedrows_k01_histories_and_entries).prog 30).name = ("law" : PySem.Str) := by kernel_rfl
      rw [← e]
      exact hmg0
    have e := hmg.symm.trans (K01.txt KX G c xx).g_law
    have e2 : fa = (K01.txt KX G c xx).f_law := by
      injection e with e
      injection e
    subst e2
    exact ⟨K, _, K01.sp_law K, KX, fun s v => K01.bindA (K01.txt KX G c xx) s v, fun H a ns hl _ hS => ⟨a, ns, rfl, hS, hl, fun _ => rfl⟩,
      fun base _ _ => K01.ok_law (K01.txt KX G c xx)⟩

