import PyProof.Rows.All
import Wide.All
import OpenK.AllK
import Wide.FinOn
import KE.KStateDown
import HandS.ForMost
import HandS.Wide
import HandS.Defaults
import HandS.RaiseMore
import HandS.Head0
import HandS.Head1
import HandS.Head2
import HandS.HeadEnd
import HandS.HeadHook1
import HandS.HeadHook2
import PySem.Challenge.RW_movedrows_k03_what_rules_do
set_option Elab.async false
set_option linter.all false
set_option maxRecDepth 100000
set_option maxHeartbeats 4000000

/-! Defs that are called while no repr is under way (guards), and repr of data. -/
namespace Gd
open PySem PySem.Spec PyProof.Rows L2
/-- a def's promise, asked only where no repr is under way -/
structure FnG (P : Program) (w : World) (K : PySem.W.Frag) (mg : Str → Option Value) (base : Heap)
    (CX : CXT) (k : Nat) (f : Addr) (fd : FuncData) (ps : List Str) (sp : Sp) : Prop where
  len : ∀ vs H Q E, sp vs H Q E → vs.length = ps.length
  run : ∀ (A : Around) (outer : List Env) (s : Shared) (H : Hp)
    (args : Args) (us : List Value) (vs : List V) (Q : VK) (E : XK),
    Room k A → A.guards = some [] →
    Env0 P w K mg base A outer s H →
    BindsTo s fd args (ps.zip us) → Vals vs us → sp vs H Q E →
    codeAny (model P w) A (.call (.ref f) args) (CR CX outer P w H s Q E) s
section
variable {P : Program} {w : World} {K : PySem.W.Frag} {mg : Str → Option Value}
variable {base : Heap} {CX : CXT} {k : Nat} {f : Addr} {fd : FuncData} {ps : List Str} {sp : Sp}
theorem FnG.of (F : FnOk P w K mg base CX k f fd ps sp) : FnG P w K mg base CX k f fd ps sp :=
  ⟨F.len, fun A o s H a us vs Q E r _ => F.run A o s H a us vs Q E r⟩
theorem FnG.mono {j : Nat} (F : FnG P w K mg base CX j f fd ps sp) (h : j ≤ k) :
    FnG P w K mg base CX k f fd ps sp :=
  ⟨F.len, fun A o s H a us vs Q E r => F.run A o s H a us vs Q E (r.mono h)⟩
/-- the rule for such a def: its body with guards known -/
theorem fnG_of {name qual : Str} {params : Arguments} {body : List Stmt} {scope : Scope}
    {dV kV doc pm cdv ct oc : Value} {an od : Option Addr}
    {osl : Array (Option Value)} {N : List Str}
    (lk : K.lookup f = some ⟨oc, od, .func (PySem.W.fnOf name qual params body scope dV kV doc pm an cdv ct), osl⟩)
    (hcd : PySem.W.codeIn K cdv qual = true) (S : FnScope N ps scope)
    (len : ∀ vs H Q E, sp vs H Q E → vs.length = ps.length)
    (hbody : ∀ (A : Around) (outer : List Env) (s : Shared) (H : Hp) (vs : List V) (Q : VK) (E : XK),
      Room k (A.deeper (envOfC qual scope s.heap.objs.size f cdv)) → A.guards = some [] → sp vs H Q E →
      ∃ t, PSs (cxOf CX P w K mg base N qual scope f cdv A outer s H E) body t ∧
        t { nx := fun _ H' => Q .non H', rt := Q } (start N vs) H) :
    FnG P w K mg base CX (k + 1) f (PySem.W.fnOf name qual params body scope dV kV doc pm an cdv ct) ps sp := by
  refine ⟨len, ?_⟩
  intro A outer s H args us vs Q E room hg e0 hb rel want
  have hlen := len _ _ _ _ want
  have up : ∀ b o, base.get? b = some o → s.heap.get? b = some o := fun b o e => (e0.bs b o e).1
  have inK : K.In s.heap := e0.mod.kin.keeps up
  have hkinds : ∀ y ∈ ps.zip us,
      scope.names.lookup y.1 = some .local ∨
      (scope.names.lookup y.1 = some .cell ∧
        ((cellsFrom (s.heap.objs.size + 1) scope.names []).lookup y.1).isSome = true) := by
    intro y hy
    obtain ⟨n, v⟩ := y
    rcases S.par n (List.of_mem_zip hy).1 with q | q
    · exact Or.inl q
    · exact Or.inr ⟨q, PySem.W.cellsFrom_some _ _ _ (Or.inl q)⟩
  refine codeAny_call_function room.depth (inK _ _ lk) rfl S.co S.gen rfl
    (PySem.W.codeRec_of inK hcd) (hb _ _ _ _ ?_)
  refine wpAny_newFunctionEnv_cells S.kind hkinds ?_
  intro env he s1 x
  subst he
  refine ⟨(e0.mod.nolimit.keeps up).keeps x.toInCall.keep, codeAny_func ?_⟩
  obtain ⟨t, ht, hq⟩ := hbody A outer s H vs Q E (room.deeper _) hg want
  have I := inv_start (CX := CX) (E := E) (cd := cdv) S room.hd e0 hlen rel x
  refine wpAny_mono (ht.run [] s1 (start N vs) H _ I hq) ?_ (fun _ _ z => z)
  intro fl s' hs
  cases fl with
  | ret u =>
    obtain ⟨v, _, H', J, rv, q⟩ := hs
    exact ⟨v, H', J.os, J.bare, J.base, J.hok, rv, q⟩
  | next =>
    obtain ⟨_, H', J, q⟩ := hs
    exact ⟨V.non, H', J.os, J.bare, J.base, J.hok, rfl, q⟩
  | brk => exact False.elim hs.choose_spec.choose_spec.2
  | cont => exact False.elim hs.choose_spec.choose_spec.2
/-- the same from what the head tells of a def -/
theorem okG {x qual : Str} {params : Arguments} {body : List Stmt} {scope : Scope}
    {dvs : List V} {kws : List (Str × V)} {N : List Str}
    (F : FunD K x qual params body scope dvs kws f fd) (S : FnScope N ps scope)
    (len : ∀ vs H Q E, sp vs H Q E → vs.length = ps.length)
    (hbody : ∀ (cdv : Value) (A : Around) (outer : List Env) (s : Shared) (H : Hp) (vs : List V) (Q : VK) (E : XK),
      Room k (A.deeper (envOfC qual scope s.heap.objs.size f cdv)) → A.guards = some [] → sp vs H Q E →
      ∃ t, PSs (cxOf CX P w K mg base N qual scope f cdv A outer s H E) body t ∧
        t { nx := fun _ H' => Q .non H', rt := Q } (start N vs) H) :
    FnG P w K mg base CX (k + 1) f fd ps sp := by
  obtain ⟨_, _, _, _, _, _, _, cdv, _, _, rfl, lk, hcd, _, _⟩ := F.ex
  exact fnG_of lk hcd S len (fun A outer s H => hbody cdv A outer s H)
end
section
variable {X : Cx} {CX : CXT} {k : Nat} {f : Addr} {fd : FuncData} {ps : List Str} {sp : Sp}
variable {dvs : List V} {ds : List Value} {E : XK} {x : Str} {p pos : Pos} {e : Expr} {es : List Expr} {t : TA}
theorem runG {pins : List (Addr × Obj)} {σ : L2.St} {H : Hp} {s : Shared} {Q : VK} {us : List Value} {vs : List V}
    (F : FnG X.prog X.w X.K X.mg X.base CX k f fd ps sp) (hr : Room k X.A) (hg : X.A.guards = some [])
    (hb : Binds X.K fd ps ds) (hd : Vals dvs ds) (hx : Passes CX X E)
    (I : Inv X pins σ H s) (r : Vals vs us) (h : sp (vs ++ dvs) H Q E) :
    wpAny (model X.prog X.w) X.A (call (.ref f) us) (EP X pins σ Q) X.xe s := by
  have both : Vals (vs ++ dvs) (us ++ ds) := r.append hd
  have n : (us ++ ds).length = ps.length := both.length.symm.trans (F.len _ _ _ _ h)
  have go := F.run X.A X.stack s H ⟨us, []⟩ (us ++ ds) (vs ++ dvs) Q E hr hg I.env0
    (hb s us I.kIn n) both h
  refine wpAny_call (codeAny_mono go ?_)
  intro r' s' hq
  rcases r' with er | fl
  · exact hx pins σ H s er s' I hq
  · cases fl with
    | ret u => exact I.after hq
    | next => exact hq.elim
    | brk => exact hq.elim
    | cont => exact hq.elim
/-- f(e, ..) of such a def -/
theorem pe_callG (F : FnG X.prog X.w X.K X.mg X.base CX k f fd ps sp) (hr : Room k X.A) (hgd : X.A.guards = some [])
    (hg : Gl X x) (hm : X.mg x = some (.ref f)) (hk : PySem.W.keepIn X.K (.ref f) = true)
    (hb : Binds X.K fd ps ds) (hd : Vals dvs ds) (hx : Passes CX X E)
    (ha : PA X (e :: es) t) (hdb : (x == ("__debug__" : Str)) = false := by decide)
    (he : starEach (e :: es) X.env = (false, eval e X.env) :: starEach es X.env := by rfl)
    (hpl : (backTo pos (starEach es X.env)).any (·.1) = false := by rfl) :
    PE X (.Call (.Name x p) (e :: es) [] pos) (tCall sp dvs E t) := by
  refine ⟨?_⟩
  intro pins s σ H Q I h
  refine wpAny_Call_Name_kw (ld_glob I hg hm ?_ hdb)
  refine PySem.W.callWith_K (h₀ := X.base) I.ok.mod.kin hk ?_ he hpl
  exact thn (ha.run pos pins s σ H _ I h) fun us s1 ⟨vs, H1, I1, r, q⟩ =>
    ⟨I1.kIn, runG F hr hgd hb hd hx I1 r q⟩
/-- repr of data -/
theorem call_reprD (hgd : X.A.guards = some []) (hu : X.A.units + 65 < cLine) :
    CallR X (.builtin "repr") (fun xs H Q => ∃ a d, xs = [.ref a] ∧ Dp X.K H (.ref a) d ∧ d.showable = true ∧
      d.depth ≤ 64 ∧ d.hasDict = false ∧ d.shown.length ≤ sizeLine ∧ Q (.str d.shown) H) := by
  intro pins s σ H xs us Q I r h
  obtain ⟨a, d, rfl, hd, hs, h64, hD, hz, q⟩ := h
  obtain ⟨u, rfl, rx⟩ := vals1 r
  obtain ⟨as, rd⟩ := Dp.reads I d _ _ hd rx
  cases rx
  refine repr_of_reads' rd hs (fun z => by rw [hD] at z; cases z) hgd (by omega) (fun _ _ e => e) ?_ hz
  intro h' u tk hk
  exact ⟨.str d.shown, H, I.kept hk, ⟨_, rfl⟩, q⟩
end
/-- a law's call from outside: its def promised for where no repr is under way -/
theorem law_callG {P : Program} {w : World} {K : PySem.W.Frag} {mg mb : Str → Option Value}
    {CX : CXT} {k : Nat} {fa a : Addr} {fd : FuncData} {x : Str} {sp : Sp}
    {s₁ : Shared} {vs : List Value} {ns : List Int}
    (KX : K.In s₁.heap) (hns : s₁.heap.Ns mainGlobals mg) (hb : s₁.heap.Ns builtinsNs mb)
    (hbb : ∀ x : Str, x ≠ "__name__" → mb x = bootBuiltins x) (hlim : s₁.heap.NoLimit) (hg : s₁.gens = #[])
    (ha : s₁.heap.get? a = some { cls := .type "list", data := .seq vs.toArray })
    (hi : IntsAre vs ns) (hl : ns.length ≤ sizeLine) (hr : Room k callerA)
    (F : ∀ base : Heap, K.In base → base.Ns mainGlobals mg → FnG P w K mg base CX k fa fd [x] sp)
    (hbind : ∀ (s : Shared) (u : Value), BindsTo s fd ⟨[u], []⟩ [(x, u)])
    (hsp : ∀ H : Hp, Only H → SqL K H a (ns.map V.int) → sp [.ref a] H (fun v _ => v = .bl true) fun _ _ _ => False)
    (hCX : ∀ H e s', CX [] H s₁ (fun _ _ _ => False) e s' → False) :
    codeAny (model P w) callerA (.call (.ref fa) ⟨[.ref a], []⟩)
      (fun r s' => r = .ok (.ret (.bool true)) ∧ OldK s₁.heap s'.heap ∧ s'.os = s₁.os ∧ AllBare s'.gens) s₁ := by
  have rints := vals_ints hi
  have nn := hi.length
  have main : ∀ H : Hp, Only H → SqL K H a (ns.map V.int) → HOk P w H s₁.heap →
      (∀ b, H b ≠ none → b = a) → (H a ≠ none → K.lookup a = none) →
      codeAny (model P w) callerA (.call (.ref fa) ⟨[.ref a], []⟩)
        (fun r s' => r = .ok (.ret (.bool true)) ∧ OldK s₁.heap s'.heap ∧ s'.os = s₁.os ∧ AllBare s'.gens) s₁ := by
    intro H only sq ok one noK
    have plainD : ∀ {b : Addr} {o : Obj} {es : Array DictEntry} {ep : Nat},
        s₁.heap.get? b = some o → o.data = .dict es ep → H b = none := by
      intro b o es ep e d
      rcases q : H b with _ | u
      · rfl
      · have e' : b = a := one b (by rw [q]; exact Option.some_ne_none u)
        subst e'
        rw [ha] at e
        cases e
        cases (show Data.seq vs.toArray _ = Data.dict es ep from d)
    have names : ∀ {b : Addr} {m : Str → Option Value},
        s₁.heap.Ns b m → (hidT s₁.heap H).Ns b m := by
      intro b m z
      obtain ⟨o, es, ep, e, d, r⟩ := z
      exact ⟨o, es, ep, hidT_get e (plainD e d), d, r⟩
    have kin : K.In (hidT s₁.heap H) := by
      intro b o e
      refine hidT_get (KX b o e) ?_
      rcases q : H b with _ | u
      · rfl
      · have e' : b = a := one b (by rw [q]; exact Option.some_ne_none u)
        subst e'
        rw [noK (by rw [q]; exact Option.some_ne_none u)] at e
        cases e
    have lim : (hidT s₁.heap H).NoLimit := by
      obtain ⟨mc, h1, h2⟩ := hlim
      exact ⟨mc, names h1, h2⟩
    have md : Mod K mg (hidT s₁.heap H) := ⟨kin, names hns, ⟨mb, names hb, hbb⟩, lim⟩
    have env : Env0 P w K mg (hidT s₁.heap H) callerA [] s₁ H :=
      { frames := rfl, mod := md, bs := fun _ _ e => of_hidT e, bsz := Nat.le_of_eq (hidT_size _ _)
        funs := trivial, frf := fun b hb => absurd hb List.not_mem_nil, hok := ok, bare := .of_eq hg }
    have go := (F _ kin (names hns)).run callerA [] s₁ H ⟨[.ref a], []⟩ [.ref a] [.ref a] _ _ hr rfl env
      (hbind s₁ (.ref a)) (.cons rfl .nil) (hsp H only sq)
    refine codeAny_mono go ?_
    intro r s' h
    rcases r with e | fl
    · exact (hCX H e s' h).elim
    · cases fl with
      | next => exact h.elim
      | brk => exact h.elim
      | cont => exact h.elim
      | ret u =>
        obtain ⟨v, H', os, bare, un, ok', rv, q⟩ := h
        have tr : v = .bl true := q
        subst tr
        obtain rfl : u = Value.bool true := rv
        refine ⟨rfl, OldK.of_keep ?_, os, bare⟩
        intro b o e
        rcases z : H b with _ | u
        · exact un.keep b o e z (fun y => absurd (show b ∈ ([] : List Addr) from y) List.not_mem_nil) List.not_mem_nil
        · rcases only b with y | ⟨ob, xs, y⟩
          · rw [z] at y
            cases y
          · obtain ⟨e1, _⟩ := ok b _ y
            obtain ⟨e2, _⟩ := ok' b _ (un.frzs b ob _ y)
            rw [e] at e1
            cases e1
            exact e2
  rcases hk : K.lookup a with _ | o
  · let o1 : Obj := { cls := .type "list", data := .seq vs.toArray }
    let H1 : Hp := fun b => if b = a then some (.frz o1 (.lst (ns.map V.int))) else none
    have at1 : H1 a = some (.frz o1 (.lst (ns.map V.int))) := if_pos rfl
    have off : ∀ b, b ≠ a → H1 b = none := fun b h => if_neg h
    refine main H1 ?_ (.inl (.inr ⟨o1, at1⟩)) ?_ ?_ (fun _ => hk)
    · intro b
      by_cases h : b = a
      · exact .inr ⟨o1, ns.map V.int, by rw [h]; exact at1⟩
      · exact .inl (off b h)
    · intro b u z
      by_cases h : b = a
      · subst h
        rw [at1] at z
        cases z
        exact ⟨ha, by rw [List.length_map]; exact hl, vs, _, rints, ha⟩
      · rw [off b h] at z
        cases z
    · intro b z
      by_cases h : b = a
      · exact h
      · exact absurd (off b h) z
  · have e := KX a o hk
    rw [ha] at e
    cases e
    refine main (fun _ => none) (fun _ => .inl rfl)
      (.inr ⟨_, vs.toArray, _, hk, rfl, rfl, rfl, by rw [List.size_toArray, nn]; exact hl, by simpa using rints⟩)
      ?_ (fun b z => absurd rfl z) (fun z => absurd rfl z)
    intro b u z
    cases (show (none : Option HO) = some u from z)
/-- the goal that the head leaves -/
theorem walkG {l : PySem.W.OpenLaw} {n k : Nat} {q : Program} {loose : List Str}
    {XP : (Str → Option Value) → Heap → Prop} {YP : World → Heap → Prop} {d : DefRec} {CX : CXT} {x : Str}
    (hn : l.most = some n) (hn2 : n ≤ sizeLine) (hdf : d.params.defaults = []) (hr : Room k callerA)
    (F : ∀ (w : World) (mg : Str → Option Value) (fa : Addr) (h : Heap),
      YP w h → h.Ns mainGlobals mg → mg d.name = some (.ref fa) →
      ∃ (K : PySem.W.Frag) (fd : FuncData) (sp : Sp), K.In h ∧
        (∀ (s : Shared) (u : Value), BindsTo s fd ⟨[u], []⟩ [(x, u)]) ∧
        (∀ (H : Hp) (a : Addr) (ns : List Int), ns.length ≤ n → Only H → SqL K H a (ns.map V.int) →
          sp [.ref a] H (fun v _ => v = .bl true) fun _ _ _ => False) ∧
        ∀ base : Heap, K.In base → base.Ns mainGlobals mg → FnG l.prog w K mg base CX k fa fd [x] sp)
    (hCX : ∀ (H : Hp) (s : Shared) (e : Value) (s' : Shared), CX [] H s (fun _ _ _ => False) e s' → False) :
    PySem.W.WalkO q loose XP YP l.row.toRowW d [] (fun f vs => PySem.call f vs) := by
  refine Att.attach_call hn hdf ?_
  intro w s₀ s₁ mg mb fa o pm cd doc a vs ns G Y ho hd hcd hmg hobj hints hlen hg
  obtain ⟨K, fd, sp, KX, hb, hsp, hF⟩ := F w mg fa _ Y G.T.g hmg
  exact law_callG KX G.T.g G.T.b G.T.builtins G.T.nolimit hg hobj hints (Nat.le_trans hlen hn2) hr hF hb
    (fun H hO hS => hsp H a ns hlen hO hS) (fun H e s' => hCX H s₁ e s')
end Gd

/-! The drawing pen of the laws: its object, and small lemmas about heaps, data and tests. -/
namespace Gd
open PySem PySem.Spec PyProof.Rows L2
/-- the pen p: its cells ns stand at g, the next one's place, what is left of a great number -/
structure PenAt (H : Hp) (p g : Addr) (ns : List Int) (seat left : Int) : Prop where
  ne : p ≠ g
  at_ : H p = some (.lst [.ref g, .int seat, .int left])
  cells : H g = some (.lst (ns.map V.int))
def Pen (H : Hp) (p g : Addr) : Prop := ∃ ns seat left, PenAt H p g ns seat left
/-- all but the pen stands as before -/
def But (p : Addr) (H H' : Hp) : Prop := ∀ b o, H b = some o → b ≠ p → H' b = some o
theorem But.refl (p : Addr) (H : Hp) : But p H H := fun _ _ h _ => h
theorem But.trans {p : Addr} {H H1 H2 : Hp} (a : But p H H1) (b : But p H1 H2) : But p H H2 :=
  fun c o h n => b c o (a c o h n) n
theorem But.same {p : Addr} {H H1 H2 : Hp} (a : But p H H1) (b : Same H1 H2) : But p H H2 :=
  fun c o h n => b c o (a c o h n)
theorem But.wr {p : Addr} {H H1 : Hp} {o : HO} (a : But p H H1) : But p H (upd H1 p o) := by
  intro c u h n
  rw [upd_ne n]
  exact a c u h n
theorem same_new {H : Hp} {q : Addr} {o : HO} (h : H q = none) : Same H (upd H q o) := by
  intro c u e
  rw [upd_ne (ne_of_none e h)]
  exact e
theorem same_pen {H H' : Hp} {p g : Addr} (s : Same H H') (P : Pen H p g) : Pen H' p g := by
  obtain ⟨ns, a, b, n, x, y⟩ := P
  exact ⟨ns, a, b, n, s _ _ x, s _ _ y⟩
theorem Pen.lst {H : Hp} {p g : Addr} (P : Pen H p g) : ∃ xs, H p = some (.lst xs) := by
  obtain ⟨ns, a, b, n, x, y⟩ := P
  exact ⟨_, x⟩
theorem Pen.new_ne {H : Hp} {p g q : Addr} (P : Pen H p g) (h : H q = none) : q ≠ p ∧ q ≠ g := by
  obtain ⟨ns, a, b, n, x, y⟩ := P
  exact ⟨(ne_of_none x h).symm, (ne_of_none y h).symm⟩
/-- a store elsewhere -/
theorem Pen.upd {H : Hp} {p g q : Addr} {o : HO} (P : Pen H p g) (h1 : q ≠ p) (h2 : q ≠ g) : Pen (upd H q o) p g := by
  obtain ⟨ns, a, b, n, x, y⟩ := P
  exact ⟨ns, a, b, n, by rw [upd_ne h1.symm]; exact x, by rw [upd_ne h2.symm]; exact y⟩
/-- a store at an object that was not there ahead -/
theorem But.upd {p q : Addr} {H H1 : Hp} {o : HO} (B : But p H H1) (h : H q = none) : But p H (upd H1 q o) := by
  intro b u e n
  rw [upd_ne (ne_of_none e h)]
  exact B b u e n
/-- tuples stand, whatever is drawn -/
theorem but_tup {K : PySem.W.Frag} {p a : Addr} {H H' : Hp} {ys xs : List V} (B : But p H H') (hp : H p = some (.lst ys)) (h : SqT K H a xs) : SqT K H' a xs := by
  rcases h with (h | ⟨o, h⟩) | h
  · exact .inl (.inl (B _ _ h (ne_of h hp (by intro z; cases z))))
  · exact .inl (.inr ⟨o, B _ _ h (ne_of h hp (by intro z; cases z))⟩)
  · exact .inr h
theorem same_penAt {H H' : Hp} {p g : Addr} {ns : List Int} {a b : Int} (s : Same H H') (P : PenAt H p g ns a b) : PenAt H' p g ns a b :=
  ⟨P.ne, s _ _ P.at_, s _ _ P.cells⟩
theorem same_tup {K : PySem.W.Frag} {H H' : Hp} {a : Addr} {xs : List V} (e : Same H H') (h : SqT K H a xs) : SqT K H' a xs := by
  rcases h with (h | ⟨o, h⟩) | h
  · exact .inl (.inl (e _ _ h))
  · exact .inl (.inr ⟨o, e _ _ h⟩)
  · exact .inr h
mutual
theorem dp_same {K : PySem.W.Frag} {H H' : Hp} (e : Same H H') : ∀ {d : PyData} {v : V}, Dp K H v d → Dp K H' v d
  | .none, _, h => by cases h; constructor
  | .bool _, _, h => by cases h; constructor
  | .int _, _, h => by cases h; constructor
  | .str _, _, h => by cases h; constructor
  | .list ds, _, h => by
    cases h with
    | lst a b => exact .lst (e.seq a) (dpAll_same e b)
  | .tuple ds, _, h => by
    cases h with
    | tup a b => exact .tup (same_tup e a) (dpAll_same e b)
  | .dict _, _, h => by cases h
theorem dpAll_same {K : PySem.W.Frag} {H H' : Hp} (e : Same H H') : ∀ {ds : List PyData} {vs : List V}, DpAll K H vs ds → DpAll K H' vs ds
  | [], _, h => by cases h; exact .nil
  | d :: ds, _, h => by
    cases h with
    | cons a b => exact .cons (dp_same e a) (dpAll_same e b)
end
/-- lists of whole numbers as data -/
theorem dp_ints {K : PySem.W.Frag} {H : Hp} : ∀ ns : List Int, DpAll K H (ns.map V.int) (ns.map PyData.int)
  | [] => .nil
  | n :: ns => .cons (.int n) (dp_ints ns)
theorem lay_ints : ∀ ns : List Int, PyData.canLayAll0 (ns.map PyData.int) = true
  | [] => by simp [PyData.canLayAll0]
  | n :: ns => by simp [PyData.canLayAll0, PyData.canLay0, lay_ints ns]
theorem depth_ints : ∀ ns : List Int, PyData.depthAll (ns.map PyData.int) = 0
  | [] => by simp [PyData.depthAll]
  | n :: ns => by simp [PyData.depthAll, PyData.depth, depth_ints ns]
theorem shaped_ints (ns : List Int) : SeqAt.shaped (.list (ns.map PyData.int)) = true := by
  simp [SeqAt.shaped, PyData.canLay0, lay_ints, PyData.depth, depth_ints]
theorem eqv_nil (ns : List Int) : PyData.eqv (.list (ns.map PyData.int)) (.list []) = ns.isEmpty := by
  cases ns <;> simp [PyData.eqv, PyData.eqvAll]
/-- a value by a test -/
theorem ite_val {c : Prop} [Decidable c] {ta tb : VK → Prop} {Q : VK} (S : V → Hp → Prop)
    (h1 : c → ∀ Q' : VK, (∀ v H, S v H → Q' v H) → ta Q') (h2 : ¬ c → ∀ Q' : VK, (∀ v H, S v H → Q' v H) → tb Q')
    (hQ : ∀ v H, S v H → Q v H) : if c then ta Q else tb Q := by
  by_cases h : c
  · rw [if_pos h]
    exact h1 h Q hQ
  · rw [if_neg h]
    exact h2 h Q hQ
/-- statements by a test whose answer does not matter -/
theorem ifs_any {c : TT} {t u : TS} {D : Ends} {σ : L2.St} {H : Hp} (hc : ∀ K' : Bool → Hp → Prop, (∀ b, K' b H) → c σ H K')
    (h1 : t D σ H) (h2 : u D σ H) : tIfS c t u D σ H := by
  refine hc _ (fun b => ?_)
  cases b with
  | true => exact iteT h1
  | false => exact iteF h2
theorem seq_if {c : TT} {t u r : TS} {D : Ends} {σ : L2.St} {H : Hp} (hc : ∀ K' : Bool → Hp → Prop, (∀ b, K' b H) → c σ H K')
    (h1 : t { D with nx := r D } σ H) (h2 : u { D with nx := r D } σ H) : tSeq (tIfS c t u) r D σ H := ifs_any hc h1 h2
theorem nx_of {i : Nat} {v : V} {σ : L2.St} {H : Hp} {nx : L2.St → Hp → Prop} (h : nx (σ.set i (some v)) H) : gName i v σ H nx := h
/-- statements by a test, joined behind it -/
theorem ite_stm {c : Prop} [Decidable c] {t u : TS} {D : Ends} {σ : L2.St} {H : Hp} (S : L2.St → Hp → Prop)
    (h1 : c → ∀ nx : L2.St → Hp → Prop, (∀ σ H, S σ H → nx σ H) → t { D with nx := nx } σ H)
    (h2 : ¬ c → ∀ nx : L2.St → Hp → Prop, (∀ σ H, S σ H → nx σ H) → u { D with nx := nx } σ H)
    (hS : ∀ σ H, S σ H → D.nx σ H) : if c then t D σ H else u D σ H := by
  by_cases h : c
  · rw [if_pos h]
    exact h1 h D.nx hS
  · rw [if_neg h]
    exact h2 h D.nx hS
theorem fmod_pos {a b : Int} (h : 0 < b) : 0 ≤ a.fmod b ∧ a.fmod b < b := by
  rw [Int.fmod_eq_emod_of_nonneg a (Int.le_of_lt h)]
  exact ⟨Int.emod_nonneg a (by omega), Int.emod_lt_of_pos a h⟩
theorem atI_some {α : Type} {xs : List α} {i : Int} (h0 : 0 ≤ i) (h1 : i < xs.length) : ∃ v, xs[i.toNat]? = some v ∧ atI xs i = some v := by
  have hj : i.toNat < xs.length := by omega
  have e : (i.toNat : Int) = i := Int.toNat_of_nonneg h0
  refine ⟨xs[i.toNat], List.getElem?_eq_getElem hj, ?_⟩
  unfold atI ixN
  rw [if_pos h0, if_pos h1]
  exact List.getElem?_eq_getElem hj
end Gd
namespace Gd
open PySem PySem.Spec PyProof.Rows L2
theorem u65 {k : Nat} {A : Around} (r : Room k A) : A.units + 65 < cLine := by
  have := r.un
  omega
/-- numbers of fewer than 300 bits are shown -/
def Sm (i : Int) : Prop := i.natAbs < 2 ^ 300
theorem Sm.log {i : Int} (h : Sm i) : i.natAbs.log2 < 1920 :=
  Nat.lt_of_lt_of_le (PySem.Flt.log2_lt_of (by decide) h) (by decide)
theorem Sm.of {i : Int} (h : i.natAbs < 1000000000) : Sm i :=
  Nat.lt_of_lt_of_le h (by have : (2 : Nat) ^ 30 ≤ 2 ^ 300 := Nat.pow_le_pow_right (by decide) (by decide); omega)
/-- data that repr shows -/
structure Fit (d : PyData) : Prop where
  sh : d.showable = true
  lv : d.leavesShort 400 = true
  nd : d.hasDict = false
  dp : d.depth ≤ 64
  bk : d.bulk ≤ 30000
theorem Fit.len {d : PyData} (h : Fit d) : d.shown.length ≤ sizeLine := by
  have a := PyData.shown_le_bulk 400 (by decide) d h.lv
  have b := h.bk
  rw [sizeLine_eq]
  omega
theorem Sm.short {i : Int} (h : Sm i) : (PyData.shown (.int i)).length ≤ 400 := by
  have h2 : i.natAbs.log2 < 300 := PySem.Flt.log2_lt_of (by decide) h
  have h3 := int_text_length_le (a := i) (k := 300) (by decide) h2
  have e : (PyData.shown (.int i)).length = (toString i).length := by
    show (Str.ofString (toString i)).length = _
    exact PySem.ofString_length _
  omega
end Gd
namespace Gd
open PySem PySem.Spec PyProof.Rows L2
theorem small_b {b : Int} (h : b.natAbs < 2 ^ 200) : b.natAbs < 2 ^ 9000 :=
  Nat.lt_of_lt_of_le h (Nat.pow_le_pow_right (by decide) (by decide))
end Gd
namespace Gd
open PySem PySem.Spec PyProof.Rows L2
/-- tuples stand when a list is changed -/
theorem tup_lst {K : PySem.W.Frag} {H : Hp} {L a : Addr} {xs ys zs : List V} (hL : H L = some (.lst xs)) (h : SqT K H a zs) : SqT K (upd H L (.lst ys)) a zs := by
  rcases h with (h | ⟨o, h⟩) | h
  · exact .inl (.inl (by rw [upd_ne (ne_of h hL (by intro z; cases z))]; exact h))
  · exact .inl (.inr ⟨o, by rw [upd_ne (ne_of h hL (by intro z; cases z))]; exact h⟩)
  · exact .inr h
end Gd
namespace Gd
open PySem PySem.Spec PyProof.Rows L2
theorem yes_of {σ : L2.St} {H : Hp} {Q : Bool → Hp → Prop} (h : Q true H) : tYes σ H Q := h
end Gd

namespace K03
open PySem PySem.Spec PyProof.Rows L2 Gd
def top (i : Nat) : Stmt := PySem.Challenge.pw_movedrows_k03_what_rules_do.main.body.getD i (.Pass ⟨0, 0, 0, 0⟩)
abbrev s__law_pen : Stmt := top 16
abbrev s__law_fresh : Stmt := top 17
abbrev s__law_draw : Stmt := top 18
abbrev s__law_one_of : Stmt := top 19
abbrev s_is_elder : Stmt := top 1
abbrev s_relation : Stmt := top 11
abbrev s_from_key : Stmt := top 12
abbrev s_asked_rule : Stmt := top 13
abbrev s_laid : Stmt := top 14
abbrev s__law_named : Stmt := top 20
abbrev s__law_any_rules : Stmt := top 21
abbrev s__law_rules : Stmt := top 22
abbrev s__law_found : Stmt := top 23
abbrev s__law_asked : Stmt := top 24
abbrev s__law_laid : Stmt := top 25
abbrev s_law : Stmt := top 26
abbrev FnP (K : PySem.W.Frag) (x : Str) (st : Stmt) (f : Addr) (fd : FuncData) : Prop :=
  FunD K x x (defArgs st) (defBody st) (defScope st) [] [] f fd
theorem sc__law_pen : FnScope ["script"] ["script"] (defScope s__law_pen) :=
  ⟨rfl, rfl, rfl, by decide +kernel, rfl, by decide +kernel, by decide +kernel⟩
theorem sc__law_fresh : FnScope ["pen", "seat", "given", "cell", "prime", "state", "found", "lap"] ["pen"] (defScope s__law_fresh) :=
  ⟨rfl, rfl, rfl, by decide +kernel, rfl, by decide +kernel, by decide +kernel⟩
theorem sc__law_draw : FnScope ["pen", "bound", "digit"] ["pen", "bound"] (defScope s__law_draw) :=
  ⟨rfl, rfl, rfl, by decide +kernel, rfl, by decide +kernel, by decide +kernel⟩
theorem sc__law_one_of : FnScope ["pen", "some"] ["pen", "some"] (defScope s__law_one_of) :=
  ⟨rfl, rfl, rfl, by decide +kernel, rfl, by decide +kernel, by decide +kernel⟩
theorem sc_is_elder : FnScope ["one", "other", "_", "kind", "stamp", "other_kind", "other_stamp"] ["one", "other"] (defScope s_is_elder) :=
  ⟨rfl, rfl, rfl, by decide +kernel, rfl, by decide +kernel, by decide +kernel⟩
theorem sc_relation : FnScope ["slot", "entry"] ["slot", "entry"] (defScope s_relation) :=
  ⟨rfl, rfl, rfl, by decide +kernel, rfl, by decide +kernel, by decide +kernel⟩
theorem sc_from_key : FnScope ["pair", "key"] ["pair", "key"] (defScope s_from_key) :=
  ⟨rfl, rfl, rfl, by decide +kernel, rfl, by decide +kernel, by decide +kernel⟩
theorem sc_asked_rule : FnScope ["held", "entry", "key", "kind", "_", "own", "other"] ["held", "entry"] (defScope s_asked_rule) :=
  ⟨rfl, rfl, rfl, by decide +kernel, rfl, by decide +kernel, by decide +kernel⟩
theorem sc_laid : FnScope ["rules", "held", "entry", "key", "kind", "stamp", "action", "own", "other"] ["rules", "held", "entry"] (defScope s_laid) :=
  ⟨rfl, rfl, rfl, by decide +kernel, rfl, by decide +kernel, by decide +kernel⟩
theorem sc__law_named : FnScope ["word", "found", "kind", "own", "other"] ["word"] (defScope s__law_named) :=
  ⟨rfl, rfl, rfl, by decide +kernel, rfl, by decide +kernel, by decide +kernel⟩
theorem sc__law_any_rules : FnScope ["pen", "index"] ["pen"] (defScope s__law_any_rules) :=
  ⟨rfl, rfl, rfl, by decide +kernel, rfl, by decide +kernel, by decide +kernel⟩
theorem sc__law_rules : FnScope ["pen", "found", "option", "lap"] ["pen"] (defScope s__law_rules) :=
  ⟨rfl, rfl, rfl, by decide +kernel, rfl, by decide +kernel, by decide +kernel⟩
theorem sc__law_found : FnScope ["slot", "entry"] ["slot", "entry"] (defScope s__law_found) :=
  ⟨rfl, rfl, rfl, by decide +kernel, rfl, by decide +kernel, by decide +kernel⟩
theorem sc__law_asked : FnScope ["held", "entry", "own", "other"] ["held", "entry"] (defScope s__law_asked) :=
  ⟨rfl, rfl, rfl, by decide +kernel, rfl, by decide +kernel, by decide +kernel⟩
theorem sc__law_laid : FnScope ["rules", "held", "entry", "deed", "slots", "own", "other"] ["rules", "held", "entry"] (defScope s__law_laid) :=
  ⟨rfl, rfl, rfl, by decide +kernel, rfl, by decide +kernel, by decide +kernel⟩
theorem sc_law : FnScope ["script", "pen", "far", "marks", "slots", "kind", "mark", "rules", "key", "entry", "one", "other", "held"] ["script"] (defScope s_law) :=
  ⟨rfl, rfl, rfl, by decide +kernel, rfl, by decide +kernel, by decide +kernel⟩
/-- what the top has left -/
structure Txt (K : PySem.W.Frag) (mg : Str → Option Value) where
  f__law_pen : Addr
  d__law_pen : FuncData
  F__law_pen : FnP K "_law_pen" s__law_pen f__law_pen d__law_pen
  g__law_pen : mg "_law_pen" = some (.ref f__law_pen)
  f__law_fresh : Addr
  d__law_fresh : FuncData
  F__law_fresh : FnP K "_law_fresh" s__law_fresh f__law_fresh d__law_fresh
  g__law_fresh : mg "_law_fresh" = some (.ref f__law_fresh)
  f__law_draw : Addr
  d__law_draw : FuncData
  F__law_draw : FnP K "_law_draw" s__law_draw f__law_draw d__law_draw
  g__law_draw : mg "_law_draw" = some (.ref f__law_draw)
  f__law_one_of : Addr
  d__law_one_of : FuncData
  F__law_one_of : FnP K "_law_one_of" s__law_one_of f__law_one_of d__law_one_of
  g__law_one_of : mg "_law_one_of" = some (.ref f__law_one_of)
  f_is_elder : Addr
  d_is_elder : FuncData
  F_is_elder : FnP K "is_elder" s_is_elder f_is_elder d_is_elder
  g_is_elder : mg "is_elder" = some (.ref f_is_elder)
  f_relation : Addr
  d_relation : FuncData
  F_relation : FnP K "relation" s_relation f_relation d_relation
  g_relation : mg "relation" = some (.ref f_relation)
  f_from_key : Addr
  d_from_key : FuncData
  F_from_key : FnP K "from_key" s_from_key f_from_key d_from_key
  g_from_key : mg "from_key" = some (.ref f_from_key)
  f_asked_rule : Addr
  d_asked_rule : FuncData
  F_asked_rule : FnP K "asked_rule" s_asked_rule f_asked_rule d_asked_rule
  g_asked_rule : mg "asked_rule" = some (.ref f_asked_rule)
  f_laid : Addr
  d_laid : FuncData
  F_laid : FnP K "laid" s_laid f_laid d_laid
  g_laid : mg "laid" = some (.ref f_laid)
  f__law_named : Addr
  d__law_named : FuncData
  F__law_named : FnP K "_law_named" s__law_named f__law_named d__law_named
  g__law_named : mg "_law_named" = some (.ref f__law_named)
  f__law_any_rules : Addr
  d__law_any_rules : FuncData
  F__law_any_rules : FnP K "_law_any_rules" s__law_any_rules f__law_any_rules d__law_any_rules
  g__law_any_rules : mg "_law_any_rules" = some (.ref f__law_any_rules)
  f__law_rules : Addr
  d__law_rules : FuncData
  F__law_rules : FnP K "_law_rules" s__law_rules f__law_rules d__law_rules
  g__law_rules : mg "_law_rules" = some (.ref f__law_rules)
  f__law_found : Addr
  d__law_found : FuncData
  F__law_found : FnP K "_law_found" s__law_found f__law_found d__law_found
  g__law_found : mg "_law_found" = some (.ref f__law_found)
  f__law_asked : Addr
  d__law_asked : FuncData
  F__law_asked : FnP K "_law_asked" s__law_asked f__law_asked d__law_asked
  g__law_asked : mg "_law_asked" = some (.ref f__law_asked)
  f__law_laid : Addr
  d__law_laid : FuncData
  F__law_laid : FnP K "_law_laid" s__law_laid f__law_laid d__law_laid
  g__law_laid : mg "_law_laid" = some (.ref f__law_laid)
  f_law : Addr
  d_law : FuncData
  F_law : FnP K "law" s_law f_law d_law
  g_law : mg "law" = some (.ref f_law)
  c_BOTH : ∃ t, mg "BOTH" = some (.int 4 t)
  c_DROP : ∃ t, mg "DROP" = some (.int 3 t)
  c_ELDER : ∃ t, mg "ELDER" = some (.int 1 t)
  c_EMPTY : ∃ t, mg "EMPTY" = some (.int 0 t)
  c_FRESH : ∃ t, mg "FRESH" = some (.int 2 t)
  c_LAY : ∃ t, mg "LAY" = some (.int 1 t)
  c_MOVE : ∃ t, mg "MOVE" = some (.int 2 t)
  c_OTHER : ∃ t, mg "OTHER" = some (.int 5 t)
  n_int : mg "int" = none
  n_len : mg "len" = none
  n_list : mg "list" = none
  n_range : mg "range" = none
  n_repr : mg "repr" = none
  n_tuple : mg "tuple" = none
def sp__law_pen (K : PySem.W.Frag) : Sp := fun vs H Q _ => ∃ (a : Addr) (ns : List Int), vs = [.ref a] ∧ SqL K H a (ns.map V.int) ∧
  ∀ p g H', Same H H' → H p = none → Pen H' p g → Q (.ref p) H'
def sp__law_fresh (K : PySem.W.Frag) : Sp := fun vs H Q _ => ∃ (p g : Addr) (ns : List Int) (seat left : Int), vs = [.ref p] ∧ PenAt H p g ns seat left ∧
  ∀ (r : Int) H', PenAt H' p g ns (seat + 1) left → But p H H' → Q (.int r) H'
def sp__law_draw (K : PySem.W.Frag) : Sp := fun vs H Q _ => ∃ (p g : Addr) (b : Int), vs = [.ref p, .int b] ∧ Pen H p g ∧ 0 < b ∧ b.natAbs < 2 ^ 9000 ∧
  ∀ (n : Int) H', 0 ≤ n → n < b → Pen H' p g → But p H H' → Q (.int n) H'
def sp__law_one_of (K : PySem.W.Frag) : Sp := fun vs H Q _ => ∃ (p g l : Addr) (xs : List V), vs = [.ref p, .ref l] ∧ Pen H p g ∧ l ≠ p ∧ H l = some (.lst xs) ∧ xs ≠ [] ∧ xs.length ≤ 1000 ∧
  ∀ (v : V) H', v ∈ xs → Pen H' p g → But p H H' → Q v H'
/-! ### the data -/
abbrev Sl := Option (Int × Int)
def slV : Sl → List V
  | none => []
  | some (k, t) => [.int k, .int t]
def slD : Sl → PyData
  | none => .tuple []
  | some (k, t) => .tuple [.int k, .int t]
def SlotAt (K : PySem.W.Frag) (H : Hp) (v : V) (s : Sl) : Prop := ∃ a, v = .ref a ∧ SqT K H a (slV s)
def HeldAt (K : PySem.W.Frag) (H : Hp) (v : V) (s1 s2 : Sl) : Prop := ∃ a v1 v2, v = .ref a ∧ SqT K H a [v1, v2] ∧ SlotAt K H v1 s1 ∧ SlotAt K H v2 s2
def EntAt (K : PySem.W.Frag) (H : Hp) (v : V) (key kind stamp : Int) : Prop := ∃ a, v = .ref a ∧ SqT K H a [.int key, .int kind, .int stamp]
theorem slot_same {K : PySem.W.Frag} {H H' : Hp} {v : V} {s : Sl} (e : Same H H') (h : SlotAt K H v s) : SlotAt K H' v s := by
  obtain ⟨a, rfl, h⟩ := h
  exact ⟨a, rfl, same_tup e h⟩
theorem held_same {K : PySem.W.Frag} {H H' : Hp} {v : V} {s t : Sl} (e : Same H H') (h : HeldAt K H v s t) : HeldAt K H' v s t := by
  obtain ⟨a, v1, v2, rfl, h, h1, h2⟩ := h
  exact ⟨a, v1, v2, rfl, same_tup e h, slot_same e h1, slot_same e h2⟩
theorem ent_same {K : PySem.W.Frag} {H H' : Hp} {v : V} {a b c : Int} (e : Same H H') (h : EntAt K H v a b c) : EntAt K H' v a b c := by
  obtain ⟨a, rfl, h⟩ := h
  exact ⟨a, rfl, same_tup e h⟩
theorem slot_dp {K : PySem.W.Frag} {H : Hp} {v : V} {s : Sl} (h : SlotAt K H v s) : Dp K H v (slD s) := by
  obtain ⟨a, rfl, h⟩ := h
  cases s with
  | none => exact .tup h .nil
  | some p => exact .tup h (.cons (.int _) (.cons (.int _) .nil))
theorem slot_shaped (s : Sl) : SeqAt.shaped (slD s) = true := by
  cases s with
  | none => rfl
  | some p => simp [slD, SeqAt.shaped, PyData.canLay0, PyData.canLayAll0, PyData.depth, PyData.depthAll]
def SlOk : Sl → Prop
  | none => True
  | some (k, t) => Sm k ∧ Sm t
/-! ### what is computed -/
def relF (s : Sl) (kind stamp : Int) : Int := match s with
  | none => 0
  | some (k, t) => if HT.lexLt [t, k] [stamp, kind] = true then 1 else 2
def pick {α : Type} (key : Int) (a b : α) : α := if key = 1 then a else b
def askF (s1 s2 : Sl) (key kind stamp : Int) : Int :=
  kind * 9 + relF (pick key s1 s2) kind stamp * 3 + relF (pick key s2 s1) kind stamp
def ownF (act kind stamp : Int) (own : Sl) : Sl := if act = 3 ∨ act = 4 then none else if act = 1 ∨ act = 2 then some (kind, stamp) else own
def othF (act : Int) (oth : Sl) : Sl := if act = 2 ∨ act = 4 ∨ act = 5 then none else oth
theorem rel_range (s : Sl) (kind stamp : Int) : 0 ≤ relF s kind stamp ∧ relF s kind stamp ≤ 2 := by
  unfold relF
  split
  · exact ⟨by decide, by decide⟩
  · split <;> exact ⟨by decide, by decide⟩
theorem ask_range (s1 s2 : Sl) (key : Int) {kind : Int} (stamp : Int) (h0 : 0 ≤ kind) (h1 : kind ≤ 2) : 0 ≤ askF s1 s2 key kind stamp ∧ askF s1 s2 key kind stamp < 27 := by
  have a := rel_range (pick key s1 s2) kind stamp
  have b := rel_range (pick key s2 s1) kind stamp
  unfold askF
  omega
def actF (rs : List Int) (s1 s2 : Sl) (key kind stamp : Int) : Int := rs.getD (askF s1 s2 key kind stamp).toNat 0
def ansF (rs : List Int) (s1 s2 : Sl) (key kind stamp : Int) : Sl × Sl :=
  let act := actF rs s1 s2 key kind stamp
  let own := ownF act kind stamp (pick key s1 s2)
  let oth := othF act (pick key s2 s1)
  (pick key own oth, pick key oth own)
/-! ### the promises -/
def sp_is_elder (K : PySem.W.Frag) : Sp := fun vs H Q _ => ∃ (o1 o2 : V) (k1 a1 s1 k2 a2 s2 : Int), vs = [o1, o2] ∧ EntAt K H o1 k1 a1 s1 ∧ EntAt K H o2 k2 a2 s2 ∧
  ∀ H', Same H H' → Q (.bl (HT.lexLt [s1, a1] [s2, a2])) H'
def sp_relation (K : PySem.W.Frag) : Sp := fun vs H Q _ => ∃ (v e : V) (s : Sl) (key kind stamp : Int), vs = [v, e] ∧ SlotAt K H v s ∧ EntAt K H e key kind stamp ∧
  ∀ H', Same H H' → Q (.int (relF s kind stamp)) H'
def sp__law_found (K : PySem.W.Frag) : Sp := sp_relation K
def sp_from_key (K : PySem.W.Frag) : Sp := fun vs H Q _ => ∃ (v : V) (key : Int) (s1 s2 : Sl), vs = [v, .int key] ∧ HeldAt K H v s1 s2 ∧
  ∀ v' H', Same H H' → HeldAt K H' v' (pick key s1 s2) (pick key s2 s1) → Q v' H'
def sp_asked_rule (K : PySem.W.Frag) : Sp := fun vs H Q _ => ∃ (v e : V) (s1 s2 : Sl) (key kind stamp : Int), vs = [v, e] ∧ HeldAt K H v s1 s2 ∧ EntAt K H e key kind stamp ∧ (key = 1 ∨ key = 2) ∧
  ∀ H', Same H H' → Q (.int (askF s1 s2 key kind stamp)) H'
def sp__law_asked (K : PySem.W.Frag) : Sp := sp_asked_rule K
def sp_laid (K : PySem.W.Frag) : Sp := fun vs H Q _ => ∃ (R : Addr) (rs : List Int) (v e : V) (s1 s2 : Sl) (key kind stamp : Int), vs = [.ref R, v, e] ∧
  SqT K H R (rs.map V.int) ∧ rs.length = 27 ∧ HeldAt K H v s1 s2 ∧ EntAt K H e key kind stamp ∧ (key = 1 ∨ key = 2) ∧ 0 ≤ kind ∧ kind ≤ 2 ∧
  ∀ v' H', Same H H' → HeldAt K H' v' (ansF rs s1 s2 key kind stamp).1 (ansF rs s1 s2 key kind stamp).2 → Q v' H'
def sp__law_laid (K : PySem.W.Frag) : Sp := sp_laid K
/-! ### drawn rules -/
def nmF (w : Str) (kind own other : Nat) : Int :=
  if w = "over" then (if kind = 1 then 1 else 3) else if w = "key" then (if own = 2 then 0 else 1) else if own = 2 ∨ other = 2 then 0 else if kind = 2 then 3 else 2
def nmL (w : Str) (n : Nat) : List V := (List.range n).map fun m => V.int (nmF w (m / 9) (m / 3 % 3) (m % 3))
def namedF (w : Str) : List Int := (List.range 27).map fun m => nmF w (m / 9) (m / 3 % 3) (m % 3)
theorem nmF_range (w : Str) (a b c : Nat) : 0 ≤ nmF w a b c ∧ nmF w a b c < 6 := by
  unfold nmF
  repeat' split
  all_goals exact ⟨by decide, by decide⟩
theorem nmL_succ (w : Str) (i j l n : Nat) (hj : j < 3) (hl : l < 3) (hn : n = 9 * i + 3 * j + l) : nmL w n ++ [V.int (nmF w i j l)] = nmL w (n + 1) := by
  unfold nmL
  rw [List.range_succ, List.map_append, List.map_singleton]
  have e1 : n / 9 = i := by omega
  have e2 : n / 3 % 3 = j := by omega
  have e3 : n % 3 = l := by omega
  rw [e1, e2, e3]
theorem t012 {i : Nat} {x : V} (h : [V.int 0, V.int 1, V.int 2][i]? = some x) : i < 3 ∧ x = .int i := by
  match i, h with
  | 0, h => exact ⟨by decide, (Option.some.inj h).symm⟩
  | 1, h => exact ⟨by decide, (Option.some.inj h).symm⟩
  | 2, h => exact ⟨by decide, (Option.some.inj h).symm⟩
  | n + 3, h => simp at h
def sp__law_named (K : PySem.W.Frag) : Sp := fun vs H Q _ => ∃ w : Str, vs = [.str w] ∧ ∀ t H', Same H H' → H t = none → H' t = some (.tup ((namedF w).map V.int)) → Q (.ref t) H'
/-- rules, drawn -/
def RulesAt (H : Hp) (t : Addr) (rs : List Int) : Prop := H t = some (.tup (rs.map V.int)) ∧ rs.length = 27 ∧ ∀ r ∈ rs, 0 ≤ r ∧ r < 6
def sp__law_any_rules (K : PySem.W.Frag) : Sp := fun vs H Q _ => ∃ p g : Addr, vs = [.ref p] ∧ Pen H p g ∧ ∀ t rs H', Pen H' p g → But p H H' → RulesAt H' t rs → Q (.ref t) H'
def sp__law_rules (K : PySem.W.Frag) : Sp := sp__law_any_rules K
def sp_law (K : PySem.W.Frag) : Sp := fun vs H Q _ => ∃ (a : Addr) (ns : List Int), vs = [.ref a] ∧ SqL K H a (ns.map V.int) ∧ ns.length ≤ 63 ∧ ∀ H', Q (.bl true) H'
/-- the law's list of two slots while it is changed: own and oth as seen from the key -/
structure LawSt (K : PySem.W.Frag) (H0 : Hp) (L : Addr) (H : Hp) (x : Addr) (key kind stamp : Int) (own oth : Sl) : Prop where
  free : H0 L = none
  old : Same H0 H
  ent : SqT K H x [V.int key, V.int kind, V.int stamp]
  key12 : key = 1 ∨ key = 2
  two : ∃ u1 u2, H L = some (.lst [u1, u2]) ∧ SlotAt K H u1 (pick key own oth) ∧ SlotAt K H u2 (pick key oth own)
theorem pick1 {α : Type} (a b : α) : pick 1 a b = a := if_pos rfl
theorem pick2 {α : Type} (a b : α) : pick 2 a b = b := if_neg (by decide)
theorem pick_pick {α : Type} {key : Int} (a b : α) : pick key (pick key a b) (pick key b a) = a := by
  unfold pick
  by_cases h : key = 1
  · rw [if_pos h, if_pos h]
  · rw [if_neg h, if_neg h]
section
variable {K : PySem.W.Frag} {H0 H : Hp} {L x : Addr} {key kind stamp : Int} {own oth : Sl}
theorem LawSt.lst (S : LawSt K H0 L H x key kind stamp own oth) : ∃ u1 u2, H L = some (.lst [u1, u2]) := by
  obtain ⟨u1, u2, h, _⟩ := S.two
  exact ⟨u1, u2, h⟩
theorem two_inj {H : Hp} {L : Addr} {a b c d : V} (h : H L = some (.lst [a, b])) (h' : H L = some (.lst [c, d])) : a = c ∧ b = d := by
  rw [h] at h'
  injection h' with h'
  injection h' with h'
  injection h' with h1 h2
  injection h2 with h2
  exact ⟨h1, h2⟩
theorem LawSt.first (S : LawSt K H0 L H x key kind stamp own oth) {u1 u2 : V} (h : H L = some (.lst [u1, u2])) : SlotAt K H u1 (pick key own oth) := by
  obtain ⟨w1, w2, h', a, b⟩ := S.two
  rw [(two_inj h h').1]
  exact a
theorem LawSt.second (S : LawSt K H0 L H x key kind stamp own oth) {u1 u2 : V} (h : H L = some (.lst [u1, u2])) : SlotAt K H u2 (pick key oth own) := by
  obtain ⟨w1, w2, h', a, b⟩ := S.two
  rw [(two_inj h h').2]
  exact b
theorem LawSt.new (S : LawSt K H0 L H x key kind stamp own oth) {q : Addr} {o : HO} (nq : H q = none) : LawSt K H0 L (upd H q o) x key kind stamp own oth := by
  have s := same_new (o := o) nq
  obtain ⟨w1, w2, h', a, b⟩ := S.two
  exact ⟨S.free, S.old.trans s, same_tup s S.ent, S.key12, w1, w2, s _ _ h', slot_same s a, slot_same s b⟩
theorem LawSt.ixo (hk : key = 1 ∨ key = 2) (u1 u2 : V) : ixN ([u1, u2] : List V).length (key - 1) = some (key - 1).toNat := by
  rcases hk with rfl | rfl <;> rfl
theorem LawSt.ixt (hk : key = 1 ∨ key = 2) (u1 u2 : V) : ixN ([u1, u2] : List V).length (2 - key) = some (2 - key).toNat := by
  rcases hk with rfl | rfl <;> rfl
theorem LawSt.start {s1 s2 : Sl} {v1 v2 : V} (hk : key = 1 ∨ key = 2) (f : H0 L = none) (o : Same H0 H) (e : SqT K H x [V.int key, V.int kind, V.int stamp])
    (h : H L = some (.lst [v1, v2])) (a : SlotAt K H v1 s1) (b : SlotAt K H v2 s2) : LawSt K H0 L H x key kind stamp (pick key s1 s2) (pick key s2 s1) :=
  ⟨f, o, e, hk, v1, v2, h, by rw [pick_pick]; exact a, by rw [pick_pick]; exact b⟩
theorem slot_lst {v : V} {s : Sl} {xs ys : List V} (hL : H L = some (.lst xs)) (h : SlotAt K H v s) : SlotAt K (upd H L (.lst ys)) v s := by
  obtain ⟨a, rfl, h⟩ := h
  exact ⟨a, rfl, tup_lst hL h⟩
theorem LawSt.setOwn (S : LawSt K H0 L H x key kind stamp own oth) (hk : key = 1 ∨ key = 2) {u1 u2 v : V} {s : Sl} (hu : H L = some (.lst [u1, u2])) (hv : SlotAt K H v s) :
    LawSt K H0 L (upd H L (.lst ([u1, u2].set (key - 1).toNat v))) x key kind stamp s oth := by
  have a := S.first hu
  have b := S.second hu
  refine ⟨S.free, fun c o h => ?_, tup_lst hu S.ent, hk, ?_⟩
  · rw [upd_ne (ne_of_none h S.free)]
    exact S.old c o h
  · rcases hk with rfl | rfl
    · rw [pick1] at a b
      exact ⟨v, u2, upd_same, by rw [pick1]; exact slot_lst hu hv, by rw [pick1]; exact slot_lst hu b⟩
    · rw [pick2] at a b
      exact ⟨u1, v, upd_same, by rw [pick2]; exact slot_lst hu a, by rw [pick2]; exact slot_lst hu hv⟩
theorem LawSt.setOth (S : LawSt K H0 L H x key kind stamp own oth) (hk : key = 1 ∨ key = 2) {u1 u2 v : V} {s : Sl} (hu : H L = some (.lst [u1, u2])) (hv : SlotAt K H v s) :
    LawSt K H0 L (upd H L (.lst ([u1, u2].set (2 - key).toNat v))) x key kind stamp own s := by
  have a := S.first hu
  have b := S.second hu
  refine ⟨S.free, fun c o h => ?_, tup_lst hu S.ent, hk, ?_⟩
  · rw [upd_ne (ne_of_none h S.free)]
    exact S.old c o h
  · rcases hk with rfl | rfl
    · rw [pick1] at a b
      exact ⟨u1, v, upd_same, by rw [pick1]; exact slot_lst hu a, by rw [pick1]; exact slot_lst hu hv⟩
    · rw [pick2] at a b
      exact ⟨v, u2, upd_same, by rw [pick2]; exact slot_lst hu hv, by rw [pick2]; exact slot_lst hu b⟩
end

section
variable {P : Program} {w : World} {K : PySem.W.Frag} {mg : Str → Option Value} {base : Heap}
theorem bind__law_pen (T : Txt K mg) : Binds K T.d__law_pen ["script"] [] :=
  T.F__law_pen.bindsN fun _ _ _ _ _ _ us hl => match us, hl with | [_], _ => rfl
theorem bind__law_fresh (T : Txt K mg) : Binds K T.d__law_fresh ["pen"] [] :=
  T.F__law_fresh.bindsN fun _ _ _ _ _ _ us hl => match us, hl with | [_], _ => rfl
theorem bind__law_draw (T : Txt K mg) : Binds K T.d__law_draw ["pen", "bound"] [] :=
  T.F__law_draw.bindsN fun _ _ _ _ _ _ us hl => match us, hl with | [_, _], _ => rfl
theorem bind__law_one_of (T : Txt K mg) : Binds K T.d__law_one_of ["pen", "some"] [] :=
  T.F__law_one_of.bindsN fun _ _ _ _ _ _ us hl => match us, hl with | [_, _], _ => rfl
theorem bind_is_elder (T : Txt K mg) : Binds K T.d_is_elder ["one", "other"] [] :=
  T.F_is_elder.bindsN fun _ _ _ _ _ _ us hl => match us, hl with | [_, _], _ => rfl
theorem bind_relation (T : Txt K mg) : Binds K T.d_relation ["slot", "entry"] [] :=
  T.F_relation.bindsN fun _ _ _ _ _ _ us hl => match us, hl with | [_, _], _ => rfl
theorem bind_from_key (T : Txt K mg) : Binds K T.d_from_key ["pair", "key"] [] :=
  T.F_from_key.bindsN fun _ _ _ _ _ _ us hl => match us, hl with | [_, _], _ => rfl
theorem bind_asked_rule (T : Txt K mg) : Binds K T.d_asked_rule ["held", "entry"] [] :=
  T.F_asked_rule.bindsN fun _ _ _ _ _ _ us hl => match us, hl with | [_, _], _ => rfl
theorem bind_laid (T : Txt K mg) : Binds K T.d_laid ["rules", "held", "entry"] [] :=
  T.F_laid.bindsN fun _ _ _ _ _ _ us hl => match us, hl with | [_, _, _], _ => rfl
theorem bind__law_named (T : Txt K mg) : Binds K T.d__law_named ["word"] [] :=
  T.F__law_named.bindsN fun _ _ _ _ _ _ us hl => match us, hl with | [_], _ => rfl
theorem bind__law_any_rules (T : Txt K mg) : Binds K T.d__law_any_rules ["pen"] [] :=
  T.F__law_any_rules.bindsN fun _ _ _ _ _ _ us hl => match us, hl with | [_], _ => rfl
theorem bind__law_rules (T : Txt K mg) : Binds K T.d__law_rules ["pen"] [] :=
  T.F__law_rules.bindsN fun _ _ _ _ _ _ us hl => match us, hl with | [_], _ => rfl
theorem bind__law_found (T : Txt K mg) : Binds K T.d__law_found ["slot", "entry"] [] :=
  T.F__law_found.bindsN fun _ _ _ _ _ _ us hl => match us, hl with | [_, _], _ => rfl
theorem bind__law_asked (T : Txt K mg) : Binds K T.d__law_asked ["held", "entry"] [] :=
  T.F__law_asked.bindsN fun _ _ _ _ _ _ us hl => match us, hl with | [_, _], _ => rfl
theorem bind__law_laid (T : Txt K mg) : Binds K T.d__law_laid ["rules", "held", "entry"] [] :=
  T.F__law_laid.bindsN fun _ _ _ _ _ _ us hl => match us, hl with | [_, _, _], _ => rfl
theorem bind_law (T : Txt K mg) : Binds K T.d_law ["script"] [] :=
  T.F_law.bindsN fun _ _ _ _ _ _ us hl => match us, hl with | [_], _ => rfl
theorem ok__law_pen (T : Txt K mg) : FnOk P w K mg base CX0 1 T.f__law_pen T.d__law_pen ["script"] (sp__law_pen K) := by
  refine T.F__law_pen.ok sc__law_pen (fun vs H Q E h => ?_) (fun cdv A outer s H vs Q E hr h => ⟨_, PSs.nox (pss_one (ps_ret (pe_lst (pa_cons (pe_callTy call_list_of (by rfl) T.n_list (by decide +kernel) (pa_cons (pe_slice sl_list (pv 0) po_none (po_some pe_int)) pa_nil)) (pa_cons pe_int (pa_cons pe_int pa_nil)))))), ?_⟩)
  · obtain ⟨a, ns, rfl, _⟩ := h
    rfl
  · obtain ⟨a, ns, rfl, hS, k⟩ := h
    refine ⟨_, rfl, 63, rfl, a, _, rfl, hS, fun p1 n1 => ⟨p1, _, rfl, .inl (SqL.of upd_same), fun g ng => ⟨by show 3 ≤ sizeLine; decide, fun p np => ?_⟩⟩⟩
    have s1 : Same H (upd H p1 (.lst (cutV (ns.map V.int) none (some 63)))) := same_new n1
    have s2 := s1.trans (same_new (o := .lst (cutV (ns.map V.int) none (some 63))) ng)
    have pg : p ≠ g := by
      intro e
      subst e
      rw [upd_same] at np
      cases np
    refine k p g _ (s2.trans (same_new np)) (s2.free np) ⟨ns.take 63, 0, 0, pg, upd_same, ?_⟩
    rw [upd_ne pg.symm, upd_same]
    have e : cutV (ns.map V.int) none (some 63) = (ns.take 63).map V.int := by
      rw [List.map_take]
      unfold cutV
      show ((ns.map V.int).drop 0).take _ = _
      rw [List.drop_zero]
      show (ns.map V.int).take (min 63 (ns.map V.int).length - 0) = _
      rw [Nat.sub_zero, Nat.min_comm, List.take_eq_take_iff]
      omega
    rw [e]

theorem ok__law_fresh (T : Txt K mg) : FnOk P w K mg base CX0 1 T.f__law_fresh T.d__law_fresh ["pen"] (sp__law_fresh K) := by
  refine T.F__law_fresh.ok sc__law_fresh (fun vs H Q E h => ?_) (fun cdv A outer s H vs Q E hr h => ⟨_, PSs.nox (pss_cons (ps_par (i := 1) (j := 2) (by rfl) sc__law_fresh.nd rfl rfl (by decide) rfl rfl (pa_cons (pe_ix ix_list (pv 0) pe_int (fun _ _ => rfl)) (pa_cons (pe_ix ix_list (pv 0) pe_int (fun _ _ => rfl)) pa_nil)) (by rfl))
      (pss_cons (ps_asg (pe_op op_add (pv 1) pe_int) (pg_sub (pv 0) pe_int set_list))
      (pss_cons (ps_set (i := 3) sc__law_fresh.nd rfl (Or.inl rfl) (pe_ifExp (pt_cmpR (op_neD hr.units) (pv 2) (pe_lst pa_nil) (nomark _)) (pe_ix ix_list (pv 2) (pe_op op_modN (pe_callTy call_int1 (by rfl) T.n_int (by decide +kernel) (pa_cons (pv 1) pa_nil)) (pe_callB call_len_seq (by rfl) T.n_len (by decide +kernel) (pa_cons (pv 2) pa_nil))) (fun _ _ => rfl)) pe_int))
      (pss_cons (ps_if (PW.pt (pw_and (pt_cmpR op_lt (pv 1) (pe_callB call_len_seq (by rfl) T.n_len (by decide +kernel) (pa_cons (pv 2) pa_nil)) (nomark _)) (pw_and1 (pt_cmpR op_ge (pv 3) (pe_op op_pow pe_int pe_int) (nomark _))))) (pss_one (ps_ret (pe_op op_sub (pv 3) (pe_op op_pow pe_int pe_int)))) pss_nil)
      (pss_cons (ps_set (i := 4) sc__law_fresh.nd rfl (Or.inl rfl) pe_int)
      (pss_cons (ps_set (i := 5) sc__law_fresh.nd rfl (Or.inl rfl) (pe_op op_modN (pe_callTy call_int1 (by rfl) T.n_int (by decide +kernel) (pa_cons (pe_op op_add (pe_op op_add (pe_op op_mul (pv 3) pe_int) (pe_op op_mul pe_int (pv 1))) pe_int) pa_nil)) (pv 4)))
      (pss_cons (ps_set (i := 6) sc__law_fresh.nd rfl (Or.inl rfl) (pv 5))
      (pss_cons (ps_for PassesOwn.never rfl (pi_range1 (by rfl) T.n_range (pa_cons pe_int pa_nil)) (pg_name (i := 7) sc__law_fresh.nd rfl (Or.inl rfl)) (pss_cons (ps_set (i := 5) sc__law_fresh.nd rfl (Or.inl rfl) (pe_op op_modN (pe_callTy call_int1 (by rfl) T.n_int (by decide +kernel) (pa_cons (pe_op op_add (pe_op op_add (pe_op op_mul (pv 5) (pv 5)) (pe_op op_mul (pe_op op_mul pe_int (pe_op op_add (pv 7) pe_int)) (pe_op op_add (pv 1) pe_int))) (pv 3)) pa_nil)) (pv 4)))
      (pss_one (ps_set (i := 6) sc__law_fresh.nd rfl (Or.inl rfl) (pe_op op_add (pe_op op_mul (pv 6) (pv 4)) (pv 5))))))
      (pss_one (ps_ret (pv 6))))))))))), ?_⟩)
  · obtain ⟨p, g, ns, seat, left, rfl, _⟩ := h
    rfl
  · obtain ⟨p, g, ns, seat, left, rfl, ⟨pg, hp, hc⟩, k⟩ := h
    -- seat, given; the place moves on
    refine ⟨_, rfl, p, _, 1, .int seat, rfl, rfl, SqL.of hp, rfl, _, rfl, p, _, 0, .ref g, rfl, rfl, SqL.of hp, rfl, _, _, rfl, ?_⟩
    refine ⟨_, rfl, _, _, rfl, rfl, _, rfl, p, _, 1, 1, rfl, rfl, hp, rfl, ?_⟩
    have b1 : But p H (upd H p (.lst ([V.ref g, V.int seat, V.int left].set 1 (V.int (seat + 1))))) := (But.refl p H).wr
    have a1 : PenAt (upd H p (.lst ([V.ref g, V.int seat, V.int left].set 1 (V.int (seat + 1))))) p g ns (seat + 1) left :=
      ⟨pg, upd_same, by rw [upd_ne pg.symm]; exact hc⟩
    generalize upd H p (.lst ([V.ref g, V.int seat, V.int left].set 1 (V.int (seat + 1)))) = H1 at b1 a1
    -- cell
    refine ⟨_, rfl, by show 0 ≤ sizeLine; decide, fun q nq => ?_⟩
    have s2 : Same H1 (upd H1 q (.lst [])) := same_new nq
    have a2 : PenAt (upd H1 q (.lst [])) p g ns (seat + 1) left := same_penAt s2 a1
    have b2 := b1.same s2
    have hq : (upd H1 q (.lst [])) q = some (.lst []) := upd_same
    refine ⟨.list (ns.map PyData.int), .list [], .lst (SqL.of a2.cells) (dp_ints ns), .lst (SqL.of hq) .nil, shaped_ints ns, rfl, _, rfl, ?_⟩
    generalize upd H1 q (.lst []) = H2 at a2 b2
    rw [eqv_nil]
    refine ite_val (fun v H' => H' = H2 ∧ ∃ c : Int, v = .int c) (fun hne Q' hQ => ?_) (fun hne Q' hQ => ?_) ?_
    · have hne' : ns ≠ [] := by
        intro e
        subst e
        exact absurd hne (by decide)
      have hl : 0 < (ns.length : Int) := by
        cases ns with
        | nil => exact absurd rfl hne'
        | cons a r => simp
      have fm := fmod_pos (a := seat) hl
      obtain ⟨c, _, hat⟩ := atI_some (xs := ns) fm.1 fm.2
      have hat' : atI (ns.map V.int) (seat.fmod (ns.length : Int)) = some (V.int c) := by
        unfold atI ixN at hat ⊢
        rw [List.length_map]
        rw [if_pos fm.1, if_pos fm.2] at hat ⊢
        simp only [Option.bind_some, List.getElem?_map] at hat ⊢
        rw [hat]
        all_goals rfl
      refine ⟨_, rfl, _, rfl, .inl ⟨_, rfl, _, rfl, g, _, rfl, .inl (SqL.of a2.cells), _, _, rfl, rfl, ?_, g, _, _, _, rfl, rfl, SqL.of a2.cells, ?_, hQ _ _ ⟨rfl, c, rfl⟩⟩⟩
      · rw [List.length_map]
        omega
      · rw [List.length_map]
        exact hat'
    · exact hQ _ _ ⟨rfl, 0, rfl⟩
    rintro v H3 ⟨rfl, c, rfl⟩
    -- a great cell as it is
    refine nx_of ?_
    dsimp only
    refine seq_if (fun K' hK => ?_) ?_ ?_
    · refine ⟨_, rfl, _, rfl, g, _, rfl, .inl (SqL.of a2.cells), _, _, rfl, rfl, _, rfl, ite2 (fun _ => ?_) (fun _ => hK _)⟩
      exact ⟨_, rfl, _, _, rfl, rfl, ⟨by decide, by decide, by decide⟩, _, _, rfl, rfl, _, rfl, hK _⟩
    · exact ⟨_, rfl, _, _, rfl, rfl, ⟨by decide, by decide, by decide⟩, _, _, rfl, rfl, k _ _ a2 b2⟩
    -- mixed
    refine ⟨_, rfl, _, _, rfl, rfl, .inr ⟨by decide, by decide⟩, _, rfl, _, _, rfl, rfl, .inl ⟨by decide, by decide⟩, _, _, rfl, rfl, _, _, rfl, rfl, .inl ⟨_, rfl, _, rfl, _, _, rfl, rfl, (by show (2305843009213693951 : Int) ≠ 0; decide), ?_⟩⟩
    have f0 := fmod_pos (a := c * 39373 + 52013 * seat + 29) (b := 2305843009213693951) (by decide)
    refine ⟨_, rfl, 6, rfl, by decide, by decide, for_range (lo := 0) (n := 6) (fun i σ H' => H' = H3 ∧ ∃ (st fo : Int) (lv : Option V), 0 ≤ st ∧ st < 2305843009213693951 ∧
      σ = [some (.ref p), some (.int seat), some (.ref g), some (.int c), some (.int 2305843009213693951), some (.int st), some (.int fo), lv]) ?_ ?_ ?_⟩
    · exact ⟨rfl, _, _, none, f0.1, f0.2, rfl⟩
    · rintro i σ H' hi ⟨rfl, st, fo, lv, h0, h1, rfl⟩
      have f1 := fmod_pos (a := st * st + 62089 * (0 + (i : Int) + 3) * (seat + 1) + c) (b := 2305843009213693951) (by decide)
      refine ⟨_, rfl, _, rfl, _, _, rfl, rfl, .inl ⟨by omega, by omega⟩, _, rfl, _, _, rfl, rfl, _, _, rfl, rfl, .inl ⟨by decide, by decide⟩, _, rfl, _, _, rfl, rfl, _, _, rfl, rfl, .inl ⟨by omega, by omega⟩, _, _, rfl, rfl, _, rfl, _, _, rfl, rfl, .inl ⟨_, rfl, _, rfl, _, _, rfl, rfl, (by show (2305843009213693951 : Int) ≠ 0; decide), ?_⟩⟩
      refine ⟨_, rfl, _, rfl, _, _, rfl, rfl, .inr ⟨by decide, by decide⟩, _, rfl, _, _, rfl, rfl, ?_⟩
      exact ⟨rfl, _, _, _, f1.1, f1.2, rfl⟩
    · rintro σ H' ⟨rfl, st, fo, lv, h0, h1, rfl⟩
      exact ⟨_, rfl, k _ _ a2 b2⟩

theorem ok__law_draw (T : Txt K mg) : FnOk P w K mg base CX0 2 T.f__law_draw T.d__law_draw ["pen", "bound"] (sp__law_draw K) := by
  refine T.F__law_draw.ok sc__law_draw (fun vs H Q E h => ?_) (fun cdv A outer s H vs Q E hr h => ⟨_, PSs.nox (pss_cons (ps_if (pt_cmpR op_lt (pe_ix ix_list (pv 0) pe_int (fun _ _ => rfl)) (pv 1) (nomark _)) (pss_one (ps_asg (pe_call (ok__law_fresh T) (hr.mono (by decide)) rfl T.g__law_fresh T.F__law_fresh.kp (bind__law_fresh T) .nil pass0 (pa_cons (pv 0) pa_nil)) (pg_sub (pv 0) pe_int set_list))) pss_nil)
      (pss_cons (ps_set (i := 2) sc__law_draw.nd rfl (Or.inl rfl) (pe_op op_modN (pe_callTy call_int1 (by rfl) T.n_int (by decide +kernel) (pa_cons (pe_ix ix_list (pv 0) pe_int (fun _ _ => rfl)) pa_nil)) (pv 1)))
      (pss_cons (ps_asg (pe_op op_fdivW (pe_callTy call_int1 (by rfl) T.n_int (by decide +kernel) (pa_cons (pe_ix ix_list (pv 0) pe_int (fun _ _ => rfl)) pa_nil)) (pv 1)) (pg_sub (pv 0) pe_int set_list))
      (pss_one (ps_ret (pv 2)))))), ?_⟩)
  · obtain ⟨p, g, b, rfl, _⟩ := h
    rfl
  · obtain ⟨p, g, b, rfl, ⟨ns, seat, left, a0⟩, hb, hb9, k⟩ := h
    refine ⟨_, rfl, p, _, 2, .int left, rfl, rfl, SqL.of a0.at_, rfl, _, rfl, _, _, rfl, rfl, _, rfl, ?_⟩
    refine ite_stm (fun σ H' => ∃ (s1 l1 : Int), PenAt H' p g ns s1 l1 ∧ But p H H' ∧ σ = [some (.ref p), some (.int b), none]) (fun _ nx hn => ?_) (fun _ nx hn => ?_) ?_
    · refine ⟨_, rfl, p, g, ns, seat, left, rfl, a0, fun r H1 a1 b1 => ?_⟩
      refine ⟨_, rfl, p, _, 2, 2, rfl, rfl, a1.at_, rfl, hn _ _ ⟨seat + 1, r, ⟨a1.ne, upd_same, ?_⟩, b1.wr, rfl⟩⟩
      rw [upd_ne a1.ne.symm]
      exact a1.cells
    · exact hn _ _ ⟨seat, left, a0, But.refl p H, rfl⟩
    rintro σ H' ⟨s1, l1, a1, b1, rfl⟩
    have f := fmod_pos (a := l1) hb
    refine ⟨_, rfl, p, _, 2, .int l1, rfl, rfl, SqL.of a1.at_, rfl, .inl ⟨_, rfl, _, rfl, _, _, rfl, rfl, by omega, ?_⟩⟩
    refine ⟨_, rfl, p, _, 2, .int l1, rfl, rfl, SqL.of a1.at_, rfl, .inl ⟨_, rfl, _, rfl, _, _, rfl, rfl, wide_div hb hb9 (by decide) (by decide), ?_⟩⟩
    refine ⟨_, rfl, p, _, 2, 2, rfl, rfl, a1.at_, rfl, _, rfl, ?_⟩
    refine k _ _ f.1 f.2 ⟨ns, s1, l1 / b, a1.ne, upd_same, ?_⟩ b1.wr
    rw [upd_ne a1.ne.symm]
    exact a1.cells

theorem ok__law_one_of (T : Txt K mg) : FnOk P w K mg base CX0 3 T.f__law_one_of T.d__law_one_of ["pen", "some"] (sp__law_one_of K) := by
  refine T.F__law_one_of.ok sc__law_one_of (fun vs H Q E h => ?_) (fun cdv A outer s H vs Q E hr h => ⟨_, PSs.nox (pss_one (ps_ret (pe_ix ix_list (pv 1) (pe_call (ok__law_draw T) (hr.mono (by decide)) rfl T.g__law_draw T.F__law_draw.kp (bind__law_draw T) .nil pass0 (pa_cons (pv 0) (pa_cons (pe_callB call_len_seq (by rfl) T.n_len (by decide +kernel) (pa_cons (pv 1) pa_nil)) pa_nil))) (fun _ _ => rfl)))), ?_⟩)
  · obtain ⟨p, g, l, xs, rfl, _⟩ := h
    rfl
  · obtain ⟨p, g, l, xs, rfl, hp, hlp, hl, hne, hn, k⟩ := h
    have pos : 0 < (xs.length : Int) := by
      cases xs with
      | nil => exact absurd rfl hne
      | cons a r => simp
    have big : (2 : Nat) ^ 10 ≤ 2 ^ 9000 := Nat.pow_le_pow_right (by decide) (by decide)
    refine ⟨_, rfl, _, rfl, _, rfl, l, xs, rfl, .inl (SqL.of hl), p, g, (xs.length : Int), rfl, hp, pos, ?_, fun n H' h0 h1 P' B' => ?_⟩
    · have e : ((xs.length : Int)).natAbs = xs.length := Int.natAbs_natCast _
      rw [e]
      exact Nat.lt_of_lt_of_le (by omega) big
    · obtain ⟨v, hv, hat⟩ := atI_some (xs := xs) h0 h1
      exact ⟨l, xs, n, v, rfl, rfl, SqL.of (B' _ _ hl hlp), hat, k v H' (List.mem_of_getElem? hv) P' B'⟩

theorem ok_is_elder (T : Txt K mg) : FnOk P w K mg base CX0 1 T.f_is_elder T.d_is_elder ["one", "other"] (sp_is_elder K) := by
  refine T.F_is_elder.ok sc_is_elder (fun vs H Q E h => ?_) (fun cdv A outer s H vs Q E hr h => ⟨_, PSs.nox (pss_cons (ps_asg (pv 0) (pg_tup (by rfl) (pgs_cons (pg_name (i := 2) sc_is_elder.nd rfl (Or.inl rfl)) (pgs_cons (pg_name (i := 3) sc_is_elder.nd rfl (Or.inl rfl)) (pgs_cons (pg_name (i := 4) sc_is_elder.nd rfl (Or.inl rfl)) pgs_nil)))))
      (pss_cons (ps_asg (pv 1) (pg_tup (by rfl) (pgs_cons (pg_name (i := 2) sc_is_elder.nd rfl (Or.inl rfl)) (pgs_cons (pg_name (i := 5) sc_is_elder.nd rfl (Or.inl rfl)) (pgs_cons (pg_name (i := 6) sc_is_elder.nd rfl (Or.inl rfl)) pgs_nil)))))
      (pss_one (ps_ret (pe_cmpR (op_ltT hr.units0) (pe_tup (pa_cons (pv 4) (pa_cons (pv 3) pa_nil))) (pe_tup (pa_cons (pv 6) (pa_cons (pv 5) pa_nil))) (nomark _)))))), ?_⟩)
  · obtain ⟨o1, o2, k1, a1, s1, k2, a2, s2, rfl, _⟩ := h
    rfl
  · obtain ⟨o1, o2, k1, a1, s1, k2, a2, s2, rfl, ⟨x1, rfl, h1⟩, ⟨x2, rfl, h2⟩, k⟩ := h
    refine ⟨_, rfl, x1, _, rfl, h1, rfl, _, _, rfl, _, _, rfl, _, _, rfl, rfl, ?_⟩
    refine ⟨_, rfl, x2, _, rfl, h2, rfl, _, _, rfl, _, _, rfl, _, _, rfl, rfl, ?_⟩
    refine ⟨_, rfl, _, rfl, by show 2 ≤ sizeLine; decide, fun p1 n1 => ⟨_, rfl, _, rfl, by show 2 ≤ sizeLine; decide, fun p2 n2 => ?_⟩⟩
    have s1' := same_new (o := .tup [V.int s1, V.int a1]) n1
    have s2' := same_new (o := .tup [V.int s2, V.int a2]) n2
    exact ⟨p1, p2, [s1, a1], [s2, a2], rfl, rfl, SqT.of (s2' _ _ upd_same), SqT.of upd_same, k _ (s1'.trans s2')⟩

theorem ok_relation (T : Txt K mg) : FnOk P w K mg base CX0 2 T.f_relation T.d_relation ["slot", "entry"] (sp_relation K) := by
  refine T.F_relation.ok sc_relation (fun vs H Q E h => ?_) (fun cdv A outer s H vs Q E hr h => ⟨_, PSs.nox (pss_cons (ps_if (pt_cmpR (op_eqD hr.units) (pv 0) (pe_tup pa_nil) (nomark _)) (pss_one (ps_ret (pe_glob (v := .int 0) (by rfl) T.c_EMPTY.choose_spec ⟨_, rfl⟩))) pss_nil)
      (pss_one (ps_ret (pe_ifExp (pt_val (pe_call (ok_is_elder T) (hr.mono (by decide)) rfl T.g_is_elder T.F_is_elder.kp (bind_is_elder T) .nil pass0 (pa_cons (pe_op op_catT (pe_tup (pa_cons (pe_ix ix_tup (pv 1) pe_int (fun _ _ => rfl)) pa_nil)) (pv 0)) (pa_cons (pv 1) pa_nil)))) (pe_glob (v := .int 1) (by rfl) T.c_ELDER.choose_spec ⟨_, rfl⟩) (pe_glob (v := .int 2) (by rfl) T.c_FRESH.choose_spec ⟨_, rfl⟩))))), ?_⟩)
  · obtain ⟨v, e, s, key, kind, stamp, rfl, _⟩ := h
    rfl
  · obtain ⟨v, e, s, key, kind, stamp, rfl, hs, he, k⟩ := h
    refine ⟨_, rfl, by show 0 ≤ sizeLine; decide, fun q nq => ?_⟩
    have sq := same_new (o := .tup []) nq
    refine ⟨slD s, .tuple [], dp_same sq (slot_dp hs), .tup (SqT.of upd_same) .nil, slot_shaped s, rfl, _, rfl, ?_⟩
    cases s with
    | none => exact ite2 (fun _ => k _ sq) (fun z => absurd (show PyData.eqv (slD none) (.tuple []) = true by simp [slD, PyData.eqv, PyData.eqvAll]) z)
    | some p =>
      obtain ⟨k0, t0⟩ := p
      refine ite2 (fun z => absurd z (by simp [slD, PyData.eqv, PyData.eqvAll])) (fun _ => ?_)
      have hs1 := slot_same sq hs
      have he1 := ent_same sq he
      obtain ⟨xs, rfl, hxs⟩ := hs1
      obtain ⟨xe, rfl, hxe⟩ := he1
      generalize upd H q (.tup []) = H1 at sq hxs hxe
      refine ⟨_, rfl, xe, _, 0, .int key, rfl, rfl, hxe, rfl, by show 1 ≤ sizeLine; decide, fun q1 n1 => ?_⟩
      have s1 := same_new (o := .tup [V.int key]) n1
      refine ⟨_, rfl, q1, xs, _, _, rfl, rfl, SqT.of upd_same, same_tup s1 hxs, List.cons_ne_nil _ _, by show 3 ≤ sizeLine; decide, fun z => absurd z (by simp [slV]), fun _ q2 n2 => ?_⟩
      have s2 := same_new (o := .tup ([V.int key] ++ slV (some (k0, t0)))) n2
      refine ⟨_, rfl, .ref q2, .ref xe, key, k0, t0, key, kind, stamp, rfl, ⟨q2, rfl, SqT.of upd_same⟩, ⟨xe, rfl, same_tup s2 (same_tup s1 hxe)⟩, fun H' sH => ?_⟩
      have all := ((sq.trans s1).trans s2).trans sH
      refine ⟨_, rfl, ?_⟩
      have e : relF (some (k0, t0)) kind stamp = if HT.lexLt [t0, k0] [stamp, kind] = true then 1 else 2 := rfl
      rw [e] at k
      refine ite2 (fun z => ?_) (fun z => ?_)
      · rw [if_pos z] at k
        exact k _ all
      · rw [if_neg z] at k
        exact k _ all

theorem ok_from_key (T : Txt K mg) : FnOk P w K mg base CX0 1 T.f_from_key T.d_from_key ["pair", "key"] (sp_from_key K) := by
  refine T.F_from_key.ok sc_from_key (fun vs H Q E h => ?_) (fun cdv A outer s H vs Q E hr h => ⟨_, PSs.nox (pss_one (ps_ret (pe_ifExp (pt_cmpR op_eq (pv 1) pe_int (nomark _)) (pv 0) (pe_tup (pa_cons (pe_ix ix_tup (pv 0) pe_int (fun _ _ => rfl)) (pa_cons (pe_ix ix_tup (pv 0) pe_int (fun _ _ => rfl)) pa_nil)))))), ?_⟩)
  · obtain ⟨v, key, s1, s2, rfl, _⟩ := h
    rfl
  · obtain ⟨v, key, s1, s2, rfl, ⟨a, v1, v2, rfl, ha, h1, h2⟩, k⟩ := h
    refine ⟨_, rfl, rfl, _, rfl, ite2 (fun z => ?_) (fun z => ?_)⟩
    · have e : key = 1 := by injection (of_decide_eq_true z)
      refine ⟨_, rfl, k _ _ (Same.refl H) ⟨a, v1, v2, rfl, ha, ?_, ?_⟩⟩
      · unfold pick
        rw [if_pos e]
        exact h1
      · unfold pick
        rw [if_pos e]
        exact h2
    · have e : ¬ key = 1 := fun y => z (decide_eq_true (by rw [y]))
      refine ⟨_, rfl, a, _, 1, v2, rfl, rfl, ha, rfl, _, rfl, a, _, 0, v1, rfl, rfl, ha, rfl, by show 2 ≤ sizeLine; decide, fun p np => ?_⟩
      have s := same_new (o := .tup [v2, v1]) np
      refine k _ _ s ⟨p, v2, v1, rfl, SqT.of upd_same, ?_, ?_⟩
      · unfold pick
        rw [if_neg e]
        exact slot_same s h2
      · unfold pick
        rw [if_neg e]
        exact slot_same s h1

theorem ok_asked_rule (T : Txt K mg) : FnOk P w K mg base CX0 3 T.f_asked_rule T.d_asked_rule ["held", "entry"] (sp_asked_rule K) := by
  refine T.F_asked_rule.ok sc_asked_rule (fun vs H Q E h => ?_) (fun cdv A outer s H vs Q E hr h => ⟨_, PSs.nox (pss_cons (ps_asg (pv 1) (pg_tup (by rfl) (pgs_cons (pg_name (i := 2) sc_asked_rule.nd rfl (Or.inl rfl)) (pgs_cons (pg_name (i := 3) sc_asked_rule.nd rfl (Or.inl rfl)) (pgs_cons (pg_name (i := 4) sc_asked_rule.nd rfl (Or.inl rfl)) pgs_nil)))))
      (pss_cons (ps_asg (pe_call (ok_from_key T) (hr.mono (by decide)) rfl T.g_from_key T.F_from_key.kp (bind_from_key T) .nil pass0 (pa_cons (pv 0) (pa_cons (pv 2) pa_nil))) (pg_tup (by rfl) (pgs_cons (pg_name (i := 5) sc_asked_rule.nd rfl (Or.inl rfl)) (pgs_cons (pg_name (i := 6) sc_asked_rule.nd rfl (Or.inl rfl)) pgs_nil))))
      (pss_one (ps_ret (pe_op op_add (pe_op op_add (pe_op op_mul (pv 3) pe_int) (pe_op op_mul (pe_call (ok_relation T) (hr.mono (by decide)) rfl T.g_relation T.F_relation.kp (bind_relation T) .nil pass0 (pa_cons (pv 5) (pa_cons (pv 1) pa_nil))) pe_int)) (pe_call (ok_relation T) (hr.mono (by decide)) rfl T.g_relation T.F_relation.kp (bind_relation T) .nil pass0 (pa_cons (pv 6) (pa_cons (pv 1) pa_nil)))))))), ?_⟩)
  · obtain ⟨v, e, s1, s2, key, kind, stamp, rfl, _⟩ := h
    rfl
  · obtain ⟨v, e, s1, s2, key, kind, stamp, rfl, hv, he, hk, k⟩ := h
    obtain ⟨x, rfl, hx⟩ := id he
    refine ⟨_, rfl, x, _, rfl, hx, rfl, _, _, rfl, _, _, rfl, _, _, rfl, rfl, ?_⟩
    refine ⟨_, rfl, _, rfl, v, key, s1, s2, rfl, hv, fun v' H1 sH1 hv1 => ?_⟩
    obtain ⟨a, v1, v2, rfl, ha, h1, h2⟩ := hv1
    refine ⟨a, _, rfl, ha, rfl, _, _, rfl, _, _, rfl, rfl, ?_⟩
    refine ⟨_, rfl, _, _, rfl, rfl, .inr ⟨by decide, by decide⟩, _, rfl, _, rfl, v1, .ref x, _, key, kind, stamp, rfl, h1, ent_same sH1 he, fun H2 sH2 => ?_⟩
    refine ⟨_, _, rfl, rfl, .inr ⟨by decide, by decide⟩, _, _, rfl, rfl, _, rfl, _, rfl, v2, .ref x, _, key, kind, stamp, rfl, slot_same sH2 h2, ent_same sH2 (ent_same sH1 he), fun H3 sH3 => ?_⟩
    exact ⟨_, _, rfl, rfl, k _ ((sH1.trans sH2).trans sH3)⟩

theorem ok_laid (T : Txt K mg) : FnOk P w K mg base CX0 4 T.f_laid T.d_laid ["rules", "held", "entry"] (sp_laid K) := by
  refine T.F_laid.ok sc_laid (fun vs H Q E h => ?_) (fun cdv A outer s H vs Q E hr h => ⟨_, PSs.nox (pss_cons (ps_asg (pv 2) (pg_tup (by rfl) (pgs_cons (pg_name (i := 3) sc_laid.nd rfl (Or.inl rfl)) (pgs_cons (pg_name (i := 4) sc_laid.nd rfl (Or.inl rfl)) (pgs_cons (pg_name (i := 5) sc_laid.nd rfl (Or.inl rfl)) pgs_nil)))))
      (pss_cons (ps_set (i := 6) sc_laid.nd rfl (Or.inl rfl) (pe_ix ix_tup (pv 0) (pe_call (ok_asked_rule T) (hr.mono (by decide)) rfl T.g_asked_rule T.F_asked_rule.kp (bind_asked_rule T) .nil pass0 (pa_cons (pv 1) (pa_cons (pv 2) pa_nil))) (fun _ _ => rfl)))
      (pss_cons (ps_asg (pe_call (ok_from_key T) (hr.mono (by decide)) rfl T.g_from_key T.F_from_key.kp (bind_from_key T) .nil pass0 (pa_cons (pv 1) (pa_cons (pv 3) pa_nil))) (pg_tup (by rfl) (pgs_cons (pg_name (i := 7) sc_laid.nd rfl (Or.inl rfl)) (pgs_cons (pg_name (i := 8) sc_laid.nd rfl (Or.inl rfl)) pgs_nil))))
      (pss_cons (ps_if (pt_cmpR op_in_seq (pv 6) (pe_tup (pa_cons (pe_glob (v := .int 1) (by rfl) T.c_LAY.choose_spec ⟨_, rfl⟩) (pa_cons (pe_glob (v := .int 2) (by rfl) T.c_MOVE.choose_spec ⟨_, rfl⟩) pa_nil))) (by rfl)) (pss_one (ps_set (i := 7) sc_laid.nd rfl (Or.inl rfl) (pe_tup (pa_cons (pv 4) (pa_cons (pv 5) pa_nil))))) pss_nil)
      (pss_cons (ps_if (pt_cmpR op_in_seq (pv 6) (pe_tup (pa_cons (pe_glob (v := .int 3) (by rfl) T.c_DROP.choose_spec ⟨_, rfl⟩) (pa_cons (pe_glob (v := .int 4) (by rfl) T.c_BOTH.choose_spec ⟨_, rfl⟩) pa_nil))) (by rfl)) (pss_one (ps_set (i := 7) sc_laid.nd rfl (Or.inl rfl) (pe_tup pa_nil))) pss_nil)
      (pss_cons (ps_if (pt_cmpR op_in_seq (pv 6) (pe_tup (pa_cons (pe_glob (v := .int 2) (by rfl) T.c_MOVE.choose_spec ⟨_, rfl⟩) (pa_cons (pe_glob (v := .int 4) (by rfl) T.c_BOTH.choose_spec ⟨_, rfl⟩) (pa_cons (pe_glob (v := .int 5) (by rfl) T.c_OTHER.choose_spec ⟨_, rfl⟩) pa_nil)))) (by rfl)) (pss_one (ps_set (i := 8) sc_laid.nd rfl (Or.inl rfl) (pe_tup pa_nil))) pss_nil)
      (pss_one (ps_ret (pe_call (ok_from_key T) (hr.mono (by decide)) rfl T.g_from_key T.F_from_key.kp (bind_from_key T) .nil pass0 (pa_cons (pe_tup (pa_cons (pv 7) (pa_cons (pv 8) pa_nil))) (pa_cons (pv 3) pa_nil))))))))))), ?_⟩)
  · obtain ⟨R, rs, v, e, s1, s2, key, kind, stamp, rfl, _⟩ := h
    rfl
  · obtain ⟨R, rs, v, e, s1, s2, key, kind, stamp, rfl, hR, h27, hv, he, hk, k0, k2, k⟩ := h
    obtain ⟨x, rfl, hx⟩ := id he
    refine ⟨_, rfl, x, _, rfl, hx, rfl, _, _, rfl, _, _, rfl, _, _, rfl, rfl, ?_⟩
    refine ⟨_, rfl, _, rfl, _, rfl, v, .ref x, s1, s2, key, kind, stamp, rfl, hv, he, hk, fun H1 sH1 => ?_⟩
    have ar := ask_range s1 s2 key stamp k0 k2
    have hR1 := same_tup sH1 hR
    obtain ⟨act, hact, hat⟩ := atI_some (xs := rs) ar.1 (by omega)
    have ha : actF rs s1 s2 key kind stamp = act := by
      unfold actF
      rw [List.getD_eq_getElem?_getD, hact]
      rfl
    have hat' : atI (rs.map V.int) (askF s1 s2 key kind stamp) = some (V.int act) := by
      unfold atI ixN at hat ⊢
      rw [List.length_map]
      rw [if_pos ar.1, if_pos (by omega)] at hat ⊢
      simp only [Option.bind_some, List.getElem?_map] at hat ⊢
      rw [hat]
      rfl
    refine ⟨R, _, _, .int act, rfl, rfl, hR1, hat', ?_⟩
    refine ⟨_, rfl, _, rfl, v, key, s1, s2, rfl, held_same sH1 hv, fun v' H2 sH2 hv2 => ?_⟩
    obtain ⟨a, v1, v2, rfl, ha2, h1, h2⟩ := hv2
    refine ⟨a, _, rfl, ha2, rfl, _, _, rfl, _, _, rfl, rfl, ?_⟩
    have sA := sH1.trans sH2
    generalize hown : pick key s1 s2 = own at *
    generalize hoth : pick key s2 s1 = oth at *
    -- own = (kind, stamp)
    refine ⟨_, rfl, (by show 2 ≤ sizeLine; decide), fun q1 n1 => ?_⟩
    have t1 := same_new (o := .tup [V.int 1, V.int 2]) n1
    refine ⟨q1, _, rfl, .inr (SqT.of upd_same), rfl, rfl, _, rfl, ?_⟩
    refine ite_stm (fun σ H' => Same H2 H' ∧ ∃ w1, SlotAt K H' w1 (if act = 1 ∨ act = 2 then some (kind, stamp) else own) ∧
      σ = [some (.ref R), some v, some (.ref x), some (.int key), some (.int kind), some (.int stamp), some (.int act), some w1, some v2]) (fun z nx hn => ?_) (fun z nx hn => ?_) ?_
    · have z' : act = 1 ∨ act = 2 := by
        simp [inV, eqV] at z
        omega
      refine ⟨_, rfl, _, rfl, by show 2 ≤ sizeLine; decide, fun q2 n2 => ?_⟩
      refine hn _ _ ⟨t1.trans (same_new n2), .ref q2, ?_, rfl⟩
      rw [if_pos z']
      exact ⟨q2, rfl, SqT.of upd_same⟩
    · have z' : ¬ (act = 1 ∨ act = 2) := by
        simp [inV, eqV] at z
        omega
      refine hn _ _ ⟨t1, v1, ?_, rfl⟩
      rw [if_neg z']
      exact slot_same t1 h1
    rintro σ H3 ⟨sH3, w1, hw1, rfl⟩
    refine ⟨_, rfl, (by show 2 ≤ sizeLine; decide), fun q1 n1 => ?_⟩
    have t2 := same_new (o := .tup [V.int 3, V.int 4]) n1
    refine ⟨q1, _, rfl, .inr (SqT.of upd_same), rfl, rfl, _, rfl, ?_⟩
    refine ite_stm (fun σ H' => Same H3 H' ∧ ∃ w1, SlotAt K H' w1 (ownF act kind stamp own) ∧
      σ = [some (.ref R), some v, some (.ref x), some (.int key), some (.int kind), some (.int stamp), some (.int act), some w1, some v2]) (fun z nx hn => ?_) (fun z nx hn => ?_) ?_
    · have z' : act = 3 ∨ act = 4 := by
        simp [inV, eqV] at z
        omega
      refine ⟨by show 0 ≤ sizeLine; decide, fun q2 n2 => ?_⟩
      refine hn _ _ ⟨t2.trans (same_new n2), .ref q2, ?_, rfl⟩
      unfold ownF
      rw [if_pos z']
      exact ⟨q2, rfl, SqT.of upd_same⟩
    · have z' : ¬ (act = 3 ∨ act = 4) := by
        simp [inV, eqV] at z
        omega
      refine hn _ _ ⟨t2, w1, ?_, rfl⟩
      unfold ownF
      rw [if_neg z']
      exact slot_same t2 hw1
    rintro σ H4 ⟨sH4, w2, hw2, rfl⟩
    refine ⟨_, rfl, (by show 3 ≤ sizeLine; decide), fun q1 n1 => ?_⟩
    have t3 := same_new (o := .tup [V.int 2, V.int 4, V.int 5]) n1
    refine ⟨q1, _, rfl, .inr (SqT.of upd_same), rfl, rfl, _, rfl, ?_⟩
    refine ite_stm (fun σ H' => Same H4 H' ∧ ∃ w3, SlotAt K H' w3 (othF act oth) ∧
      σ = [some (.ref R), some v, some (.ref x), some (.int key), some (.int kind), some (.int stamp), some (.int act), some w2, some w3]) (fun z nx hn => ?_) (fun z nx hn => ?_) ?_
    · have z' : act = 2 ∨ act = 4 ∨ act = 5 := by
        simp [inV, eqV] at z
        omega
      refine ⟨by show 0 ≤ sizeLine; decide, fun q2 n2 => ?_⟩
      refine hn _ _ ⟨t3.trans (same_new n2), .ref q2, ?_, rfl⟩
      unfold othF
      rw [if_pos z']
      exact ⟨q2, rfl, SqT.of upd_same⟩
    · have z' : ¬ (act = 2 ∨ act = 4 ∨ act = 5) := by
        simp [inV, eqV] at z
        omega
      refine hn _ _ ⟨t3, v2, ?_, rfl⟩
      unfold othF
      rw [if_neg z']
      exact slot_same t3 (slot_same sH4 (slot_same sH3 h2))
    rintro σ H5 ⟨sH5, w3, hw3, rfl⟩
    refine ⟨_, rfl, _, rfl, by show 2 ≤ sizeLine; decide, fun q nq => ?_⟩
    have t4 := same_new (o := .tup [w2, w3]) nq
    refine ⟨_, rfl, .ref q, key, _, _, rfl, ⟨q, w2, w3, rfl, SqT.of upd_same, slot_same t4 (slot_same sH5 hw2), slot_same t4 hw3⟩, fun v' H6 sH6 hv6 => ?_⟩
    refine k v' H6 ((((sA.trans sH3).trans sH4).trans sH5).trans (t4.trans sH6)) ?_
    have e : ansF rs s1 s2 key kind stamp = (pick key (ownF act kind stamp own) (othF act oth), pick key (othF act oth) (ownF act kind stamp own)) := by
      unfold ansF
      rw [ha, hown, hoth]
    rw [e]
    exact hv6

def nmInv (w : Str) (H0 : Hp) (f : Addr) (n : Nat) (H : Hp) : Prop := Same H0 H ∧ H f = some (.lst (nmL w n))
theorem nmInv.new {w : Str} {H0 : Hp} {f : Addr} {n : Nat} {H : Hp} (h : nmInv w H0 f n H) {q : Addr} {o : HO} (nq : H q = none) : nmInv w H0 f n (upd H q o) :=
  ⟨h.1.trans (same_new nq), same_new nq _ _ h.2⟩
theorem nmInv.put {w : Str} {H0 : Hp} {f : Addr} {n : Nat} {H : Hp} (h0 : H0 f = none) (h : nmInv w H0 f n H) {z : V} (e : nmL w n ++ [z] = nmL w (n + 1)) : nmInv w H0 f (n + 1) (upd H f (.lst (nmL w n ++ [z]))) := by
  refine ⟨fun b o hb => ?_, by rw [e]; exact upd_same⟩
  rw [upd_ne (ne_of_none hb h0)]
  exact h.1 b o hb
theorem nmL_len (w : Str) (n : Nat) : (nmL w n).length = n := by
  unfold nmL
  rw [List.length_map, List.length_range]
theorem int_dec {a b : Int} : decide (V.int a = V.int b) = true ↔ a = b := by
  rw [decide_eq_true_iff]
  exact ⟨fun h => by injection h, fun h => by rw [h]⟩
theorem str_dec {a b : Str} : decide (V.str a = V.str b) = true ↔ a = b := by
  rw [decide_eq_true_iff]
  exact ⟨fun h => by injection h, fun h => by rw [h]⟩

theorem ok__law_named (T : Txt K mg) : FnOk P w K mg base CX0 1 T.f__law_named T.d__law_named ["word"] (sp__law_named K) := by
  refine T.F__law_named.ok sc__law_named (fun vs H Q E h => ?_) (fun cdv A outer s H vs Q E hr h => ⟨_, PSs.nox (pss_cons (ps_set (i := 1) sc__law_named.nd rfl (Or.inl rfl) (pe_lst pa_nil))
      (pss_cons (ps_for PassesOwn.never rfl (pi_tup (pe_tup (pa_cons pe_int (pa_cons pe_int (pa_cons pe_int pa_nil))))) (pg_name (i := 2) sc__law_named.nd rfl (Or.inl rfl)) (pss_one (ps_for PassesOwn.never rfl (pi_tup (pe_tup (pa_cons pe_int (pa_cons pe_int (pa_cons pe_int pa_nil))))) (pg_name (i := 3) sc__law_named.nd rfl (Or.inl rfl)) (pss_one (ps_for PassesOwn.never rfl (pi_tup (pe_tup (pa_cons pe_int (pa_cons pe_int (pa_cons pe_int pa_nil))))) (pg_name (i := 4) sc__law_named.nd rfl (Or.inl rfl)) (pss_one (ps_if (pt_cmpR op_eq (pv 0) pe_str (nomark _)) (pss_one (ps_expr (pe_bm PySem.F.plainAttrs_list PySem.F.slot_list_append PySem.F.type_list_append mt_append (pv 1) (pa_cons (pe_ifExp (pt_cmpR op_eq (pv 2) pe_int (nomark _)) pe_int pe_int) pa_nil)))) (pss_one (ps_if (pt_cmpR op_eq (pv 0) pe_str (nomark _)) (pss_one (ps_expr (pe_bm PySem.F.plainAttrs_list PySem.F.slot_list_append PySem.F.type_list_append mt_append (pv 1) (pa_cons (pe_ifExp (pt_cmpR op_eq (pv 3) pe_int (nomark _)) pe_int pe_int) pa_nil)))) (pss_one (ps_if (PW.pt (pw_or (pt_cmpR op_eq (pv 3) pe_int (nomark _)) (pw_or1 (pt_cmpR op_eq (pv 4) pe_int (nomark _))))) (pss_one (ps_expr (pe_bm PySem.F.plainAttrs_list PySem.F.slot_list_append PySem.F.type_list_append mt_append (pv 1) (pa_cons pe_int pa_nil)))) (pss_one (ps_expr (pe_bm PySem.F.plainAttrs_list PySem.F.slot_list_append PySem.F.type_list_append mt_append (pv 1) (pa_cons (pe_ifExp (pt_cmpR op_eq (pv 2) pe_int (nomark _)) pe_int pe_int) pa_nil)))))))))))))))
      (pss_one (ps_ret (pe_callTy call_tuple_of (by rfl) T.n_tuple (by decide +kernel) (pa_cons (pv 1) pa_nil)))))), ?_⟩)
  · obtain ⟨w, rfl, _⟩ := h
    rfl
  · obtain ⟨w, rfl, k⟩ := h
    refine ⟨by show 0 ≤ sizeLine; decide, fun f nf => ?_⟩
    have i0 : nmInv w H f 0 (upd H f (.lst [])) := ⟨same_new nf, upd_same⟩
    generalize upd H f (.lst []) = H1 at i0
    refine ⟨by show 3 ≤ sizeLine; decide, fun t1 n1 => ⟨t1, rfl, ⟨_, SqT.of upd_same⟩, for_tup (xs := [V.int 0, V.int 1, V.int 2])
      (fun i σ H' => nmInv w H f (9 * i) H' ∧ H' t1 = some (.tup [V.int 0, V.int 1, V.int 2]) ∧ ∃ a b c, σ = [some (.str w), some (.ref f), a, b, c]) ?_ (fun i σ H' _ h => SqT.of h.2.1) ?_ ?_⟩⟩
    · exact ⟨i0.new n1, upd_same, none, none, none, rfl⟩
    · rintro i x σ H2 hx ⟨j0, g1, a, b, c, rfl⟩
      obtain ⟨hi, rfl⟩ := t012 hx
      refine ⟨by show 3 ≤ sizeLine; decide, fun t2 n2 => ⟨t2, rfl, ⟨_, SqT.of upd_same⟩, for_tup (xs := [V.int 0, V.int 1, V.int 2])
        (fun j σ H' => nmInv w H f (9 * i + 3 * j) H' ∧ H' t1 = some (.tup [V.int 0, V.int 1, V.int 2]) ∧ H' t2 = some (.tup [V.int 0, V.int 1, V.int 2]) ∧ ∃ b c, σ = [some (.str w), some (.ref f), some (.int i), b, c]) ?_ (fun i σ H' _ h => SqT.of h.2.2.1) ?_ ?_⟩⟩
      · exact ⟨j0.new n2, same_new n2 _ _ g1, upd_same, b, c, rfl⟩
      · rintro j x σ H3 hx ⟨j1, g1, g2, b, c, rfl⟩
        obtain ⟨hj, rfl⟩ := t012 hx
        refine ⟨by show 3 ≤ sizeLine; decide, fun t3 n3 => ⟨t3, rfl, ⟨_, SqT.of upd_same⟩, for_tup (xs := [V.int 0, V.int 1, V.int 2])
          (fun l σ H' => nmInv w H f (9 * i + 3 * j + l) H' ∧ H' t1 = some (.tup [V.int 0, V.int 1, V.int 2]) ∧ H' t2 = some (.tup [V.int 0, V.int 1, V.int 2]) ∧ H' t3 = some (.tup [V.int 0, V.int 1, V.int 2]) ∧
            ∃ c, σ = [some (.str w), some (.ref f), some (.int i), some (.int j), c]) ?_ (fun i σ H' _ h => SqT.of h.2.2.2.1) ?_ ?_⟩⟩
        · exact ⟨j1.new n3, same_new n3 _ _ g1, same_new n3 _ _ g2, upd_same, c, rfl⟩
        · rintro l x σ H4 hx ⟨j2, g1, g2, g3, c, rfl⟩
          obtain ⟨hl, rfl⟩ := t012 hx
          have hf := j2.2
          have sz : (nmL w (9 * i + 3 * j + l)).length < sizeLine := by
            rw [nmL_len, sizeLine_eq]
            omega
          have fin : ∀ z : Int, z = nmF w i j l → nmInv w H f (9 * i + 3 * j + (l + 1)) (upd H4 f (.lst (nmL w (9 * i + 3 * j + l) ++ [V.int z]))) := by
            intro z e
            subst e
            exact j2.put nf (nmL_succ w i j l _ hj hl rfl)
          have keep : ∀ z : Int, ∀ t, H4 t = some (.tup [V.int 0, V.int 1, V.int 2]) → (upd H4 f (.lst (nmL w (9 * i + 3 * j + l) ++ [V.int z]))) t = some (.tup [V.int 0, V.int 1, V.int 2]) := by
            intro z t ht
            rw [upd_ne (ne_of ht hf (by intro y; cases y))]
            exact ht
          have ci : ∀ a b : Nat, ((a : Int) = b) ↔ a = b := fun a b => Int.ofNat_inj
          refine ⟨_, rfl, rfl, _, rfl, ite2 (fun z => ?_) (fun z => ?_)⟩
          · rw [str_dec] at z
            refine ⟨_, rfl, .inl ⟨rfl, _, SqL.of hf⟩, _, rfl, rfl, _, rfl, ite2 (fun y => ?_) (fun y => ?_)⟩
            · rw [int_dec] at y
              exact ⟨f, _, _, rfl, rfl, hf, sz, fin 1 (by unfold nmF; rw [if_pos z, if_pos (by omega)]), keep 1 t1 g1, keep 1 t2 g2, keep 1 t3 g3, _, rfl⟩
            · rw [int_dec] at y
              exact ⟨f, _, _, rfl, rfl, hf, sz, fin 3 (by unfold nmF; rw [if_pos z, if_neg (by omega)]), keep 3 t1 g1, keep 3 t2 g2, keep 3 t3 g3, _, rfl⟩
          · rw [str_dec] at z
            refine ⟨_, rfl, rfl, _, rfl, ite2 (fun z2 => ?_) (fun z2 => ?_)⟩
            · rw [str_dec] at z2
              refine ⟨_, rfl, .inl ⟨rfl, _, SqL.of hf⟩, _, rfl, rfl, _, rfl, ite2 (fun y => ?_) (fun y => ?_)⟩
              · rw [int_dec] at y
                exact ⟨f, _, _, rfl, rfl, hf, sz, fin 0 (by unfold nmF; rw [if_neg z, if_pos z2, if_pos (by omega)]), keep 0 t1 g1, keep 0 t2 g2, keep 0 t3 g3, _, rfl⟩
              · rw [int_dec] at y
                exact ⟨f, _, _, rfl, rfl, hf, sz, fin 1 (by unfold nmF; rw [if_neg z, if_pos z2, if_neg (by omega)]), keep 1 t1 g1, keep 1 t2 g2, keep 1 t3 g3, _, rfl⟩
            · rw [str_dec] at z2
              have zero : j = 2 ∨ l = 2 → nmF w i j l = 0 := fun q => by unfold nmF; rw [if_neg z, if_neg z2, if_pos q]
              have rest : ¬ (j = 2 ∨ l = 2) → nmF w i j l = if i = 2 then 3 else 2 := fun q => by unfold nmF; rw [if_neg z, if_neg z2, if_neg q]
              refine ⟨_, rfl, rfl, _, rfl, ite2 (fun y1 => ?_) (fun y1 => ?_)⟩
              · rw [int_dec] at y1
                refine iteT ⟨_, rfl, .inl ⟨rfl, _, SqL.of hf⟩, f, _, _, rfl, rfl, hf, sz, fin 0 (zero (by omega)).symm, keep 0 t1 g1, keep 0 t2 g2, keep 0 t3 g3, _, rfl⟩
              · rw [int_dec] at y1
                refine ⟨_, rfl, rfl, _, rfl, ite2 (fun y2 => ?_) (fun y2 => ?_)⟩
                · rw [int_dec] at y2
                  exact ⟨_, rfl, .inl ⟨rfl, _, SqL.of hf⟩, f, _, _, rfl, rfl, hf, sz, fin 0 (zero (by omega)).symm, keep 0 t1 g1, keep 0 t2 g2, keep 0 t3 g3, _, rfl⟩
                · rw [int_dec] at y2
                  have r2 := rest (by omega)
                  refine ⟨_, rfl, .inl ⟨rfl, _, SqL.of hf⟩, _, rfl, rfl, _, rfl, ite2 (fun y => ?_) (fun y => ?_)⟩
                  · rw [int_dec] at y
                    exact ⟨f, _, _, rfl, rfl, hf, sz, fin 3 (by rw [r2, if_pos (by omega)]), keep 3 t1 g1, keep 3 t2 g2, keep 3 t3 g3, _, rfl⟩
                  · rw [int_dec] at y
                    exact ⟨f, _, _, rfl, rfl, hf, sz, fin 2 (by rw [r2, if_neg (by omega)]), keep 2 t1 g1, keep 2 t2 g2, keep 2 t3 g3, _, rfl⟩
        · rintro σ H4 ⟨j2, g1, g2, g3, c, rfl⟩
          exact ⟨j2, g1, g2, _, _, rfl⟩
      · rintro σ H3 ⟨j1, g1, g2, b, c, rfl⟩
        exact ⟨j1, g1, _, _, _, rfl⟩
    · rintro σ H2 ⟨j0, g1, a, b, c, rfl⟩
      refine ⟨_, rfl, f, _, rfl, .inl ⟨SqL.of j0.2, fun t nt => ?_⟩⟩
      refine k t _ (j0.1.trans (same_new nt)) (j0.1.free nt) ?_
      rw [upd_same]
      have e : nmL w (9 * ([V.int 0, V.int 1, V.int 2] : List V).length) = (namedF w).map V.int := by
        unfold nmL namedF
        rw [List.map_map]
        rfl
      rw [e]

theorem ok__law_any_rules (T : Txt K mg) : FnOk P w K mg base CX0 3 T.f__law_any_rules T.d__law_any_rules ["pen"] (sp__law_any_rules K) := by
  refine T.F__law_any_rules.ok sc__law_any_rules (fun vs H Q E h => ?_) (fun cdv A outer s H vs Q E hr h => ⟨_, PSs.nox (pss_one (ps_ret (pe_callTy call_tuple_of (by rfl) T.n_tuple (by decide +kernel) (pa_cons (pe_lc (own := [("index", 1)]) (g := gName 1) (tt := tYes) rfl sc__law_any_rules.nd (pi_range1 (by rfl) T.n_range (pa_cons pe_int pa_nil)) (blkOk_by (N := ["pen", "index"]) (sc := defScope s__law_any_rules) (by decide +kernel)) (fun _ _ _ _ _ => pg_name (i := 1) sc__law_any_rules.nd rfl (Or.inl rfl)) (fun _ _ _ _ _ => pts_nil) (fun _ _ _ _ _ => (pe_call (ok__law_draw T) (hr.mono (by decide)) rfl T.g__law_draw T.F__law_draw.kp (bind__law_draw T) .nil pass0 (pa_cons (pv 0) (pa_cons pe_int pa_nil))))) pa_nil)))), ?_⟩)
  · obtain ⟨p, g, rfl, _⟩ := h
    rfl
  · obtain ⟨p, g, rfl, P0, k⟩ := h
    refine ⟨27, rfl, by decide, by decide, fun D nD => lc_range (lo := 0) (n := 27) (fun i H' => ∃ ns : List Int, ns.length = i ∧ (∀ n ∈ ns, 0 ≤ n ∧ n < 6) ∧ H' D = some (.lst (ns.map V.int)) ∧ Pen H' p g ∧ But p H H') ?_ ?_ ?_⟩
    · exact ⟨[], rfl, fun n hn => absurd hn List.not_mem_nil, upd_same, same_pen (same_new nD) P0, (But.refl p H).same (same_new nD)⟩
    · obtain ⟨d1, d2⟩ := P0.new_ne nD
      rintro i H' hi ⟨ns, hl, hr1, hD, P1, B1⟩
      refine ⟨rfl, yes_of ?_⟩
      rw [if_pos rfl]
      refine ⟨_, rfl, p, g, 6, rfl, P1, by decide, small_b (by decide), fun n H2 h0 h1 P2 B2 => ?_⟩
      refine ⟨_, B2 _ _ hD d1, ?_, ns ++ [n], by rw [List.length_append, hl]; rfl, ?_, ?_, P2.upd d1 d2, (B1.trans B2).upd nD⟩
      · rw [List.length_map, sizeLine_eq]
        omega
      · intro m hm
        rcases List.mem_append.mp hm with hm | hm
        · exact hr1 m hm
        · rw [List.mem_singleton.mp hm]
          exact ⟨h0, h1⟩
      · rw [upd_same, List.map_append]
        rfl
    · rintro H' ⟨ns, hl, hr1, hD, P1, B1⟩
      refine ⟨D, _, rfl, .inl ⟨SqL.of hD, fun l nl => ?_⟩⟩
      exact k l ns _ (same_pen (same_new nl) P1) (B1.same (same_new nl)) ⟨upd_same, hl, hr1⟩

theorem ok__law_rules (T : Txt K mg) : FnOk P w K mg base CX0 4 T.f__law_rules T.d__law_rules ["pen"] (sp__law_rules K) := by
  refine T.F__law_rules.ok sc__law_rules (fun vs H Q E h => ?_) (fun cdv A outer s H vs Q E hr h => ⟨_, PSs.nox (pss_cons (ps_set (i := 1) sc__law_rules.nd rfl (Or.inl rfl) (pe_callTy call_list_of (by rfl) T.n_list (by decide +kernel) (pa_cons (pe_call (ok__law_named T) (hr.mono (by decide)) rfl T.g__law_named T.F__law_named.kp (bind__law_named T) .nil pass0 (pa_cons (pe_call (ok__law_one_of T) (hr.mono (by decide)) rfl T.g__law_one_of T.F__law_one_of.kp (bind__law_one_of T) .nil pass0 (pa_cons (pv 0) (pa_cons (pe_lst (pa_cons pe_str (pa_cons pe_str (pa_cons pe_str pa_nil)))) pa_nil))) pa_nil)) pa_nil)))
      (pss_cons (ps_set (i := 2) sc__law_rules.nd rfl (Or.inl rfl) (pe_call (ok__law_draw T) (hr.mono (by decide)) rfl T.g__law_draw T.F__law_draw.kp (bind__law_draw T) .nil pass0 (pa_cons (pv 0) (pa_cons pe_int pa_nil))))
      (pss_cons (ps_if (pt_cmpR op_eq (pv 2) pe_int (nomark _)) (pss_one (ps_ret (pe_call (ok__law_any_rules T) (hr.mono (by decide)) rfl T.g__law_any_rules T.F__law_any_rules.kp (bind__law_any_rules T) .nil pass0 (pa_cons (pv 0) pa_nil)))) pss_nil)
      (pss_cons (ps_for PassesOwn.never rfl (pi_range1 (by rfl) T.n_range (pa_cons (pv 2) pa_nil)) (pg_name (i := 3) sc__law_rules.nd rfl (Or.inl rfl)) (pss_one (ps_asg (pe_call (ok__law_draw T) (hr.mono (by decide)) rfl T.g__law_draw T.F__law_draw.kp (bind__law_draw T) .nil pass0 (pa_cons (pv 0) (pa_cons pe_int pa_nil))) (pg_sub (pv 1) (pe_call (ok__law_draw T) (hr.mono (by decide)) rfl T.g__law_draw T.F__law_draw.kp (bind__law_draw T) .nil pass0 (pa_cons (pv 0) (pa_cons pe_int pa_nil))) set_list))))
      (pss_one (ps_ret (pe_callTy call_tuple_of (by rfl) T.n_tuple (by decide +kernel) (pa_cons (pv 1) pa_nil)))))))), ?_⟩)
  · obtain ⟨p, g, rfl, _⟩ := h
    rfl
  · obtain ⟨p, g, rfl, P0, k⟩ := h
    refine ⟨_, rfl, by show 3 ≤ sizeLine; decide, fun l nl => ?_⟩
    have P1 := same_pen (same_new (o := .lst [V.str "over", V.str "key", V.str "row"]) nl) P0
    have B1 := (But.refl p H).same (same_new (o := .lst [V.str "over", V.str "key", V.str "row"]) nl)
    refine ⟨p, g, l, _, rfl, P1, (P0.new_ne nl).1, upd_same, List.cons_ne_nil _ _, by decide, fun v H2 hv P2 B2 => ?_⟩
    obtain ⟨w, rfl⟩ : ∃ w : Str, v = .str w := by
      simp at hv
      rcases hv with rfl | rfl | rfl <;> exact ⟨_, rfl⟩
    refine ⟨w, rfl, fun t H3 sH3 nt ht => ?_⟩
    refine ⟨t, _, rfl, .inr (SqT.of ht), fun f nf => ?_⟩
    have P3 := same_pen (same_new (o := .lst ((namedF w).map V.int)) nf) (same_pen sH3 P2)
    have B3 := ((B1.trans B2).same sH3).same (same_new (o := .lst ((namedF w).map V.int)) nf)
    have nfH : H f = none := by
      rcases q : H f with _ | o
      · rfl
      · by_cases e : f = p
        · subst e
          obtain ⟨xs, hx⟩ := (same_pen sH3 P2).lst
          rw [hx] at nf
          cases nf
        · rw [((B1.trans B2).same sH3) _ _ q e] at nf
          cases nf
    obtain ⟨d1, d2⟩ := (same_pen sH3 P2).new_ne nf
    have hf : (upd H3 f (.lst ((namedF w).map V.int))) f = some (.lst ((namedF w).map V.int)) := upd_same
    generalize upd H3 f (.lst ((namedF w).map V.int)) = H4 at P3 B3 hf
    refine ⟨_, rfl, p, g, 4, rfl, P3, by decide, small_b (by decide), fun opt H5 h0 h4 P5 B5 => ?_⟩
    have hf5 := B5 _ _ hf d1
    refine ⟨_, rfl, rfl, _, rfl, ite2 (fun z => ?_) (fun z => ?_)⟩
    · exact ⟨_, rfl, p, g, rfl, P5, fun t' rs H6 P6 B6 hr6 => k t' rs H6 P6 ((B3.trans B5).trans B6) hr6⟩
    refine ⟨_, rfl, opt, rfl, by omega, by omega, for_range (lo := 0) (n := opt.toNat) (fun i σ H' => ∃ (rs : List Int) (lv : Option V), rs.length = 27 ∧ (∀ r ∈ rs, 0 ≤ r ∧ r < 6) ∧ H' f = some (.lst (rs.map V.int)) ∧ Pen H' p g ∧ But p H H' ∧
      σ = [some (.ref p), some (.ref f), some (.int opt), lv]) ?_ ?_ ?_⟩
    · refine ⟨namedF w, none, by unfold namedF; rw [List.length_map, List.length_range], ?_, hf5, P5, B3.trans B5, rfl⟩
      intro r hr
      unfold namedF at hr
      obtain ⟨m, _, rfl⟩ := List.mem_map.mp hr
      exact nmF_range ..
    · rintro i σ H6 hi ⟨rs, lv, hl, hr6, hf6, P6, B6, rfl⟩
      refine ⟨_, rfl, p, g, 6, rfl, P6, by decide, small_b (by decide), fun n H7 n0 n6 P7 B7 => ?_⟩
      refine ⟨_, rfl, _, rfl, p, g, 27, rfl, P7, by decide, small_b (by decide), fun m H8 m0 m27 P8 B8 => ?_⟩
      have hf8 := B8 _ _ (B7 _ _ hf6 d1) d1
      refine ⟨f, _, m, m.toNat, rfl, rfl, hf8, ?_, rs.set m.toNat n, _, by rw [List.length_set]; exact hl, ?_, ?_, P8.upd d1 d2, ((B6.trans B7).trans B8).upd nfH, rfl⟩
      · unfold ixN
        rw [if_pos m0, List.length_map, if_pos (by omega)]
      · intro r hr
        rcases List.mem_or_eq_of_mem_set hr with hr | hr
        · exact hr6 r hr
        · rw [hr]
          exact ⟨n0, n6⟩
      · rw [upd_same, List.map_set]
    · rintro σ H6 ⟨rs, lv, hl, hr6, hf6, P6, B6, rfl⟩
      refine ⟨_, rfl, f, _, rfl, .inl ⟨SqL.of hf6, fun t' nt => ?_⟩⟩
      exact k t' rs _ (same_pen (same_new nt) P6) (B6.same (same_new nt)) ⟨upd_same, hl, hr6⟩

theorem ok__law_found (T : Txt K mg) : FnOk P w K mg base CX0 1 T.f__law_found T.d__law_found ["slot", "entry"] (sp__law_found K) := by
  refine T.F__law_found.ok sc__law_found (fun vs H Q E h => ?_) (fun cdv A outer s H vs Q E hr h => ⟨_, PSs.nox (pss_cons (ps_if (pt_cmpR (op_eqD hr.units) (pv 0) (pe_tup pa_nil) (nomark _)) (pss_one (ps_ret pe_int)) pss_nil)
      (pss_one (ps_ret (pe_ifExp (pt_cmpR (op_ltT hr.units0) (pe_tup (pa_cons (pe_ix ix_tup (pv 0) pe_int (fun _ _ => rfl)) (pa_cons (pe_ix ix_tup (pv 0) pe_int (fun _ _ => rfl)) pa_nil))) (pe_tup (pa_cons (pe_ix ix_tup (pv 1) pe_int (fun _ _ => rfl)) (pa_cons (pe_ix ix_tup (pv 1) pe_int (fun _ _ => rfl)) pa_nil))) (nomark _)) pe_int pe_int)))), ?_⟩)
  · obtain ⟨v, e, s, key, kind, stamp, rfl, _⟩ := h
    rfl
  · obtain ⟨v, e, s, key, kind, stamp, rfl, hs, he, k⟩ := h
    refine ⟨_, rfl, by show 0 ≤ sizeLine; decide, fun q nq => ?_⟩
    have sq := same_new (o := .tup []) nq
    refine ⟨slD s, .tuple [], dp_same sq (slot_dp hs), .tup (SqT.of upd_same) .nil, slot_shaped s, rfl, _, rfl, ?_⟩
    cases s with
    | none => exact ite2 (fun _ => k _ sq) (fun z => absurd (show PyData.eqv (slD none) (.tuple []) = true by simp [slD, PyData.eqv, PyData.eqvAll]) z)
    | some p =>
      obtain ⟨k0, t0⟩ := p
      refine ite2 (fun z => absurd z (by simp [slD, PyData.eqv, PyData.eqvAll])) (fun _ => ?_)
      have hs1 := slot_same sq hs
      have he1 := ent_same sq he
      obtain ⟨xs, rfl, hxs⟩ := hs1
      obtain ⟨xe, rfl, hxe⟩ := he1
      generalize upd H q (.tup []) = H1 at sq hxs hxe
      refine ⟨_, rfl, xs, _, 1, .int t0, rfl, rfl, hxs, rfl, _, rfl, xs, _, 0, .int k0, rfl, rfl, hxs, rfl, by show 2 ≤ sizeLine; decide, fun q1 n1 => ?_⟩
      have s1 := same_new (o := .tup [V.int t0, V.int k0]) n1
      have hxe1 := same_tup s1 hxe
      refine ⟨_, rfl, xe, _, 2, .int stamp, rfl, rfl, hxe1, rfl, _, rfl, xe, _, 1, .int kind, rfl, rfl, hxe1, rfl, by show 2 ≤ sizeLine; decide, fun q2 n2 => ?_⟩
      have s2 := same_new (o := .tup [V.int stamp, V.int kind]) n2
      refine ⟨q1, q2, [t0, k0], [stamp, kind], rfl, rfl, SqT.of (s2 _ _ upd_same), SqT.of upd_same, _, rfl, ?_⟩
      have all := (sq.trans s1).trans s2
      have e : relF (some (k0, t0)) kind stamp = if HT.lexLt [t0, k0] [stamp, kind] = true then 1 else 2 := rfl
      rw [e] at k
      refine ite2 (fun z => ?_) (fun z => ?_)
      · rw [if_pos z] at k
        exact k _ all
      · rw [if_neg z] at k
        exact k _ all

theorem ok__law_asked (T : Txt K mg) : FnOk P w K mg base CX0 2 T.f__law_asked T.d__law_asked ["held", "entry"] (sp__law_asked K) := by
  refine T.F__law_asked.ok sc__law_asked (fun vs H Q E h => ?_) (fun cdv A outer s H vs Q E hr h => ⟨_, PSs.nox (pss_cons (ps_par (i := 2) (j := 3) (by rfl) sc__law_asked.nd rfl rfl (by decide) rfl rfl (pa_cons (pe_ix ix_tup (pv 0) (pe_op op_sub (pe_ix ix_tup (pv 1) pe_int (fun _ _ => rfl)) pe_int) (fun _ _ => rfl)) (pa_cons (pe_ix ix_tup (pv 0) (pe_op op_sub pe_int (pe_ix ix_tup (pv 1) pe_int (fun _ _ => rfl))) (fun _ _ => rfl)) pa_nil)) (by rfl))
      (pss_one (ps_ret (pe_op op_add (pe_op op_add (pe_op op_mul pe_int (pe_ix ix_tup (pv 1) pe_int (fun _ _ => rfl))) (pe_op op_mul pe_int (pe_call (ok__law_found T) (hr.mono (by decide)) rfl T.g__law_found T.F__law_found.kp (bind__law_found T) .nil pass0 (pa_cons (pv 2) (pa_cons (pv 1) pa_nil))))) (pe_call (ok__law_found T) (hr.mono (by decide)) rfl T.g__law_found T.F__law_found.kp (bind__law_found T) .nil pass0 (pa_cons (pv 3) (pa_cons (pv 1) pa_nil))))))), ?_⟩)
  · obtain ⟨v, e, s1, s2, key, kind, stamp, rfl, _⟩ := h
    rfl
  · obtain ⟨v, e, s1, s2, key, kind, stamp, rfl, hv, he, hk, k⟩ := h
    obtain ⟨x, rfl, hx⟩ := id he
    obtain ⟨a, v1, v2, rfl, ha, h1, h2⟩ := hv
    obtain ⟨o1, o2, e1, e2, at1, at2, hp1, hp2⟩ : ∃ o1 o2 : V, atI [v1, v2] (key - 1) = some o1 ∧ atI [v1, v2] (2 - key) = some o2 ∧ True ∧ True ∧ SlotAt K H o1 (pick key s1 s2) ∧ SlotAt K H o2 (pick key s2 s1) := by
      rcases hk with rfl | rfl
      · exact ⟨v1, v2, rfl, rfl, trivial, trivial, h1, h2⟩
      · exact ⟨v2, v1, rfl, rfl, trivial, trivial, h2, h1⟩
    refine ⟨_, rfl, _, rfl, x, _, 0, .int key, rfl, rfl, hx, rfl, _, _, rfl, rfl, a, _, _, o1, rfl, rfl, ha, e1, _, rfl, _, rfl, x, _, 0, .int key, rfl, rfl, hx, rfl, _, _, rfl, rfl, a, _, _, o2, rfl, rfl, ha, e2, _, _, rfl, ?_⟩
    refine ⟨_, rfl, x, _, 1, .int kind, rfl, rfl, hx, rfl, _, _, rfl, rfl, .inl ⟨by decide, by decide⟩, _, rfl, _, rfl, o1, .ref x, _, key, kind, stamp, rfl, hp1, he, fun H2 sH2 => ?_⟩
    refine ⟨_, _, rfl, rfl, .inl ⟨by decide, by decide⟩, _, _, rfl, rfl, _, rfl, _, rfl, o2, .ref x, _, key, kind, stamp, rfl, slot_same sH2 hp2, ent_same sH2 he, fun H3 sH3 => ?_⟩
    refine ⟨_, _, rfl, rfl, ?_⟩
    have e : 9 * kind + 3 * relF (pick key s1 s2) kind stamp + relF (pick key s2 s1) kind stamp = askF s1 s2 key kind stamp := by
      unfold askF
      omega
    have done := k _ (sH2.trans sH3)
    rw [← e] at done
    exact done

theorem ok__law_laid (T : Txt K mg) : FnOk P w K mg base CX0 3 T.f__law_laid T.d__law_laid ["rules", "held", "entry"] (sp__law_laid K) := by
  refine T.F__law_laid.ok sc__law_laid (fun vs H Q E h => ?_) (fun cdv A outer s H vs Q E hr h => ⟨_, PSs.nox (pss_cons (ps_par (i := 3) (j := 4) (by rfl) sc__law_laid.nd rfl rfl (by decide) rfl rfl (pa_cons (pe_ix ix_tup (pv 0) (pe_call (ok__law_asked T) (hr.mono (by decide)) rfl T.g__law_asked T.F__law_asked.kp (bind__law_asked T) .nil pass0 (pa_cons (pv 1) (pa_cons (pv 2) pa_nil))) (fun _ _ => rfl)) (pa_cons (pe_callTy call_list_of (by rfl) T.n_list (by decide +kernel) (pa_cons (pv 1) pa_nil)) pa_nil)) (by rfl))
      (pss_cons (ps_par (i := 5) (j := 6) (by rfl) sc__law_laid.nd rfl rfl (by decide) rfl rfl (pa_cons (pe_op op_sub (pe_ix ix_tup (pv 2) pe_int (fun _ _ => rfl)) pe_int) (pa_cons (pe_op op_sub pe_int (pe_ix ix_tup (pv 2) pe_int (fun _ _ => rfl))) pa_nil)) (by rfl))
      (pss_cons (ps_if (pt_cmpR op_in_seq (pv 3) (pe_tup (pa_cons pe_int (pa_cons pe_int pa_nil))) (by rfl)) (pss_one (ps_asg (pe_tup (pa_cons (pe_ix ix_tup (pv 2) pe_int (fun _ _ => rfl)) (pa_cons (pe_ix ix_tup (pv 2) pe_int (fun _ _ => rfl)) pa_nil))) (pg_sub (pv 4) (pv 5) set_list))) pss_nil)
      (pss_cons (ps_if (pt_cmpR op_in_seq (pv 3) (pe_tup (pa_cons pe_int (pa_cons pe_int pa_nil))) (by rfl)) (pss_one (ps_asg (pe_tup pa_nil) (pg_sub (pv 4) (pv 5) set_list))) pss_nil)
      (pss_cons (ps_if (pt_cmpR op_in_seq (pv 3) (pe_tup (pa_cons pe_int (pa_cons pe_int (pa_cons pe_int pa_nil)))) (by rfl)) (pss_one (ps_asg (pe_tup pa_nil) (pg_sub (pv 4) (pv 6) set_list))) pss_nil)
      (pss_one (ps_ret (pe_callTy call_tuple_of (by rfl) T.n_tuple (by decide +kernel) (pa_cons (pv 4) pa_nil))))))))), ?_⟩)
  · obtain ⟨R, rs, v, e, s1, s2, key, kind, stamp, rfl, _⟩ := h
    rfl
  · obtain ⟨R, rs, v, e, s1, s2, key, kind, stamp, rfl, hR, h27, hv, he, hk, k0, k2, k⟩ := h
    refine ⟨_, rfl, _, rfl, _, rfl, v, e, s1, s2, key, kind, stamp, rfl, hv, he, hk, fun H1 sH1 => ?_⟩
    have ar := ask_range s1 s2 key stamp k0 k2
    have hR1 := same_tup sH1 hR
    obtain ⟨act, hact, hat⟩ := atI_some (xs := rs) ar.1 (by omega)
    have hA : actF rs s1 s2 key kind stamp = act := by
      unfold actF
      rw [List.getD_eq_getElem?_getD, hact]
      rfl
    have hat' : atI (rs.map V.int) (askF s1 s2 key kind stamp) = some (V.int act) := by
      unfold atI ixN at hat ⊢
      rw [List.length_map]
      rw [if_pos ar.1, if_pos (by omega)] at hat ⊢
      simp only [Option.bind_some, List.getElem?_map] at hat ⊢
      rw [hat]
      rfl
    obtain ⟨a, v1, v2, rfl, ha, h1, h2⟩ := held_same sH1 hv
    obtain ⟨x, rfl, hx⟩ := ent_same sH1 he
    refine ⟨R, _, _, .int act, rfl, rfl, hR1, hat', _, rfl, a, _, rfl, .inr ha, fun L nL => ⟨_, _, rfl, ?_⟩⟩
    have sL := same_new (o := .lst [v1, v2]) nL
    have hx1 := same_tup sL hx
    have HL0 : (upd H1 L (.lst [v1, v2])) L = some (.lst [v1, v2]) := upd_same
    have nL0 : H L = none := sH1.free nL
    have all1 := sH1.trans sL
    have g1 := slot_same sL h1
    have g2 := slot_same sL h2
    have ha1 := same_tup sL ha
    generalize upd H1 L (.lst [v1, v2]) = H2 at hx1 HL0 all1 g1 g2 ha1
    refine ⟨_, rfl, x, _, 0, .int key, rfl, rfl, hx1, rfl, _, _, rfl, rfl, _, rfl, x, _, 0, .int key, rfl, rfl, hx1, rfl, _, _, rfl, rfl, _, _, rfl, ?_⟩
    -- the list as it stands: places in order, own ones and others seen from the key
    refine ⟨_, rfl, (by show 2 ≤ sizeLine; decide), fun q1 n1 => ?_⟩
    have t1 := same_new (o := .tup [V.int 1, V.int 2]) n1
    refine ⟨q1, _, rfl, .inr (SqT.of upd_same), rfl, rfl, _, rfl, ?_⟩
    refine ite_stm (fun σ H' => LawSt K H L H' x key kind stamp (if act = 1 ∨ act = 2 then some (kind, stamp) else pick key s1 s2) (pick key s2 s1) ∧
      σ = [some (.ref R), some (.ref a), some (.ref x), some (.int act), some (.ref L), some (.int (key - 1)), some (.int (2 - key))]) (fun z nx hn => ?_) (fun z nx hn => ?_) ?_
    · have z' : act = 1 ∨ act = 2 := by
        simp [inV, eqV] at z
        omega
      have hx2 := same_tup t1 hx1
      refine ⟨_, rfl, x, _, 1, .int kind, rfl, rfl, hx2, rfl, _, rfl, x, _, 2, .int stamp, rfl, rfl, hx2, rfl, by show 2 ≤ sizeLine; decide, fun q2 n2 => ?_⟩
      have t2 := same_new (o := .tup [V.int kind, V.int stamp]) n2
      have S0 : LawSt K H L (upd (upd H2 q1 (.tup [V.int 1, V.int 2])) q2 (.tup [V.int kind, V.int stamp])) x key kind stamp (pick key s1 s2) (pick key s2 s1) :=
        LawSt.start hk nL0 ((all1.trans t1).trans t2) (same_tup t2 hx2) (t2 _ _ (t1 _ _ HL0)) (slot_same t2 (slot_same t1 g1)) (slot_same t2 (slot_same t1 g2))
      obtain ⟨u1, u2, hu⟩ := S0.lst
      refine ⟨_, rfl, _, rfl, L, _, _, (key - 1).toNat, rfl, rfl, hu, LawSt.ixo hk u1 u2, hn _ _ ⟨?_, rfl⟩⟩
      rw [if_pos z']
      exact S0.setOwn hk hu ⟨q2, rfl, SqT.of upd_same⟩
    · have z' : ¬ (act = 1 ∨ act = 2) := by
        simp [inV, eqV] at z
        omega
      refine hn _ _ ⟨?_, rfl⟩
      rw [if_neg z']
      exact LawSt.start hk nL0 (all1.trans t1) (same_tup t1 hx1) (t1 _ _ HL0) (slot_same t1 g1) (slot_same t1 g2)
    rintro σ H3 ⟨S3, rfl⟩
    refine ⟨_, rfl, (by show 2 ≤ sizeLine; decide), fun q1 n1 => ?_⟩
    have T3 := S3.new (o := .tup [V.int 3, V.int 4]) n1
    have hq : (upd H3 q1 (.tup [V.int 3, V.int 4])) q1 = some (.tup [V.int 3, V.int 4]) := upd_same
    refine ⟨q1, _, rfl, .inr (SqT.of hq), rfl, rfl, _, rfl, ?_⟩
    refine ite_stm (fun σ H' => LawSt K H L H' x key kind stamp (ownF act kind stamp (pick key s1 s2)) (pick key s2 s1) ∧
      σ = [some (.ref R), some (.ref a), some (.ref x), some (.int act), some (.ref L), some (.int (key - 1)), some (.int (2 - key))]) (fun z nx hn => ?_) (fun z nx hn => ?_) ?_
    · have z' : act = 3 ∨ act = 4 := by
        simp [inV, eqV] at z
        omega
      refine ⟨by show 0 ≤ sizeLine; decide, fun q2 n2 => ?_⟩
      have T4 := T3.new (o := .tup []) n2
      obtain ⟨u1, u2, hu⟩ := T4.lst
      refine ⟨_, rfl, _, rfl, L, _, _, (key - 1).toNat, rfl, rfl, hu, LawSt.ixo hk u1 u2, hn _ _ ⟨?_, rfl⟩⟩
      unfold ownF
      rw [if_pos z']
      exact T4.setOwn hk hu ⟨q2, rfl, SqT.of upd_same⟩
    · have z' : ¬ (act = 3 ∨ act = 4) := by
        simp [inV, eqV] at z
        omega
      refine hn _ _ ⟨?_, rfl⟩
      unfold ownF
      rw [if_neg z']
      exact T3
    rintro σ H4 ⟨S4, rfl⟩
    refine ⟨_, rfl, (by show 3 ≤ sizeLine; decide), fun q1 n1 => ?_⟩
    have T4 := S4.new (o := .tup [V.int 2, V.int 4, V.int 5]) n1
    have hq : (upd H4 q1 (.tup [V.int 2, V.int 4, V.int 5])) q1 = some (.tup [V.int 2, V.int 4, V.int 5]) := upd_same
    refine ⟨q1, _, rfl, .inr (SqT.of hq), rfl, rfl, _, rfl, ?_⟩
    refine ite_stm (fun σ H' => LawSt K H L H' x key kind stamp (ownF act kind stamp (pick key s1 s2)) (othF act (pick key s2 s1)) ∧
      σ = [some (.ref R), some (.ref a), some (.ref x), some (.int act), some (.ref L), some (.int (key - 1)), some (.int (2 - key))]) (fun z nx hn => ?_) (fun z nx hn => ?_) ?_
    · have z' : act = 2 ∨ act = 4 ∨ act = 5 := by
        simp [inV, eqV] at z
        omega
      refine ⟨by show 0 ≤ sizeLine; decide, fun q2 n2 => ?_⟩
      have T5 := T4.new (o := .tup []) n2
      obtain ⟨u1, u2, hu⟩ := T5.lst
      refine ⟨_, rfl, _, rfl, L, _, _, (2 - key).toNat, rfl, rfl, hu, LawSt.ixt hk u1 u2, hn _ _ ⟨?_, rfl⟩⟩
      unfold othF
      rw [if_pos z']
      exact T5.setOth hk hu ⟨q2, rfl, SqT.of upd_same⟩
    · have z' : ¬ (act = 2 ∨ act = 4 ∨ act = 5) := by
        simp [inV, eqV] at z
        omega
      refine hn _ _ ⟨?_, rfl⟩
      unfold othF
      rw [if_neg z']
      exact T4
    rintro σ H5 ⟨S5, rfl⟩
    obtain ⟨u1, u2, hu⟩ := S5.lst
    refine ⟨_, rfl, L, _, rfl, .inl ⟨SqL.of hu, fun t nt => ?_⟩⟩
    have tt := same_new (o := .tup [u1, u2]) nt
    refine k _ _ (S5.old.trans tt) ⟨t, u1, u2, rfl, SqT.of upd_same, ?_, ?_⟩
    · have q := slot_same tt (S5.first hu)
      unfold ansF
      rw [hA]
      exact q
    · have q := slot_same tt (S5.second hu)
      unfold ansF
      rw [hA]
      exact q

theorem slD_fit {s : Sl} (h : SlOk s) : Fit (slD s) := by
  cases s with
  | none => exact ⟨rfl, rfl, rfl, by decide, by decide⟩
  | some p =>
    obtain ⟨a, b⟩ := h
    refine ⟨?_, ?_, rfl, by simp [slD, PyData.depth, PyData.depthAll], by simp [slD, PyData.bulk, PyData.bulkAll]⟩
    · simp [slD, PyData.showable, PyData.showableAll, a.log, b.log]
    · simp [slD, PyData.leavesShort, PyData.leavesShortAll, a.short, b.short]
theorem held_fit {s t : Sl} (h1 : SlOk s) (h2 : SlOk t) : Fit (.tuple [slD s, slD t]) := by
  obtain ⟨a1, a2, a3, a4, a5⟩ := slD_fit h1
  obtain ⟨b1, b2, b3, b4, b5⟩ := slD_fit h2
  refine ⟨by simp [PyData.showable, PyData.showableAll, a1, b1], by simp [PyData.leavesShort, PyData.leavesShortAll, a2, b2], by simp [PyData.hasDict, PyData.hasDictAll, a3, b3], ?_, ?_⟩
  · have c1 : (slD s).depth ≤ 1 := by cases s <;> simp [slD, PyData.depth, PyData.depthAll]
    have c2 : (slD t).depth ≤ 1 := by cases t <;> simp [slD, PyData.depth, PyData.depthAll]
    simp only [PyData.depth, PyData.depthAll]
    omega
  · have c1 : (slD s).bulk ≤ 2 := by cases s <;> simp [slD, PyData.bulk, PyData.bulkAll]
    have c2 : (slD t).bulk ≤ 2 := by cases t <;> simp [slD, PyData.bulk, PyData.bulkAll]
    simp only [PyData.bulk, PyData.bulkAll]
    omega
theorem held_dp {K : PySem.W.Frag} {H : Hp} {v : V} {s t : Sl} (h : HeldAt K H v s t) : ∃ a, v = .ref a ∧ Dp K H (.ref a) (.tuple [slD s, slD t]) := by
  obtain ⟨a, v1, v2, rfl, h, h1, h2⟩ := h
  exact ⟨a, rfl, .tup h (.cons (slot_dp h1) (.cons (slot_dp h2) .nil))⟩
theorem ok_pick {key : Int} {s t : Sl} (h1 : SlOk s) (h2 : SlOk t) : SlOk (pick key s t) := by
  unfold pick
  split
  · exact h1
  · exact h2
theorem ok_ans {rs : List Int} {s t : Sl} {key kind stamp : Int} (h1 : SlOk s) (h2 : SlOk t) (hk : Sm kind) (hs : Sm stamp) :
    SlOk (ansF rs s t key kind stamp).1 ∧ SlOk (ansF rs s t key kind stamp).2 := by
  have a : SlOk (ownF (actF rs s t key kind stamp) kind stamp (pick key s t)) := by
    unfold ownF
    split
    · trivial
    · split
      · exact ⟨hk, hs⟩
      · exact ok_pick h1 h2
  have b : SlOk (othF (actF rs s t key kind stamp) (pick key t s)) := by
    unfold othF
    split
    · trivial
    · exact ok_pick h2 h1
  exact ⟨ok_pick a b, ok_pick b a⟩
/-- the slots: places of a list -/
def SlotsIn (K : PySem.W.Frag) (H : Hp) (l : Addr) (vs : List V) : Prop := H l = some (.lst vs) ∧ ∀ v ∈ vs, ∃ s, SlotAt K H v s ∧ SlOk s
theorem slots_same {K : PySem.W.Frag} {H H' : Hp} {l : Addr} {vs : List V} (e : Same H H') (h : SlotsIn K H l vs) : SlotsIn K H' l vs :=
  ⟨e _ _ h.1, fun v hv => let ⟨s, a, b⟩ := h.2 v hv; ⟨s, slot_same e a, b⟩⟩
theorem sm_far {i : Int} (h0 : 0 ≤ i) (h : i ≤ 10 ^ 30 + 2) : Sm i := by
  have e : (2 : Nat) ^ 101 ≤ 2 ^ 300 := Nat.pow_le_pow_right (by decide) (by decide)
  have e2 : (2 : Nat) ^ 101 = 2535301200456458802993406410752 := by decide
  have e3 : (10 : Int) ^ 30 = 1000000000000000000000000000000 := by decide
  rw [e3] at h
  refine Nat.lt_of_lt_of_le ?_ e
  rw [e2]
  omega

theorem ok_law (T : Txt K mg) : FnG P w K mg base CX0 5 T.f_law T.d_law ["script"] (sp_law K) := by
  refine okG T.F_law sc_law (fun vs H Q E h => ?_) (fun cdv A outer s H vs Q E hr hg h => ⟨_, PSs.nox (pss_cons (ps_set (i := 1) sc_law.nd rfl (Or.inl rfl) (pe_call (ok__law_pen T) (hr.mono (by decide)) rfl T.g__law_pen T.F__law_pen.kp (bind__law_pen T) .nil pass0 (pa_cons (pv 0) pa_nil)))
      (pss_cons (ps_set (i := 2) sc_law.nd rfl (Or.inl rfl) (pe_call (ok__law_one_of T) (hr.mono (by decide)) rfl T.g__law_one_of T.F__law_one_of.kp (bind__law_one_of T) .nil pass0 (pa_cons (pv 1) (pa_cons (pe_lst (pa_cons pe_int (pa_cons pe_int (pa_cons (pe_op op_pow pe_int pe_int) pa_nil)))) pa_nil))))
      (pss_cons (ps_set (i := 3) sc_law.nd rfl (Or.inl rfl) (pe_lst (pa_cons (pv 2) (pa_cons (pe_op op_add (pv 2) pe_int) (pa_cons (pe_op op_add (pv 2) pe_int) pa_nil)))))
      (pss_cons (ps_set (i := 4) sc_law.nd rfl (Or.inl rfl) (pe_lst (pa_cons (pe_tup pa_nil) pa_nil)))
      (pss_cons (ps_for PassesOwn.never rfl (pi_tup (pe_tup (pa_cons pe_int (pa_cons pe_int (pa_cons pe_int pa_nil))))) (pg_name (i := 5) sc_law.nd rfl (Or.inr rfl)) (pss_one (ps_expr (pe_bm PySem.F.plainAttrs_list PySem.F.slot_list_extend PySem.F.type_list_extend mt_extend (pv 4) (pa_cons (pe_lc (own := [("mark", 6)]) (g := gName 6) (tt := tYes) rfl sc_law.nd (pi_list (pv 3)) (blkOk_by (N := ["script", "pen", "far", "marks", "slots", "kind", "mark", "rules", "key", "entry", "one", "other", "held"]) (sc := defScope s_law) (by decide +kernel)) (fun _ _ _ _ _ => pg_name (i := 6) sc_law.nd rfl (Or.inl rfl)) (fun _ _ _ _ _ => pts_nil) (fun _ _ _ _ _ => (pe_tup (pa_cons (pv 5) (pa_cons (pv 6) pa_nil))))) pa_nil)))))
      (pss_cons (ps_set (i := 7) sc_law.nd rfl (Or.inl rfl) (pe_call (ok__law_rules T) (hr.mono (by decide)) rfl T.g__law_rules T.F__law_rules.kp (bind__law_rules T) .nil pass0 (pa_cons (pv 1) pa_nil)))
      (pss_cons (ps_for PassesOwn.never rfl (pi_tup (pe_tup (pa_cons pe_int (pa_cons pe_int pa_nil)))) (pg_name (i := 8) sc_law.nd rfl (Or.inl rfl)) (pss_one (ps_for PassesOwn.never rfl (pi_tup (pe_tup (pa_cons pe_int (pa_cons pe_int (pa_cons pe_int pa_nil))))) (pg_name (i := 5) sc_law.nd rfl (Or.inr rfl)) (pss_one (ps_for PassesOwn.never rfl (pi_list (pv 3)) (pg_name (i := 6) sc_law.nd rfl (Or.inl rfl)) (pss_cons (ps_set (i := 9) sc_law.nd rfl (Or.inl rfl) (pe_tup (pa_cons (pv 8) (pa_cons (pv 5) (pa_cons (pv 6) pa_nil)))))
      (pss_one (ps_for PassesOwn.never rfl (pi_list (pv 4)) (pg_name (i := 10) sc_law.nd rfl (Or.inl rfl)) (pss_cons (ps_if (pt_cmpR op_ne (pe_callB SkE.call_repr_int (by rfl) T.n_repr (by decide +kernel) (pa_cons (pe_call (ok_relation T) (hr.mono (by decide)) rfl T.g_relation T.F_relation.kp (bind_relation T) .nil pass0 (pa_cons (pv 10) (pa_cons (pv 9) pa_nil))) pa_nil)) (pe_callB SkE.call_repr_int (by rfl) T.n_repr (by decide +kernel) (pa_cons (pe_call (ok__law_found T) (hr.mono (by decide)) rfl T.g__law_found T.F__law_found.kp (bind__law_found T) .nil pass0 (pa_cons (pv 10) (pa_cons (pv 9) pa_nil))) pa_nil)) (nomark _)) (pss_one (ps_ret pe_bl)) pss_nil)
      (pss_one (ps_for PassesOwn.never rfl (pi_list (pv 4)) (pg_name (i := 11) sc_law.nd rfl (Or.inl rfl)) (pss_cons (ps_set (i := 12) sc_law.nd rfl (Or.inl rfl) (pe_tup (pa_cons (pv 10) (pa_cons (pv 11) pa_nil))))
      (pss_cons (ps_if (pt_cmpR op_ne (pe_callB SkE.call_repr_int (by rfl) T.n_repr (by decide +kernel) (pa_cons (pe_call (ok_asked_rule T) (hr.mono (by decide)) rfl T.g_asked_rule T.F_asked_rule.kp (bind_asked_rule T) .nil pass0 (pa_cons (pv 12) (pa_cons (pv 9) pa_nil))) pa_nil)) (pe_callB SkE.call_repr_int (by rfl) T.n_repr (by decide +kernel) (pa_cons (pe_call (ok__law_asked T) (hr.mono (by decide)) rfl T.g__law_asked T.F__law_asked.kp (bind__law_asked T) .nil pass0 (pa_cons (pv 12) (pa_cons (pv 9) pa_nil))) pa_nil)) (nomark _)) (pss_one (ps_ret pe_bl)) pss_nil)
      (pss_one (ps_if (pt_cmpR op_ne (pe_callB (call_reprD hg (u65 hr)) (by rfl) T.n_repr (by decide +kernel) (pa_cons (pe_call (ok_laid T) (hr.mono (by decide)) rfl T.g_laid T.F_laid.kp (bind_laid T) .nil pass0 (pa_cons (pv 7) (pa_cons (pv 12) (pa_cons (pv 9) pa_nil)))) pa_nil)) (pe_callB (call_reprD hg (u65 hr)) (by rfl) T.n_repr (by decide +kernel) (pa_cons (pe_call (ok__law_laid T) (hr.mono (by decide)) rfl T.g__law_laid T.F__law_laid.kp (bind__law_laid T) .nil pass0 (pa_cons (pv 7) (pa_cons (pv 12) (pa_cons (pv 9) pa_nil)))) pa_nil)) (nomark _)) (pss_one (ps_ret pe_bl)) pss_nil)))))))))))))))
      (pss_one (ps_ret pe_bl))))))))), ?_⟩)
  · obtain ⟨a, ns, rfl, _⟩ := h
    rfl
  · obtain ⟨a, ns, rfl, hS, hlen, k⟩ := h
    refine ⟨_, rfl, a, ns, rfl, hS, fun p g H1 sH1 np P1 => ?_⟩
    -- far
    refine ⟨_, rfl, _, _, rfl, rfl, ⟨by decide, by decide, by decide⟩, by show 3 ≤ sizeLine; decide, fun l nl => ?_⟩
    refine ⟨p, g, l, _, rfl, same_pen (same_new nl) P1, (P1.new_ne nl).1, upd_same, List.cons_ne_nil _ _, by show 3 ≤ 1000; decide, fun v H2 hv P2 _ => ?_⟩
    obtain ⟨far, rfl, f0, f1⟩ : ∃ far : Int, v = .int far ∧ 0 ≤ far ∧ far ≤ 10 ^ 30 := by
      simp at hv
      rcases hv with rfl | rfl | rfl
      · exact ⟨1, rfl, by decide, by decide⟩
      · exact ⟨2, rfl, by decide, by decide⟩
      · exact ⟨10 ^ 30, rfl, by decide, by decide⟩
    have a2 : Sm far := sm_far f0 (by omega)
    have a3 : Sm (far + 1) := sm_far (by omega) (by omega)
    have a4 : Sm (far + 2) := sm_far (by omega) (by omega)
    -- marks, slots
    refine ⟨_, rfl, _, rfl, _, _, rfl, rfl, _, rfl, _, _, rfl, rfl, by show 3 ≤ sizeLine; decide, fun M nM => ?_⟩
    have P3 := same_pen (same_new (o := .lst [V.int far, V.int (far + 1), V.int (far + 2)]) nM) P2
    have hM : (upd H2 M (.lst [V.int far, V.int (far + 1), V.int (far + 2)])) M = some (.lst ([far, far + 1, far + 2].map V.int)) := upd_same
    generalize upd H2 M (.lst [V.int far, V.int (far + 1), V.int (far + 2)]) = H3 at P3 hM
    refine ⟨by show 0 ≤ sizeLine; decide, fun u nu => ⟨by show 1 ≤ sizeLine; decide, fun S nS => ?_⟩⟩
    have eu := same_new (o := .tup []) nu
    have eS := same_new (o := .lst [V.ref u]) nS
    have P4 := same_pen eS (same_pen eu P3)
    have hM4 := eS _ _ (eu _ _ hM)
    have hS4 : SlotsIn K (upd (upd H3 u (.tup [])) S (.lst [V.ref u])) S [V.ref u] := by
      refine ⟨upd_same, fun v hv => ?_⟩
      rw [List.mem_singleton.mp hv]
      exact ⟨none, ⟨u, rfl, SqT.of (eS _ _ upd_same)⟩, trivial⟩
    have hSp : S ≠ p := by
      obtain ⟨d1, d2⟩ := (same_pen eu P3).new_ne nS
      exact d1
    have hSg : S ≠ g := by
      obtain ⟨d1, d2⟩ := (same_pen eu P3).new_ne nS
      exact d2
    have hSM : S ≠ M := (ne_of_none (eu _ _ hM) nS).symm
    have hMp : M ≠ p := by
      intro e
      subst e
      obtain ⟨xs, hx⟩ := P2.lst
      rw [hx] at nM
      cases nM
    generalize upd (upd H3 u (.tup [])) S (.lst [V.ref u]) = H4 at P4 hM4 hS4
    refine ⟨by show 3 ≤ sizeLine; decide, fun t1 n1 => ⟨t1, rfl, ⟨_, SqT.of upd_same⟩, for_tup (xs := [V.int 0, V.int 1, V.int 2])
      (fun i σ H' => H' t1 = some (.tup [V.int 0, V.int 1, V.int 2]) ∧ Pen H' p g ∧ H' M = some (.lst ([far, far + 1, far + 2].map V.int)) ∧ (∃ vs, vs.length = 1 + 3 * i ∧ SlotsIn K H' S vs) ∧
        ∃ kv, σ = [some (.ref a), some (.ref p), some (.int far), some (.ref M), some (.ref S), kv, none, none, none, none, none, none, none]) ?_ (fun i σ H' _ h => SqT.of h.1) ?_ ?_⟩⟩
    · exact ⟨upd_same, same_pen (same_new n1) P4, same_new n1 _ _ hM4, ⟨[V.ref u], rfl, slots_same (same_new n1) hS4⟩, none, rfl⟩
    · rintro i x σ H5 hx ⟨g1, P5, hM5, ⟨vs, hvl, hS5⟩, kv, rfl⟩
      obtain ⟨hi, rfl⟩ := t012 hx
      refine ⟨_, rfl, .inl ⟨rfl, _, SqL.of hS5.1⟩, _, rfl, M, rfl, ⟨_, SqL.of hM5⟩, fun D nD => lc_list (xs := [far, far + 1, far + 2].map V.int)
        (fun j H' => ∃ ws, ws.length = j ∧ H' D = some (.lst ws) ∧ (∀ v ∈ ws, ∃ s, SlotAt K H' v s ∧ SlOk s) ∧ H' t1 = some (.tup [V.int 0, V.int 1, V.int 2]) ∧ Pen H' p g ∧ H' M = some (.lst ([far, far + 1, far + 2].map V.int)) ∧ SlotsIn K H' S vs ∧ D ≠ S) ?_ (fun j H' _ h => ?_) ?_ ?_⟩
      · have e := same_new (o := .lst []) nD
        exact ⟨[], rfl, upd_same, fun v hv => absurd hv List.not_mem_nil, e _ _ g1, same_pen e P5, e _ _ hM5, slots_same e hS5, (ne_of_none hS5.1 nD).symm⟩
      · obtain ⟨ws, _, _, _, _, _, hm, _⟩ := h
        exact SqL.of hm
      · rintro j x H6 hx ⟨ws, hw, hD, hws, g6, P6, hM6, hS6, hDS⟩
        obtain ⟨mk, rfl, hmk⟩ : ∃ mk : Int, x = .int mk ∧ Sm mk := by
          match j, hx with
          | 0, hx => exact ⟨far, (Option.some.inj hx).symm, a2⟩
          | 1, hx => exact ⟨far + 1, (Option.some.inj hx).symm, a3⟩
          | 2, hx => exact ⟨far + 2, (Option.some.inj hx).symm, a4⟩
          | n + 3, hx => simp at hx
        refine ⟨rfl, yes_of ?_⟩
        rw [if_pos rfl]
        refine ⟨_, rfl, _, rfl, by show 2 ≤ sizeLine; decide, fun q nq => ?_⟩
        have e := same_new (o := .tup [V.int i, V.int mk]) nq
        have hD1 := e _ _ hD
        have hlt : j < 3 := (List.getElem?_eq_some_iff.mp hx).1
        refine ⟨ws, hD1, by rw [sizeLine_eq]; omega, ws ++ [V.ref q], by rw [List.length_append, hw]; rfl, upd_same, ?_, ?_, ?_, ?_, ?_, hDS⟩
        · intro v hv
          rcases List.mem_append.mp hv with hv | hv
          · obtain ⟨s, hs, ok⟩ := hws v hv
            exact ⟨s, slot_lst hD1 (slot_same e hs), ok⟩
          · rw [List.mem_singleton.mp hv]
            exact ⟨some (i, mk), ⟨q, rfl, tup_lst hD1 (SqT.of upd_same)⟩, Sm.of (by omega), hmk⟩
        · rw [upd_ne (ne_of (e _ _ g6) hD1 (by intro z; cases z))]
          exact e _ _ g6
        · have d := (P5.new_ne nD)
          exact (same_pen e P6).upd d.1 d.2
        · rw [upd_ne (ne_of_none hM5 nD)]
          exact e _ _ hM6
        · obtain ⟨y1, y2⟩ := slots_same e hS6
          refine ⟨by rw [upd_ne hDS.symm]; exact y1, fun v hv => ?_⟩
          obtain ⟨s, hs, ok⟩ := y2 v hv
          exact ⟨s, slot_lst hD1 hs, ok⟩
      · rintro H6 ⟨ws, hw, hD, hws, g6, P6, hM6, hS6, hDS⟩
        have hw3 : ws.length = 3 := hw
        refine ⟨S, D, vs, ws, rfl, rfl, hS6.1, hD, by rw [sizeLine_eq]; omega, ?_, P6.upd hSp hSg, ?_, ⟨vs ++ ws, by rw [List.length_append]; omega, upd_same, ?_⟩, some (.int i), rfl⟩
        · rw [upd_ne (ne_of g6 hS6.1 (by intro z; cases z))]
          exact g6
        · rw [upd_ne hSM.symm]
          exact hM6
        · intro v hv
          rcases List.mem_append.mp hv with hv | hv
          · obtain ⟨s, hs, ok⟩ := hS6.2 v hv
            exact ⟨s, slot_lst hS6.1 hs, ok⟩
          · obtain ⟨s, hs, ok⟩ := hws v hv
            exact ⟨s, slot_lst hS6.1 hs, ok⟩
    rintro σ H5 ⟨g1, P5, hM5, ⟨vs, hvl, hS5⟩, kv, rfl⟩
    have hvl' : vs.length = 10 := hvl
    -- rules
    refine ⟨_, rfl, p, g, rfl, P5, fun R rs H6 P6 B6 hR6 => ?_⟩
    obtain ⟨px, hpx⟩ := P5.lst
    have hM6 := B6 _ _ hM5 hMp
    have hS6 : SlotsIn K H6 S vs := by
      refine ⟨B6 _ _ hS5.1 hSp, fun v hv => ?_⟩
      obtain ⟨s, ⟨b, rfl, hs⟩, ok⟩ := hS5.2 v hv
      exact ⟨s, ⟨b, rfl, but_tup B6 hpx hs⟩, ok⟩
    have hRT : SqT K H6 R (rs.map V.int) := SqT.of hR6.1
    have hM7 : SqL K H6 M ([far, far + 1, far + 2].map V.int) := SqL.of hM6
    -- the entries and the holdings
    refine ⟨by show 2 ≤ sizeLine; decide, fun u1 m1 => ⟨u1, rfl, ⟨_, SqT.of upd_same⟩, for_tup (xs := [V.int 1, V.int 2])
      (fun i σ H' => Same H6 H' ∧ H' u1 = some (.tup [V.int 1, V.int 2]) ∧ ∃ v5 v6 v8 v9 v10 v11 v12,
        σ = [some (.ref a), some (.ref p), some (.int far), some (.ref M), some (.ref S), v5, v6, some (.ref R), v8, v9, v10, v11, v12]) ?_ (fun i σ H' _ h => SqT.of h.2.1) ?_ ?_⟩⟩
    · exact ⟨same_new m1, upd_same, _, _, _, _, _, _, _, rfl⟩
    · rintro i x σ H7 hx ⟨s7, g7, v5, v6, v8, v9, v10, v11, v12, rfl⟩
      obtain ⟨key, rfl, hkey⟩ : ∃ key : Int, x = .int key ∧ (key = 1 ∨ key = 2) := by
        match i, hx with
        | 0, hx => exact ⟨1, (Option.some.inj hx).symm, .inl rfl⟩
        | 1, hx => exact ⟨2, (Option.some.inj hx).symm, .inr rfl⟩
        | n + 2, hx => simp at hx
      refine ⟨by show 3 ≤ sizeLine; decide, fun u2 m2 => ⟨u2, rfl, ⟨_, SqT.of upd_same⟩, for_tup (xs := [V.int 0, V.int 1, V.int 2])
        (fun i σ H' => Same H7 H' ∧ H' u2 = some (.tup [V.int 0, V.int 1, V.int 2]) ∧ ∃ v5 v6 v9 v10 v11 v12,
          σ = [some (.ref a), some (.ref p), some (.int far), some (.ref M), some (.ref S), v5, v6, some (.ref R), some (.int key), v9, v10, v11, v12]) ?_ (fun i σ H' _ h => SqT.of h.2.1) ?_ ?_⟩⟩
      · exact ⟨same_new m2, upd_same, _, _, _, _, _, _, rfl⟩
      · rintro kind x σ H8 hx ⟨s8, g8, v5, v6, v9, v10, v11, v12, rfl⟩
        obtain ⟨hk3, rfl⟩ := t012 hx
        refine ⟨_, rfl, M, rfl, ⟨_, s8.seq (s7.seq hM7)⟩, for_list (xs := [far, far + 1, far + 2].map V.int)
          (fun i σ H' => Same H8 H' ∧ ∃ v6 v9 v10 v11 v12,
            σ = [some (.ref a), some (.ref p), some (.int far), some (.ref M), some (.ref S), some (.int kind), v6, some (.ref R), some (.int key), v9, v10, v11, v12]) ?_ (fun i σ H' _ h => h.1.seq (s8.seq (s7.seq hM7))) ?_ ?_⟩
        · exact ⟨Same.refl _, _, _, _, _, _, rfl⟩
        · rintro j x σ H9 hx ⟨s9, v6, v9, v10, v11, v12, rfl⟩
          obtain ⟨mk, rfl, hmk⟩ : ∃ mk : Int, x = .int mk ∧ Sm mk := by
            match j, hx with
            | 0, hx => exact ⟨far, (Option.some.inj hx).symm, a2⟩
            | 1, hx => exact ⟨far + 1, (Option.some.inj hx).symm, a3⟩
            | 2, hx => exact ⟨far + 2, (Option.some.inj hx).symm, a4⟩
            | n + 3, hx => simp at hx
          refine ⟨_, rfl, _, rfl, _, rfl, by show 3 ≤ sizeLine; decide, fun e ne => ?_⟩
          have z9 := (s7.trans s8).trans s9
          have ze := same_new (o := .tup [V.int key, V.int kind, V.int mk]) ne
          have he : EntAt K (upd H9 e (.tup [V.int key, V.int kind, V.int mk])) (.ref e) key kind mk := ⟨e, rfl, SqT.of upd_same⟩
          have z10 := z9.trans ze
          have w10 := s9.trans ze
          generalize upd H9 e (.tup [V.int key, V.int kind, V.int mk]) = H10 at he z10 w10
          refine ⟨_, rfl, S, rfl, ⟨_, SqL.of (slots_same z10 hS6).1⟩, for_list (xs := vs)
            (fun i σ H' => Same H10 H' ∧ ∃ v10 v11 v12,
              σ = [some (.ref a), some (.ref p), some (.int far), some (.ref M), some (.ref S), some (.int kind), some (.int mk), some (.ref R), some (.int key), some (.ref e), v10, v11, v12]) ?_ (fun i σ H' _ h => SqL.of (slots_same (z10.trans h.1) hS6).1) ?_ ?_⟩
          · exact ⟨Same.refl _, _, _, _, rfl⟩
          · rintro j1 one σ H11 hone ⟨s11, v10, v11, v12, rfl⟩
            have z11 := z10.trans s11
            obtain ⟨so, hso, oko⟩ := (slots_same z11 hS6).2 one (List.mem_of_getElem? hone)
            have r := rel_range so (kind : Int) mk
            refine ⟨_, rfl, _, rfl, one, .ref e, so, key, kind, mk, rfl, hso, ent_same s11 he, fun H12 s12 => ?_⟩
            refine ⟨_, rfl, (Sm.of (by omega)).log, _, rfl, _, rfl, one, .ref e, so, key, kind, mk, rfl, slot_same s12 hso, ent_same s12 (ent_same s11 he), fun H13 s13 => ?_⟩
            refine ⟨_, rfl, (Sm.of (by omega)).log, rfl, _, rfl, iteNS rfl ?_⟩
            have z13 := (z11.trans s12).trans s13
            have y13 := (s11.trans s12).trans s13
            refine ⟨_, rfl, S, rfl, ⟨_, SqL.of (slots_same z13 hS6).1⟩, for_list (xs := vs)
              (fun i σ H' => Same H13 H' ∧ ∃ v11 v12,
                σ = [some (.ref a), some (.ref p), some (.int far), some (.ref M), some (.ref S), some (.int kind), some (.int mk), some (.ref R), some (.int key), some (.ref e), some one, v11, v12]) ?_ (fun i σ H' _ h => SqL.of (slots_same (z13.trans h.1) hS6).1) ?_ ?_⟩
            · exact ⟨Same.refl _, _, _, rfl⟩
            · rintro j2 oth σ H14 hoth ⟨s14, v11, v12, rfl⟩
              have z14 := z13.trans s14
              obtain ⟨st, hst, okt⟩ := (slots_same z14 hS6).2 oth (List.mem_of_getElem? hoth)
              have hso14 := slot_same ((s12.trans s13).trans s14) hso
              refine ⟨_, rfl, _, rfl, by show 2 ≤ sizeLine; decide, fun h nh => ?_⟩
              have zh := same_new (o := .tup [one, oth]) nh
              have hh : HeldAt K (upd H14 h (.tup [one, oth])) (.ref h) so st := ⟨h, one, oth, rfl, SqT.of upd_same, slot_same zh hso14, slot_same zh hst⟩
              have he15 := ent_same zh (ent_same (y13.trans s14) he)
              have hR15 := same_tup zh (same_tup z14 hRT)
              have y15 := s14.trans zh
              generalize upd H14 h (.tup [one, oth]) = H15 at hh he15 hR15 y15
              have ar := ask_range so st key (kind := (kind : Int)) mk (by omega) (by omega)
              refine ⟨_, rfl, _, rfl, .ref h, .ref e, so, st, key, kind, mk, rfl, hh, he15, hkey, fun H16 s16 => ?_⟩
              refine ⟨_, rfl, (Sm.of (by omega)).log, _, rfl, _, rfl, .ref h, .ref e, so, st, key, kind, mk, rfl, held_same s16 hh, ent_same s16 he15, hkey, fun H17 s17 => ?_⟩
              refine ⟨_, rfl, (Sm.of (by omega)).log, rfl, _, rfl, iteNS rfl ?_⟩
              have x17 := s16.trans s17
              refine ⟨_, rfl, _, rfl, _, rfl, R, rs, .ref h, .ref e, so, st, key, kind, mk, rfl, same_tup x17 hR15, hR6.2.1, held_same x17 hh, ent_same x17 he15, hkey, by omega, by omega, fun v18 H18 s18 h18 => ?_⟩
              have okA := ok_ans (rs := rs) (key := key) oko okt (Sm.of (i := (kind : Int)) (by omega)) hmk
              have fA := held_fit okA.1 okA.2
              obtain ⟨b18, rfl, d18⟩ := held_dp h18
              refine ⟨b18, _, rfl, d18, fA.sh, fA.dp, fA.nd, fA.len, ?_⟩
              have x18 := x17.trans s18
              refine ⟨_, rfl, _, rfl, _, rfl, R, rs, .ref h, .ref e, so, st, key, kind, mk, rfl, same_tup x18 hR15, hR6.2.1, held_same x18 hh, ent_same x18 he15, hkey, by omega, by omega, fun v19 H19 s19 h19 => ?_⟩
              obtain ⟨b19, rfl, d19⟩ := held_dp h19
              refine ⟨b19, _, rfl, d19, fA.sh, fA.dp, fA.nd, fA.len, rfl, _, rfl, iteNS rfl ?_⟩
              exact ⟨y15.trans (x18.trans s19), _, _, rfl⟩
            · rintro σ H14 ⟨s14, v11, v12, rfl⟩
              exact ⟨y13.trans s14, _, _, _, rfl⟩
          · rintro σ H11 ⟨s11, v10, v11, v12, rfl⟩
            exact ⟨w10.trans s11, _, _, _, _, _, rfl⟩
        · rintro σ H9 ⟨s9, v6, v9, v10, v11, v12, rfl⟩
          exact ⟨s8.trans s9, s9 _ _ g8, _, _, _, _, _, _, rfl⟩
      · rintro σ H8 ⟨s8, g8, v5, v6, v9, v10, v11, v12, rfl⟩
        exact ⟨s7.trans s8, s8 _ _ g7, _, _, _, _, _, _, _, rfl⟩
    · rintro σ H7 ⟨s7, g7, v5, v6, v8, v9, v10, v11, v12, rfl⟩
      exact k H7


end
end K03
namespace K03
open PySem PySem.Spec PyProof.Rows L2 Gd
def h__law_pen : He.DefD := ⟨("_law_pen", none), "_law_pen", "_law_pen", defArgs s__law_pen, defBody s__law_pen, defScope s__law_pen, [], []⟩
def h__law_fresh : He.DefD := ⟨("_law_fresh", none), "_law_fresh", "_law_fresh", defArgs s__law_fresh, defBody s__law_fresh, defScope s__law_fresh, [], []⟩
def h__law_draw : He.DefD := ⟨("_law_draw", none), "_law_draw", "_law_draw", defArgs s__law_draw, defBody s__law_draw, defScope s__law_draw, [], []⟩
def h__law_one_of : He.DefD := ⟨("_law_one_of", none), "_law_one_of", "_law_one_of", defArgs s__law_one_of, defBody s__law_one_of, defScope s__law_one_of, [], []⟩
def h_is_elder : He.DefD := ⟨("is_elder", none), "is_elder", "is_elder", defArgs s_is_elder, defBody s_is_elder, defScope s_is_elder, [], []⟩
def h_relation : He.DefD := ⟨("relation", none), "relation", "relation", defArgs s_relation, defBody s_relation, defScope s_relation, [], []⟩
def h_from_key : He.DefD := ⟨("from_key", none), "from_key", "from_key", defArgs s_from_key, defBody s_from_key, defScope s_from_key, [], []⟩
def h_asked_rule : He.DefD := ⟨("asked_rule", none), "asked_rule", "asked_rule", defArgs s_asked_rule, defBody s_asked_rule, defScope s_asked_rule, [], []⟩
def h_laid : He.DefD := ⟨("laid", none), "laid", "laid", defArgs s_laid, defBody s_laid, defScope s_laid, [], []⟩
def h__law_named : He.DefD := ⟨("_law_named", none), "_law_named", "_law_named", defArgs s__law_named, defBody s__law_named, defScope s__law_named, [], []⟩
def h__law_any_rules : He.DefD := ⟨("_law_any_rules", none), "_law_any_rules", "_law_any_rules", defArgs s__law_any_rules, defBody s__law_any_rules, defScope s__law_any_rules, [], []⟩
def h__law_rules : He.DefD := ⟨("_law_rules", none), "_law_rules", "_law_rules", defArgs s__law_rules, defBody s__law_rules, defScope s__law_rules, [], []⟩
def h__law_found : He.DefD := ⟨("_law_found", none), "_law_found", "_law_found", defArgs s__law_found, defBody s__law_found, defScope s__law_found, [], []⟩
def h__law_asked : He.DefD := ⟨("_law_asked", none), "_law_asked", "_law_asked", defArgs s__law_asked, defBody s__law_asked, defScope s__law_asked, [], []⟩
def h__law_laid : He.DefD := ⟨("_law_laid", none), "_law_laid", "_law_laid", defArgs s__law_laid, defBody s__law_laid, defScope s__law_laid, [], []⟩
def h_law : He.DefD := ⟨("law", none), "law", "law", defArgs s_law, defBody s_law, defScope s_law, [], []⟩
def fn : List He.DefD := [h__law_pen, h__law_fresh, h__law_draw, h__law_one_of, h_is_elder, h_relation, h_from_key, h_asked_rule, h_laid, h__law_named, h__law_any_rules, h__law_rules, h__law_found, h__law_asked, h__law_laid, h_law]
def fa : List He.Fa := [.glo "_law_pen", .glo "_law_fresh", .glo "_law_draw", .glo "_law_one_of", .glo "is_elder", .glo "relation", .glo "from_key", .glo "asked_rule", .glo "laid", .glo "_law_named", .glo "_law_any_rules", .glo "_law_rules", .glo "_law_found", .glo "_law_asked", .glo "_law_laid", .glo "law", .free "int", .free "len", .free "list", .free "range", .free "repr", .free "tuple", .int "BOTH" 4, .int "DROP" 3, .int "ELDER" 1, .int "EMPTY" 0, .int "FRESH" 2, .int "LAY" 1, .int "MOVE" 2, .int "OTHER" 5]
abbrev R : PySem.W.OpenRow := PySem.W.OpenLaw.row PySem.Challenge.rw_movedrows_k03_what_rules_do
abbrev hk : PySem.W.Hook := He.hookD 4 fa fn
def ob (s : PySem.W.SharedT) : He.AlD := He.obsDG 4 fa fn (HandSHeadRun.getT s)
theorem ob_eq (s : PySem.W.SharedT) : ob s = hk.obs s.abs := He.obsDG_eq (HandSHeadRun.getT_eq s)
def names : List PySem.Str := ["is_elder", "LAY", "MOVE", "DROP", "BOTH", "OTHER", "EMPTY", "ELDER", "FRESH", "relation", "from_key", "asked_rule", "laid", "_law_pen", "_law_fresh", "_law_draw", "_law_one_of", "_law_named", "_law_any_rules", "_law_rules", "_law_found", "_law_asked", "_law_laid"]
theorem run (w : World) : HandSHeadRun.RunEq R (PySem.W.view R.prog [26]) hk ob 2000 names w := by
  intro os
  kernel_rfl
noncomputable def txt {K : PySem.W.Frag} {h : Heap} {mg : Str → Option Value} (X : K.In h) (G : h.Ns mainGlobals mg) (c : He.SaysD fa fn K) : Txt K mg where
  f__law_pen := _
  d__law_pen := _
  F__law_pen := (c.def_ 0 (d := h__law_pen) rfl).choose_spec
  g__law_pen := He.glo_ok X G (c.fact 0 (f := .glo "_law_pen") rfl)
  f__law_fresh := _
  d__law_fresh := _
  F__law_fresh := (c.def_ 1 (d := h__law_fresh) rfl).choose_spec
  g__law_fresh := He.glo_ok X G (c.fact 1 (f := .glo "_law_fresh") rfl)
  f__law_draw := _
  d__law_draw := _
  F__law_draw := (c.def_ 2 (d := h__law_draw) rfl).choose_spec
  g__law_draw := He.glo_ok X G (c.fact 2 (f := .glo "_law_draw") rfl)
  f__law_one_of := _
  d__law_one_of := _
  F__law_one_of := (c.def_ 3 (d := h__law_one_of) rfl).choose_spec
  g__law_one_of := He.glo_ok X G (c.fact 3 (f := .glo "_law_one_of") rfl)
  f_is_elder := _
  d_is_elder := _
  F_is_elder := (c.def_ 4 (d := h_is_elder) rfl).choose_spec
  g_is_elder := He.glo_ok X G (c.fact 4 (f := .glo "is_elder") rfl)
  f_relation := _
  d_relation := _
  F_relation := (c.def_ 5 (d := h_relation) rfl).choose_spec
  g_relation := He.glo_ok X G (c.fact 5 (f := .glo "relation") rfl)
  f_from_key := _
  d_from_key := _
  F_from_key := (c.def_ 6 (d := h_from_key) rfl).choose_spec
  g_from_key := He.glo_ok X G (c.fact 6 (f := .glo "from_key") rfl)
  f_asked_rule := _
  d_asked_rule := _
  F_asked_rule := (c.def_ 7 (d := h_asked_rule) rfl).choose_spec
  g_asked_rule := He.glo_ok X G (c.fact 7 (f := .glo "asked_rule") rfl)
  f_laid := _
  d_laid := _
  F_laid := (c.def_ 8 (d := h_laid) rfl).choose_spec
  g_laid := He.glo_ok X G (c.fact 8 (f := .glo "laid") rfl)
  f__law_named := _
  d__law_named := _
  F__law_named := (c.def_ 9 (d := h__law_named) rfl).choose_spec
  g__law_named := He.glo_ok X G (c.fact 9 (f := .glo "_law_named") rfl)
  f__law_any_rules := _
  d__law_any_rules := _
  F__law_any_rules := (c.def_ 10 (d := h__law_any_rules) rfl).choose_spec
  g__law_any_rules := He.glo_ok X G (c.fact 10 (f := .glo "_law_any_rules") rfl)
  f__law_rules := _
  d__law_rules := _
  F__law_rules := (c.def_ 11 (d := h__law_rules) rfl).choose_spec
  g__law_rules := He.glo_ok X G (c.fact 11 (f := .glo "_law_rules") rfl)
  f__law_found := _
  d__law_found := _
  F__law_found := (c.def_ 12 (d := h__law_found) rfl).choose_spec
  g__law_found := He.glo_ok X G (c.fact 12 (f := .glo "_law_found") rfl)
  f__law_asked := _
  d__law_asked := _
  F__law_asked := (c.def_ 13 (d := h__law_asked) rfl).choose_spec
  g__law_asked := He.glo_ok X G (c.fact 13 (f := .glo "_law_asked") rfl)
  f__law_laid := _
  d__law_laid := _
  F__law_laid := (c.def_ 14 (d := h__law_laid) rfl).choose_spec
  g__law_laid := He.glo_ok X G (c.fact 14 (f := .glo "_law_laid") rfl)
  f_law := _
  d_law := _
  F_law := (c.def_ 15 (d := h_law) rfl).choose_spec
  g_law := He.glo_ok X G (c.fact 15 (f := .glo "law") rfl)
  n_int := He.free_ok X G (c.fact 16 (f := .free "int") rfl)
  n_len := He.free_ok X G (c.fact 17 (f := .free "len") rfl)
  n_list := He.free_ok X G (c.fact 18 (f := .free "list") rfl)
  n_range := He.free_ok X G (c.fact 19 (f := .free "range") rfl)
  n_repr := He.free_ok X G (c.fact 20 (f := .free "repr") rfl)
  n_tuple := He.free_ok X G (c.fact 21 (f := .free "tuple") rfl)
  c_BOTH := He.int_ok X G (c.fact 22 (f := .int "BOTH" 4) rfl)
  c_DROP := He.int_ok X G (c.fact 23 (f := .int "DROP" 3) rfl)
  c_ELDER := He.int_ok X G (c.fact 24 (f := .int "ELDER" 1) rfl)
  c_EMPTY := He.int_ok X G (c.fact 25 (f := .int "EMPTY" 0) rfl)
  c_FRESH := He.int_ok X G (c.fact 26 (f := .int "FRESH" 2) rfl)
  c_LAY := He.int_ok X G (c.fact 27 (f := .int "LAY" 1) rfl)
  c_MOVE := He.int_ok X G (c.fact 28 (f := .int "MOVE" 2) rfl)
  c_OTHER := He.int_ok X G (c.fact 29 (f := .int "OTHER" 5) rfl)
theorem bindA {K : PySem.W.Frag} {mg : Str → Option Value} (T : Txt K mg) (s : Shared) (v : Value) : BindsTo s T.d_law ⟨[v], []⟩ [("script", v)] :=
  FunD.bindsA (ps := ["script"]) T.F_law (fun _ _ _ _ _ _ us hl => match us, hl with | [_], _ => rfl) s [v] rfl
end K03
open PySem PySem.W PySem.Calls PyProof.Rows
set_option maxRecDepth 100000 in
set_option maxHeartbeats 0 in
theorem PySem.Challenge.cw_movedrows_k03_what_rules_do_holds : PySem.Challenge.rw_movedrows_k03_what_rules_do.Holds := by
  w_on; o_law
  refine HandSHeadRun.head_any (r := OpenLaw.row PySem.Challenge.rw_movedrows_k03_what_rules_do) (q := view (OpenLaw.row PySem.Challenge.rw_movedrows_k03_what_rules_do).prog [26])
    (H := K03.hk) (ob := K03.ob) (M := 2000) (loose := K03.names)
    (d := HandSHeadRun.topDef (OpenLaw.row PySem.Challenge.rw_movedrows_k03_what_rules_do).prog 26) (kwd := []) K03.ob_eq
    (by kernel_rfl) (fun s => by kernel_rfl) K03.run (by kernel_rfl) (by kernel_rfl) (by kernel_rfl) (by rfl)
    (by first | assumption | decide +kernel) (by decide +kernel) ⟨rfl, rfl, rfl, rfl, rfl, by decide +kernel⟩ ?hw ?hc
  case hw => w_witness2
  case hc =>
    refine Gd.walkG (l := PySem.Challenge.rw_movedrows_k03_what_rules_do) (n := 63) (k := 5) (x := "script") (CX := L2.CX0) rfl (by decide) (by kernel_rfl)
      ⟨rfl, by decide, by decide⟩ ?F (fun _ _ _ _ z => z)
    intro w mg fa h Y G hmg0
    obtain ⟨K, KX, c⟩ := Y
    have hmg : mg ("law" : PySem.Str) = some (.ref fa) := by
      have e : (HandSHeadRun.topDef (OpenLaw.row PySem.Challenge.rw_movedrows_k03_what_rules_do).prog 26).name = ("law" : PySem.Str) := by kernel_rfl
      rw [← e]
      exact hmg0
    have e := hmg.symm.trans (K03.txt KX G c).g_law
    have e2 : fa = (K03.txt KX G c).f_law := by
      injection e with e
      injection e
    subst e2
    exact ⟨K, _, K03.sp_law K, KX, fun s v => K03.bindA (K03.txt KX G c) s v, fun H a ns hl _ hS => ⟨a, ns, rfl, hS, hl, fun _ => rfl⟩,
      fun base _ _ => K03.ok_law (K03.txt KX G c)⟩

