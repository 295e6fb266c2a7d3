import PyProof.Rows.All
import Wide.All
import OpenK.AllK
import Wide.FinOn
import HandS.ForMost
import HandS.Defaults
import HandS.Wide
import HandS.Rev
import HandS.Flow
import KE.DataAny
import HandS.IsInst
import KE.DataEq
import KE.GoesEnum
import KE.DataMinMax
import HandS.List
import HandS.TupAny
import PyProof.Rows.IntBool
import HandS.Conv
import HandS.TupMul
import PySem.Challenge.RW_bentcoin_k22_why_it_is_no_machine
set_option Elab.async false
set_option maxRecDepth 100000
set_option maxHeartbeats 4000000
/-! Defs that are run where no text of an object is being made: so that repr gives the whole text. -/
namespace GG
open PySem PySem.Spec PyProof.Rows L2
section
variable {P : Program} {w : World} {K : PySem.W.Frag} {mg : Str → Option Value} {base : Heap}
structure FnG (P : Program) (w : World) (K : PySem.W.Frag) (mg : Str → Option Value) (base : Heap) (k : Nat) (f : Addr) (fd : FuncData) (ps : List Str) (sp : Sp) : Prop where
  size : ∀ vs H Q E, sp vs H Q E → vs.length = ps.length
  goes : ∀ (A : Around) (o : List Env) (s : Shared) (H : Hp) (ar : Args) (us : List Value) (vs : List V) (Q : VK) (E : XK),
    A.guards = some [] → Room k A → Env0 P w K mg base A o s H → BindsTo s fd ar (ps.zip us) → Vals vs us → sp vs H Q E →
    codeAny (model P w) A (.call (.ref f) ar) (CR CX0 o P w H s Q E) s

theorem fnG_of {x qual : Str} {st : Stmt} {f : Addr} {fd : FuncData} {N ps : List Str} {k : Nat} {sp : Sp}
    (F : Fun K x qual st f fd) (S : FnScope N ps (defScope st)) (size : ∀ vs H Q E, sp vs H Q E → vs.length = ps.length)
    (body : ∀ (cd : Value) (A : Around) (o : List Env) (s : Shared) (H : Hp) (vs : List V) (Q : VK) (E : XK),
      A.guards = some [] → Room k (A.deeper (envOfC qual (defScope st) s.heap.objs.size f cd)) → sp vs H Q E →
      ∃ t, PSs (cxOf CX0 P w K mg base N qual (defScope st) f cd A o s H E).nox (defBody st) t ∧
        t { nx := fun _ H' => Q .non H', rt := Q } (start N vs) H) :
    FnG P w K mg base (k + 1) f fd ps sp := by
  obtain ⟨oc, od, kV, doc, pm, an, cd, ct, slots, rfl, found, code⟩ := F.ex
  refine ⟨size, ?_⟩
  intro A o s H ar us vs Q E gA room e0 hbind given asked
  have inK : K.In s.heap := e0.mod.kin.keeps fun b u e => (e0.bs b u e).1
  have free : s.heap.NoLimit := e0.mod.nolimit.keeps fun b u e => (e0.bs b u e).1
  have many := size vs H Q E asked
  have kinds : ∀ y ∈ ps.zip us, (defScope st).names.lookup y.1 = some .local ∨ ((defScope st).names.lookup y.1 = some .cell ∧
      ((cellsFrom (s.heap.objs.size + 1) (defScope st).names []).lookup y.1).isSome = true) := by
    rintro ⟨n, v⟩ hy
    cases S.par n (List.of_mem_zip hy).1 with
    | inl q => exact Or.inl q
    | inr q => exact Or.inr ⟨q, PySem.W.cellsFrom_some _ _ _ (Or.inl q)⟩
  apply codeAny_call_function room.depth (inK _ _ found) rfl S.co S.gen rfl (PySem.W.codeRec_of inK code)
  apply hbind
  apply wpAny_newFunctionEnv_cells S.kind kinds
  intro env he s1 ready
  subst he
  refine ⟨free.keeps ready.toInCall.keep, ?_⟩
  apply codeAny_func
  obtain ⟨t, ht, hq⟩ := body cd A o s H vs Q E gA (room.deeper _) asked
  have first := inv_start (E := E) (CX := CX0) S room.hd e0 many given ready
  refine wpAny_mono (ht.nox.run [] s1 (start N vs) H _ first hq) (fun fl s' hs => ?_) (fun e s' hs => hs)
  cases fl with
  | next =>
    obtain ⟨σ', H', J, q⟩ := hs
    exact ⟨V.non, H', J.os, J.bare, J.base, J.hok, rfl, q⟩
  | ret u =>
    obtain ⟨v, σ', H', J, rv, q⟩ := hs
    exact ⟨v, H', J.os, J.bare, J.base, J.hok, rv, q⟩
  | brk => exact hs.elim fun _ z => z.elim fun _ z => z.elim fun _ z => z.elim
  | cont => exact hs.elim fun _ z => z.elim fun _ z => z.elim fun _ z => z.elim

/-- what is left of the heap when the script stands alone in it -/
def one (a : Addr) (o : HO) : Hp := fun b => if b = a then some o else none
theorem one_at {a : Addr} {o : HO} : one a o a = some o := if_pos rfl
theorem one_no {a b : Addr} {o : HO} (h : b ≠ a) : one a o b = none := if_neg h

section
variable {mb : Str → Option Value} {k : Nat} {fa a : Addr} {fd : FuncData} {x : Str} {sp : Sp} {s₁ : Shared} {vs : List Value} {ns : List Int}
abbrev Fine (s₁ : Shared) (r : Result) (s' : Shared) : Prop := r = .ok (.ret (.bool true)) ∧ OldK s₁.heap s'.heap ∧ s'.os = s₁.os ∧ AllBare s'.gens

/-- from a heap in which at most the script is told of -/
theorem from_heap {H : Hp} (inK : K.In (hidT s₁.heap H)) (names : (hidT s₁.heap H).Ns mainGlobals mg) (blt : (hidT s₁.heap H).Ns builtinsNs mb)
    (known : ∀ y : Str, y ≠ "__name__" → mb y = bootBuiltins y) (free : (hidT s₁.heap H).NoLimit) (none_ : s₁.gens = #[])
    (alone : ∀ b, H b = none ∨ ∃ o xs, H b = some (.frz o (.lst xs))) (hok : HOk P w H s₁.heap) (room : Room k callerA)
    (F : FnG P w K mg (hidT s₁.heap H) k fa fd [x] sp) (binds : ∀ (s : Shared) (u : Value), BindsTo s fd ⟨[u], []⟩ [(x, u)])
    (asked : sp [.ref a] H (fun v _ => v = .bl true) fun _ _ _ => False) :
    codeAny (model P w) callerA (.call (.ref fa) ⟨[.ref a], []⟩) (Fine s₁) s₁ := by
  have entry : Env0 P w K mg (hidT s₁.heap H) callerA [] s₁ H :=
    { frames := rfl, mod := ⟨inK, names, ⟨mb, blt, known⟩, free⟩, bs := fun b u e => of_hidT e, bsz := Nat.le_of_eq (hidT_size _ _), funs := trivial,
      frf := fun b hb => absurd (show b ∈ ([] : List Addr) from hb) (by simp), hok := hok, bare := .of_eq none_ }
  have run := F.goes callerA [] s₁ H ⟨[.ref a], []⟩ [.ref a] [.ref a] _ _ rfl room entry (binds s₁ (.ref a)) (.cons rfl .nil) asked
  refine codeAny_mono run fun r s' got => ?_
  cases r with
  | error e => exact False.elim got
  | ok fl =>
    cases fl with
    | ret u =>
      obtain ⟨v, H', os, bare, un, hok', ru, yes⟩ := got
      have yes' : v = .bl true := yes
      subst yes'
      have eu : u = Value.bool true := ru
      subst eu
      refine ⟨rfl, OldK.of_keep ?_, os, bare⟩
      intro b u e
      rcases alone b with q | ⟨ob, xs, q⟩
      · exact un.keep b u e q (fun z => absurd (show b ∈ ([] : List Addr) from z) (by simp)) (by simp)
      · have e1 := (hok b _ q).1
        have e2 := (hok' b _ (un.frzs b ob _ q)).1
        rw [e] at e1
        cases e1
        exact e2
    | next => exact False.elim got
    | brk => exact False.elim got
    | cont => exact False.elim got
/-- the law's call, its promise once -/
theorem lawG (inK : K.In s₁.heap) (names : s₁.heap.Ns mainGlobals mg) (blt : s₁.heap.Ns builtinsNs mb) (known : ∀ y : Str, y ≠ "__name__" → mb y = bootBuiltins y)
    (free : s₁.heap.NoLimit) (none_ : s₁.gens = #[]) (script : s₁.heap.get? a = some { cls := .type "list", data := .seq vs.toArray }) (nums : IntsAre vs ns)
    (few : ns.length ≤ sizeLine) (room : Room k callerA) (F : ∀ base : Heap, K.In base → base.Ns mainGlobals mg → FnG P w K mg base k fa fd [x] sp)
    (binds : ∀ (s : Shared) (u : Value), BindsTo s fd ⟨[u], []⟩ [(x, u)]) (asked : ∀ H : Hp, SqL K H a (ns.map V.int) → sp [.ref a] H (fun v _ => v = .bl true) fun _ _ _ => False) :
    codeAny (model P w) callerA (.call (.ref fa) ⟨[.ref a], []⟩) (Fine s₁) s₁ := by
  have rel := vals_ints nums
  have len := nums.length
  cases look : K.lookup a with
  | some o =>
    have e := inK a o look
    rw [script] at e
    cases e
    have keep : ∀ {b : Addr} {u : Obj}, s₁.heap.get? b = some u → (hidT s₁.heap fun _ => none).get? b = some u := fun e => hidT_get e rfl
    have ns' : ∀ {b : Addr} {m : Str → Option Value}, s₁.heap.Ns b m → (hidT s₁.heap fun _ => none).Ns b m := fun ⟨o, es, ep, e, d, r⟩ => ⟨o, es, ep, keep e, d, r⟩
    have inK' : K.In (hidT s₁.heap fun _ => none) := fun b u e => keep (inK b u e)
    refine from_heap inK' (ns' names) (ns' blt) known (let ⟨mc, h1, h2⟩ := free; ⟨mc, ns' h1, h2⟩) none_ (fun _ => .inl rfl) (fun b u z => nomatch z) room (F _ inK' (ns' names)) binds ?_
    exact asked _ (.inr ⟨_, vs.toArray, _, look, rfl, rfl, rfl, by rw [List.size_toArray, len]; exact few, by simpa using rel⟩)
  | none =>
    have keep : ∀ {b : Addr} {u : Obj}, b ≠ a → s₁.heap.get? b = some u → (hidT s₁.heap (one a (.frz { cls := .type "list", data := .seq vs.toArray } (.lst (ns.map V.int))))).get? b = some u := fun n e => hidT_get e (one_no n)
    have ns' : ∀ {b : Addr} {m : Str → Option Value}, s₁.heap.Ns b m → (hidT s₁.heap (one a (.frz { cls := .type "list", data := .seq vs.toArray } (.lst (ns.map V.int))))).Ns b m := by
      rintro b m ⟨o, es, ep, e, d, r⟩
      refine ⟨o, es, ep, keep (fun z => ?_) e, d, r⟩
      rw [z, script] at e
      cases e
      cases d
    have inK' : K.In (hidT s₁.heap (one a (.frz { cls := .type "list", data := .seq vs.toArray } (.lst (ns.map V.int))))) := fun b u e => keep (fun z => by rw [z, look] at e; cases e) (inK b u e)
    refine from_heap inK' (ns' names) (ns' blt) known (let ⟨mc, h1, h2⟩ := free; ⟨mc, ns' h1, h2⟩) none_ (fun b => ?_) (fun b u z => ?_) room (F _ inK' (ns' names)) binds (asked _ (.inl (.inr ⟨_, one_at⟩)))
    · by_cases e : b = a
      · exact .inr ⟨_, _, by rw [e]; exact one_at⟩
      · exact .inl (one_no e)
    · by_cases e : b = a
      · subst e
        have z' := one_at.symm.trans z
        cases z'
        exact ⟨script, by rw [List.length_map]; exact few, vs, _, rel, script⟩
      · have z' := (one_no e).symm.trans z
        cases z'
end
end
/-- the end of a proof: as the layer's own, for such a promise -/
theorem walkG {l : PySem.W.OpenLaw} {n k : Nat} {q : Program} {loose : List Str} {XP : (Str → Option Value) → Heap → Prop} {YP : World → Heap → Prop} {d : DefRec} {K : Params → PySem.W.Frag}
    {sp : PySem.W.Frag → Sp} {x : Str} (most : l.most = some n) (few : n ≤ sizeLine) (plain : d.params.defaults = []) (room : Room k callerA) (inY : ∀ (w : World) (h : Heap), YP w h → (K w.params).In h)
    (F : ∀ (w : World) (mg : Str → Option Value) (fa : Addr) (h : Heap), (K w.params).In h → h.Ns mainGlobals mg → mg d.name = some (.ref fa) →
      ∃ fd : FuncData, (∀ (s : Shared) (u : Value), BindsTo s fd ⟨[u], []⟩ [(x, u)]) ∧
        ∀ base : Heap, (K w.params).In base → base.Ns mainGlobals mg → FnG l.prog w (K w.params) mg base k fa fd [x] (sp (K w.params)))
    (asked : ∀ (K : PySem.W.Frag) (H : Hp) (a : Addr) (ns : List Int), ns.length ≤ n → SqL K H a (ns.map V.int) → sp K [.ref a] H (fun v _ => v = .bl true) fun _ _ _ => False) :
    PySem.W.WalkO q loose XP YP l.row.toRowW d [] (fun f vs => PySem.call f vs) := by
  apply Att.attach_call most plain
  intro w s₀ s₁ mg mb fa o pm cd doc a vs ns G Y _ _ _ named script nums size none_
  have inK := inY w _ Y
  obtain ⟨fd, binds, hF⟩ := F w mg fa _ inK G.T.g named
  exact lawG inK G.T.g G.T.b G.T.builtins G.T.nolimit none_ script nums (Nat.le_trans size few) room hF binds fun H hs => asked _ H a ns size hs

/-! the text of data -/
/-- data whose text is made: no dict, no int too long, not too deep, not too many -/
structure Shows (d : PyData) (deep many : Nat) : Prop where
  s : d.showable = true
  l : d.leavesShort 1922 = true
  h : d.hasDict = false
  p : d.depth ≤ deep
  b : d.bulk ≤ many
theorem Shows.mono {d : PyData} {a b a' b' : Nat} (x : Shows d a b) (h1 : a ≤ a') (h2 : b ≤ b') : Shows d a' b' := ⟨x.s, x.l, x.h, Nat.le_trans x.p h1, Nat.le_trans x.b h2⟩
theorem Shows.room {d : PyData} (x : Shows d 50 8000) : d.shown.length ≤ sizeLine := by
  have h := PyData.shown_le_bulk 1922 (by decide) d x.l
  have hb := x.b
  have e : sizeLine = 16777216 := by decide
  have := Nat.mul_le_mul_left 1924 hb
  omega
theorem short_int {i : Int} (h : i.natAbs.log2 < 1920) : (PyData.int i).leavesShort 1922 = true := by
  simp only [PyData.leavesShort, decide_eq_true_eq]
  have e := int_text_length_le (k := 1920) (by decide) h
  rw [PyData.shown_int, PySem.ofString_length]
  omega
theorem ints_show : ∀ {ns : List Int}, (∀ n ∈ ns, n.natAbs.log2 < 1920) → PyData.showableAll (ns.map PyData.int) = true ∧ PyData.leavesShortAll 1922 (ns.map PyData.int) = true ∧ PyData.hasDictAll (ns.map PyData.int) = false ∧ PyData.depthAll (ns.map PyData.int) = 0 ∧ PyData.bulkAll (ns.map PyData.int) = ns.length
  | [], _ => ⟨rfl, rfl, rfl, rfl, rfl⟩
  | n :: r, h => by
    obtain ⟨h1, h2, h3, h4, h5⟩ := ints_show (ns := r) fun m hm => h m (List.mem_cons_of_mem _ hm)
    have hn := h n List.mem_cons_self
    have hs := short_int hn
    refine ⟨?_, ?_, ?_, ?_, ?_⟩
    · simp [PyData.showableAll, PyData.showable, h1, hn]
    · simp [PyData.leavesShortAll, h2, hs]
    · simp [PyData.hasDictAll, PyData.hasDict, h3]
    · simp [PyData.depthAll, PyData.depth, h4]
    · simp [PyData.bulkAll, PyData.bulk, h5]; omega
theorem shows_ints {ns : List Int} (h : ∀ n ∈ ns, n.natAbs.log2 < 1920) : Shows (.tuple (ns.map PyData.int)) 1 ns.length := by
  obtain ⟨h1, h2, h3, h4, h5⟩ := ints_show h
  exact ⟨by simp [PyData.showable, h1], by simp [PyData.leavesShort, h2], by simp [PyData.hasDict, h3], by simp [PyData.depth, h4], by simp [PyData.bulk, h5]⟩
section
variable {X : Cx}
def rRepr (K : PySem.W.Frag) : List V → Hp → VK → Prop := fun vs H Q => ∃ (a : Addr) (d : PyData), vs = [.ref a] ∧ Dp K H (.ref a) d ∧ Shows d 50 8000 ∧ Q (.str d.shown) H
theorem call_repr {k : Nat} (hg : X.A.guards = some []) (room : Room k X.A) : CallR X (.builtin "repr") (rRepr X.K) := by
  intro pins s σ H vs us Q I r h
  obtain ⟨a, d, rfl, hd, hs, q⟩ := h
  obtain ⟨u, rfl, ru⟩ := vals1 r
  have eu : u = Value.ref a := ru
  subst eu
  obtain ⟨as, reads⟩ := Dp.reads I d (.ref a) (.ref a) hd rfl
  have hu := room.un
  have hp := hs.p
  refine repr_of_reads' reads hs.s (fun e => by rw [hs.h] at e; cases e) hg (by omega) (fun _ _ e => e) (fun h' u tk hk => ?_) hs.room
  exact ⟨.str d.shown, H, I.kept hk, ⟨u, rfl⟩, q⟩
/-! x *= e of ints -/
theorem ip_mulW : PIp X .Mult (fun x y H Q => ∃ i j : Int, x = .int i ∧ y = .int j ∧ IntMulOk i j ∧ Q (.int (i * j)) H) := by
  intro pins s σ H x y v u Q I rx ry h
  obtain ⟨i, j, ex, ey, ok, q⟩ := h
  subst ex ey
  obtain ⟨t, et⟩ := rx
  obtain ⟨t', et'⟩ := ry
  subst et et'
  exact imul_int ⟨V.int (i * j), H, I.tok _, ⟨_, rfl⟩, q⟩ ok
/-! f(k = v, ..): all by their names -/
variable {CX : CXT} {k : Nat} {f : Addr} {fd : FuncData} {ps ks : List Str} {sp : Sp} {E : XK} {x : Str} {p pos : Pos} {kws : List Keyword} {t tk : TA}
  {g : List Value → List Value → List Value} {gV : List V → List V → List V}
def tNamed (sp : Sp) (gV : List V → List V → List V) (E : XK) (m : Nat) (tk : TA) : TE := fun σ H Q => tk σ H fun zs H1 => zs.length = m ∧ sp (gV [] zs) H1 Q E
theorem pe_named (F : FnOk X.prog X.w X.K X.mg X.base CX k f fd ps sp) (room : Room k X.A) (glob : Gl X x) (is : X.mg x = some (.ref f)) (keep : PySem.W.keepIn X.K (.ref f) = true)
    (bound : KBn X.K fd ps 0 ks g gV) (pass : Passes CX X E) (args : PK X kws tk) (all : (backToKw pos (keywordEach kws X.env)).all (·.1.isSome) = true := by rfl)
    (names : (backToKw pos (keywordEach kws X.env)).filterMap (·.1) = ks := by rfl) (nodebug : (x == ("__debug__" : Str)) = false := by decide)
    (plain : ((backTo pos (starEach [] X.env)).any (·.1) || (backToKw pos (keywordEach kws X.env)).any (·.1.isNone)) = false := by rfl) :
    PE X (.Call (.Name x p) [] kws pos) (tNamed sp gV E ks.length tk) := by
  constructor
  intro pins s σ H Q I h
  apply wpAny_Call_Name_kw
  refine ld_glob I glob is ?_ nodebug
  apply PySem.W.callWith_KW0 I.ok.mod.kin keep all _ plain
  have run := args.run pos pins s σ H _ I h
  refine thn run fun ws s2 done => ?_
  obtain ⟨zs, H2, I2, rz, many, q⟩ := done
  refine ⟨I2.kIn, ?_⟩
  rw [names]
  have few : ws.length = ks.length := by rw [← rz.length]; exact many
  first
  | exact run_fnN (us := []) (vs := []) F room bound pass I2 .nil rz rfl few q
  | exact run_fnN (us := []) (vs := []) F room bound pass I2 .nil rz rfl many q
def turned {α : Type} : List α → List α
  | [u, v] => [v, u]
  | l => l
theorem turned_vals : ∀ {zs : List V} {ws : List Value}, Vals zs ws → Vals (turned zs) (turned ws)
  | _, _, .nil => .nil
  | _, _, .cons a .nil => .cons a .nil
  | _, _, .cons a (.cons b .nil) => .cons b (.cons a .nil)
  | _, _, .cons a (.cons b (.cons c r)) => .cons a (.cons b (.cons c r))
/-- two parameters, both by name, the second ahead -/
theorem named2 {K : PySem.W.Frag} {x qual : Str} {st : Stmt} {a b : Str} (F : Fun K x qual st f fd)
    (h : ∀ (kV doc pm : Value) (an : Option Addr) (cd ct u v : Value), bindArgs (PySem.W.fnOf x qual (defArgs st) (defBody st) (defScope st) .none kV doc pm an cd ct) ⟨[], [(b, u), (a, v)]⟩ = pure [(a, v), (b, u)]) :
    KBn K fd [a, b] 0 [b, a] (fun _ ws => turned ws) (fun _ zs => turned zs) := by
  obtain ⟨oc, od, kV, doc, pm, an, cd, ct, slots, rfl, found, code⟩ := F.ex
  refine ⟨fun s us ws _ l0 l2 => ?_, fun _ r => turned_vals r⟩
  match us, ws, l0, l2 with
  | [], [u, v], _, _ => exact .of_eq (h kV doc pm an cd ct u v)
theorem max_is (calm : X.calm = true) : CallR X (.builtin "max") (fun vs H Q => ∃ i j k : Int, vs = [.int i, .int j] ∧ k = (if j > i then j else i) ∧ Q (.int k) H) := by
  intro pins s σ H vs us Q I r h
  obtain ⟨i, j, k, e, ek, q⟩ := h
  subst ek
  exact call_max2 calm pins s σ H vs us Q I r ⟨i, j, e, q⟩
/-! a def that wants that no text is being made, called -/
theorem pe_callG {F : FuncData} {es : List Expr} {e : Expr} (G : FnG X.prog X.w X.K X.mg X.base k f F ps sp) (quiet : X.A.guards = some []) (room : Room k X.A) (glob : Gl X x) (is : X.mg x = some (.ref f)) (keep : PySem.W.keepIn X.K (.ref f) = true)
    (bound : Binds X.K F ps []) (args : PA X (e :: es) t) (nodebug : (x == ("__debug__" : Str)) = false := by decide) (star : starEach (e :: es) X.env = (false, eval e X.env) :: starEach es X.env := by rfl)
    (plain : (backTo pos (starEach es X.env)).any (·.1) = false := by rfl) : PE X (.Call (.Name x p) (e :: es) [] pos) (tCall sp [] E0 t) := by
  constructor
  intro pins s σ H Q I h
  apply wpAny_Call_Name_kw
  refine ld_glob I glob is ?_ nodebug
  refine PySem.W.callWith_K (h₀ := X.base) I.ok.mod.kin keep (thn (args.run pos pins s σ H _ I h) fun us s1 got => ?_) star plain
  obtain ⟨vs, H1, I1, r, asked⟩ := got
  refine ⟨I1.kIn, ?_⟩
  have asked' : sp vs H1 Q E0 := by simpa using asked
  have many : (us ++ []).length = ps.length := by rw [List.append_nil, ← r.length]; exact G.size _ _ _ _ asked'
  have bind := bound s1 us I1.kIn many
  rw [List.append_nil] at bind
  apply wpAny_call
  refine codeAny_mono (G.goes X.A X.stack s1 H1 ⟨us, []⟩ us vs Q E0 quiet room I1.env0 bind r asked') fun res s' hq => ?_
  cases res with
  | error e => exact False.elim hq
  | ok fl =>
    cases fl with
    | ret u => exact I1.after hq
    | next => exact False.elim hq
    | brk => exact False.elim hq
    | cont => exact False.elim hq
/-! repr of None, or of data -/
def rRepr2 (K : PySem.W.Frag) : List V → Hp → VK → Prop := fun vs H Q => (vs = [.non] ∧ Q (.str "None") H) ∨ rRepr K vs H Q
theorem call_repr2 {k : Nat} (hg : X.A.guards = some []) (room : Room k X.A) : CallR X (.builtin "repr") (rRepr2 X.K) := by
  intro pins s σ H vs us Q I r h
  rcases h with ⟨ev, q⟩ | h
  · subst ev
    obtain ⟨u, eu, ru⟩ := vals1 r
    subst eu
    have e : u = Value.none := ru
    subst e
    exact PySem.P.repr_of_none ⟨.str _, H, I.tok _, ⟨_, rfl⟩, q⟩
  · exact call_repr hg room pins s σ H vs us Q I r h
end
end GG

set_option Elab.async false
set_option linter.all false
set_option maxRecDepth 100000
set_option maxHeartbeats 4000000
namespace Z
open PySem PySem.Spec PyProof.Rows L2 GG
def top (i : Nat) : Stmt := PySem.Challenge.pw_bentcoin_k22_why_it_is_no_machine.main.body.getD i (.Pass ⟨0, 0, 0, 0⟩)
abbrev sPen : Stmt := top 11
abbrev sFresh : Stmt := top 12
abbrev sDraw : Stmt := top 13
/-- what follows an if, once for all ways to it -/
theorem if_tail {c : TT} {a b : TS} {D : Ends} {σ : L2.St} {H : Hp} (W : L2.St → Hp → Prop) (tail : ∀ σ H, W σ H → D.nx σ H) (go : (∀ σ H, W σ H → D.nx σ H) → tIfS c a b D σ H) : tIfS c a b D σ H := go tail
theorem on {t u : TS} {D : Ends} {σ : L2.St} {H : Hp} (h : t { D with nx := u D } σ H) : tSeq t u D σ H := h
theorem put_c {v : V} {i : Nat} {D : Ends} {σ : L2.St} {H : Hp} (h : D.nx (σ.set i (some v)) H) : tAsg (tC v) (gName i) D σ H := h
/-! heaps -/
theorem Same.upd {H : Hp} {p : Addr} {o : HO} (h : H p = none) : Same H (L2.upd H p o) := fun b x e => by
  rw [upd_ne (ne_of_none e h)]
  exact e
/-- all that was told of stands, but what is at a -/
def But (a : Addr) (H H' : Hp) : Prop := ∀ b o, H b = some o → b ≠ a → H' b = some o
theorem But.refl (a : Addr) (H : Hp) : But a H H := fun _ _ e _ => e
theorem But.trans {a : Addr} {H H1 H2 : Hp} (x : But a H H1) (y : But a H1 H2) : But a H H2 := fun b o e n => y b o (x b o e n) n
theorem But.of {a : Addr} {H H1 : Hp} (x : Same H H1) : But a H H1 := fun b o e _ => x b o e
theorem But.put {a : Addr} {H : Hp} {o : HO} : But a H (L2.upd H a o) := fun b u e n => by
  rw [upd_ne n]
  exact e
theorem But.free {a : Addr} {H H' : Hp} {l : Addr} (e : But a H H') (n : l ≠ a) (h : H' l = none) : H l = none := by
  cases q : H l with
  | none => rfl
  | some o =>
    rw [e l o q n] at h
    cases h
theorem But.same {a : Addr} {H H0 H' : Hp} (s : Same H0 H) (n : H0 a = none) (b : But a H H') : Same H0 H' := fun c o e => b c o (s c o e) (ne_of_none e n)
theorem But.seq {a c : Addr} {K : PySem.W.Frag} {H H' : Hp} {xs : List V} (e : But a H H') (n : c ≠ a) (h : SqL K H c xs) : SqL K H' c xs := by
  rcases h with (h | ⟨o, h⟩) | h
  · exact .inl (.inl (e _ _ h n))
  · exact .inl (.inr ⟨o, e _ _ h n⟩)
  · exact .inr h
/-- a pen stands at a -/
def Pen (H : Hp) (a l : Addr) : Prop := ∃ (cs : List Int) (pos val : Int), H a = some (.lst [.ref l, .int pos, .int val]) ∧ H l = some (.lst (cs.map V.int)) ∧ 0 ≤ pos
theorem Pen.ne {H : Hp} {a l : Addr} {cs : List Int} {p v : Int} (h : H a = some (.lst [.ref l, .int p, .int v])) (e : H l = some (.lst (cs.map V.int))) : l ≠ a := by
  intro z
  subst z
  rw [h] at e
  cases cs with
  | nil => cases e
  | cons x r => cases e
theorem Pen.put {H : Hp} {a l : Addr} {cs : List Int} {p v q u : Int} (h : H a = some (.lst [.ref l, .int p, .int v])) (e : H l = some (.lst (cs.map V.int))) (hq : 0 ≤ q) : Pen (upd H a (.lst [.ref l, .int q, .int u])) a l :=
  ⟨cs, q, u, upd_same, by rw [upd_ne (Pen.ne h e)]; exact e, hq⟩
theorem Pen.same {H H' : Hp} {a l : Addr} (p : Pen H a l) (s : Same H H') : Pen H' a l := by
  obtain ⟨cs, q, v, h1, h2, h3⟩ := p
  exact ⟨cs, q, v, s _ _ h1, s _ _ h2, h3⟩
theorem dpInts {K : PySem.W.Frag} {H : Hp} : ∀ ns : List Int, DpAll K H (ns.map V.int) (ns.map PyData.int)
  | [] => .nil
  | n :: r => .cons (.int n) (dpInts r)
theorem cut_to {α : Type} (xs : List V) (n : Nat) : ∃ m, cutV xs none (some (n : Int)) = xs.take m := ⟨_, by unfold cutV; rw [HT.sIx_none]; rfl⟩
/-- a row without the zeros at its end -/
def strip (l : List Int) : List Int := (l.reverse.dropWhile (· == 0)).reverse
theorem strip_nil : strip [] = [] := rfl
theorem strip_zero (l : List Int) : strip (l ++ [0]) = strip l := by
  unfold strip
  rw [List.reverse_append]
  rfl
theorem strip_last {l : List Int} {z : Int} (h : z ≠ 0) : strip (l ++ [z]) = l ++ [z] := by
  unfold strip
  rw [List.reverse_append]
  show (List.dropWhile (· == 0) (z :: l.reverse)).reverse = _
  rw [List.dropWhile_cons_of_neg (by simpa using h), List.reverse_cons, List.reverse_reverse]
theorem strip_mem {l : List Int} {c : Int} (h : c ∈ strip l) : c ∈ l := by
  unfold strip at h
  rw [List.mem_reverse] at h
  exact List.mem_reverse.mp ((List.dropWhile_sublist _).subset h)
theorem strip_len (l : List Int) : (strip l).length ≤ l.length := by
  unfold strip
  rw [List.length_reverse]
  have := (List.dropWhile_sublist (· == 0) (l := l.reverse)).length_le
  rwa [List.length_reverse] at this
theorem strip_strip (l : List Int) : strip (strip l) = strip l := by
  rcases List.eq_nil_or_concat (strip l) with e | ⟨r, z, e⟩
  · rw [e]; rfl
  · rw [List.concat_eq_append] at e
    by_cases h : z = 0
    · exfalso
      have e2 : l.reverse.dropWhile (· == 0) = z :: r.reverse := by
        have := congrArg List.reverse e
        unfold strip at this
        rw [List.reverse_reverse, List.reverse_append] at this
        exact this
      have := List.head?_dropWhile_not (p := fun x : Int => x == 0) (l := l.reverse)
      rw [e2] at this
      simp [h] at this
    · rw [e, strip_last h]
theorem eqv_nil : ∀ {xs : List Int}, xs ≠ [] → (!PyData.eqv (.list (xs.map PyData.int)) (.list [])) = true
  | [], h => absurd rfl h
  | _ :: _, _ => rfl
structure Names (mg : Str → Option Value) : Prop where
  list : mg "list" = none
  tuple : mg "tuple" = none
  len : mg "len" = none
  range : mg "range" = none
structure Def (K : PySem.W.Frag) (mg : Str → Option Value) (x : Str) (f : Addr) (fd : FuncData) (ps : List Str) : Prop where
  is : mg x = some (.ref f)
  kp : PySem.W.keepIn K (.ref f) = true
  bi : Binds K fd ps []
theorem Pen.apart {H : Hp} {a l e : Addr} (p : Pen H a l) (h : H e = none) : e ≠ a ∧ e ≠ l := by
  obtain ⟨cs, pos, val, ha, hl, _⟩ := p
  exact ⟨(ne_of_none ha h).symm, (ne_of_none hl h).symm⟩
theorem Pen.notTup {H : Hp} {a l e : Addr} {xs : List V} (p : Pen H a l) (h : H e = some (.tup xs)) : e ≠ a := by
  obtain ⟨cs, pos, val, ha, hl, _⟩ := p
  rintro rfl
  rw [ha] at h
  cases h
theorem But.mem {a p : Addr} {H H' : Hp} {o : HO} (b : But a H H') (n : p ≠ a) (e : H p = some o) : H' p = some o := b p o e n
/-- what follows a value, once for all ways to it -/
theorem asg_tail {te : TE} {g : TG} {D : Ends} {σ : L2.St} {H : Hp} (W : V → Hp → Prop) (tail : ∀ v H', W v H' → g v σ H' D.nx) (go : (∀ v H', W v H' → g v σ H' D.nx) → te σ H fun x H1 => g x σ H1 D.nx) : tAsg te g D σ H := go tail
theorem log_le {b : Int} (h : b.natAbs < 2 ^ 100) : b.natAbs.log2 < 9000 := Nat.lt_of_lt_of_le (PySem.Flt.log2_lt_of (k := 100) (by decide) h) (by decide)
section
variable {P : Program} {w : World} {K : PySem.W.Frag} {mg : Str → Option Value} {base : Heap}
/-! ### the pen -/
def spPen (K : PySem.W.Frag) : Sp := fun vs H Q _ => ∃ (s : Addr) (ns : List Int), vs = [.ref s] ∧ SqL K H s (ns.map V.int) ∧ ns.length ≤ 63 ∧ ∀ p l H', Same H H' → H p = none → H l = none → Pen H' p l → Q (.ref p) H'
theorem scPen : FnScope ["script"] ["script"] (defScope sPen) := ⟨rfl, rfl, rfl, by decide +kernel, rfl, by decide +kernel, by decide +kernel⟩
theorem ok_pen {f : Addr} {fd : FuncData} (F : Fun K "_law_pen" "_law_pen" sPen f fd) (T : Names mg) : FnOk P w K mg base CX0 1 f fd ["script"] (spPen K) := by
  refine F.ok scPen (fun vs H Q E h => ?_) (fun cdv A outer s H vs Q E hr h => ?_)
  · obtain ⟨a, ns, rfl, _⟩ := h
    rfl
  · obtain ⟨a, ns, rfl, hS, hlen, q⟩ := h
    refine ⟨_, pss_one (ps_ret (pe_lst (pa_cons (pe_callTy call_list_of (by rfl) T.list (by decide +kernel) (pa_cons (pe_slice sl_list (pv 0) po_none (po_some pe_int)) pa_nil)) (pa_cons pe_int (pa_cons pe_int pa_nil))))), ?_⟩
    refine ⟨.ref a, rfl, 63, rfl, a, _, rfl, hS, fun c nc => ?_⟩
    refine ⟨c, _, rfl, .inl (.inl (.inl upd_same)), fun l nl => ?_⟩
    refine ⟨by show 3 ≤ sizeLine; decide, fun p np => ?_⟩
    obtain ⟨m, em⟩ := cut_to (α := Int) (ns.map V.int) 63
    have em : cutV (ns.map V.int) none (some 63) = (ns.map V.int).take m := em
    have lp : l ≠ p := ne_of_none upd_same np
    have h1 := (Same.trans (Same.upd (o := .lst (cutV (ns.map V.int) none (some 63))) nc) (Same.trans (Same.upd (o := .lst (cutV (ns.map V.int) none (some 63))) nl) (Same.upd (o := .lst [.ref l, .int 0, .int 0]) np)))
    refine q p l _ h1 (Same.free (Same.trans (Same.upd nc) (Same.upd nl)) np) (Same.free (Same.upd nc) nl) ⟨ns.take m, 0, 0, upd_same, ?_, by decide⟩
    rw [upd_ne lp, upd_same, em, List.map_take]
/-! ### a fresh number -/
def spFresh : Sp := fun vs H Q _ => ∃ (a l : Addr), vs = [.ref a] ∧ Pen H a l ∧ ∀ (v : Int) H', But a H H' → Pen H' a l → Q (.int v) H'
theorem scFresh : FnScope ["pen", "at", "cell", "p", "one", "found", "turn"] ["pen"] (defScope sFresh) := ⟨rfl, rfl, rfl, by decide +kernel, rfl, by decide +kernel, by decide +kernel⟩
theorem ok_fresh {f : Addr} {fd : FuncData} (F : Fun K "_law_fresh" "_law_fresh" sFresh f fd) (T : Names mg) : FnOk P w K mg base CX0 1 f fd ["pen"] spFresh := by
  refine F.ok scFresh (fun vs H Q E h => ?_) (fun cdv A outer s H vs Q E hr h => ?_)
  · obtain ⟨a, l, rfl, _⟩ := h
    rfl
  · obtain ⟨a, l, rfl, ⟨cs, pos, val, ha, hl, hp⟩, q⟩ := h
    have hu : A.units + 3 + 64 < cLine := hr.units
    refine ⟨_, pss_cons (ps_set (i := 1) scFresh.nd rfl (.inl rfl) (pe_ix ix_list (pv 0) pe_int (fun _ _ => rfl)))
      (pss_cons (ps_asg (pe_op op_add (pv 1) pe_int) (pg_sub (pv 0) pe_int set_list))
      (pss_cons (ps_set (i := 2) scFresh.nd rfl (.inl rfl) pe_int)
      (pss_cons (ps_if (pt_cmpR (op_neD hu) (pe_ix ix_list (pv 0) pe_int (fun _ _ => rfl)) (pe_lst pa_nil) (nomark _))
        (pss_one (ps_set (i := 2) scFresh.nd rfl (.inl rfl) (pe_ix ix_list (pe_ix ix_list (pv 0) pe_int (fun _ _ => rfl)) (pe_op op_mod (pv 1) (pe_callB call_len_seq (by rfl) T.len PySem.boot_len (pa_cons (pe_ix ix_list (pv 0) pe_int (fun _ _ => rfl)) pa_nil))) (fun _ _ => rfl)))) pss_nil)
      (pss_cons (ps_if (PW.pt (pw_and (pt_cmpR op_lt (pv 1) (pe_callB call_len_seq (by rfl) T.len PySem.boot_len (pa_cons (pe_ix ix_list (pv 0) pe_int (fun _ _ => rfl)) pa_nil)) (nomark _)) (pw_and1 (pt_cmpR op_ge (pv 2) (pe_op op_pow pe_int pe_int) (nomark _)))))
        (pss_one (ps_ret (pe_op op_sub (pv 2) (pe_op op_pow pe_int pe_int)))) pss_nil)
      (pss_cons (ps_set (i := 3) scFresh.nd rfl (.inl rfl) pe_int)
      (pss_cons (ps_set (i := 4) scFresh.nd rfl (.inl rfl) (pe_op op_mod (pe_op op_add (pe_op op_add (pe_op op_mul (pv 2) pe_int) (pe_op op_mul pe_int (pv 1))) pe_int) (pv 3)))
      (pss_cons (ps_set (i := 5) scFresh.nd rfl (.inl rfl) (pv 4))
      (pss_cons (ps_for PassesOwn.never rfl (pi_range1 rfl T.range (pa_cons pe_int pa_nil)) (pg_name (i := 6) scFresh.nd rfl (.inl rfl))
        (pss_cons (ps_set (i := 4) scFresh.nd rfl (.inl rfl) (pe_op op_mod (pe_op op_add (pe_op op_add (pe_op op_mul (pv 4) (pv 4)) (pe_op op_mul (pe_op op_mul pe_int (pe_op op_add (pv 6) pe_int)) (pe_op op_add (pv 1) pe_int))) (pv 2)) (pv 3)))
        (pss_one (ps_set (i := 5) scFresh.nd rfl (.inl rfl) (pe_op op_add (pe_op op_mul (pv 5) (pv 3)) (pv 4))))))
      (pss_one (ps_ret (pv 5))))))))))), ?_⟩
    -- position = pen[1]; pen[1] = position + 1; cell = 0
    refine ⟨.ref a, rfl, a, _, 1, .int pos, rfl, rfl, SqL.of ha, atI_nat (j := 1) rfl, ?_⟩
    refine ⟨_, rfl, _, _, rfl, rfl, .ref a, rfl, a, _, 1, 1, rfl, rfl, ha, rfl, ?_⟩
    have ha1 : upd H a (.lst [.ref l, .int (pos + 1), .int val]) a = some (.lst [.ref l, .int (pos + 1), .int val]) := upd_same
    have hl1 : upd H a (.lst [.ref l, .int (pos + 1), .int val]) l = some (.lst (cs.map V.int)) := by
      rw [upd_ne (Pen.ne ha hl)]
      exact hl
    have b1 : But a H (upd H a (.lst [.ref l, .int (pos + 1), .int val])) := But.put
    change (_ : Hp → Prop) (upd H a (.lst [.ref l, .int (pos + 1), .int val]))
    generalize upd H a (.lst [.ref l, .int (pos + 1), .int val]) = H1 at ha1 hl1 b1 ⊢
    -- if pen[0] != []
    have ec : cs = [] ∨ ∃ x r, cs = x :: r := by
      cases cs with
      | nil => exact .inl rfl
      | cons x r => exact .inr ⟨x, r, rfl⟩
    dsimp only
    refine on (put_c ?_)
    dsimp only
    refine on (if_tail (fun σ H' => ∃ cell : Int, σ = [some (V.ref a), some (V.int pos), some (V.int cell), none, none, none, none] ∧ Same H1 H') ?_ (fun t => ?_))
    rotate_left
    · refine ⟨.ref a, rfl, a, _, 0, .ref l, rfl, rfl, SqL.of ha1, atI_nat (j := 0) rfl, Nat.zero_le _, fun e0 ne0 => ?_⟩
      have s2 : Same H1 (upd H1 e0 (.lst [])) := Same.upd ne0
      have ha2 := s2 _ _ ha1
      have hl2 := s2 _ _ hl1
      have d0 : Dp K (upd H1 e0 (.lst [])) (.ref e0) (.list []) := .lst (SqL.of upd_same) .nil
      generalize upd H1 e0 (.lst []) = H2 at s2 ha2 hl2 d0 ⊢
      refine ⟨.list (cs.map PyData.int), .list [], .lst (SqL.of hl2) (dpInts cs), d0, PySem.W.ke_shaped_ints cs, rfl, _, rfl, ?_⟩
      rcases ec with rfl | ⟨x, r, rfl⟩
      · exact iteF (t _ _ ⟨0, rfl, s2⟩)
      · refine iteT ?_
        have hpos : pos % (((x :: r).length : Nat) : Int) < ((x :: r).length : Nat) ∧ 0 ≤ pos % (((x :: r).length : Nat) : Int) := by
          have : (0 : Int) < ((x :: r).length : Nat) := by rw [List.length_cons]; omega
          exact ⟨Int.emod_lt_of_pos _ this, Int.emod_nonneg _ (by omega)⟩
        obtain ⟨j, ej⟩ : ∃ j : Nat, pos % (((x :: r).length : Nat) : Int) = (j : Int) := ⟨(pos % (((x :: r).length : Nat) : Int)).toNat, by omega⟩
        have hj : j < (x :: r).length := by omega
        refine ⟨.ref a, rfl, a, _, 0, .ref l, rfl, rfl, SqL.of ha2, atI_nat (j := 0) rfl, .int pos, rfl, .ref a, rfl, a, _, 0, .ref l, rfl, rfl, SqL.of ha2, atI_nat (j := 0) rfl, l, _, rfl, .inl (SqL.of hl2), _, _, rfl, rfl, ?_, ?_⟩
        · show (0 : Int) < _
          rw [List.length_map, List.length_cons]
          omega
        · refine ⟨l, _, _, .int (x :: r)[j], rfl, rfl, SqL.of hl2, ?_, t _ _ ⟨_, rfl, s2⟩⟩
          rw [List.length_map, ej]
          exact atI_nat (by rw [List.getElem?_map, List.getElem?_eq_getElem hj]; rfl)
    · rintro σ H' ⟨cell, rfl, s2⟩
      have ha2 := s2 _ _ ha1
      have hl2 := s2 _ _ hl1
      have b2 : But a H H' := b1.trans (But.of s2)
      have p2 : Pen H' a l := ⟨cs, pos + 1, val, ha2, hl2, by omega⟩
      -- if position < len(pen[0]) and cell >= 10 ** 18: return cell - 10 ** 18
      dsimp only
      refine on (if_tail (fun σ H3 => σ = [some (V.ref a), some (V.int pos), some (V.int cell), none, none, none, none] ∧ H3 = H') ?_ (fun t => ?_))
      rotate_left
      · refine ⟨_, rfl, .ref a, rfl, a, _, 0, .ref l, rfl, rfl, SqL.of ha2, atI_nat (j := 0) rfl, l, _, rfl, .inl (SqL.of hl2), _, _, rfl, rfl, _, rfl, ite2 (fun _ => ?_) (fun _ => iteF (t _ _ ⟨rfl, rfl⟩))⟩
        refine ⟨_, rfl, _, _, rfl, rfl, ⟨by decide, by decide, by decide⟩, _, _, rfl, rfl, _, rfl, ite2 (fun _ => ?_) (fun _ => t _ _ ⟨rfl, rfl⟩)⟩
        exact ⟨_, rfl, _, _, rfl, rfl, ⟨by decide, by decide, by decide⟩, _, _, rfl, rfl, q _ _ b2 p2⟩
      · rintro σ H3 ⟨rfl, rfl⟩
        -- state, mixed, the six turns
        refine ⟨_, rfl, _, _, rfl, rfl, .inr ⟨by decide, by decide⟩, _, rfl, _, _, rfl, rfl, .inl ⟨by decide, by decide⟩, _, _, rfl, rfl, _, _, rfl, rfl, _, rfl, _, _, rfl, rfl, (by show (0 : Int) < 2305843009213693951; decide), _, rfl,
          6, rfl, by decide, by decide, for_range (lo := 0) (n := 6) (fun i σ H4 => ∃ (st mx : Int) (v : Option V), σ = [some (V.ref a), some (V.int pos), some (V.int cell), some (V.int 2305843009213693951), some (V.int st), some (V.int mx), v] ∧ H4 = H3 ∧ 0 ≤ st ∧ st < 2305843009213693951)
            ⟨_, _, none, rfl, rfl, Int.emod_nonneg _ (by decide), Int.emod_lt_of_pos _ (by decide)⟩ ?_ ?_⟩
        · rintro i σ H4 hi ⟨st, mx, v, rfl, rfl, h0, h1⟩
          refine ⟨_, rfl, _, rfl, _, _, rfl, rfl, .inl ⟨by omega, by omega⟩, _, rfl, _, _, rfl, rfl, _, _, rfl, rfl, .inl ⟨by decide, by decide⟩, _, rfl, _, _, rfl, rfl, _, _, rfl, rfl, .inl ⟨by show -(2 ^ 64) < (69621 : Int) * (0 + (i : Int) + 1); omega, by show (69621 : Int) * (0 + (i : Int) + 1) < 2 ^ 64; omega⟩, _, _, rfl, rfl,
            _, rfl, _, _, rfl, rfl, _, rfl, _, _, rfl, rfl, (by show (0 : Int) < 2305843009213693951; decide), _, rfl, _, rfl, _, _, rfl, rfl, .inr ⟨by decide, by decide⟩, _, rfl, _, _, rfl, rfl, ?_⟩
          exact ⟨_, _, _, rfl, rfl, Int.emod_nonneg _ (by decide), Int.emod_lt_of_pos _ (by decide)⟩
        · rintro σ H4 ⟨st, mx, v, rfl, rfl, h0, h1⟩
          exact ⟨_, rfl, q _ _ b2 p2⟩
/-! ### a number below a bound -/
def spDraw : Sp := fun vs H Q _ => ∃ (a l : Addr) (b : Int), vs = [.ref a, .int b] ∧ Pen H a l ∧ 0 < b ∧ b.natAbs.log2 < 9000 ∧ ∀ (d : Int) H', 0 ≤ d → d < b → But a H H' → Pen H' a l → Q (.int d) H'
theorem scDraw : FnScope ["pen", "many", "digit"] ["pen", "many"] (defScope sDraw) := ⟨rfl, rfl, rfl, by decide +kernel, rfl, by decide +kernel, by decide +kernel⟩
theorem ok_draw {f g : Addr} {fd gd : FuncData} (F : Fun K "_law_draw" "_law_draw" sDraw f fd) (GF : FnOk P w K mg base CX0 1 g gd ["pen"] spFresh) (mF : mg "_law_fresh" = some (.ref g)) (kF : PySem.W.keepIn K (.ref g) = true) (bF : Binds K gd ["pen"] []) :
    FnOk P w K mg base CX0 2 f fd ["pen", "many"] spDraw := by
  refine F.ok scDraw (fun vs H Q E h => ?_) (fun cdv A outer s H vs Q E hr h => ?_)
  · obtain ⟨a, l, b, rfl, _⟩ := h
    rfl
  · obtain ⟨a, l, b, rfl, pn, hb, hb2, q⟩ := h
    refine ⟨_, pss_cons (ps_if (pt_cmpR op_lt (pe_ix ix_list (pv 0) pe_int (fun _ _ => rfl)) (pv 1) (nomark _))
        (pss_one (ps_asg (pe_call GF hr (by rfl) mF kF bF .nil pass0 (pa_cons (pv 0) pa_nil)) (pg_sub (pv 0) pe_int set_list))) pss_nil)
      (pss_cons (ps_set (i := 2) scDraw.nd rfl (.inl rfl) (pe_op op_mod (pe_ix ix_list (pv 0) pe_int (fun _ _ => rfl)) (pv 1)))
      (pss_cons (ps_asg (pe_op op_fdivW (pe_ix ix_list (pv 0) pe_int (fun _ _ => rfl)) (pv 1)) (pg_sub (pv 0) pe_int set_list))
      (pss_one (ps_ret (pv 2))))), ?_⟩
    refine on (if_tail (fun σ H' => σ = [some (V.ref a), some (V.int b), none] ∧ Pen H' a l ∧ But a H H') ?_ (fun t => ?_))
    rotate_left
    · obtain ⟨cs, pos, val, ha, hl, hp⟩ := id pn
      refine ⟨.ref a, rfl, a, _, 2, .int val, rfl, rfl, SqL.of ha, atI_nat (j := 2) rfl, _, rfl, _, _, rfl, rfl, _, rfl, ite2 (fun _ => ?_) (fun _ => t _ _ ⟨rfl, pn, But.refl _ _⟩)⟩
      refine ⟨.ref a, rfl, a, l, rfl, pn, fun v H1 b1 p1 => ?_⟩
      obtain ⟨cs, pos, val, ha, hl, hp⟩ := p1
      exact ⟨.ref a, rfl, a, _, 2, 2, rfl, rfl, ha, rfl, t _ _ ⟨rfl, Pen.put ha hl hp, b1.trans But.put⟩⟩
    · rintro σ H1 ⟨rfl, ⟨cs, pos, val, ha, hl, hp⟩, b1⟩
      refine ⟨.ref a, rfl, a, _, 2, .int val, rfl, rfl, SqL.of ha, atI_nat (j := 2) rfl, _, rfl, _, _, rfl, rfl, hb, .ref a, rfl, a, _, 2, .int val, rfl, rfl, SqL.of ha, atI_nat (j := 2) rfl, _, rfl, _, _, rfl, rfl, ⟨hb, hb2⟩, .ref a, rfl, a, _, 2, 2, rfl, rfl, ha, rfl, _, rfl, ?_⟩
      exact q _ _ (Int.emod_nonneg _ (by omega)) (Int.emod_lt_of_pos _ hb) (b1.trans But.put) (Pen.put ha hl hp)
end
end Z

set_option Elab.async false
set_option linter.all false
set_option maxRecDepth 100000
set_option maxHeartbeats 4000000
/-! operators and calls that the layer has for fewer numbers -/
namespace OPS
open PySem PySem.Spec PyProof.Rows L2
section
variable {X : Cx}
/-- a divisor of either sign -/
def CDivZ (_ j : Int) : Prop := j ≠ 0 ∧ j.natAbs.log2 < 9000
theorem op_fdivZ : OpR X (binaryOp .FloorDiv) (rI CDivZ fun i j => .int (i.fdiv j)) := opI fun _ _ _ _ _ _ _ c q => floordiv_int c.1 q (.inl (PyProof.noPylong_of_log2 c.2))
theorem call_divmodZ : CallR X (.builtin "divmod") (fun vs H Q => ∃ i j : Int, vs = [.int i, .int j] ∧ CDivZ i j ∧ ∀ p, H p = none → Q (.ref p) (upd H p (.tup [.int (i.fdiv j), .int (i.fmod j)]))) := by
  intro pins s σ H vs us Q I r h
  obtain ⟨i, j, ev, c, q⟩ := h
  subst ev
  obtain ⟨u, v, eu, ⟨t, et⟩, ⟨t', et'⟩⟩ := vals2 r
  subst eu et et'
  apply divmod_int c.1 _ (.inl (PyProof.noPylong_of_log2 c.2))
  have free : H s.heap.objs.size = none := I.hok.fresh (Nat.le_refl _)
  refine ⟨.ref s.heap.objs.size, _, I.laid (fun b o e => Heap.get?_push_of_some _ e) (Nat.le_refl _) ?_, rfl, q _ free⟩
  exact ⟨by show 2 ≤ sizeLine; decide, [.int (i.fdiv j) s.toks, .int (i.fmod j) (s.toks + 1)], .cons ⟨_, rfl⟩ (.cons ⟨_, rfl⟩ .nil), ⟨_, Heap.get?_push_size s.heap rfl, rfl, 0, rfl⟩⟩
/-- xs[i] as read ahead of xs[i] op= .. -/
theorem get_list : PGet X (fun o i H Q => ∃ (p : Addr) (xs : List V) (k : Nat) (v : V), o = .ref p ∧ i = .int (k : Int) ∧ SqL X.K H p xs ∧ xs[k]? = some v ∧ Q v H) := by
  intro pins s σ H o i ov iv Q I ro ri h
  obtain ⟨p, xs, k, v, eo, ei, hq, hv, q⟩ := h
  subst eo ei
  have eov : ov = Value.ref p := ro
  subst eov
  obtain ⟨t, et⟩ := ri
  subst et
  obtain ⟨its, r, pl, hz⟩ := I.list hq
  obtain ⟨u, hu, ru⟩ := r.get hv
  have lt : k < its.length := (List.getElem?_eq_some_iff.mp hu).1
  have hl := r.length
  have hn := line63
  refine wpAny_getItem_list pl.isList (by omega) (by omega) (x := u) (by simpa using hu) ⟨v, H, I, ru, q⟩
/-- any(xs), xs a list of ints -/
def rAnyI (K : PySem.W.Frag) : List V → Hp → VK → Prop := fun vs H Q => ∃ (a : Addr) (ns : List Int), vs = [.ref a] ∧ SqL K H a (ns.map V.int) ∧ Q (.bl (ns.any fun n => n != 0)) H
theorem dpI {K : PySem.W.Frag} {H : Hp} : ∀ ns : List Int, DpAll K H (ns.map V.int) (ns.map PyData.int)
  | [] => .nil
  | n :: r => .cons (.int n) (dpI r)
theorem plain_ints : ∀ ns : List Int, PyData.plainAll (ns.map PyData.int) = true
  | [] => rfl
  | _ :: r => by simp [PyData.plainAll, PyData.plain, plain_ints r]
theorem any_truthy : ∀ ns : List Int, (ns.map PyData.int).any PyData.truthy = ns.any fun n => n != 0
  | [] => rfl
  | n :: r => by simp [PyData.truthy, List.any_map]; rfl
theorem call_anyI (calm : X.calm = true) : CallR X (.builtin "any") (rAnyI X.K) := by
  intro pins s σ H vs us Q I r h
  obtain ⟨a, ns, ev, hs, q⟩ := h
  subst ev
  rw [Vals.ref1 r]
  obtain ⟨as, reads⟩ := Dp.reads I (.list (ns.map PyData.int)) (.ref a) (.ref a) (.lst hs (dpI ns)) rfl
  obtain ⟨its, rv, hl, _⟩ := I.list hs
  cases reads with
  | list hg hc hd hr =>
    rename_i o vs n bs
    refine PySem.W.any_list_data (vs := vs) (I.ok.hd calm) ⟨_, hg, hc, _, hd⟩ hr (plain_ints ns) (fun x hx => ?_) fun h' tk hk => ?_
    · obtain ⟨n, _, rfl⟩ := List.mem_map.mp hx
      trivial
    · exact ⟨.bl _, H, I.kept hk, by rw [any_truthy]; rfl, q⟩
end
end OPS

set_option Elab.async false
set_option linter.all false
set_option maxRecDepth 100000
/-! any over a tuple of ints; isinstance within comprehensions -/
namespace ANT
open PySem PySem.Spec PyProof.Rows L2 GG OPS
variable {X : Cx}
def rAnyT (K : PySem.W.Frag) : List V → Hp → VK → Prop := fun vs H Q => ∃ (a : Addr) (ns : List Int), vs = [.ref a] ∧ SqT K H a (ns.map V.int) ∧ Q (.bl (ns.any fun n => n != 0)) H
theorem call_anyT (calm : X.calm = true) : CallR X (.builtin "any") (rAnyT X.K) := by
  intro pins s σ H vs us Q I r h
  obtain ⟨a, ns, ev, hs, q⟩ := h
  subst ev
  rw [Vals.ref1 r]
  obtain ⟨as, reads⟩ := Dp.reads I (.tuple (ns.map PyData.int)) (.ref a) (.ref a) (.tup hs (dpI ns)) rfl
  cases reads with
  | tuple hg hc hd hr =>
    rename_i o vs n
    refine PySem.W.any_tuple_data (vs := vs) (I.ok.hd calm) ⟨_, hg, hc, _, hd⟩ hr (plain_ints ns) (fun x hx => ?_) fun h' tk hk => ?_
    · obtain ⟨n, _, rfl⟩ := List.mem_map.mp hx
      trivial
    · exact ⟨.bl _, H, I.kept hk, by rw [any_truthy]; rfl, q⟩
theorem call_isiK {K : PySem.W.Frag} (hK : X.K = K) : CallR X (.builtin "isinstance") (rIsi K) := by
  subst hK
  exact call_isi
end ANT

set_option Elab.async false
set_option linter.all false
set_option maxRecDepth 100000
set_option maxHeartbeats 4000000
/-! data with empty dicts in it, and its text: lists that do not lie at the address of sys.modules -/
namespace TPD
open PySem PySem.Spec PyProof.Rows L2 GG
mutual
inductive Tp (K : PySem.W.Frag) (H : Hp) : V → PyData → Prop
  | non : Tp K H .non .none
  | bl (b : Bool) : Tp K H (.bl b) (.bool b)
  | int (i : Int) : Tp K H (.int i) (.int i)
  | str (x : Str) : Tp K H (.str x) (.str x)
  | lst {a : Addr} {xs : List V} {ds : List PyData} : sysModules < a → SqL K H a xs → TpAll K H xs ds → Tp K H (.ref a) (.list ds)
  | tup {a : Addr} {xs : List V} {ds : List PyData} : SqT K H a xs → TpAll K H xs ds → Tp K H (.ref a) (.tuple ds)
  | dic {a : Addr} : H a = some (.dK []) → Tp K H (.ref a) (.dict [])
inductive TpAll (K : PySem.W.Frag) (H : Hp) : List V → List PyData → Prop
  | nil : TpAll K H [] []
  | cons {v : V} {vs : List V} {d : PyData} {ds : List PyData} : Tp K H v d → TpAll K H vs ds → TpAll K H (v :: vs) (d :: ds)
end
section
variable {X : Cx} {pins : List (Addr × Obj)} {σ : L2.St} {H : Hp} {s : Shared}
mutual
theorem Tp.reads (I : Inv X pins σ H s) : ∀ (d : PyData) (v : V) (u : Value), Tp X.K H v d → RelV v u → ∃ as, Reads s.heap u d as ∧ sysModules ∉ as
  | .none, _, _, h, r => by
    cases h
    cases r
    exact ⟨_, Reads.none, by simp⟩
  | .bool b, _, _, h, r => by
    cases h
    cases r
    exact ⟨_, Reads.bool b, by simp⟩
  | .int i, _, _, h, r => by
    cases h
    obtain ⟨t, rfl⟩ := r
    exact ⟨_, Reads.int i t, by simp⟩
  | .str x, _, _, h, r => by
    cases h
    obtain ⟨t, rfl⟩ := r
    exact ⟨_, Reads.str x t, by simp⟩
  | .list ds, _, _, h, r => by
    cases h with
    | lst hb hs ha =>
      cases r
      obtain ⟨its, rv, ⟨o, n, ho, hc, _, hd⟩, _⟩ := I.list hs
      obtain ⟨as, hr, na⟩ := Tp.readsAll I ds _ its ha rv
      exact ⟨_, Reads.list ho hc hd hr, fun m => by
        rcases List.mem_cons.mp m with e | m
        · rw [← e] at hb
          exact Nat.lt_irrefl _ hb
        · exact na m⟩
  | .tuple ds, _, _, h, r => by
    cases h with
    | tup hs ha =>
      cases r
      obtain ⟨its, rv, ⟨o, ho, hc, n, hd⟩, _⟩ := I.tuple hs
      obtain ⟨as, hr, na⟩ := Tp.readsAll I ds _ its ha rv
      exact ⟨_, Reads.tuple ho hc hd hr, na⟩
  | .dict kvs, _, _, h, r => by
    cases h with
    | @dic a e =>
      cases r
      obtain ⟨_, low, vs, kv, dd⟩ := dk_of I.hok e
      cases kv
      obtain ⟨o, es, ep, ho, ex, hdt, _, pr, _⟩ := dd
      have hl := pr.length
      have e0 : es.toList = [] := List.length_eq_zero_iff.mp hl
      refine ⟨_, Reads.dict ho ex.1 hdt (as := []) (bs := []) (by rw [e0]; exact .nil) (by rw [e0]; exact .nil), fun m => ?_⟩
      have h2 : sysModules = a := by simpa using m
      rw [← h2] at low
      simp at low
theorem Tp.readsAll (I : Inv X pins σ H s) : ∀ (ds : List PyData) (vs : List V) (us : List Value), TpAll X.K H vs ds → Vals vs us → ∃ as, ReadsAll s.heap us ds as ∧ sysModules ∉ as
  | [], _, _, h, r => by
    cases h
    cases r
    exact ⟨_, ReadsAll.nil, by simp⟩
  | d :: ds, _, _, h, r => by
    cases h with
    | cons h1 h2 =>
      cases r with
      | cons r1 r2 =>
        obtain ⟨as, q1, n1⟩ := Tp.reads I d _ _ h1 r1
        obtain ⟨bs, q2, n2⟩ := Tp.readsAll I ds _ _ h2 r2
        exact ⟨_, ReadsAll.cons q1 q2, fun m => by
          rcases List.mem_append.mp m with m | m
          · exact n1 m
          · exact n2 m⟩
end
end
section
variable {X : Cx}
/-- repr of such data -/
structure ShowsT (d : PyData) : Prop where
  s : d.showable = true
  p : d.depth ≤ 50
  z : d.shown.length ≤ sizeLine
def rReprT (K : PySem.W.Frag) : List V → Hp → VK → Prop := fun vs H Q => ∃ (a : Addr) (d : PyData), vs = [.ref a] ∧ Tp K H (.ref a) d ∧ ShowsT d ∧ Q (.str d.shown) H
theorem call_reprT {k : Nat} (hg : X.A.guards = some []) (room : Room k X.A) : CallR X (.builtin "repr") (rReprT X.K) := by
  intro pins s σ H vs us Q I r h
  obtain ⟨a, d, rfl, hd, hs, q⟩ := h
  obtain ⟨u, rfl, ru⟩ := vals1 r
  have eu : u = Value.ref a := ru
  subst eu
  obtain ⟨as, reads, na⟩ := Tp.reads I d (.ref a) (.ref a) hd rfl
  have hu := room.un
  have hp := hs.p
  refine repr_of_reads' reads hs.s (fun _ => na) hg (by omega) (fun _ _ e => e) (fun h' u tk hk => ?_) hs.z
  exact ⟨.str d.shown, H, I.kept hk, ⟨u, rfl⟩, q⟩
/-- [..]: a new list, and where it does not lie -/
def tLstS (t : TA) : TE := fun σ H Q => t σ H fun xs H1 => xs.length ≤ sizeLine ∧ ∀ l, sysModules < l → H1 l = none → Q (.ref l) (upd H1 l (.lst xs))
variable {es : List Expr} {t : TA} {pos : Pos}
theorem pe_lstS (h : PA X es t) : PE X (.List es pos) (tLstS t) := by
  refine ⟨fun pins s σ H Q I hq => ?_⟩
  refine wpAny_List_spliced (thn (h.run pos pins s σ H _ I hq) fun us s1 ⟨xs, H1, I1, r, z, q⟩ => ⟨by rw [← r.length]; exact z, ?_⟩)
  have hf : H1 s1.heap.objs.size = none := I1.hok.fresh (Nat.le_refl _)
  refine ⟨.ref s1.heap.objs.size, upd H1 s1.heap.objs.size (.lst xs), I1.laid (t' := s1.toks) (fun b u e => Heap.get?_push_of_some _ e) (Nat.le_refl _) ?_, rfl, q _ I1.big hf⟩
  exact ⟨z, us, 0, r, Heap.get?_push_size _ rfl⟩
/-- list(x): a new list, and where it does not lie -/
theorem call_listS : CallR X (.type "list") (fun xs H Q => ∃ p ys, xs = [.ref p] ∧ (SqL X.K H p ys ∨ SqT X.K H p ys) ∧ ∀ l, sysModules < l → H l = none → Q (.ref l) (upd H l (.lst ys))) := by
  intro pins s σ H xs us Q I r h
  obtain ⟨p, ys, rfl, hq, q⟩ := h
  obtain ⟨u, rfl, rx⟩ := vals1 r
  cases rx
  have fin : ∀ (its : List Value), Vals ys its → ys.length ≤ sizeLine → ∀ (h' : Heap) (c' : Nat), (∀ b o', s.heap.get? b = some o' → h'.get? b = some o') →
      h'.get? s.heap.objs.size = some { cls := .type "list", dict := none, data := .seq its.toArray c', slots := #[] } → EP X pins σ Q (.ref s.heap.objs.size) { s with heap := h' } := fun its r' hz h' c' kp e =>
    ⟨.ref s.heap.objs.size, _, I.laid (t' := s.toks) kp (Nat.le_refl _) (show ObjOk X.prog X.w _ h' _ (.lst ys) from ⟨hz, its, c', r', e⟩), rfl, q _ I.big (I.hok.fresh (Nat.le_refl _))⟩
  rcases hq with hq | hq
  · obtain ⟨its, r', pl, hz⟩ := I.list hq
    have hlen := r'.length
    obtain ⟨o, ho, hc, n, hd⟩ := pl.isList
    exact call_list_seq p (.inl rfl) ho hc hd (fun h' c' kp e => fin its r' hz h' c' kp e) (by simp only [List.size_toArray] <;> omega)
  · obtain ⟨its, r', pl, hz⟩ := I.tuple hq
    have hlen := r'.length
    obtain ⟨o, ho, hc, n, hd⟩ := pl
    exact call_list_seq p (.inr rfl) ho hc hd (fun h' c' kp e => fin its r' hz h' c' kp e) (by simp only [List.size_toArray] <;> omega)
end
end TPD

set_option Elab.async false
set_option linter.all false
set_option maxRecDepth 100000
set_option maxHeartbeats 4000000
/-! kinds of data -/
namespace TPD
open PySem PySem.Spec PyProof.Rows L2 GG
def tyD : PyData → String
  | .none => "NoneType"
  | .bool _ => "bool"
  | .int _ => "int"
  | .str _ => "str"
  | .list _ => "list"
  | .tuple _ => "tuple"
  | .dict _ => "dict"
theorem kit_int : ∀ d : PyData, kitB (tyD d) "int" = some (match d with | .int _ => true | .bool _ => true | _ => false)
  | .none => by decide +kernel
  | .bool _ => by show kitB "bool" "int" = some true; decide +kernel
  | .int _ => by show kitB "int" "int" = some true; decide +kernel
  | .str _ => by show kitB "str" "int" = some false; decide +kernel
  | .list _ => by show kitB "list" "int" = some false; decide +kernel
  | .tuple _ => by show kitB "tuple" "int" = some false; decide +kernel
  | .dict _ => by show kitB "dict" "int" = some false; decide +kernel
theorem kit_bool : ∀ d : PyData, kitB (tyD d) "bool" = some (match d with | .bool _ => true | _ => false)
  | .none => by decide +kernel
  | .bool _ => by show kitB "bool" "bool" = some true; decide +kernel
  | .int _ => by show kitB "int" "bool" = some false; decide +kernel
  | .str _ => by show kitB "str" "bool" = some false; decide +kernel
  | .list _ => by show kitB "list" "bool" = some false; decide +kernel
  | .tuple _ => by show kitB "tuple" "bool" = some false; decide +kernel
  | .dict _ => by show kitB "dict" "bool" = some false; decide +kernel
theorem kit_tup : ∀ d : PyData, kitB (tyD d) "tuple" = some (match d with | .tuple _ => true | _ => false)
  | .none => by decide +kernel
  | .bool _ => by show kitB "bool" "tuple" = some false; decide +kernel
  | .int _ => by show kitB "int" "tuple" = some false; decide +kernel
  | .str _ => by show kitB "str" "tuple" = some false; decide +kernel
  | .list _ => by show kitB "list" "tuple" = some false; decide +kernel
  | .tuple _ => by show kitB "tuple" "tuple" = some true; decide +kernel
  | .dict _ => by show kitB "dict" "tuple" = some false; decide +kernel
theorem sql_ty {K : PySem.W.Frag} {H : Hp} {a : Addr} {xs : List V} (h : SqL K H a xs) : TyX K H (.ref a) (.type "list") := by
  rcases h with (h | ⟨o, h⟩) | ⟨o, its, n, e, c, _⟩
  · exact .base (.lst h)
  · exact .base (.frz h)
  · exact .kList e c
theorem sqt_ty {K : PySem.W.Frag} {H : Hp} {a : Addr} {xs : List V} (h : SqT K H a xs) : TyX K H (.ref a) (.type "tuple") := by
  rcases h with (h | ⟨o, h⟩) | ⟨o, its, n, e, c, _⟩
  · exact .base (.tup h)
  · exact .fTuple h
  · exact .kTuple e c
theorem Tp.ty {K : PySem.W.Frag} {H : Hp} {v : V} {d : PyData} (h : Tp K H v d) : TyX K H v (.type (tyD d)) := by
  cases h with
  | non => exact .base .non
  | bl b => exact .base (.bl b)
  | int i => exact .base (.int i)
  | str x => exact .base (.str x)
  | lst _ s _ => exact sql_ty s
  | tup s _ => exact sqt_ty s
  | dic e => exact .base (.dK e)
theorem sqt_same {K : PySem.W.Frag} {H H' : Hp} {a : Addr} {xs : List V} (s : Same H H') (h : SqT K H a xs) : SqT K H' a xs := by
  rcases h with (h | ⟨o, h⟩) | h
  · exact .inl (.inl (s _ _ h))
  · exact .inl (.inr ⟨o, s _ _ h⟩)
  · exact .inr h
theorem sql_same {K : PySem.W.Frag} {H H' : Hp} {a : Addr} {xs : List V} (s : Same H H') (h : SqL K H a xs) : SqL K H' a xs := by
  rcases h with (h | ⟨o, h⟩) | h
  · exact .inl (.inl (s _ _ h))
  · exact .inl (.inr ⟨o, s _ _ h⟩)
  · exact .inr h
mutual
theorem Tp.same {K : PySem.W.Frag} {H H' : Hp} (s : Same H H') : ∀ (d : PyData) (v : V), Tp K H v d → Tp K H' v d
  | .none, _, h => by cases h; exact .non
  | .bool b, _, h => by cases h; exact .bl b
  | .int i, _, h => by cases h; exact .int i
  | .str x, _, h => by cases h; exact .str x
  | .list ds, _, h => by
    cases h with
    | lst hb hs ha => exact .lst hb (sql_same s hs) (Tp.sameAll s ds _ ha)
  | .tuple ds, _, h => by
    cases h with
    | tup hs ha => exact .tup (sqt_same s hs) (Tp.sameAll s ds _ ha)
  | .dict _, _, h => by
    cases h with
    | dic e => exact .dic (s _ _ e)
theorem Tp.sameAll {K : PySem.W.Frag} {H H' : Hp} (s : Same H H') : ∀ (ds : List PyData) (vs : List V), TpAll K H vs ds → TpAll K H' vs ds
  | [], _, h => by cases h; exact .nil
  | d :: ds, _, h => by
    cases h with
    | cons h1 h2 => exact .cons (Tp.same s d _ h1) (Tp.sameAll s ds _ h2)
end
end TPD

set_option Elab.async false
set_option linter.all false
set_option maxRecDepth 100000
set_option maxHeartbeats 4000000
/-! any data with empty dicts, compared with a text -/
namespace EQD
open PySem PySem.Spec PyProof.Rows L2 GG TPD
theorem not_by_dict (d : Addr) (data : Data) (dd : Option Addr) (sl : Array (Option Value)) (b : Str) (u : Tok) :
    Meets (Builtin.«dict.__eq__» ⟨[.ref d, .str b u], []⟩) (fun _ R s => s.heap.get? d = some { cls := .type "dict", dict := dd, data := data, slots := sl } ∧ R (.ok (.ret .notImplemented)) s) := by
  refine .of_wp fun prog w A R s h => ?_
  obtain ⟨hp, g, dr, tk, os⟩ := s
  obtain ⟨here, h⟩ := h
  have no := F.sub_str_dict
  wp_walk using wpAny_loadPart' here, wpAny_load here
  exact ⟨_, rfl, h⟩
theorem not_by_text (b : Str) (u : Tok) (d : Addr) (es : Array DictEntry) (ep : Nat) (dd : Option Addr) (sl : Array (Option Value)) :
    Meets (Builtin.«str.__eq__» ⟨[.str b u, .ref d], []⟩) (fun _ R s => s.heap.get? d = some { cls := .type "dict", dict := dd, data := .dict es ep, slots := sl } ∧ R (.ok (.ret .notImplemented)) s) := by
  refine .of_wp fun prog w A R s h => ?_
  obtain ⟨hp, g, dr, tk, os⟩ := s
  obtain ⟨here, h⟩ := h
  have no := F.sub_dict_str
  wp_walk using wpAny_loadPart' here, wpAny_load here
  exact ⟨_, rfl, h⟩
section
variable {A : Around} {s : Shared}
theorem empty_text {d : Addr} {o : Obj} {es : Array DictEntry} {ep : Nat} (b : Str) (u : Tok) (ho : s.heap.get? d = some o) (hc : o.cls = .type "dict") (hd : o.data = .dict es ep) (hu : A.units < cLine) : SeqAt.RcAt A s (.ref d) (.str b u) false := by
  intro prog w E Q h
  obtain ⟨cls, dd, data, sl⟩ := o
  simp only at hc hd
  subst hc hd
  refine SeqAt.rc_eq_decline_or (k := false) ⟨_, ho, rfl⟩ (typeIs_str s b u) (by decide) F.sub_str_dict F.slot_dict_eq F.slot_str_eq_refl (fun Q' hq => ?_) (fun Q' hq => ?_) (fun Q' hq => ?_) (.inr hu) h
  · exact call_meets F.slot_dict_eq ⟨_, ho, rfl⟩ F.entry_dict_eq (F.args_dict_eq_2 _ _) (not_by_dict d _ dd sl b u) ⟨ho, hq⟩
  · exact call_meets F.slot_str_eq_refl (typeIs_str s b u) F.entry_str_eq (F.args_str_eq_2 _ _) (not_by_text b u d es ep dd sl) ⟨ho, hq⟩
  · exact wpAny_of_eq (rfl : isSame (.ref d) (.str b u) = pure false) hq
end
section
variable {X : Cx}
/-- is it that text? -/
def isText (d : PyData) (b : Str) : Bool := match d with
  | .str x => x == b
  | _ => false
def rText (K : PySem.W.Frag) : R2 := fun x y H Q => ∃ (d : PyData) (b : Str), Tp K H x d ∧ y = .str b ∧ Q (.bl (isText d b)) H
theorem op_text {K : PySem.W.Frag} (hK : X.K = K) (hu : X.A.units < cLine) : OpR X (compareOp .Eq) (rText K) := by
  subst hK
  intro pins s σ H x y v u Q I rx ry h
  obtain ⟨d, b, hd, rfl, q⟩ := h
  obtain ⟨t, rfl⟩ := ry
  have fin : ∀ c : Bool, isText d b = c → EP X pins σ Q (.bool c) s := fun c e => ⟨.bl c, H, I, rfl, by rw [← e]; exact q⟩
  cases hd with
  | non =>
    cases rx
    exact SeqAt.RcAt.none_str b t _ _ _ _ (fin false rfl)
  | bl c =>
    cases rx
    exact SeqAt.RcAt.bool_str c b t _ _ _ _ (fin false rfl)
  | int i =>
    obtain ⟨t2, rfl⟩ := rx
    exact SeqAt.RcAt.int_str i t2 b t _ _ _ _ (fin false rfl)
  | str z =>
    obtain ⟨t2, rfl⟩ := rx
    exact SeqAt.RcAt.str_str z t2 b t _ _ _ _ (fin (z == b) rfl)
  | lst hb hs ha =>
    cases rx
    obtain ⟨its, rv, pl, _⟩ := I.list hs
    exact SeqAt.RcAt.list_str b t pl.isList hu _ _ _ _ (fin false rfl)
  | tup hs ha =>
    cases rx
    obtain ⟨its, rv, pl, _⟩ := I.tuple hs
    exact SeqAt.RcAt.tuple_str b t pl hu _ _ _ _ (fin false rfl)
  | dic e =>
    cases rx
    obtain ⟨_, low, vs, kv, dd⟩ := dk_of I.hok e
    obtain ⟨o, es, ep, ho, ex, hdt, _, _, _⟩ := dd
    exact empty_text b t ho ex.1 hdt hu _ _ _ _ (fin false rfl)
end
end EQD

set_option Elab.async false
set_option maxRecDepth 100000
set_option maxHeartbeats 4000000
/-! enumerate(t), t a tuple -/
namespace EN
open PySem PySem.Spec PyProof.Rows L2
open Sem (wp)
theorem new_enum {v : Value} {o : Obj} {G : Heap → Prop} (B : Begins v o G) :
    Meets (Builtin.«enumerate.__new__» ⟨[.type "enumerate", v], []⟩) (fun _ R s => G s.heap ∧
      R (.ok (.ret (.ref (s.heap.push o).objs.size)))
        { s with heap := (s.heap.push o).push { cls := .type "enumerate", data := .fields #[.none, .bool false, .ref s.heap.objs.size, rawInt 0, .none, .none] } }) := by
  refine .of_wp fun prog w A R s h => ?_
  obtain ⟨hp, g, d, tk, os⟩ := s
  obtain ⟨hG, h⟩ := h
  have sub := sub_enumerate
  have begin_ : ∀ {A' : Around} {E : Value → Shared → Prop} {Q : Value → Shared → Prop}, Q (.ref hp.objs.size) ⟨hp.push o, g, d, tk, os⟩ →
      wpAny (model prog w) A' (pyIter v) Q E ⟨hp, g, d, tk, os⟩ := fun q => B.iter prog w _ _ ⟨hp, g, d, tk, os⟩ _ hG q
  wp_walk using begin_
  refine wpAny_stack_any fun st => wpAny_pure ?_
  split
  · rename_i c _ _ _ _ _
    cases (c == Value.type "enumerate")
    all_goals
      wp_walk using begin_
      exact ⟨_, rfl, h⟩
  · wp_walk using begin_
    exact ⟨_, rfl, h⟩
theorem call_enum {prog : Program} {w : World} {A : Around} {E : Value → Shared → Prop} {s : Shared} {v : Value} {o : Obj} {G : Heap → Prop} {Q : Value → Shared → Prop} (B : Begins v o G) (hG : G s.heap)
    (h : ∀ h', IsEnum h' (s.heap.objs.size + 1) s.heap.objs.size 0 .none → h'.get? s.heap.objs.size = some o →
      (∀ b u, s.heap.get? b = some u → h'.get? b = some u) → Q (.ref (s.heap.objs.size + 1)) { s with heap := h' }) :
    wpAny (model prog w) A (call (.type "enumerate") [v]) Q E s := by
  apply callType_new F.called_enumerate (by decide) (F.typeCall_enumerate_1 _) (F.newCall_enumerate_1 _) (fun obj => F.args_object_init_2 obj _) F.entry_enumerate_new (new_enum B)
  refine ⟨hG, ?_⟩
  have size : (s.heap.push o).objs.size = s.heap.objs.size + 1 := Heap.size_push ..
  show _ ∧ _
  rw [size]
  have made : IsEnum ((s.heap.push o).push { cls := .type "enumerate", data := .fields #[.none, .bool false, .ref s.heap.objs.size, rawInt 0, .none, .none] }) (s.heap.objs.size + 1) s.heap.objs.size 0 .none := by
    have e := Heap.get?_push_size (s.heap.push o) (o := { cls := .type "enumerate", data := .fields #[.none, .bool false, .ref s.heap.objs.size, rawInt 0, .none, .none] }) rfl
    rwa [size] at e
  refine ⟨⟨_, made, rfl⟩, h _ made ?_ ?_⟩
  · exact Heap.get?_push_of_some _ (Heap.get?_push_size _ B.free)
  · intro b u e
    exact Heap.get?_push_of_some _ (Heap.get?_push_of_some _ e)

/-- the tuple at a, each item in a new pair with its place -/
def Pairs (K : PySem.W.Frag) (a : Addr) : It where
  go := fun i H => ∃ (xs : List V) (x : V), SqT K H a xs ∧ xs[i]? = some x
  yld := fun i H v H' => ∃ T x, v = .ref T ∧ H T = none ∧ H' = upd H T (.tup [.int (i : Nat), x]) ∧ ∀ xs, SqT K H a xs → xs[i]? = some x
  stop := fun i H => ∃ xs : List V, SqT K H a xs ∧ xs.length ≤ i
theorem turn_pairs {P : Program} {w : World} {K : PySem.W.Frag} {elts : List Expr} {kk : Nat} {tpos : Pos} (a e it : Addr) :
    Turn P w K (.Tuple elts kk tpos) (Pairs K a) [e, it] e (fun i h => (∃ old, IsEnum h e it ((i : Nat) : Int) old) ∧ h.IsTupleIter it a i ∧ e ≠ it) where
  mem := List.mem_cons_self ..
  obj := by
    rintro i h ⟨⟨old, he⟩, ⟨o, ho, hc, hd⟩, _⟩ b hb
    simp only [List.mem_cons, List.not_mem_nil, or_false] at hb
    rcases hb with rfl | rfl
    · exact ⟨_, he, fun v q => nomatch q⟩
    · exact ⟨o, ho, fun v q => by rw [hd] at q; cases q⟩
  keep := by
    rintro i h h' ⟨⟨old, he⟩, hi, hne⟩ k
    exact ⟨⟨old, k e (by simp) _ he⟩, hi.at fun o q => k it (by simp) o q, hne⟩
  item := by
    intro X hP hw hK calm i pins s σ H E I hf st hg
    subst hP hw hK
    obtain ⟨⟨old, he⟩, hit, hne⟩ := st
    obtain ⟨xs, x, hq, hx⟩ := hg
    obtain ⟨its, rv, p, hz⟩ := I.tuple hq
    obtain ⟨u, hu, ru⟩ := rv.get hx
    have le : e < s.heap.objs.size := Heap.lt_size he
    have li : it < s.heap.objs.size := by obtain ⟨_, q, _⟩ := hit; exact Heap.lt_size q
    have tup : s.heap.IsTuple a its.toArray := p
    have nai : a ≠ it := by
      rintro rfl
      obtain ⟨o1, q1, c1, _⟩ := tup
      obtain ⟨o2, q2, c2, _⟩ := hit
      rw [q1] at q2
      cases q2
      rw [c1] at c2
      injection c2 with c3
      exact absurd c3 (by decide)
    have nae : a ≠ e := by
      rintro rfl
      obtain ⟨o1, q1, c1, _⟩ := tup
      have q2 : s.heap.get? a = _ := he
      rw [q1] at q2
      cases q2
      injection c1 with c3
      exact absurd c3 (by decide)
    have lt : i < its.toArray.size := by
      have := (List.getElem?_eq_some_iff.mp hu).1
      simpa using this
    refine wpAny_pyNext_enum_itemD (Draws.tuple (A := X.A.in1) (by exact I.ok.hd calm) it a nai its.toArray) he ⟨hit, tup⟩ lt hne (by simp [hne, Ne.symm nae]) fun y h' tk hy ho st' hT hsz hk => ?_
    have ey : y = u := by
      have : its.toArray[i]? = some u := by simpa using hu
      exact Option.some.inj (hy.symm.trans this)
    subst ey
    refine ⟨_, rfl, wpAny_letOwnedTupleGo_enum (s := { s with heap := h', toks := tk + 1 }) ho fun h2 he2 sb => ?_⟩
    have sb' : Heap.SameBut e h' h2 := sb
    have hT2 : h2.get? s.heap.objs.size = some { cls := .type "tuple", data := .seq #[.int i tk, y] } := (sb'.2 _ (Nat.ne_of_gt le)).trans hT
    have new : ObjOk X.prog X.w (upd H s.heap.objs.size (.tup [.int (i : Nat), x])) h2 s.heap.objs.size (.tup [.int (i : Nat), x]) :=
      ⟨by show 2 ≤ sizeLine; decide, [.int i tk, y], .cons ⟨_, rfl⟩ (.cons ru .nil), ⟨_, hT2, rfl, _, rfl⟩⟩
    have I2 : Inv X pins σ (upd H s.heap.objs.size (.tup [.int (i : Nat), x])) { s with heap := h2, toks := tk + 1 } := by
      refine I.turnedNew (ch := [e, it]) (fun b ob hb q => ?_) hf (Nat.le_refl _) new
      have ne : b ≠ e := fun z => hb (by simp [z])
      have ni : b ≠ it := fun z => hb (by simp [z])
      exact (sb'.2 b ne).trans (hk b ob ne ni q)
    refine ⟨.ref s.heap.objs.size, _, I2, rfl, ⟨_, x, rfl, I.hok.fresh (Nat.le_refl _), rfl, fun ys hy => by rw [I.tuple_inj hy hq]; exact hx⟩, ⟨⟨y, ?_⟩, st'.1.at fun o q => (sb'.2 it (Ne.symm hne)).trans q, hne⟩, fun b hb => ?_⟩
    · have e1 : ((i + 1 : Nat) : Int) = (i : Int) + 1 := by omega
      rw [e1]
      exact he2
    · have lb : b < s.heap.objs.size := by
        simp only [List.mem_cons, List.not_mem_nil, or_false] at hb
        rcases hb with rfl | rfl
        · exact le
        · exact li
      rw [upd_ne (Nat.ne_of_lt lb)]
      exact (hf b hb).1
  done := by
    intro X hP hw hK calm i pins s σ H E I hf st hg
    subst hP hw hK
    obtain ⟨⟨old, he⟩, hit, hne⟩ := st
    obtain ⟨xs, hq, hx⟩ := hg
    obtain ⟨its, rv, p, hz⟩ := I.tuple hq
    have tup : s.heap.IsTuple a its.toArray := p
    have nai : a ≠ it := by
      rintro rfl
      obtain ⟨o1, q1, c1, _⟩ := tup
      obtain ⟨o2, q2, c2, _⟩ := hit
      rw [q1] at q2
      cases q2
      rw [c1] at c2
      injection c2 with c3
      exact absurd c3 (by decide)
    obtain ⟨f0, f1, f2, f3, f4, f5⟩ := hf it (by simp)
    have hl := rv.length
    have none_ : its.toArray[i]? = none := by simp; omega
    have hT : s.TypeIs (.ref e) "enumerate" := ⟨_, he, rfl⟩
    unfold pyNext
    refine wpAny_bind (wpAny_attempt (wpAny_callSpecial?_slot (name := Str.ofString "__next__") hT F.slot_enumerate_next
      (wpAny_call_entry F.slot_enumerate_next hT F.entry_enumerate_next ?_ (F.args_enumerate_next_1 _))))
    show wpAny _ _ (field (.ref e) 2 >>= _) _ _ _
    refine wpAny_bind (wpAny_field he rfl (x := .ref it) rfl ?_)
    refine wpAny_bind (wpAny_nextOf_tuple_end (I.ok.hd calm) hit tup none_ fun h' x he' hx' => ?_)
    obtain ⟨o, ho, hc⟩ := hx'
    refine wpAny_bind (wpAny_isInstance (T := "StopIteration") (b := true) ⟨o, ho, hc⟩ isSubtype_stop ?_)
    refine wpAny_pure ⟨rfl, ?_⟩
    exact I.turned (t' := s.toks) (fun b o hb q => he' b o hb q) f0 f1 f3 f4 f5
  self := by
    rintro A i s Q E ⟨⟨old, he⟩, _⟩ h
    exact wpAny_pyIter_enum he h
section
variable {X : Cx}
def tPairs (K : PySem.W.Frag) (ta : TA) : TI := fun σ H R => ta σ H fun vs H1 => ∃ a xs, vs = [.ref a] ∧ SqT K H1 a xs ∧ R (Pairs K a) H1
theorem pi_pairs {e : Expr} {ta : TA} {p pos tpos : Pos} {elts : List Expr} {kk : Nat} (glob : Gl X "enumerate") (none_ : X.mg "enumerate" = none) (args : PA X [e] ta)
    (star : starEach [e] X.env = [(false, eval e X.env)] := by rfl) : PI X (.Tuple elts kk tpos) (.Call (.Name "enumerate" p) [e] [] pos) (tPairs X.K ta) := by
  constructor
  intro pins s σ H R I h
  refine Call_ (ld_blt I glob none_ boot_enumerate ?_)
  refine PyProof.Rows.callWith_type1 (thn (args.run pos pins s σ H _ I h) fun us s1 got => ?_) star rfl
  obtain ⟨vs, H1, I1, r1, a, xs, ex, hq, q⟩ := got
  subst ex
  obtain ⟨u, eu, ru⟩ := vals1 r1
  subst eu
  have eu : u = Value.ref a := ru
  subst eu
  obtain ⟨its, rv, p', hz⟩ := I1.tuple hq
  refine call_enum (begins_tuple a its.toArray) p' fun h' he hit hk => wpAny_pyIter_enum he ?_
  have I2 : Inv X pins σ H1 { s1 with heap := h' } := I1.kept (t' := s1.toks) hk
  refine ⟨s1.heap.objs.size + 1, [s1.heap.objs.size + 1, s1.heap.objs.size], _, _, H1, rfl, I2, turn_pairs a (s1.heap.objs.size + 1) s1.heap.objs.size, ⟨⟨.none, he⟩, ⟨_, hit, rfl, rfl⟩, Nat.succ_ne_self _⟩, fun b hb => ?_, q⟩
  have above : s1.heap.objs.size ≤ b := by
    simp only [List.mem_cons, List.not_mem_nil, or_false] at hb
    rcases hb with rfl | rfl
    · exact Nat.le_add_right _ _
    · exact Nat.le_refl _
  exact I1.fpOk above (I1.hok.fresh above)
/-- the loop over the pairs -/
theorem for_pairs {K : PySem.W.Frag} {a : Addr} {xs : List V} {g : TG} {tb : TS} {D : Ends} {σ : L2.St} {H : Hp} (Pv : Nat → L2.St → Hp → Prop) (h0 : Pv 0 σ H) (hl : ∀ i σ H, i ≤ xs.length → Pv i σ H → SqT K H a xs)
    (turn : ∀ i x σ H T, xs[i]? = some x → Pv i σ H → H T = none → g (.ref T) σ (upd H T (.tup [.int (i : Nat), x])) fun σ2 H2 => tb { D with nx := Pv (i + 1), ct := Pv (i + 1), bk := D.nx } σ2 H2) (done : ∀ σ H, Pv xs.length σ H → D.nx σ H) :
    ∃ W : Nat → Nat → L2.St → Hp → Prop, (∃ m, W 0 m σ H) ∧ ∀ i m σ H, W i m σ H →
      ((Pairs K a).stop i H ∧ D.nx σ H) ∨ ((Pairs K a).go i H ∧ ∃ N : L2.St → Hp → Prop, (∀ σ' H', N σ' H' → ∃ m', m' < m ∧ W (i + 1) m' σ' H') ∧ ∀ x H', (Pairs K a).yld i H x H' → g x σ H' fun σ2 H2 => tb { D with nx := N, ct := N, bk := D.nx } σ2 H2) := by
  refine ⟨fun i m σ H => m = xs.length - i ∧ i ≤ xs.length ∧ Pv i σ H, ⟨xs.length, by simp, Nat.zero_le _, h0⟩, ?_⟩
  rintro i m σ H ⟨rfl, le, pv⟩
  have here := hl i σ H le pv
  rcases Nat.lt_or_ge i xs.length with lt | ge
  · refine .inr ⟨⟨xs, xs[i], here, List.getElem?_eq_getElem lt⟩, Pv (i + 1), fun σ' H' n => ⟨xs.length - (i + 1), by omega, rfl, lt, n⟩, ?_⟩
    rintro v H' ⟨T, x, rfl, nT, rfl, hx⟩
    exact turn i x σ H T (hx xs here) pv nT
  · have e : i = xs.length := by omega
    subst e
    exact .inl ⟨⟨xs, here, Nat.le_refl _⟩, done σ H pv⟩
end
end EN

set_option Elab.async false
set_option linter.all false
set_option maxRecDepth 100000
set_option maxHeartbeats 4000000
namespace Z
open PySem PySem.Spec PyProof.Rows L2 GG TPD EQD
abbrev sII : Stmt := top 1
abbrev sIX : Stmt := top 2
abbrev sIT : Stmt := top 3
abbrev sBW : Stmt := top 4
abbrev sSE : Stmt := top 9
abbrev sME : Stmt := top 8
structure NamesI (mg : Str → Option Value) : Prop extends Names mg where
  isinstance : mg "isinstance" = none
def numI : PyData → Bool
  | .int _ => true
  | _ => false
def idxD (n : Int) : PyData → Bool
  | .int i => decide (0 ≤ i) && decide (i < n)
  | _ => false
def tupD (n : Int) : PyData → Bool
  | .tuple ds => decide ((ds.length : Int) = n)
  | _ => false
theorem tpLen {K : PySem.W.Frag} {H : Hp} : ∀ {xs : List V} {ds : List PyData}, TpAll K H xs ds → xs.length = ds.length
  | _, _, .nil => rfl
  | _, _, .cons _ t => congrArg Nat.succ (tpLen t)
theorem tpGet {K : PySem.W.Frag} {H : Hp} : ∀ {xs : List V} {ds : List PyData}, TpAll K H xs ds → ∀ {j : Nat} {x : V}, xs[j]? = some x → ∃ d, ds[j]? = some d ∧ Tp K H x d
  | _, _, .nil, j, x, h => by simp at h
  | _, _, .cons a t, 0, x, h => by
    cases h
    exact ⟨_, rfl, a⟩
  | _, _, .cons a t, j + 1, x, h => tpGet t h
def itD (d : PyData) (i : Nat) : PyData := match d with
  | .tuple l => l.getD i .none
  | _ => .none
def intD (d : PyData) : Int := match d with
  | .int i => i
  | _ => 0
theorem tupD_of {n : Int} {d : PyData} (h : tupD n d = true) : ∃ l, d = .tuple l ∧ (l.length : Int) = n := by
  cases d with
  | tuple l => exact ⟨l, rfl, of_decide_eq_true h⟩
  | int i => cases h
  | bool b => cases h
  | none => cases h
  | str x => cases h
  | list ds => cases h
  | dict kvs => cases h
theorem idxD_of {n : Int} {d : PyData} (h : idxD n d = true) : ∃ i, d = .int i ∧ 0 ≤ i ∧ i < n := by
  cases d with
  | int i =>
    have h : (decide (0 ≤ i) && decide (i < n)) = true := h
    rw [Bool.and_eq_true, decide_eq_true_eq, decide_eq_true_eq] at h
    exact ⟨i, rfl, h.1, h.2⟩
  | tuple l => cases h
  | bool b => cases h
  | none => cases h
  | str x => cases h
  | list ds => cases h
  | dict kvs => cases h
section
variable {K : PySem.W.Frag} {H : Hp}
theorem tp_tup {v : V} {l : List PyData} (h : Tp K H v (.tuple l)) : ∃ a xs, v = .ref a ∧ SqT K H a xs ∧ TpAll K H xs l := by
  cases h with
  | @tup a xs _ hs ha => exact ⟨a, xs, rfl, hs, ha⟩
theorem tp_int {v : V} {i : Int} (h : Tp K H v (.int i)) : v = .int i := by
  cases h
  rfl
end
theorem num_of {d : PyData} (h : numI d = true) : ∃ i, d = .int i := by
  cases d with
  | int i => exact ⟨i, rfl⟩
  | tuple l => cases h
  | bool b => cases h
  | none => cases h
  | str x => cases h
  | list ds => cases h
  | dict kvs => cases h
section
variable {P : Program} {w : World} {K : PySem.W.Frag} {mg : Str → Option Value} {base : Heap}
def spII (K : PySem.W.Frag) : Sp := fun vs H Q _ => ∃ (v : V) (d : PyData), vs = [v] ∧ Tp K H v d ∧ Q (.bl (numI d)) H
theorem scII : FnScope ["value"] ["value"] (defScope sII) := ⟨rfl, rfl, rfl, by decide +kernel, rfl, by decide +kernel, by decide +kernel⟩
theorem ok_ii {f : Addr} {fd : FuncData} (F : Fun K "is_integer" "is_integer" sII f fd) (T : NamesI mg) (nI : mg "int" = none) (nB : mg "bool" = none) : FnOk P w K mg base CX0 1 f fd ["value"] (spII K) := by
  refine F.ok scII (fun vs H Q E h => ?_) (fun cdv A outer s H vs Q E hr h => ?_)
  · obtain ⟨v, d, rfl, _⟩ := h
    rfl
  · obtain ⟨v, d, rfl, hd, q⟩ := h
    refine ⟨_, (pss_one (ps_ret (pe_and (pe_callB call_isi (by rfl) T.isinstance (by decide +kernel) (pa_cons (pv 0) (pa_cons (pe_bltn (v := .ty "int") (by rfl) nI (by decide +kernel) rfl) pa_nil))) (pe_one (pe_not (pe_callB call_isi (by rfl) T.isinstance (by decide +kernel) (pa_cons (pv 0) (pa_cons (pe_bltn (v := .ty "bool") (by rfl) nB (by decide +kernel) rfl) pa_nil)))))))), ?_⟩
    refine ⟨_, rfl, _, .ty "int", .type (tyD d), .type "int", _, rfl, .ty "int", hd.ty, kit_ty (kit_int d), _, rfl, ?_⟩
    cases d with
    | int i => exact iteT ⟨_, rfl, _, .ty "bool", .type "int", .type "bool", _, rfl, .ty "bool", hd.ty, kit_ty (kit_bool (.int i)), _, rfl, q⟩
    | bool b => exact iteT ⟨_, rfl, _, .ty "bool", .type "bool", .type "bool", _, rfl, .ty "bool", hd.ty, kit_ty (kit_bool (.bool b)), _, rfl, q⟩
    | none => exact iteF q
    | str x => exact iteF q
    | list ds => exact iteF q
    | tuple ds => exact iteF q
    | dict kvs => exact iteF q
def spIX (K : PySem.W.Frag) : Sp := fun vs H Q _ => ∃ (v : V) (d : PyData) (n : Int), vs = [v, .int n] ∧ Tp K H v d ∧ Q (.bl (idxD n d)) H
theorem scIX : FnScope ["value", "size"] ["value", "size"] (defScope sIX) := ⟨rfl, rfl, rfl, by decide +kernel, rfl, by decide +kernel, by decide +kernel⟩
theorem ok_ix {f g : Addr} {fd gd : FuncData} (F : Fun K "is_index" "is_index" sIX f fd) (GI : FnOk P w K mg base CX0 1 g gd ["value"] (spII K)) (PI_ : Def K mg "is_integer" g gd ["value"]) : FnOk P w K mg base CX0 2 f fd ["value", "size"] (spIX K) := by
  refine F.ok scIX (fun vs H Q E h => ?_) (fun cdv A outer s H vs Q E hr h => ?_)
  · obtain ⟨v, d, n, rfl, _⟩ := h
    rfl
  · obtain ⟨v, d, n, rfl, hd, q⟩ := h
    refine ⟨_, (pss_one (ps_ret (pe_and (pe_call GI (hr.mono (by first | decide | omega)) (by rfl) PI_.is PI_.kp PI_.bi .nil pass0 (pa_cons (pv 0) pa_nil)) (pe_one (pe_chain op_le op_lt pe_int (pv 0) (pv 1)))))), ?_⟩
    refine ⟨_, rfl, v, d, rfl, hd, _, rfl, ?_⟩
    cases d with
    | int i =>
      cases hd
      refine iteT ⟨_, rfl, _, _, rfl, rfl, _, rfl, ?_⟩
      have q : Q (.bl (decide (0 ≤ i) && decide (i < n))) H := q
      by_cases h0 : 0 ≤ i
      · rw [decide_eq_true h0] at q ⊢
        exact iteT ⟨_, rfl, _, _, rfl, rfl, q⟩
      · rw [decide_eq_false h0] at q ⊢
        exact iteF q
    | bool b => exact iteF q
    | none => exact iteF q
    | str x => exact iteF q
    | list ds => exact iteF q
    | tuple ds => exact iteF q
    | dict kvs => exact iteF q
def spIT (K : PySem.W.Frag) : Sp := fun vs H Q _ => ∃ (v : V) (d : PyData) (n : Int), vs = [v, .int n] ∧ Tp K H v d ∧ Q (.bl (tupD n d)) H
theorem scIT : FnScope ["value", "size"] ["value", "size"] (defScope sIT) := ⟨rfl, rfl, rfl, by decide +kernel, rfl, by decide +kernel, by decide +kernel⟩
theorem ok_it {f : Addr} {fd : FuncData} (F : Fun K "is_tuple" "is_tuple" sIT f fd) (T : NamesI mg) : FnOk P w K mg base CX0 1 f fd ["value", "size"] (spIT K) := by
  refine F.ok scIT (fun vs H Q E h => ?_) (fun cdv A outer s H vs Q E hr h => ?_)
  · obtain ⟨v, d, n, rfl, _⟩ := h
    rfl
  · obtain ⟨v, d, n, rfl, hd, q⟩ := h
    refine ⟨_, (pss_one (ps_ret (pe_and (pe_callB call_isi (by rfl) T.isinstance (by decide +kernel) (pa_cons (pv 0) (pa_cons (pe_bltn (v := .ty "tuple") (by rfl) T.tuple (by decide +kernel) rfl) pa_nil))) (pe_one (pe_cmpR op_eq (pe_callB call_len_seq (by rfl) T.len PySem.boot_len (pa_cons (pv 0) pa_nil)) (pv 1) (nomark _)))))), ?_⟩
    refine ⟨_, rfl, _, .ty "tuple", .type (tyD d), .type "tuple", _, rfl, .ty "tuple", hd.ty, kit_ty (kit_tup d), _, rfl, ?_⟩
    cases d with
    | tuple ds =>
      cases hd with
      | @tup a xs _ hs ha =>
        refine iteT ⟨_, rfl, a, xs, rfl, .inr hs, _, rfl, rfl, ?_⟩
        have e : (V.int (xs.length : Nat) = .int n) ↔ ((ds.length : Int) = n) := by
          rw [tpLen ha]
          exact ⟨fun h => V.int.inj h, fun h => by rw [h]⟩
        show Q (.bl (decide (V.int (xs.length : Nat) = .int n))) H
        have q : Q (.bl (decide ((ds.length : Int) = n))) H := q
        rw [decide_eq_decide.mpr e]
        exact q
    | int i => exact iteF q
    | bool b => exact iteF q
    | none => exact iteF q
    | str x => exact iteF q
    | list ds => exact iteF q
    | dict kvs => exact iteF q
def begD (d : PyData) (x : Str) (n : Int) : Bool := tupD n d && isText (itD d 0) x
def spBW (K : PySem.W.Frag) : Sp := fun vs H Q _ => ∃ (v : V) (d : PyData) (x : Str) (n : Int), vs = [v, .str x, .int n] ∧ Tp K H v d ∧ 0 < n ∧ Q (.bl (begD d x n)) H
theorem scBW : FnScope ["value", "word", "size"] ["value", "word", "size"] (defScope sBW) := ⟨rfl, rfl, rfl, by decide +kernel, rfl, by decide +kernel, by decide +kernel⟩
theorem ok_bw {f g : Addr} {fd gd : FuncData} (F : Fun K "begins_with" "begins_with" sBW f fd) (GT : FnOk P w K mg base CX0 1 g gd ["value", "size"] (spIT K)) (PT_ : Def K mg "is_tuple" g gd ["value", "size"]) : FnOk P w K mg base CX0 2 f fd ["value", "word", "size"] (spBW K) := by
  refine F.ok scBW (fun vs H Q E h => ?_) (fun cdv A outer s H vs Q E hr h => ?_)
  · obtain ⟨v, d, x, n, rfl, _⟩ := h
    rfl
  · obtain ⟨v, d, x, n, rfl, hd, hn, q⟩ := h
    have hu : A.units + 3 + 64 < cLine := hr.units
    refine ⟨_, (pss_one (ps_ret (pe_and (pe_call GT (hr.mono (by first | decide | omega)) (by rfl) PT_.is PT_.kp PT_.bi .nil pass0 (pa_cons (pv 0) (pa_cons (pv 2) pa_nil))) (pe_one (pe_cmpR (op_text (K := K) rfl (by show A.units + 3 < cLine; omega)) (pe_ix ix_tup (pv 0) pe_int (fun _ _ => rfl)) (pv 1) (nomark _)))))), ?_⟩
    refine ⟨_, rfl, _, rfl, v, d, n, rfl, hd, _, rfl, ?_⟩
    unfold begD at q
    cases ht : tupD n d with
    | false =>
      rw [ht, Bool.false_and] at q
      exact iteF q
    | true =>
      rw [ht, Bool.true_and] at q
      obtain ⟨l, rfl, hl⟩ := tupD_of ht
      obtain ⟨a, xs, rfl, hs, ha⟩ := tp_tup hd
      cases ha with
      | nil =>
        have : (([] : List PyData).length : Int) = n := hl
        simp at this
        omega
      | @cons u us e es h1 h2 =>
        exact iteT ⟨_, rfl, a, _, 0, u, rfl, rfl, hs, atI_nat (j := 0) rfl, _, rfl, e, x, h1, rfl, q⟩
theorem beg_tup {d : PyData} {x : Str} {n : Int} (h : begD d x n = true) : tupD n d = true := by
  unfold begD at h
  rw [Bool.and_eq_true] at h
  exact h.1
def errW (d : PyData) (m : Int) : Option Str :=
  if begD d "never" 1 = true then none
  else if (begD d "toss" 3 && (numI (itD d 1) && numI (itD d 2))) = true then (if (idxD m (itD d 1) && idxD m (itD d 2)) = true then none else some "place")
  else if (begD d "end" 2 && numI (itD d 1)) = true then (if (decide (0 ≤ intD (itD d 1)) && decide (intD (itD d 1) ≤ 99)) = true then none else some "answer")
  else some "form"
def oW : Option Str → V
  | none => .non
  | some x => .str x
theorem it_at {H : Hp} {xs : List V} {l : List PyData} (ha : TpAll K H xs l) {j : Nat} (hj : j < l.length) : ∃ u, xs[j]? = some u ∧ Tp K H u (itD (.tuple l) j) := by
  have lx := tpLen ha
  obtain ⟨d, h1, h2⟩ := tpGet ha (List.getElem?_eq_getElem (by omega : j < xs.length))
  refine ⟨xs[j], List.getElem?_eq_getElem _, ?_⟩
  show Tp K H _ (l.getD j .none)
  rw [List.getD_eq_getElem?_getD, h1]
  exact h2
def spSE (K : PySem.W.Frag) : Sp := fun vs H Q _ => ∃ (v : V) (d : PyData) (m : Int), vs = [v, .int m] ∧ Tp K H v d ∧ Q (oW (errW d m)) H
theorem scSE : FnScope ["state", "size"] ["state", "size"] (defScope sSE) := ⟨rfl, rfl, rfl, by decide +kernel, rfl, by decide +kernel, by decide +kernel⟩
theorem ok_se {f b i x : Addr} {fd bd id_ xd : FuncData} {tA : Tok} (F : Fun K "state_error" "state_error" sSE f fd) (mA : mg "MAX_ANSWER" = some (.int 99 tA)) (GB : FnOk P w K mg base CX0 2 b bd ["value", "word", "size"] (spBW K)) (PB : Def K mg "begins_with" b bd ["value", "word", "size"])
    (GI : FnOk P w K mg base CX0 1 i id_ ["value"] (spII K)) (PI_ : Def K mg "is_integer" i id_ ["value"]) (GX : FnOk P w K mg base CX0 2 x xd ["value", "size"] (spIX K)) (PX_ : Def K mg "is_index" x xd ["value", "size"]) : FnOk P w K mg base CX0 3 f fd ["state", "size"] (spSE K) := by
  refine F.ok scSE (fun vs H Q E h => ?_) (fun cdv A outer s H vs Q E hr h => ?_)
  · obtain ⟨v, d, m, rfl, _⟩ := h
    rfl
  · obtain ⟨v, d, m, rfl, hd, q⟩ := h
    refine ⟨_, (pss_cons (ps_if (pt_val (pe_call GB (hr.mono (by first | decide | omega)) (by rfl) PB.is PB.kp PB.bi .nil pass0 (pa_cons (pv 0) (pa_cons pe_str (pa_cons pe_int pa_nil))))) (pss_one (ps_ret pe_non)) pss_nil)
      (pss_cons (ps_if (PW.pt (pw_and (pt_val (pe_call GB (hr.mono (by first | decide | omega)) (by rfl) PB.is PB.kp PB.bi .nil pass0 (pa_cons (pv 0) (pa_cons pe_str (pa_cons pe_int pa_nil))))) (pw_and (pt_val (pe_call GI (hr.mono (by first | decide | omega)) (by rfl) PI_.is PI_.kp PI_.bi .nil pass0 (pa_cons (pe_ix ix_tup (pv 0) pe_int (fun _ _ => rfl)) pa_nil))) (pw_and1 (pt_val (pe_call GI (hr.mono (by first | decide | omega)) (by rfl) PI_.is PI_.kp PI_.bi .nil pass0 (pa_cons (pe_ix ix_tup (pv 0) pe_int (fun _ _ => rfl)) pa_nil))))))) (pss_one (ps_ret (pe_ifExp (PW.pt (pw_and (pt_val (pe_call GX (hr.mono (by first | decide | omega)) (by rfl) PX_.is PX_.kp PX_.bi .nil pass0 (pa_cons (pe_ix ix_tup (pv 0) pe_int (fun _ _ => rfl)) (pa_cons (pv 1) pa_nil)))) (pw_and1 (pt_val (pe_call GX (hr.mono (by first | decide | omega)) (by rfl) PX_.is PX_.kp PX_.bi .nil pass0 (pa_cons (pe_ix ix_tup (pv 0) pe_int (fun _ _ => rfl)) (pa_cons (pv 1) pa_nil))))))) pe_non pe_str))) pss_nil)
      (pss_cons (ps_if (PW.pt (pw_and (pt_val (pe_call GB (hr.mono (by first | decide | omega)) (by rfl) PB.is PB.kp PB.bi .nil pass0 (pa_cons (pv 0) (pa_cons pe_str (pa_cons pe_int pa_nil))))) (pw_and1 (pt_val (pe_call GI (hr.mono (by first | decide | omega)) (by rfl) PI_.is PI_.kp PI_.bi .nil pass0 (pa_cons (pe_ix ix_tup (pv 0) pe_int (fun _ _ => rfl)) pa_nil)))))) (pss_one (ps_ret (pe_ifExp (pt_chain op_le op_le pe_int (pe_ix ix_tup (pv 0) pe_int (fun _ _ => rfl)) (pe_glob (v := .int 99) rfl mA ⟨_, rfl⟩)) pe_non pe_str))) pss_nil)
      (pss_one (ps_ret pe_str))))), ?_⟩
    unfold errW at q
    refine ⟨_, rfl, v, d, "never", 1, rfl, hd, by decide, _, rfl, ?_⟩
    cases h1 : begD d "never" 1 with
    | true =>
      rw [h1, if_pos rfl] at q
      exact iteT q
    | false =>
      rw [h1, if_neg (by decide)] at q
      refine iteF ⟨_, rfl, v, d, "toss", 3, rfl, hd, by decide, _, rfl, ?_⟩
      cases h2 : begD d "toss" 3 with
      | false =>
        rw [h2, Bool.false_and, if_neg (by decide)] at q
        refine iteF (iteF ?_)
        refine ⟨_, rfl, v, d, "end", 2, rfl, hd, by decide, _, rfl, ?_⟩
        cases h3 : begD d "end" 2 with
        | false =>
          rw [h3, Bool.false_and, if_neg (by decide)] at q
          exact iteF (iteF q)
        | true =>
          rw [h3, Bool.true_and] at q
          obtain ⟨l, e0, hl⟩ := tupD_of (beg_tup h3)
          have hl : l.length = 2 := by omega
          subst e0
          obtain ⟨a, xs, ev, hs, ha⟩ := tp_tup hd
          subst ev
          obtain ⟨u1, g1, t1⟩ := it_at ha (show 1 < l.length by omega)
          refine iteT ⟨_, rfl, a, _, 1, u1, rfl, rfl, hs, atI_nat (j := 1) g1, u1, _, rfl, t1, _, rfl, ?_⟩
          cases n1 : numI (itD (.tuple l) 1) with
          | false =>
            rw [n1, if_neg (by decide)] at q
            exact iteF q
          | true =>
            rw [n1, if_pos rfl] at q
            obtain ⟨k, ek⟩ := num_of n1
            rw [ek] at t1 q
            have eu := tp_int t1
            subst eu
            have q : Q (oW (if (decide (0 ≤ k) && decide (k ≤ 99)) = true then none else some "answer")) H := q
            refine iteT ⟨_, rfl, a, _, 1, .int k, rfl, rfl, hs, atI_nat (j := 1) g1, _, _, rfl, rfl, _, rfl, ?_⟩
            by_cases k0 : 0 ≤ k
            · rw [decide_eq_true k0, Bool.true_and] at q
              rw [decide_eq_true k0]
              refine iteT ⟨_, _, rfl, rfl, _, rfl, ?_⟩
              by_cases k1 : k ≤ 99
              · rw [decide_eq_true k1, if_pos rfl] at q
                rw [decide_eq_true k1]
                exact iteT q
              · rw [decide_eq_false k1, if_neg (by decide)] at q
                rw [decide_eq_false k1]
                exact iteF q
            · rw [decide_eq_false k0, Bool.false_and, if_neg (by decide)] at q
              rw [decide_eq_false k0]
              exact iteF ⟨_, rfl, iteF q⟩
      | true =>
        obtain ⟨l, e0, hl⟩ := tupD_of (beg_tup h2)
        have hl : l.length = 3 := by omega
        subst e0
        obtain ⟨a, xs, ev, hs, ha⟩ := tp_tup hd
        subst ev
        have h3 : begD (.tuple l) "end" 2 = false := by
          unfold begD
          rw [show tupD 2 (.tuple l) = false from decide_eq_false (by omega), Bool.false_and]
        rw [h2, h3, Bool.true_and, Bool.false_and, if_neg (show ¬ (false = true) by decide)] at q
        obtain ⟨u1, g1, t1⟩ := it_at ha (show 1 < l.length by omega)
        obtain ⟨u2, g2, t2⟩ := it_at ha (show 2 < l.length by omega)
        have noend : Q (oW (some "form")) H → ∀ (D : Ends), True := fun _ _ => trivial
        refine iteT ⟨_, rfl, a, _, 1, u1, rfl, rfl, hs, atI_nat (j := 1) g1, u1, _, rfl, t1, _, rfl, ?_⟩
        cases n1 : numI (itD (.tuple l) 1) with
        | false =>
          rw [n1, Bool.false_and, if_neg (by decide)] at q
          refine iteF (iteF ⟨_, rfl, .ref a, .tuple l, "end", 2, rfl, hd, by decide, _, rfl, ?_⟩)
          rw [h3]
          exact iteF (iteF q)
        | true =>
          rw [n1, Bool.true_and] at q
          refine iteT ⟨_, rfl, a, _, 2, u2, rfl, rfl, hs, atI_nat (j := 2) g2, u2, _, rfl, t2, _, rfl, ?_⟩
          cases n2 : numI (itD (.tuple l) 2) with
          | false =>
            rw [n2, if_neg (by decide)] at q
            refine iteF ⟨_, rfl, .ref a, .tuple l, "end", 2, rfl, hd, by decide, _, rfl, ?_⟩
            rw [h3]
            exact iteF (iteF q)
          | true =>
            rw [n2, if_pos rfl] at q
            refine iteT ⟨_, rfl, a, _, 1, u1, rfl, rfl, hs, atI_nat (j := 1) g1, _, rfl, u1, _, m, rfl, t1, _, rfl, ?_⟩
            cases x1 : idxD m (itD (.tuple l) 1) with
            | false =>
              rw [x1, Bool.false_and, if_neg (by decide)] at q
              exact iteF (iteF q)
            | true =>
              rw [x1, Bool.true_and] at q
              refine iteT ⟨_, rfl, a, _, 2, u2, rfl, rfl, hs, atI_nat (j := 2) g2, _, rfl, u2, _, m, rfl, t2, _, rfl, ?_⟩
              cases x2 : idxD m (itD (.tuple l) 2) with
              | false =>
                rw [x2, if_neg (by decide)] at q
                exact iteF q
              | true =>
                rw [x2, if_pos rfl] at q
                exact iteT q
/-- the first place with an error -/
def errM (d : PyData) : PyData := match d with
  | .tuple l => if (decide (1 ≤ l.length) && decide (l.length ≤ 60)) = true then (match (List.range l.length).find? fun i => (errW (itD (.tuple l) i) (l.length : Nat)).isSome with
    | some i => .tuple [.int (i : Nat), .str ((errW (itD (.tuple l) i) (l.length : Nat)).getD "")]
    | none => .none) else .tuple [.int (-1), .str "form"]
  | _ => .tuple [.int (-1), .str "form"]
def spME (K : PySem.W.Frag) : Sp := fun vs H Q _ => ∃ (v : V) (d : PyData), vs = [v] ∧ Tp K H v d ∧ ∀ r H', Same H H' → Tp K H' r (errM d) → Q r H'
theorem scME : FnScope ["value", "index", "state", "word"] ["value"] (defScope sME) := ⟨rfl, rfl, rfl, by decide +kernel, rfl, by decide +kernel, by decide +kernel⟩
theorem ok_me {f g : Addr} {fd gd : FuncData} {tS : Tok} (F : Fun K "machine_error" "machine_error" sME f fd) (T : NamesI mg) (mE : mg "enumerate" = none) (mS : mg "MAX_STATES" = some (.int 60 tS)) (GS : FnOk P w K mg base CX0 3 g gd ["state", "size"] (spSE K)) (PS_ : Def K mg "state_error" g gd ["state", "size"]) : FnOk P w K mg base CX0 4 f fd ["value"] (spME K) := by
  refine F.ok scME (fun vs H Q E h => ?_) (fun cdv A outer s H vs Q E hr h => ?_)
  · obtain ⟨v, d, rfl, _⟩ := h
    rfl
  · obtain ⟨v, d, rfl, hd, q⟩ := h
    refine ⟨_, (pss_cons (ps_if (PW.pt (pw_or (pt_not (pt_val (pe_callB call_isi (by rfl) T.isinstance (by decide +kernel) (pa_cons (pv 0) (pa_cons (pe_bltn (v := .ty "tuple") (by rfl) T.tuple (by decide +kernel) rfl) pa_nil))))) (pw_or1 (pt_not (pt_chain op_le op_le pe_int (pe_callB call_len_seq (by rfl) T.len PySem.boot_len (pa_cons (pv 0) pa_nil)) (pe_glob (v := .int 60) rfl mS ⟨_, rfl⟩)))))) (pss_one (ps_ret (pe_tup (pa_cons (pe_un un_neg pe_int) (pa_cons pe_str pa_nil))))) pss_nil)
      (pss_cons (ps_for PassesOwn.never rfl (EN.pi_pairs (by rfl) mE (pa_cons (pv 0) pa_nil)) (pg_tup rfl (pgs_cons (pg_name (i := 1) scME.nd rfl (.inl rfl)) (pgs_cons (pg_name (i := 2) scME.nd rfl (.inl rfl)) pgs_nil))) (pss_cons (ps_set (i := 3) scME.nd rfl (.inl rfl) (pe_call GS (hr.mono (by first | decide | omega)) (by rfl) PS_.is PS_.kp PS_.bi .nil pass0 (pa_cons (pv 2) (pa_cons (pe_callB call_len_seq (by rfl) T.len PySem.boot_len (pa_cons (pv 0) pa_nil)) pa_nil))))
      (pss_one (ps_if (pt_cmpR op_notN (pv 3) pe_non (nomark _)) (pss_one (ps_ret (pe_tup (pa_cons (pv 1) (pa_cons (pv 3) pa_nil))))) pss_nil))))
      (pss_one (ps_ret pe_non)))), ?_⟩
    have form : errM d = .tuple [.int (-1), .str "form"] → ∀ t, H t = none → Q (.ref t) (upd H t (.tup [.int (-1), .str "form"])) := fun h t nt => q _ _ (Same.upd nt) (by
      rw [h]
      exact .tup (SqT.of upd_same) (.cons (.int _) (.cons (.str _) .nil)))
    refine ⟨_, rfl, _, .ty "tuple", .type (tyD d), .type "tuple", _, rfl, .ty "tuple", hd.ty, kit_ty (kit_tup d), _, rfl, ?_⟩
    cases d with
    | int i => exact iteT ⟨1, rfl, by show 2 ≤ sizeLine; decide, form rfl⟩
    | bool b => exact iteT ⟨1, rfl, by show 2 ≤ sizeLine; decide, form rfl⟩
    | none => exact iteT ⟨1, rfl, by show 2 ≤ sizeLine; decide, form rfl⟩
    | str x => exact iteT ⟨1, rfl, by show 2 ≤ sizeLine; decide, form rfl⟩
    | list ds => exact iteT ⟨1, rfl, by show 2 ≤ sizeLine; decide, form rfl⟩
    | dict kvs => exact iteT ⟨1, rfl, by show 2 ≤ sizeLine; decide, form rfl⟩
    | tuple l =>
      obtain ⟨a, xs, rfl, hs, ha⟩ := tp_tup hd
      have lx := tpLen ha
      refine iteF ⟨_, rfl, a, xs, rfl, .inr hs, _, _, rfl, rfl, _, rfl, ?_⟩
      by_cases l0 : 1 ≤ l.length
      · rw [decide_eq_true (by omega)]
        refine iteT ⟨_, _, rfl, rfl, _, rfl, ?_⟩
        by_cases l1 : l.length ≤ 60
        · rw [decide_eq_true (by omega)]
          have em : errM (.tuple l) = (match (List.range l.length).find? fun i => (errW (itD (.tuple l) i) (l.length : Nat)).isSome with
            | some i => .tuple [.int (i : Nat), .str ((errW (itD (.tuple l) i) (l.length : Nat)).getD "")]
            | none => .none) := by
            show (if (decide (1 ≤ l.length) && decide (l.length ≤ 60)) = true then _ else _) = _
            rw [decide_eq_true l0, decide_eq_true l1, if_pos (by rfl)]
          refine iteF ⟨_, rfl, a, xs, rfl, hs, EN.for_pairs (D := { nx := tRet (tC V.non) { nx := fun x H' => Q V.non H', rt := Q }, rt := Q }) (xs := xs) (fun i σ H' => ∃ v1 v2 v3 : Option V, σ = [some (V.ref a), v1, v2, v3] ∧ Same H H' ∧ (List.range l.length).find? (fun i => (errW (itD (.tuple l) i) (l.length : Nat)).isSome) = ((List.range l.length).drop i).find? (fun i => (errW (itD (.tuple l) i) (l.length : Nat)).isSome)) ⟨none, none, none, rfl, Same.refl _, rfl⟩ (fun i σ H' _ ⟨_, _, _, _, h, _⟩ => sqt_same h hs) ?_ ?_⟩
          · rintro i x σ H1 T1 hx ⟨v1, v2, v3, rfl, s1, hw⟩ nT1
            have hi : i < l.length := by
              have := (List.getElem?_eq_some_iff.mp hx).1
              omega
            have dr : (List.range l.length).drop i = i :: (List.range l.length).drop (i + 1) := by
              rw [List.drop_eq_getElem_cons (by rw [List.length_range]; exact hi), List.getElem_range]
            rw [dr, List.find?_cons] at hw
            obtain ⟨u, hu, tu⟩ := it_at ha hi
            rw [hx] at hu
            cases hu
            have sT := Same.upd (o := .tup [V.int (i : Nat), x]) nT1
            have eT : upd H1 T1 (.tup [V.int (i : Nat), x]) T1 = some (.tup [V.int (i : Nat), x]) := upd_same
            have s2 := s1.trans sT
            generalize upd H1 T1 (.tup [V.int (i : Nat), x]) = H2 at s2 eT ⊢
            refine ⟨T1, _, rfl, SqT.of eT, rfl, _, _, rfl, _, _, rfl, rfl, ?_⟩
            refine ⟨_, rfl, _, rfl, a, xs, rfl, .inr (sqt_same s2 hs), x, itD (.tuple l) i, (l.length : Nat), congrArg (fun n : Nat => [x, V.int (n : Nat)]) lx, Tp.same s2 _ _ tu, ?_⟩
            cases hE : errW (itD (.tuple l) i) (l.length : Nat) with
            | none =>
              rw [hE] at hw
              refine ⟨_, rfl, rfl, _, rfl, ?_⟩
              exact iteF ⟨_, _, _, rfl, s2, hw⟩
            | some y =>
              rw [hE] at hw
              have hw : (List.range l.length).find? (fun i => (errW (itD (.tuple l) i) (l.length : Nat)).isSome) = some i := hw
              refine ⟨_, rfl, rfl, _, rfl, ?_⟩
              refine iteT ⟨_, rfl, _, rfl, by show 2 ≤ sizeLine; decide, fun t nt => ?_⟩
              rw [em, hw] at q
              have q : ∀ r H', Same H H' → Tp K H' r (.tuple [.int (i : Nat), .str ((errW (itD (.tuple l) i) (l.length : Nat)).getD "")]) → Q r H' := q
              rw [hE] at q
              exact q _ _ (s2.trans (Same.upd nt)) (.tup (SqT.of upd_same) (.cons (.int _) (.cons (.str _) .nil)))
          · rintro σ H1 ⟨v1, v2, v3, rfl, s1, hw⟩
            rw [lx, List.drop_of_length_le (by rw [List.length_range]; exact Nat.le_refl _)] at hw
            have hw : (List.range l.length).find? (fun i => (errW (itD (.tuple l) i) (l.length : Nat)).isSome) = none := hw
            rw [em, hw] at q
            exact q .non H1 s1 .non
        · rw [decide_eq_false (by omega)]
          exact iteT ⟨1, rfl, by show 2 ≤ sizeLine; decide, form (by
            show (if (decide (1 ≤ l.length) && decide (l.length ≤ 60)) = true then _ else _) = _
            rw [decide_eq_false l1, Bool.and_false, if_neg (by decide)])⟩
      · rw [decide_eq_false (by omega)]
        exact iteF ⟨_, rfl, iteT ⟨1, rfl, by show 2 ≤ sizeLine; decide, form (by
          show (if (decide (1 ≤ l.length) && decide (l.length ≤ 60)) = true then _ else _) = _
          rw [decide_eq_false l0, Bool.false_and, if_neg (by decide)])⟩⟩
end
end Z

set_option Elab.async false
set_option linter.all false
set_option maxRecDepth 100000
set_option maxHeartbeats 4000000
/-! a tuple compared with (), a list with []; the least and the greatest of two numbers in a tuple -/
namespace WRD
open PySem PySem.Spec PyProof.Rows L2 GG
section
variable {X : Cx}
def rNoneIn (K : PySem.W.Frag) : R2 := fun x y H Q => ∃ (a b : Addr) (xs : List V), x = .ref a ∧ y = .ref b ∧ SqT K H a xs ∧ SqT K H b [] ∧ Q (.bl (decide (xs.length = 0))) H
theorem op_noneIn {K : PySem.W.Frag} (hK : X.K = K) (hu : X.A.units < cLine) : OpR X (compareOp .Eq) (rNoneIn K) := by
  subst hK
  intro pins s σ H x y v u Q I rx ry h
  obtain ⟨a, b, xs, rfl, rfl, ha, hb, q⟩ := h
  cases rx
  cases ry
  obtain ⟨its, r1, p1, _⟩ := I.tuple ha
  obtain ⟨its2, r2, p2, _⟩ := I.tuple hb
  cases r2
  have hl := r1.length
  refine SeqAt.RcAt.tuples (e := fun _ => true) p1 p2 hu (fun j _ h2 => absurd h2 (by simp)) _ _ _ _ ⟨.bl _, H, I, rfl, ?_⟩
  have e : ((List.range (min its.toArray.size ([] : List Value).toArray.size)).all (fun _ => true) && its.toArray.size == ([] : List Value).toArray.size) = decide (xs.length = 0) := by
    rw [hl]
    cases its <;> simp
  rw [e]
  exact q
def rSomeIn (K : PySem.W.Frag) : R2 := fun x y H Q => ∃ (a b : Addr) (xs : List V), x = .ref a ∧ y = .ref b ∧ SqL K H a xs ∧ SqL K H b [] ∧ Q (.bl (!decide (xs.length = 0))) H
theorem op_someIn {K : PySem.W.Frag} (hK : X.K = K) (hu : X.A.units < cLine) : OpR X (compareOp .NotEq) (rSomeIn K) := by
  subst hK
  intro pins s σ H x y v u Q I rx ry h
  obtain ⟨a, b, xs, rfl, rfl, ha, hb, q⟩ := h
  cases rx
  cases ry
  obtain ⟨its, r1, p1, _⟩ := I.list ha
  obtain ⟨its2, r2, p2, _⟩ := I.list hb
  cases r2
  have hl := r1.length
  cases its with
  | nil =>
    have hx : xs = [] := List.length_eq_zero_iff.mp hl
    subst hx
    exact SeqAt.RcNeAt.lists (e := fun _ => true) p1.isList p2.isList rfl hu (fun j _ h2 => absurd h2 (by simp)) _ _ _ _ ⟨.bl _, H, I, rfl, q⟩
  | cons c r =>
    refine SeqAt.RcNeAt.lists_lengths p1.isList p2.isList (by simp) hu _ _ _ _ ⟨.bl true, H, I, rfl, ?_⟩
    rw [decide_eq_false (by rw [hl]; simp)] at q
    exact q
theorem nums_alike (i j : Int) : PySem.W.AlikeAll [.int i, .int j] := by
  refine ⟨fun x hx y hy => ?_, fun x hx => ?_⟩
  · simp only [List.mem_cons, List.not_mem_nil, or_false] at hx hy
    rcases hx with rfl | rfl <;> rcases hy with rfl | rfl <;> rfl
  · simp only [List.mem_cons, List.not_mem_nil, or_false] at hx
    rcases hx with rfl | rfl <;> exact fun h => by cases h
def rLeast (K : PySem.W.Frag) (f : Int → Int → Int) : List V → Hp → VK → Prop := fun vs H Q => ∃ (a : Addr) (i j : Int), vs = [.ref a] ∧ SqT K H a [.int i, .int j] ∧ Q (.int (f i j)) H
theorem cr_least (hc : X.calm = true) (hu : X.A.units + 64 < cLine) : CallR X (.builtin "min") (rLeast X.K min) := by
  intro pins s σ H vs us Q I r h
  obtain ⟨a, i, j, rfl, hs, q⟩ := h
  obtain ⟨u, rfl, ru⟩ := vals1 r
  cases ru
  obtain ⟨its, rv, pl, _⟩ := I.tuple hs
  obtain ⟨u1, u2, rfl, ⟨t1, rfl⟩, ⟨t2, rfl⟩⟩ := vals2 rv
  have rd : ReadsAll s.heap [Value.int i t1, Value.int j t2] [PyData.int i, PyData.int j] _ := ReadsAll.cons (Reads.int i t1) (ReadsAll.cons (Reads.int j t2) ReadsAll.nil)
  refine PySem.W.min_tuple_data (I.ok.hd hc) pl rd (nums_alike i j) (by simp [PyData.depthAll, PyData.depth]; omega) fun k v h' tk bs hv rv hk => ?_
  rw [show PySem.W.minD (.int i) [.int j] = .int (min i j) from PySem.W.minD_ints i [j]] at rv
  cases rv
  exact ⟨.int _, H, I.kept hk, ⟨_, rfl⟩, q⟩
theorem cr_most (hc : X.calm = true) (hu : X.A.units + 64 < cLine) : CallR X (.builtin "max") (rLeast X.K max) := by
  intro pins s σ H vs us Q I r h
  obtain ⟨a, i, j, rfl, hs, q⟩ := h
  obtain ⟨u, rfl, ru⟩ := vals1 r
  cases ru
  obtain ⟨its, rv, pl, _⟩ := I.tuple hs
  obtain ⟨u1, u2, rfl, ⟨t1, rfl⟩, ⟨t2, rfl⟩⟩ := vals2 rv
  have rd : ReadsAll s.heap [Value.int i t1, Value.int j t2] [PyData.int i, PyData.int j] _ := ReadsAll.cons (Reads.int i t1) (ReadsAll.cons (Reads.int j t2) ReadsAll.nil)
  refine PySem.W.max_tuple_data (I.ok.hd hc) pl rd (nums_alike i j) (by simp [PyData.depthAll, PyData.depth]; omega) fun k v h' tk bs hv rv hk => ?_
  rw [show PySem.W.maxD (.int i) [.int j] = .int (max i j) from PySem.W.maxD_ints i [j]] at rv
  cases rv
  exact ⟨.int _, H, I.kept hk, ⟨_, rfl⟩, q⟩
end
end WRD

set_option Elab.async false
set_option linter.all false
set_option maxRecDepth 100000
set_option maxHeartbeats 4000000
namespace Z
open PySem PySem.Spec PyProof.Rows L2 GG TPD EQD
abbrev sWh : Stmt := top 17
abbrev sWd : Stmt := top 18
section
variable {P : Program} {w : World} {K : PySem.W.Frag} {mg : Str → Option Value} {base : Heap}
theorem scWh : FnScope ["thing"] ["thing"] (defScope sWh) := ⟨rfl, rfl, rfl, by decide +kernel, rfl, by decide +kernel, by decide +kernel⟩
theorem ok_wh {f : Addr} {fd : FuncData} (F : Fun K "_law_is_whole" "_law_is_whole" sWh f fd) (T : NamesI mg) (nI : mg "int" = none) (nB : mg "bool" = none) : FnOk P w K mg base CX0 1 f fd ["thing"] (spII K) := by
  refine F.ok scWh (fun vs H Q E h => ?_) (fun cdv A outer s H vs Q E hr h => ?_)
  · obtain ⟨v, d, rfl, _⟩ := h
    rfl
  · obtain ⟨v, d, rfl, hd, q⟩ := h
    refine ⟨_, (pss_one (ps_ret (pe_and (pe_callB call_isi (by rfl) T.isinstance (by decide +kernel) (pa_cons (pv 0) (pa_cons (pe_bltn (v := .ty "int") (by rfl) nI (by decide +kernel) rfl) pa_nil))) (pe_one (pe_not (pe_callB call_isi (by rfl) T.isinstance (by decide +kernel) (pa_cons (pv 0) (pa_cons (pe_bltn (v := .ty "bool") (by rfl) nB (by decide +kernel) rfl) pa_nil)))))))), ?_⟩
    refine ⟨_, rfl, _, .ty "int", .type (tyD d), .type "int", _, rfl, .ty "int", hd.ty, kit_ty (kit_int d), _, rfl, ?_⟩
    cases d with
    | int i => exact iteT ⟨_, rfl, _, .ty "bool", .type "int", .type "bool", _, rfl, .ty "bool", hd.ty, kit_ty (kit_bool (.int i)), _, rfl, q⟩
    | bool b => exact iteT ⟨_, rfl, _, .ty "bool", .type "bool", .type "bool", _, rfl, .ty "bool", hd.ty, kit_ty (kit_bool (.bool b)), _, rfl, q⟩
    | none => exact iteF q
    | str x => exact iteF q
    | list ds => exact iteF q
    | tuple ds => exact iteF q
    | dict kvs => exact iteF q
theorem kit_str : ∀ d : PyData, kitB (tyD d) "str" = some (match d with | .str _ => true | _ => false)
  | .none => by decide +kernel
  | .bool _ => by show kitB "bool" "str" = some false; decide +kernel
  | .int _ => by show kitB "int" "str" = some false; decide +kernel
  | .str _ => by show kitB "str" "str" = some true; decide +kernel
  | .list _ => by show kitB "list" "str" = some false; decide +kernel
  | .tuple _ => by show kitB "tuple" "str" = some false; decide +kernel
  | .dict _ => by show kitB "dict" "str" = some false; decide +kernel
def need (x : Str) : Int := if x = "toss" then 3 else if x = "end" then 2 else if x = "never" then 1 else -1
theorem need_val (x : Str) : (valV [((Sum.inr "toss" : Key), V.int 3), (Sum.inr "end", .int 2), (Sum.inr "never", .int 1)] (Sum.inr x)).getD (.int (-1)) = .int (need x) := by
  unfold need
  by_cases h1 : x = "toss"
  · subst h1
    decide +kernel
  · rw [if_neg h1]
    by_cases h2 : x = "end"
    · subst h2
      decide +kernel
    · rw [if_neg h2]
      by_cases h3 : x = "never"
      · subst h3
        decide +kernel
      · rw [if_neg h3]
        unfold valV
        simp [h1, h2, h3, List.find?, Ne.symm h1, Ne.symm h2, Ne.symm h3]
theorem beg_str {x y : Str} {r : List PyData} {n : Int} : begD (.tuple (.str x :: r)) y n = (decide (((r.length + 1 : Nat) : Int) = n) && (x == y)) := by
  unfold begD
  rw [show tupD n (.tuple (.str x :: r)) = decide (((r.length + 1 : Nat) : Int) = n) from rfl]
  rfl
theorem beg_len {x y : Str} {r : List PyData} {n : Int} (h : ((r.length + 1 : Nat) : Int) ≠ n) : begD (.tuple (.str x :: r)) y n = false := by
  rw [beg_str, decide_eq_false h, Bool.false_and]
theorem six_one (n : Nat) : HT.sIx (n + 1) 0 (some 1) = 1 := by
  have := HT.sIx_nat (n + 1) 0 1
  rw [show ((1 : Nat) : Int) = 1 from rfl] at this
  rw [this]
  omega
theorem cut_one (v : V) (us : List V) : cutV (v :: us) (some 1) none = us := by
  unfold cutV
  rw [List.length_cons, six_one, HT.sIx_none, List.drop_succ_cons, List.drop_zero, List.take_of_length_le (by omega)]
theorem err_need {x : Str} {r : List PyData} {m : Int} (h : ((r.length + 1 : Nat) : Int) ≠ need x) : errW (.tuple (.str x :: r)) m = some ("form" : Str) := by
  have b : ∀ (y : Str) (n : Int), need y = n → begD (.tuple (.str x :: r)) y n = false := fun y n hy => by
    rw [beg_str]
    by_cases e : x = y
    · subst e
      rw [decide_eq_false (by omega), Bool.false_and]
    · rw [show (x == y) = false from beq_eq_false_iff_ne.mpr e, Bool.and_false]
  unfold errW
  rw [b _ _ (by decide +kernel), b _ _ (by decide +kernel), b _ _ (by decide +kernel), Bool.false_and, Bool.false_and, if_neg (by decide), if_neg (by decide), if_neg (by decide)]
theorem need_of {x : Str} {n : Int} (h : n = need x) (h0 : 0 < n) : (x = "toss" ∧ n = 3) ∨ (x = "end" ∧ n = 2) ∨ (x = "never" ∧ n = 1) := by
  unfold need at h
  split at h
  · exact .inl ⟨by assumption, h⟩
  · split at h
    · exact .inr (.inl ⟨by assumption, h⟩)
    · split at h
      · exact .inr (.inr ⟨by assumption, h⟩)
      · omega
theorem err_nums {x : Str} {r : List PyData} {m : Int} (hx : x ≠ "never" ∨ r = []) (h : r.all numI = false) : errW (.tuple (.str x :: r)) m = some ("form" : Str) := by
  by_cases hn : ((r.length + 1 : Nat) : Int) = need x
  · rcases need_of hn (by omega) with ⟨rfl, e⟩ | ⟨rfl, e⟩ | ⟨rfl, e⟩
    · match r, e, h with
      | [d1, d2], _, h =>
        have b1 : begD (.tuple [.str "toss", d1, d2]) "never" 1 = false := beg_len (show ((3 : Nat) : Int) ≠ 1 by decide)
        have b2 : begD (.tuple [.str "toss", d1, d2]) "end" 2 = false := beg_len (show ((3 : Nat) : Int) ≠ 2 by decide)
        have h : (numI d1 && numI d2) = false := by simpa using h
        unfold errW
        rw [b1, b2, show itD (.tuple [.str "toss", d1, d2]) 1 = d1 from rfl, show itD (.tuple [.str "toss", d1, d2]) 2 = d2 from rfl, h, Bool.and_false, Bool.false_and, if_neg (by decide), if_neg (by decide), if_neg (by decide)]
    · match r, e, h with
      | [d1], _, h =>
        have b1 : begD (.tuple [.str "end", d1]) "never" 1 = false := beg_len (show ((2 : Nat) : Int) ≠ 1 by decide)
        have b2 : begD (.tuple [.str "end", d1]) "toss" 3 = false := beg_len (show ((2 : Nat) : Int) ≠ 3 by decide)
        have h : numI d1 = false := by simpa using h
        unfold errW
        rw [b1, b2, show itD (.tuple [.str "end", d1]) 1 = d1 from rfl, h, Bool.and_false, Bool.false_and, if_neg (by decide), if_neg (by decide), if_neg (by decide)]
    · have : r = [] := List.length_eq_zero_iff.mp (by omega)
      subst this
      cases h
  · exact err_need hn
def spWd (K : PySem.W.Frag) : Sp := fun vs H Q _ => ∃ (v : V) (d : PyData) (m : Int), vs = [v, .int m] ∧ Tp K H v d ∧ (∀ l, d = .tuple l → l.length ≤ 100000) ∧ ∀ H', Same H H' → Q (oW (errW d m)) H'
theorem scWd : FnScope ["place", "many", "one"] ["place", "many"] (defScope sWd) := ⟨rfl, rfl, rfl, by decide +kernel, rfl, by decide +kernel, by decide +kernel⟩
theorem ok_wd {f g : Addr} {fd gd : FuncData} (F : Fun K "_law_word" "_law_word" sWd f fd) (T : NamesI mg) (mStr : mg "str" = none) (mMin : mg "min" = none) (mMax : mg "max" = none) (GW : FnOk P w K mg base CX0 1 g gd ["thing"] (spII K)) (PW_ : Def K mg "_law_is_whole" g gd ["thing"]) : FnOk P w K mg base CX0 2 f fd ["place", "many"] (spWd K) := by
  refine F.ok scWd (fun vs H Q E h => ?_) (fun cdv A outer s H vs Q E hr h => ?_)
  · obtain ⟨v, d, m, rfl, _⟩ := h
    rfl
  · obtain ⟨v, d, m, rfl, hd, h1000, q⟩ := h
    have hu64 : A.units + 3 + 64 < cLine := hr.units
    have hu : A.units + 3 + 1 < cLine := by omega
    have hu0 : A.units + 3 < cLine := by omega
    refine ⟨_, (pss_cons (ps_if (PW.pt (pw_or (pt_not (pt_val (pe_callB call_isi (by rfl) T.isinstance (by decide +kernel) (pa_cons (pv 0) (pa_cons (pe_bltn (v := .ty "tuple") (by rfl) T.tuple (by decide +kernel) rfl) pa_nil))))) (pw_or (pt_cmpR (WRD.op_noneIn (K := K) rfl hu0) (pv 0) (pe_tup pa_nil) (nomark _)) (pw_or1 (pt_not (pt_val (pe_callB call_isi (by rfl) T.isinstance (by decide +kernel) (pa_cons (pe_ix ix_tup (pv 0) pe_int (fun _ _ => rfl)) (pa_cons (pe_bltn (v := .ty "str") (by rfl) mStr (by decide +kernel) rfl) pa_nil))))))))) (pss_one (ps_ret pe_str)) pss_nil)
      (pss_cons (ps_if (pt_cmpR op_ne (pe_callB call_len_seq (by rfl) T.len PySem.boot_len (pa_cons (pv 0) pa_nil)) (pe_dget2 hu (pe_disp (pps_cons pe_str pe_int (pps_cons pe_str pe_int (pps_cons pe_str pe_int pps_nil))) (by rfl) (by rfl) (fun z => by cases z) (by decide)) (pe_ix ix_tup (pv 0) pe_int (fun _ _ => rfl)) (pe_un un_neg pe_int) ⟨rfl, rfl, rfl, rfl⟩) (nomark _)) (pss_one (ps_ret pe_str)) pss_nil)
      (pss_cons (ps_if (pt_cmpR (WRD.op_someIn (K := K) rfl hu0) (pe_lc (own := [("one", 2)]) (g := gName 2) rfl scWd.nd (pi_tup (pe_slice sl_tupA (pv 0) (po_some pe_int) po_none)) (blkOk_by (N := ["place", "many", "one"]) (sc := defScope sWd) (own := [("one", 2)]) (by decide +kernel)) (fun _ _ _ _ _ => (pg_name (i := 2) scWd.nd rfl (.inl rfl))) (fun _ _ _ _ _ => (pts_one (pt_not (pt_val (pe_call GW (hr.mono (by first | decide | omega)) (by rfl) PW_.is PW_.kp PW_.bi .nil pass0 (pa_cons (pv 2) pa_nil)))))) (fun _ _ _ _ _ => (pv 2))) (pe_lst pa_nil) (nomark _)) (pss_one (ps_ret pe_str)) pss_nil)
      (pss_cons (ps_if (PW.pt (pw_and (pt_cmpR op_eq (pe_ix ix_tup (pv 0) pe_int (fun _ _ => rfl)) pe_str (nomark _)) (pw_and1 (PW.pt (pw_or (pt_cmpR op_lt (pe_callB (WRD.cr_least rfl hu64) (by rfl) mMin (by decide +kernel) (pa_cons (pe_slice sl_tupA (pv 0) (po_some pe_int) po_none) pa_nil)) pe_int (nomark _)) (pw_or1 (pt_cmpR op_ge (pe_callB (WRD.cr_most rfl hu64) (by rfl) mMax (by decide +kernel) (pa_cons (pe_slice sl_tupA (pv 0) (po_some pe_int) po_none) pa_nil)) (pv 1) (nomark _)))))))) (pss_one (ps_ret pe_str)) pss_nil)
      (pss_cons (ps_if (PW.pt (pw_and (pt_cmpR op_eq (pe_ix ix_tup (pv 0) pe_int (fun _ _ => rfl)) pe_str (nomark _)) (pw_and1 (pt_not (pt_chain op_le op_lt pe_int (pe_ix ix_tup (pv 0) pe_int (fun _ _ => rfl)) pe_int))))) (pss_one (ps_ret pe_str)) pss_nil)
      (pss_one (ps_ret pe_non))))))), ?_⟩
    refine ⟨_, rfl, _, .ty "tuple", .type (tyD d), .type "tuple", _, rfl, .ty "tuple", hd.ty, kit_ty (kit_tup d), _, rfl, ?_⟩
    have form : ∀ {H'}, errW d m = some ("form" : Str) → Same H H' → Q (.str "form") H' := fun h s => by
      have := q _ s
      rw [h] at this
      exact this
    cases d with
    | int i => exact iteT (form rfl (Same.refl _))
    | bool b => exact iteT (form rfl (Same.refl _))
    | none => exact iteT (form rfl (Same.refl _))
    | str x => exact iteT (form rfl (Same.refl _))
    | list ds => exact iteT (form rfl (Same.refl _))
    | dict kvs => exact iteT (form rfl (Same.refl _))
    | tuple l =>
      obtain ⟨a, xs, rfl, hs, ha⟩ := tp_tup hd
      have lx := tpLen ha
      refine iteF ⟨_, rfl, by show 0 ≤ sizeLine; decide, fun q0 nq0 => ?_⟩
      have s0 := Same.upd (o := .tup []) nq0
      have e0 : upd H q0 (.tup []) q0 = some (.tup []) := upd_same
      change (_ : Hp → Prop) (upd H q0 (.tup []))
      generalize upd H q0 (.tup []) = H0 at s0 e0 ⊢
      have hs0 := sqt_same s0 hs
      refine ⟨a, q0, xs, rfl, rfl, hs0, SqT.of e0, _, rfl, ?_⟩
      cases l with
      | nil =>
        rw [decide_eq_true (by rw [lx]; rfl)]
        exact iteT (form rfl s0)
      | cons d0 r =>
        rw [decide_eq_false (by rw [lx]; simp)]
        cases ha with
        | @cons u us _ _ t0 tr =>
          have t00 := Tp.same s0 _ _ t0
          refine iteF ⟨_, rfl, a, _, 0, u, rfl, rfl, hs0, atI_nat (j := 0) rfl, u, .ty "str", .type (tyD d0), .type "str", _, rfl, .ty "str", t00.ty, kit_ty (kit_str d0), _, rfl, ?_⟩
          have ew : ∀ {d0 : PyData}, (∀ y, isText d0 y = false) → errW (.tuple (d0 :: r)) m = some ("form" : Str) := fun {d0} hno => by
            have b : ∀ y n, begD (.tuple (d0 :: r)) y n = false := fun y n => by
              unfold begD
              rw [show isText (itD (.tuple (d0 :: r)) 0) y = isText d0 y from rfl, hno y, Bool.and_false]
            unfold errW
            rw [b, b, b, Bool.false_and, Bool.false_and, if_neg (by decide), if_neg (by decide), if_neg (by decide)]
          cases d0 with
          | int i => exact iteT (form (ew fun _ => rfl) s0)
          | bool b => exact iteT (form (ew fun _ => rfl) s0)
          | none => exact iteT (form (ew fun _ => rfl) s0)
          | list ds => exact iteT (form (ew fun _ => rfl) s0)
          | tuple ds => exact iteT (form (ew fun _ => rfl) s0)
          | dict kvs => exact iteT (form (ew fun _ => rfl) s0)
          | str x =>
            have eu : u = .str x := by
              cases t0
              rfl
            subst eu
            refine iteF ⟨_, rfl, a, _, rfl, .inr hs0, ?_⟩
            refine fun D nD => ⟨upd_same, [(.inr "toss", .int 3), (.inr "end", .int 2), (.inr "never", .int 1)], rfl, by show 3 ≤ 15; decide, ?_⟩
            have eD : upd (upd H0 D (.dK [])) D (.dK (mergeK [] [(.inr "toss", .int 3), (.inr "end", .int 2), (.inr "never", .int 1)])) D = some (.dK [(.inr "toss", .int 3), (.inr "end", .int 2), (.inr "never", .int 1)]) := by
              rw [upd_same]
              rfl
            have sD : Same H0 (upd (upd H0 D (.dK [])) D (.dK (mergeK [] [(.inr "toss", .int 3), (.inr "end", .int 2), (.inr "never", .int 1)]))) := fun b o e => by
              rw [upd_ne (ne_of_none e nD), upd_ne (ne_of_none e nD)]
              exact e
            change (_ : Hp → Prop) (upd (upd H0 D (.dK [])) D (.dK (mergeK [] [(.inr "toss", .int 3), (.inr "end", .int 2), (.inr "never", .int 1)])))
            generalize upd (upd H0 D (.dK [])) D (.dK (mergeK [] [(.inr "toss", .int 3), (.inr "end", .int 2), (.inr "never", .int 1)])) = H1 at eD sD ⊢
            have s1 := s0.trans sD
            have hs1 := sqt_same s1 hs
            refine ⟨D, rfl, .inl ⟨_, .inl eD⟩, _, rfl, a, _, 0, .str x, rfl, rfl, hs1, atI_nat (j := 0) rfl, 1, rfl, _, DGet.k (k := .inr x) eD, ?_⟩
            dsimp only
            rw [need_val]
            have lus := tpLen tr
            refine ⟨rfl, _, rfl, ?_⟩
            by_cases hn : ((r.length + 1 : Nat) : Int) = need x
            · rw [decide_eq_true (by rw [← hn, ← lus]; rfl)]
              refine iteF ⟨_, rfl, ?_⟩
              dsimp only [tPart, tNoPart]
              refine ⟨1, rfl, a, _, rfl, hs1, fun h => absurd h.1 (by rw [List.length_cons, six_one]; decide), fun _ t1 nt1 => ?_⟩
              rw [cut_one]
              have st := s1.trans (Same.upd (o := .tup us) nt1)
              have et : upd H1 t1 (.tup us) t1 = some (.tup us) := upd_same
              change (_ : Hp → Prop) (upd H1 t1 (.tup us))
              generalize upd H1 t1 (.tup us) = H2 at st et ⊢
              refine ⟨t1, rfl, ⟨_, SqT.of et⟩, fun D2 nD2 => ?_⟩
              have rlen : r.length ≤ 100000 := by
                have := h1000 _ rfl
                rw [List.length_cons] at this
                omega
              have line : sizeLine = 16777216 := by decide
              refine lc_tup (K := K) (a := t1) (xs := us) (fun j Hx => Same H2 Hx ∧ ∃ ys, Hx D2 = some (.lst ys) ∧ ys.length = ((r.take j).filter fun d => !numI d).length) ⟨Same.upd nD2, [], upd_same, rfl⟩ (fun j Hx _ h => SqT.of (h.1 _ _ et)) ?_ ?_
              · rintro j y H3 hy ⟨s3, ys, e3, l3⟩
                obtain ⟨dj, hdj, tj⟩ := tpGet tr hy
                have tj3 := Tp.same (st.trans s3) _ _ tj
                have tk : (r.take (j + 1)).filter (fun d => !numI d) = (r.take j).filter (fun d => !numI d) ++ (if numI dj = true then [] else [dj]) := by
                  rw [List.take_succ, hdj, List.filter_append]
                  cases hnj : numI dj <;> simp [hnj]
                refine ⟨rfl, _, rfl, y, dj, rfl, tj3, _, rfl, ?_⟩
                cases hnj : numI dj with
                | true =>
                  rw [hnj, if_pos rfl, List.append_nil] at tk
                  exact iteF ⟨s3, ys, e3, by rw [tk]; exact l3⟩
                | false =>
                  rw [hnj, if_neg (by decide)] at tk
                  refine iteT ⟨_, rfl, _, e3, ?_, fun b o h => by rw [upd_ne (ne_of_none h nD2)]; exact s3 _ _ h, _, upd_same, ?_⟩
                  · have h1 := List.length_filter_le (fun d => !numI d) (r.take j)
                    rw [List.length_take] at h1
                    omega
                  · rw [tk, List.length_append, List.length_append, l3]
                    rfl
              · rintro H3 ⟨s3, ys, e3, l3⟩
                rw [lus, List.take_length] at l3
                refine ⟨by show 0 ≤ sizeLine; decide, fun D3 nD3 => ?_⟩
                have s4 := Same.upd (o := .lst []) nD3
                have e34 := s4 _ _ e3
                refine ⟨D2, D3, ys, rfl, rfl, SqL.of e34, SqL.of upd_same, _, rfl, ?_⟩
                have s14 := st.trans (s3.trans s4)
                change ite ((!decide (ys.length = 0)) = true) _ _
                have hall : r.all numI = decide (ys.length = 0) := by
                  rw [l3]
                  cases hA : r.all numI with
                  | true =>
                    have : r.filter (fun d => !numI d) = [] := List.filter_eq_nil_iff.mpr fun d hd => by
                      have := List.all_eq_true.mp hA d hd
                      rw [this]
                      decide
                    rw [this]
                    rfl
                  | false =>
                    obtain ⟨d, hd, hnd⟩ := List.all_eq_false.mp hA
                    have : 0 < (r.filter fun d => !numI d).length := List.length_pos_of_mem (List.mem_filter.mpr ⟨hd, by simpa using hnd⟩)
                    exact (decide_eq_false (by omega)).symm
                rw [← hall]
                cases hA : r.all numI with
                | false =>
                  refine iteT (form (err_nums ?_ hA) s14)
                  rcases need_of hn (by omega) with ⟨rfl, _⟩ | ⟨rfl, _⟩ | ⟨rfl, e⟩
                  · exact .inl (by decide +kernel)
                  · exact .inl (by decide +kernel)
                  · exact .inr (List.length_eq_zero_iff.mp (by omega))
                | true =>
                  refine iteF ?_
                  have hs4 := sqt_same s14 hs
                  generalize upd H3 D3 (.lst []) = H4 at s14 hs4 ⊢
                  have q4 : ∀ {H'}, Same H4 H' → Q (oW (errW (.tuple (.str x :: r)) m)) H' := fun s => q _ (s14.trans s)
                  have ne1 : ∀ {y z : Str}, y ≠ z → decide (V.str y = V.str z) = false := fun h => decide_eq_false fun e => h (V.str.inj e)
                  rcases need_of hn (by omega) with ⟨rfl, e⟩ | ⟨rfl, e⟩ | ⟨rfl, e⟩
                  · obtain ⟨i, k, rfl⟩ : ∃ i k, r = [.int i, .int k] := by
                      match r, e, hA with
                      | [d1, d2], _, hA =>
                        rw [List.all_cons, List.all_cons, Bool.and_eq_true, Bool.and_eq_true] at hA
                        obtain ⟨i, rfl⟩ := num_of hA.1
                        obtain ⟨k, rfl⟩ := num_of hA.2.1
                        exact ⟨i, k, rfl⟩
                    have eus : us = [.int i, .int k] := by
                      cases tr with
                      | cons g1 tr =>
                        cases tr with
                        | cons g2 tr =>
                          cases tr
                          rw [tp_int g1, tp_int g2]
                    subst eus
                    have ee : errW (.tuple [.str "toss", .int i, .int k]) m = if ((decide (0 ≤ i) && decide (i < m)) && (decide (0 ≤ k) && decide (k < m))) = true then none else some ("place" : Str) := by
                      have b1 : begD (.tuple [.str "toss", .int i, .int k]) "never" 1 = false := beg_len (show ((3 : Nat) : Int) ≠ 1 by decide)
                      have b2 : begD (.tuple [.str "toss", .int i, .int k]) "toss" 3 = true := by
                        rw [beg_str, beq_self_eq_true, Bool.and_true]
                        rfl
                      unfold errW
                      rw [b1, b2, if_neg (by decide)]
                      rfl
                    rw [ee] at q4
                    refine ⟨_, rfl, a, _, 0, .str "toss", rfl, rfl, hs4, atI_nat (j := 0) rfl, rfl, _, rfl, ?_⟩
                    rw [decide_eq_true rfl]
                    refine iteT ⟨_, rfl, ?_⟩
                    dsimp only [tPart, tNoPart]
                    refine ⟨1, rfl, a, _, rfl, hs4, fun h => absurd h.1 (by rw [List.length_cons, six_one]; decide), fun _ t2 nt2 => ?_⟩
                    rw [cut_one]
                    have s5 := Same.upd (o := .tup [V.int i, .int k]) nt2
                    have et2 : upd H4 t2 (.tup [V.int i, .int k]) t2 = some (.tup [V.int i, .int k]) := upd_same
                    have hs5 := sqt_same s5 hs4
                    generalize upd H4 t2 (.tup [V.int i, .int k]) = H5 at s5 et2 hs5 ⊢
                    refine ⟨t2, i, k, rfl, SqT.of et2, _, _, rfl, rfl, _, rfl, ?_⟩
                    by_cases hmin : min i k < 0
                    · rw [decide_eq_true hmin]
                      have : ((decide (0 ≤ i) && decide (i < m)) && (decide (0 ≤ k) && decide (k < m))) = false := by
                        rw [Bool.and_eq_false_iff, Bool.and_eq_false_iff, Bool.and_eq_false_iff]
                        by_cases h0 : 0 ≤ i
                        · exact .inr (.inl (decide_eq_false (by omega)))
                        · exact .inl (.inl (decide_eq_false h0))
                      rw [this, if_neg (by decide)] at q4
                      exact iteT (iteT (q4 s5))
                    · rw [decide_eq_false hmin]
                      refine iteF ⟨_, rfl, ?_⟩
                      refine ⟨1, rfl, a, _, rfl, hs5, fun h => absurd h.1 (by rw [List.length_cons, six_one]; decide), fun _ t3 nt3 => ?_⟩
                      rw [cut_one]
                      have s6 := Same.upd (o := .tup [V.int i, .int k]) nt3
                      have et3 : upd H5 t3 (.tup [V.int i, .int k]) t3 = some (.tup [V.int i, .int k]) := upd_same
                      have hs6 := sqt_same s6 hs5
                      generalize upd H5 t3 (.tup [V.int i, .int k]) = H6 at s6 et3 hs6 ⊢
                      refine ⟨t3, i, k, rfl, SqT.of et3, _, rfl, _, _, rfl, rfl, _, rfl, ?_⟩
                      by_cases hmax : m ≤ max i k
                      · rw [decide_eq_true hmax]
                        have : ((decide (0 ≤ i) && decide (i < m)) && (decide (0 ≤ k) && decide (k < m))) = false := by
                          rw [Bool.and_eq_false_iff, Bool.and_eq_false_iff, Bool.and_eq_false_iff]
                          by_cases h0 : i < m
                          · exact .inr (.inr (decide_eq_false (by omega)))
                          · exact .inl (.inr (decide_eq_false h0))
                        rw [this, if_neg (by decide)] at q4
                        exact iteT (q4 (s5.trans s6))
                      · rw [decide_eq_false hmax]
                        rw [decide_eq_true (show 0 ≤ i by omega), decide_eq_true (show i < m by omega), decide_eq_true (show 0 ≤ k by omega), decide_eq_true (show k < m by omega), if_pos (by rfl)] at q4
                        refine iteF ⟨_, rfl, a, _, 0, .str "toss", rfl, rfl, hs6, atI_nat (j := 0) rfl, rfl, _, rfl, ?_⟩
                        rw [ne1 (by decide +kernel)]
                        exact iteF (iteF (q4 (s5.trans s6)))
                  · obtain ⟨i, rfl⟩ : ∃ i, r = [.int i] := by
                      match r, e, hA with
                      | [d1], _, hA =>
                        rw [List.all_cons, Bool.and_eq_true] at hA
                        obtain ⟨i, rfl⟩ := num_of hA.1
                        exact ⟨i, rfl⟩
                    have eus : us = [.int i] := by
                      cases tr with
                      | cons g1 tr =>
                        cases tr
                        rw [tp_int g1]
                    subst eus
                    have ee : errW (.tuple [.str "end", .int i]) m = if (decide (0 ≤ i) && decide (i ≤ 99)) = true then none else some ("answer" : Str) := by
                      have b1 : begD (.tuple [.str "end", .int i]) "never" 1 = false := beg_len (show ((2 : Nat) : Int) ≠ 1 by decide)
                      have b2 : begD (.tuple [.str "end", .int i]) "toss" 3 = false := beg_len (show ((2 : Nat) : Int) ≠ 3 by decide)
                      have b3 : begD (.tuple [.str "end", .int i]) "end" 2 = true := by
                        rw [beg_str, beq_self_eq_true, Bool.and_true]
                        rfl
                      unfold errW
                      rw [b1, b2, b3, if_neg (by decide), Bool.false_and, if_neg (by decide)]
                      rfl
                    rw [ee] at q4
                    refine ⟨_, rfl, a, _, 0, .str "end", rfl, rfl, hs4, atI_nat (j := 0) rfl, rfl, _, rfl, ?_⟩
                    rw [ne1 (by decide +kernel)]
                    refine iteF (iteF ⟨_, rfl, a, _, 0, .str "end", rfl, rfl, hs4, atI_nat (j := 0) rfl, rfl, _, rfl, ?_⟩)
                    rw [decide_eq_true rfl]
                    refine iteT ⟨_, rfl, a, _, 1, .int i, rfl, rfl, hs4, atI_nat (j := 1) rfl, _, _, rfl, rfl, _, rfl, ?_⟩
                    by_cases i0 : 0 ≤ i
                    · rw [decide_eq_true i0, Bool.true_and] at q4
                      rw [decide_eq_true i0]
                      refine iteT ⟨_, _, rfl, rfl, _, rfl, ?_⟩
                      by_cases i1 : i < 100
                      · rw [decide_eq_true (show i ≤ 99 by omega), if_pos rfl] at q4
                        rw [decide_eq_true i1]
                        exact iteF (q4 (Same.refl _))
                      · rw [decide_eq_false (show ¬ i ≤ 99 by omega), if_neg (by decide)] at q4
                        rw [decide_eq_false i1]
                        exact iteT (q4 (Same.refl _))
                    · rw [decide_eq_false i0, Bool.false_and, if_neg (by decide)] at q4
                      rw [decide_eq_false i0]
                      exact iteF ⟨_, rfl, iteT (q4 (Same.refl _))⟩
                  · have er : r = [] := List.length_eq_zero_iff.mp (by omega)
                    subst er
                    have ee : errW (.tuple [.str "never"]) m = none := by
                      have b1 : begD (.tuple [.str "never"]) "never" 1 = true := by
                        rw [beg_str, beq_self_eq_true, Bool.and_true]
                        rfl
                      unfold errW
                      rw [b1, if_pos rfl]
                    rw [ee] at q4
                    refine ⟨_, rfl, a, _, 0, .str "never", rfl, rfl, hs4, atI_nat (j := 0) rfl, rfl, _, rfl, ?_⟩
                    rw [ne1 (by decide +kernel)]
                    refine iteF (iteF ⟨_, rfl, a, _, 0, .str "never", rfl, rfl, hs4, atI_nat (j := 0) rfl, rfl, _, rfl, ?_⟩)
                    rw [ne1 (by decide +kernel)]
                    exact iteF (iteF (q4 (Same.refl _)))
            · rw [decide_eq_false (by
                intro e
                have := V.int.inj e
                rw [List.length_cons, lus] at this
                exact hn this)]
              exact iteT (form (err_need hn) s1)
end
end Z

set_option Elab.async false
set_option linter.all false
set_option maxRecDepth 100000
set_option maxHeartbeats 4000000
namespace Z
open PySem PySem.Spec PyProof.Rows L2 GG TPD EQD
abbrev sDu : Stmt := top 19
section
variable {P : Program} {w : World} {K : PySem.W.Frag} {mg : Str → Option Value} {base : Heap}
def spDu (K : PySem.W.Frag) : Sp := fun vs H Q _ => ∃ (v : V) (d : PyData), vs = [v] ∧ Tp K H v d ∧ (∀ l, d = .tuple l → ∀ x ∈ l, ∀ k, x = .tuple k → k.length ≤ 100000) ∧ ∀ r H', Same H H' → Tp K H' r (errM d) → Q r H'
theorem scDu : FnScope ["thing", "at", "place"] ["thing"] (defScope sDu) := ⟨rfl, rfl, rfl, by decide +kernel, rfl, by decide +kernel, by decide +kernel⟩
theorem it_mem {l : List PyData} {i : Nat} (h : i < l.length) : itD (.tuple l) i ∈ l := by
  show l.getD i .none ∈ l
  rw [List.getD_eq_getElem?_getD, List.getElem?_eq_getElem h]
  exact List.getElem_mem h
theorem ok_du {f g : Addr} {fd gd : FuncData} (F : Fun K "_law_due" "_law_due" sDu f fd) (T : NamesI mg) (mE : mg "enumerate" = none) (GW : FnOk P w K mg base CX0 2 g gd ["place", "many"] (spWd K)) (PW_ : Def K mg "_law_word" g gd ["place", "many"]) : FnOk P w K mg base CX0 3 f fd ["thing"] (spDu K) := by
  refine F.ok scDu (fun vs H Q E h => ?_) (fun cdv A outer s H vs Q E hr h => ?_)
  · obtain ⟨v, d, rfl, _⟩ := h
    rfl
  · obtain ⟨v, d, rfl, hd, few, q⟩ := h
    have hu64 : A.units + 3 + 64 < cLine := hr.units
    have hu0 : A.units + 3 < cLine := by omega
    refine ⟨_, (pss_cons (ps_if (PW.pt (pw_or (pt_not (pt_val (pe_callB call_isi (by rfl) T.isinstance (by decide +kernel) (pa_cons (pv 0) (pa_cons (pe_bltn (v := .ty "tuple") (by rfl) T.tuple (by decide +kernel) rfl) pa_nil))))) (pw_or (pt_cmpR (WRD.op_noneIn (K := K) rfl hu0) (pv 0) (pe_tup pa_nil) (nomark _)) (pw_or1 (pt_cmpR op_gt (pe_callB call_len_seq (by rfl) T.len PySem.boot_len (pa_cons (pv 0) pa_nil)) pe_int (nomark _)))))) (pss_one (ps_ret (pe_tup (pa_cons (pe_un un_neg pe_int) (pa_cons pe_str pa_nil))))) pss_nil)
      (pss_cons (ps_for PassesOwn.never rfl (EN.pi_pairs (by rfl) mE (pa_cons (pv 0) pa_nil)) (pg_tup rfl (pgs_cons (pg_name (i := 1) scDu.nd rfl (.inl rfl)) (pgs_cons (pg_name (i := 2) scDu.nd rfl (.inl rfl)) pgs_nil))) (pss_one (ps_if (pt_cmpR op_notN (pe_call GW (hr.mono (by first | decide | omega)) (by rfl) PW_.is PW_.kp PW_.bi .nil pass0 (pa_cons (pv 2) (pa_cons (pe_callB call_len_seq (by rfl) T.len PySem.boot_len (pa_cons (pv 0) pa_nil)) pa_nil))) pe_non (nomark _)) (pss_one (ps_ret (pe_tup (pa_cons (pv 1) (pa_cons (pe_call GW (hr.mono (by first | decide | omega)) (by rfl) PW_.is PW_.kp PW_.bi .nil pass0 (pa_cons (pv 2) (pa_cons (pe_callB call_len_seq (by rfl) T.len PySem.boot_len (pa_cons (pv 0) pa_nil)) pa_nil))) pa_nil))))) pss_nil)))
      (pss_one (ps_ret pe_non)))), ?_⟩
    have form : ∀ {H0}, Same H H0 → errM d = .tuple [.int (-1), .str "form"] → ∀ t, H0 t = none → Q (.ref t) (upd H0 t (.tup [.int (-1), .str "form"])) := fun s h t nt => q _ _ (s.trans (Same.upd nt)) (by
      rw [h]
      exact .tup (SqT.of upd_same) (.cons (.int _) (.cons (.str _) .nil)))
    refine ⟨_, rfl, _, .ty "tuple", .type (tyD d), .type "tuple", _, rfl, .ty "tuple", hd.ty, kit_ty (kit_tup d), _, rfl, ?_⟩
    cases d with
    | int i => exact iteT ⟨1, rfl, by show 2 ≤ sizeLine; decide, form (Same.refl _) rfl⟩
    | bool b => exact iteT ⟨1, rfl, by show 2 ≤ sizeLine; decide, form (Same.refl _) rfl⟩
    | none => exact iteT ⟨1, rfl, by show 2 ≤ sizeLine; decide, form (Same.refl _) rfl⟩
    | str x => exact iteT ⟨1, rfl, by show 2 ≤ sizeLine; decide, form (Same.refl _) rfl⟩
    | list ds => exact iteT ⟨1, rfl, by show 2 ≤ sizeLine; decide, form (Same.refl _) rfl⟩
    | dict kvs => exact iteT ⟨1, rfl, by show 2 ≤ sizeLine; decide, form (Same.refl _) rfl⟩
    | tuple l =>
      obtain ⟨a, xs, rfl, hs, ha⟩ := tp_tup hd
      have lx := tpLen ha
      refine iteF ⟨_, rfl, by show 0 ≤ sizeLine; decide, fun q0 nq0 => ?_⟩
      have s0 := Same.upd (o := .tup []) nq0
      have e0 : upd H q0 (.tup []) q0 = some (.tup []) := upd_same
      change (_ : Hp → Prop) (upd H q0 (.tup []))
      generalize upd H q0 (.tup []) = H0 at s0 e0 ⊢
      have hs0 := sqt_same s0 hs
      refine ⟨a, q0, xs, rfl, rfl, hs0, SqT.of e0, _, rfl, ?_⟩
      by_cases l0 : 1 ≤ l.length
      · rw [decide_eq_false (by omega)]
        refine iteF ⟨_, rfl, a, xs, rfl, .inr hs0, _, _, rfl, rfl, _, rfl, ?_⟩
        by_cases l1 : l.length ≤ 60
        · rw [decide_eq_false (by omega)]
          have em : errM (.tuple l) = (match (List.range l.length).find? fun i => (errW (itD (.tuple l) i) (l.length : Nat)).isSome with
            | some i => .tuple [.int (i : Nat), .str ((errW (itD (.tuple l) i) (l.length : Nat)).getD "")]
            | none => .none) := by
            show (if (decide (1 ≤ l.length) && decide (l.length ≤ 60)) = true then _ else _) = _
            rw [decide_eq_true l0, decide_eq_true l1, if_pos (by rfl)] <;> rfl
          refine iteF ⟨_, rfl, a, xs, rfl, hs0, EN.for_pairs (D := { nx := tRet (tC V.non) { nx := fun x H' => Q V.non H', rt := Q }, rt := Q }) (xs := xs) (fun i σ H' => ∃ v1 v2 : Option V, σ = [some (V.ref a), v1, v2] ∧ Same H H' ∧ (List.range l.length).find? (fun i => (errW (itD (.tuple l) i) (l.length : Nat)).isSome) = ((List.range l.length).drop i).find? (fun i => (errW (itD (.tuple l) i) (l.length : Nat)).isSome)) ⟨none, none, rfl, s0, rfl⟩ (fun i σ H' _ ⟨_, _, _, h, _⟩ => sqt_same h hs) ?_ ?_⟩
          · rintro i x σ H1 T1 hx ⟨v1, v2, rfl, s1, hw⟩ nT1
            have hi : i < l.length := by
              have := (List.getElem?_eq_some_iff.mp hx).1
              omega
            have dr : (List.range l.length).drop i = i :: (List.range l.length).drop (i + 1) := by
              rw [List.drop_eq_getElem_cons (by rw [List.length_range]; exact hi), List.getElem_range]
            rw [dr, List.find?_cons] at hw
            obtain ⟨u, hu, tu⟩ := it_at ha hi
            rw [hx] at hu
            cases hu
            have sT := Same.upd (o := .tup [V.int (i : Nat), x]) nT1
            have eT : upd H1 T1 (.tup [V.int (i : Nat), x]) T1 = some (.tup [V.int (i : Nat), x]) := upd_same
            have s2 := s1.trans sT
            generalize upd H1 T1 (.tup [V.int (i : Nat), x]) = H2 at s2 eT ⊢
            refine ⟨T1, _, rfl, SqT.of eT, rfl, _, _, rfl, _, _, rfl, rfl, ?_⟩
            refine ⟨_, rfl, _, rfl, a, xs, rfl, .inr (sqt_same s2 hs), x, itD (.tuple l) i, (l.length : Nat), congrArg (fun n : Nat => [x, V.int (n : Nat)]) lx, Tp.same s2 _ _ tu, few l rfl _ (it_mem hi), fun H3 s3 => ?_⟩
            have s03 := s2.trans s3
            cases hE : errW (itD (.tuple l) i) (l.length : Nat) with
            | none =>
              rw [hE] at hw
              refine ⟨rfl, _, rfl, ?_⟩
              exact iteF ⟨_, _, rfl, s03, hw⟩
            | some y =>
              rw [hE] at hw
              have hw : (List.range l.length).find? (fun i => (errW (itD (.tuple l) i) (l.length : Nat)).isSome) = some i := hw
              refine ⟨rfl, _, rfl, ?_⟩
              refine iteT ⟨_, rfl, _, rfl, _, rfl, a, xs, rfl, .inr (sqt_same s03 hs), x, itD (.tuple l) i, (l.length : Nat), congrArg (fun n : Nat => [x, V.int (n : Nat)]) lx, Tp.same s03 _ _ tu, few l rfl _ (it_mem hi), fun H4 s4 => ?_⟩
              rw [hE]
              refine ⟨by show 2 ≤ sizeLine; decide, fun t nt => ?_⟩
              rw [em, hw] at q
              have q : ∀ r H', Same H H' → Tp K H' r (.tuple [.int (i : Nat), .str ((errW (itD (.tuple l) i) (l.length : Nat)).getD "")]) → Q r H' := q
              rw [hE] at q
              exact q _ _ ((s03.trans s4).trans (Same.upd nt)) (.tup (SqT.of upd_same) (.cons (.int _) (.cons (.str _) .nil)))
          · rintro σ H1 ⟨v1, v2, rfl, s1, hw⟩
            rw [lx, List.drop_of_length_le (by rw [List.length_range]; exact Nat.le_refl _)] at hw
            have hw : (List.range l.length).find? (fun i => (errW (itD (.tuple l) i) (l.length : Nat)).isSome) = none := hw
            rw [em, hw] at q
            exact q .non H1 s1 .non
        · rw [decide_eq_true (by omega)]
          exact iteT ⟨1, rfl, by show 2 ≤ sizeLine; decide, form s0 (by
            show (if (decide (1 ≤ l.length) && decide (l.length ≤ 60)) = true then _ else _) = _
            rw [decide_eq_false l1, Bool.and_false, if_neg (by decide)])⟩
      · rw [decide_eq_true (by omega)]
        exact iteT ⟨1, rfl, by show 2 ≤ sizeLine; decide, form s0 (by
          show (if (decide (1 ≤ l.length) && decide (l.length ≤ 60)) = true then _ else _) = _
          rw [decide_eq_false l0, Bool.false_and, if_neg (by decide)])⟩
end
end Z

set_option Elab.async false
set_option linter.all false
set_option maxRecDepth 100000
set_option maxHeartbeats 4000000
/-! data that stands on its own objects, none of them in N; slices and sums of tuples without a split by cases -/
namespace DSD
open PySem PySem.Spec PyProof.Rows L2 GG TPD
/-- all but what is in N stays -/
def BN (N : Addr → Prop) (H H' : Hp) : Prop := ∀ b o, H b = some o → ¬ N b → H' b = some o
mutual
inductive Ds (N : Addr → Prop) (H : Hp) : V → PyData → Prop
  | non : Ds N H .non .none
  | bl (b : Bool) : Ds N H (.bl b) (.bool b)
  | int (i : Int) : Ds N H (.int i) (.int i)
  | str (x : Str) : Ds N H (.str x) (.str x)
  | lst {a : Addr} {xs : List V} {ds : List PyData} : sysModules < a → H a = some (.lst xs) → ¬ N a → DsAll N H xs ds → Ds N H (.ref a) (.list ds)
  | tup {a : Addr} {xs : List V} {ds : List PyData} : H a = some (.tup xs) → ¬ N a → DsAll N H xs ds → Ds N H (.ref a) (.tuple ds)
  | dic {a : Addr} : H a = some (.dK []) → ¬ N a → Ds N H (.ref a) (.dict [])
inductive DsAll (N : Addr → Prop) (H : Hp) : List V → List PyData → Prop
  | nil : DsAll N H [] []
  | cons {v : V} {vs : List V} {d : PyData} {ds : List PyData} : Ds N H v d → DsAll N H vs ds → DsAll N H (v :: vs) (d :: ds)
end
section
variable {N : Addr → Prop} {H H' : Hp}
mutual
theorem Ds.bn (b : BN N H H') : ∀ (d : PyData) (v : V), Ds N H v d → Ds N H' v d
  | .none, _, h => by cases h; exact .non
  | .bool c, _, h => by cases h; exact .bl c
  | .int i, _, h => by cases h; exact .int i
  | .str x, _, h => by cases h; exact .str x
  | .list ds, _, h => by
    cases h with
    | lst h0 h1 h2 h3 => exact .lst h0 (b _ _ h1 h2) h2 (Ds.bnAll b ds _ h3)
  | .tuple ds, _, h => by
    cases h with
    | tup h1 h2 h3 => exact .tup (b _ _ h1 h2) h2 (Ds.bnAll b ds _ h3)
  | .dict _, _, h => by
    cases h with
    | dic h1 h2 => exact .dic (b _ _ h1 h2) h2
theorem Ds.bnAll (b : BN N H H') : ∀ (ds : List PyData) (vs : List V), DsAll N H vs ds → DsAll N H' vs ds
  | [], _, h => by cases h; exact .nil
  | d :: ds, _, h => by
    cases h with
    | cons h1 h2 => exact .cons (Ds.bn b d _ h1) (Ds.bnAll b ds _ h2)
end
mutual
theorem Ds.tp {K : PySem.W.Frag} : ∀ (d : PyData) (v : V), Ds N H v d → Tp K H v d
  | .none, _, h => by cases h; exact .non
  | .bool c, _, h => by cases h; exact .bl c
  | .int i, _, h => by cases h; exact .int i
  | .str x, _, h => by cases h; exact .str x
  | .list ds, _, h => by
    cases h with
    | lst h0 h1 h2 h3 => exact .lst h0 (SqL.of h1) (Ds.tpAll ds _ h3)
  | .tuple ds, _, h => by
    cases h with
    | tup h1 h2 h3 => exact .tup (SqT.of h1) (Ds.tpAll ds _ h3)
  | .dict _, _, h => by
    cases h with
    | dic h1 h2 => exact .dic h1
theorem Ds.tpAll {K : PySem.W.Frag} : ∀ (ds : List PyData) (vs : List V), DsAll N H vs ds → TpAll K H vs ds
  | [], _, h => by cases h; exact .nil
  | d :: ds, _, h => by
    cases h with
    | cons h1 h2 => exact .cons (Ds.tp d _ h1) (Ds.tpAll ds _ h2)
end
theorem DsAll.len : ∀ {vs : List V} {ds : List PyData}, DsAll N H vs ds → vs.length = ds.length
  | _, _, .nil => rfl
  | _, _, .cons _ t => congrArg Nat.succ t.len
theorem DsAll.app : ∀ {vs ws : List V} {ds es : List PyData}, DsAll N H vs ds → DsAll N H ws es → DsAll N H (vs ++ ws) (ds ++ es)
  | _, _, _, _, .nil, h => h
  | _, _, _, _, .cons a t, h => .cons a (t.app h)
theorem DsAll.drop : ∀ {vs : List V} {ds : List PyData} (n : Nat), DsAll N H vs ds → DsAll N H (vs.drop n) (ds.drop n)
  | _, _, 0, h => h
  | _, _, n + 1, .nil => .nil
  | _, _, n + 1, .cons a t => t.drop n
theorem DsAll.take : ∀ {vs : List V} {ds : List PyData} (n : Nat), DsAll N H vs ds → DsAll N H (vs.take n) (ds.take n)
  | _, _, 0, h => .nil
  | _, _, n + 1, .nil => .nil
  | _, _, n + 1, .cons a t => .cons a (t.take n)
end
section
variable {X : Cx}
def rCutU : V → Option Int → Option Int → Hp → VK → Prop := fun x lo hi H Q => ∃ (a : Addr) (xs : List V), x = .ref a ∧ H a = some (.tup xs) ∧ ∀ (p : Addr) H', Same H H' → H' p = some (.tup (cutV xs lo hi)) → (p = a ∨ H p = none) → Q (.ref p) H'
theorem sl_cutU : SlR X rCutU := by
  intro pins s σ H x v vl vu lo hi sl Q I rx hs pl pu h
  obtain ⟨a, xs, rfl, ha, q⟩ := h
  refine sl_tupA pins s σ H _ v vl vu lo hi sl Q I rx hs pl pu ⟨a, xs, rfl, SqT.of ha, fun w => ?_, fun _ p np => ?_⟩
  · refine q a H (Same.refl _) ?_ (.inl rfl)
    rw [ha]
    unfold cutV
    rw [w.1, w.2, List.drop_zero, Nat.sub_zero, List.take_length]
  · exact q p _ (fun b o e => by rw [upd_ne (ne_of_none e np)]; exact e) upd_same (.inr np)
def rCatU : R2 := fun x y H Q => ∃ (a b : Addr) (xs ys : List V), x = .ref a ∧ y = .ref b ∧ H a = some (.tup xs) ∧ H b = some (.tup ys) ∧ xs.length + ys.length ≤ sizeLine ∧ ∀ (p : Addr) H', Same H H' → H' p = some (.tup (xs ++ ys)) → (p = a ∨ p = b ∨ H p = none) → Q (.ref p) H'
theorem op_catU : OpR X (binaryOp .Add) rCatU := by
  intro pins s σ H x y v u Q I rx ry h
  obtain ⟨a, b, xs, ys, rfl, rfl, ha, hb, hz, q⟩ := h
  refine op_catA pins s σ H _ _ v u Q I rx ry ⟨a, b, xs, ys, rfl, rfl, SqT.of ha, SqT.of hb, hz, fun e => ?_, fun _ e => ?_, fun _ _ p np => ?_⟩
  · subst e
    exact q b H (Same.refl _) hb (.inr (.inl rfl))
  · subst e
    exact q a H (Same.refl _) (by rw [List.append_nil]; exact ha) (.inl rfl)
  · exact q p _ (fun b o e => by rw [upd_ne (ne_of_none e np)]; exact e) upd_same (.inr (.inr np))
end
end DSD

set_option Elab.async false
set_option linter.all false
set_option maxRecDepth 100000
set_option maxHeartbeats 4000000
/-! repr of any data with empty dicts -/
namespace TPD
open PySem PySem.Spec PyProof.Rows L2 GG
section
variable {X : Cx}
def rReprA (K : PySem.W.Frag) : List V → Hp → VK → Prop := fun vs H Q => ∃ (v : V) (d : PyData), vs = [v] ∧ Tp K H v d ∧ ShowsT d ∧ Q (.str d.shown) H
theorem call_reprA {k : Nat} (hg : X.A.guards = some []) (room : Room k X.A) : CallR X (.builtin "repr") (rReprA X.K) := by
  intro pins s σ H vs us Q I r h
  obtain ⟨v, d, rfl, hd, hs, q⟩ := h
  cases hd with
  | non =>
    obtain ⟨u, rfl, ru⟩ := vals1 r
    have eu : u = Value.none := ru
    subst eu
    refine PySem.P.repr_of_none ⟨.str _, H, I.tok _, ⟨_, rfl⟩, ?_⟩
    rw [← PyData.shown_none]
    exact q
  | bl b =>
    obtain ⟨u, rfl, ru⟩ := vals1 r
    have eu : u = Value.bool b := ru
    subst eu
    refine PySem.P.repr_of_bool ⟨.str _, H, I.tok _, ⟨_, rfl⟩, ?_⟩
    rw [PyData.shown_bool] at q
    cases b <;> exact q
  | int i =>
    obtain ⟨u, rfl, ru⟩ := vals1 r
    obtain ⟨t, eu⟩ := ru
    subst eu
    have hi : i.natAbs.log2 < 1920 := by simpa [PyData.showable] using hs.s
    refine PySem.P.repr_of_int hi ⟨.str _, H, I.tok _, ⟨_, rfl⟩, ?_⟩
    rw [← PyData.shown_int]
    exact q
  | str x =>
    obtain ⟨u, rfl, ru⟩ := vals1 r
    obtain ⟨t, eu⟩ := ru
    subst eu
    have hz := hs.z
    rw [PyData.shown_str] at hz q
    exact PySem.P.repr_of_str ⟨.str _, H, I.tok _, ⟨_, rfl⟩, q⟩ hz
  | lst hb h1 h2 => exact call_reprT hg room pins s σ H _ us Q I r ⟨_, _, rfl, .lst hb h1 h2, hs, q⟩
  | tup h1 h2 => exact call_reprT hg room pins s σ H _ us Q I r ⟨_, _, rfl, .tup h1 h2, hs, q⟩
  | dic h1 => exact call_reprT hg room pins s σ H _ us Q I r ⟨_, _, rfl, .dic h1, hs, q⟩
end
end TPD

set_option Elab.async false
set_option linter.all false
set_option maxRecDepth 100000
set_option maxHeartbeats 4000000
set_option exponentiation.threshold 20000
/-! data whose text is short, put together of parts -/
namespace SHT
open PySem PySem.Spec PyProof.Rows L2 GG TPD
structure Sh (d : PyData) (a b : Nat) : Prop where
  s : d.showable = true
  l : d.leavesShort 1922 = true
  p : d.depth ≤ a
  b : d.bulk ≤ b
structure ShA (ds : List PyData) (a b : Nat) : Prop where
  s : PyData.showableAll ds = true
  l : PyData.leavesShortAll 1922 ds = true
  p : PyData.depthAll ds ≤ a
  b : PyData.bulkAll ds ≤ b
theorem Sh.mono {d : PyData} {a b a' b' : Nat} (x : Sh d a b) (h1 : a ≤ a') (h2 : b ≤ b') : Sh d a' b' := ⟨x.s, x.l, Nat.le_trans x.p h1, Nat.le_trans x.b h2⟩
theorem ShA.mono {d : List PyData} {a b a' b' : Nat} (x : ShA d a b) (h1 : a ≤ a') (h2 : b ≤ b') : ShA d a' b' := ⟨x.s, x.l, Nat.le_trans x.p h1, Nat.le_trans x.b h2⟩
theorem Sh.t {d : PyData} (x : Sh d 50 8000) : ShowsT d := by
  refine ⟨x.s, x.p, ?_⟩
  have h := PyData.shown_le_bulk 1922 (by decide) d x.l
  have hb := x.b
  have e : sizeLine = 16777216 := by decide
  have := Nat.mul_le_mul_left 1924 hb
  omega
theorem ShA.nil {a b : Nat} : ShA [] a b := ⟨rfl, rfl, Nat.zero_le _, Nat.zero_le _⟩
theorem ShA.cons {d : PyData} {r : List PyData} {a b c : Nat} (x : Sh d a b) (y : ShA r a c) : ShA (d :: r) a (b + c + 1) := by
  have xs := x.s
  have xl := x.l
  have xp := x.p
  have xb := x.b
  have ys := y.s
  have yl := y.l
  have yp := y.p
  have yb := y.b
  refine ⟨?_, ?_, ?_, ?_⟩
  · simp [PyData.showableAll, xs, ys]
  · simp [PyData.leavesShortAll, xl, yl]
  · simp only [PyData.depthAll]
    omega
  · simp only [PyData.bulkAll]
    omega
theorem ShA.head {d : PyData} {r : List PyData} {a b : Nat} (x : ShA (d :: r) a b) : Sh d a b ∧ ShA r a (b - d.bulk - 1) ∧ d.bulk + 1 ≤ b := by
  have xs := x.s
  have xl := x.l
  have xp := x.p
  have xb := x.b
  simp only [PyData.showableAll, Bool.and_eq_true] at xs
  simp only [PyData.leavesShortAll, Bool.and_eq_true] at xl
  simp only [PyData.depthAll] at xp
  simp only [PyData.bulkAll] at xb
  exact ⟨⟨xs.1, xl.1, by omega, by omega⟩, ⟨xs.2, xl.2, by omega, by omega⟩, by omega⟩
theorem ShA.app {a : Nat} : ∀ {xs ys : List PyData} {b c : Nat}, ShA xs a b → ShA ys a c → ShA (xs ++ ys) a (b + c)
  | [], _, b, c, _, y => y.mono (Nat.le_refl _) (by omega)
  | d :: r, ys, b, c, x, y => by
    obtain ⟨h1, h2, h3⟩ := x.head
    have h1 : Sh d a d.bulk := ⟨h1.s, h1.l, h1.p, Nat.le_refl _⟩
    exact (ShA.cons h1 (ShA.app h2 y)).mono (Nat.le_refl _) (by omega)
theorem ShA.take {a : Nat} : ∀ {xs : List PyData} {b : Nat} (n : Nat), ShA xs a b → ShA (xs.take n) a b
  | _, _, 0, _ => ShA.nil
  | [], _, n + 1, _ => ShA.nil
  | d :: r, b, n + 1, x => by
    obtain ⟨h1, h2, h3⟩ := x.head
    have h1 : Sh d a d.bulk := ⟨h1.s, h1.l, h1.p, Nat.le_refl _⟩
    exact (ShA.cons h1 (h2.take n)).mono (Nat.le_refl _) (by omega)
theorem ShA.drop {a : Nat} : ∀ {xs : List PyData} {b : Nat} (n : Nat), ShA xs a b → ShA (xs.drop n) a b
  | _, _, 0, x => x
  | [], _, n + 1, _ => ShA.nil
  | d :: r, b, n + 1, x => by
    obtain ⟨h1, h2, h3⟩ := x.head
    exact (h2.drop n).mono (Nat.le_refl _) (by omega)
theorem ShA.get {a : Nat} : ∀ {xs : List PyData} {b i : Nat} {d : PyData}, ShA xs a b → xs[i]? = some d → Sh d a b
  | d :: r, b, 0, _, x, h => by
    cases h
    exact x.head.1
  | d :: r, b, i + 1, e, x, h => by
    obtain ⟨h1, h2, h3⟩ := x.head
    exact (ShA.get h2 (by simpa using h)).mono (Nat.le_refl _) (by omega)
theorem ShA.rev {a : Nat} : ∀ {xs : List PyData} {b : Nat}, ShA xs a b → ShA xs.reverse a b
  | [], _, x => x
  | d :: r, b, x => by
    obtain ⟨h1, h2, h3⟩ := x.head
    have h1 : Sh d a d.bulk := ⟨h1.s, h1.l, h1.p, Nat.le_refl _⟩
    rw [List.reverse_cons]
    exact ((ShA.rev h2).app (ShA.cons h1 (ShA.nil (b := 0)))).mono (Nat.le_refl _) (by omega)
theorem Sh.tup {ds : List PyData} {a b : Nat} (x : ShA ds a b) : Sh (.tuple ds) (a + 1) b := by
  have xs := x.s
  have xl := x.l
  have xp := x.p
  have xb := x.b
  refine ⟨by simpa [PyData.showable] using xs, ?_, ?_, ?_⟩
  · show PyData.leavesShort 1922 (.tuple ds) = true
    unfold PyData.leavesShort
    exact xl
  · simp only [PyData.depth]
    omega
  · simpa [PyData.bulk] using xb
theorem Sh.lst {ds : List PyData} {a b : Nat} (x : ShA ds a b) : Sh (.list ds) (a + 1) b := by
  have xs := x.s
  have xl := x.l
  have xp := x.p
  have xb := x.b
  refine ⟨by simpa [PyData.showable] using xs, ?_, ?_, ?_⟩
  · show PyData.leavesShort 1922 (.list ds) = true
    unfold PyData.leavesShort
    exact xl
  · simp only [PyData.depth]
    omega
  · simpa [PyData.bulk] using xb
theorem Sh.items {ds : List PyData} {a b : Nat} (x : Sh (.tuple ds) a b) : ShA ds (a - 1) b := by
  have xs := x.s
  have xl := x.l
  have xp := x.p
  have xb := x.b
  refine ⟨by simpa [PyData.showable] using xs, ?_, ?_, ?_⟩
  · unfold PyData.leavesShort at xl
    exact xl
  · simp only [PyData.depth] at xp
    omega
  · simpa [PyData.bulk] using xb
theorem sh_int {i : Int} (h : i.natAbs < 2 ^ 300) : Sh (.int i) 0 0 := by
  have l : i.natAbs.log2 < 1920 := Nat.lt_of_lt_of_le (PySem.Flt.log2_lt_of (k := 300) (by decide) h) (by decide)
  refine ⟨by simp [PyData.showable, l], short_int l, ?_, ?_⟩
  · simp [PyData.depth]
  · simp [PyData.bulk]
theorem sh_non : Sh .none 0 0 := ⟨rfl, rfl, Nat.le_refl _, Nat.le_refl _⟩
theorem sh_bl (b : Bool) : Sh (.bool b) 0 0 := ⟨rfl, rfl, Nat.le_refl _, Nat.le_refl _⟩
theorem sh_dic : Sh (.dict []) 1 0 := ⟨rfl, rfl, by decide, by decide⟩
theorem sh_str {x : Str} {n : Nat} (h1 : (x.cps.toList.all fun c => decide (c < 16 ^ 8)) = true) (h2 : x.cps.size ≤ n) : Sh (.str x) 0 n := by
  refine ⟨rfl, ?_, Nat.le_refl _, h2⟩
  unfold PyData.leavesShort
  exact h1
/-- how many items a tuple has, at most -/
theorem ShA.count {a : Nat} : ∀ {xs : List PyData} {b : Nat}, ShA xs a b → xs.length ≤ b
  | [], _, _ => Nat.zero_le _
  | d :: r, b, x => by
    obtain ⟨h1, h2, h3⟩ := x.head
    have := h2.count
    rw [List.length_cons]
    omega
/-! numbers that are not great -/
mutual
def small (c : Nat) : PyData → Bool
  | .int i => decide (i.natAbs ≤ c)
  | .list xs => smallAll c xs
  | .tuple xs => smallAll c xs
  | .none => true
  | .bool _ => true
  | .str _ => true
  | .dict _ => true
def smallAll (c : Nat) : List PyData → Bool
  | [] => true
  | x :: r => small c x && smallAll c r
end
theorem smallAll_all (c : Nat) : ∀ xs : List PyData, smallAll c xs = xs.all (small c)
  | [] => rfl
  | x :: r => by
    rw [List.all_cons, ← smallAll_all c r]
    rfl
mutual
theorem small_mono {c c' : Nat} (h : c ≤ c') : ∀ d : PyData, small c d = true → small c' d = true
  | .int i, e => decide_eq_true (Nat.le_trans (of_decide_eq_true e) h)
  | .list xs, e => smallAll_mono h xs e
  | .tuple xs, e => smallAll_mono h xs e
  | .none, _ => rfl
  | .bool _, _ => rfl
  | .str _, _ => rfl
  | .dict _, _ => rfl
theorem smallAll_mono {c c' : Nat} (h : c ≤ c') : ∀ ds : List PyData, smallAll c ds = true → smallAll c' ds = true
  | [], _ => rfl
  | x :: r, e => by
    have e : (small c x && smallAll c r) = true := e
    rw [Bool.and_eq_true] at e
    show (small c' x && smallAll c' r) = true
    rw [small_mono h x e.1, smallAll_mono h r e.2]
    rfl
end
theorem smallAll_of {c : Nat} {xs : List PyData} : smallAll c xs = true ↔ ∀ d ∈ xs, small c d = true := by
  rw [smallAll_all, List.all_eq_true]
/-! bulks of parts, exactly -/
theorem bulk_app : ∀ xs ys : List PyData, PyData.bulkAll (xs ++ ys) = PyData.bulkAll xs + PyData.bulkAll ys
  | [], ys => by simp [PyData.bulkAll]
  | x :: r, ys => by
    rw [List.cons_append]
    simp only [PyData.bulkAll]
    rw [bulk_app r ys]
    omega
theorem bulk_parts (xs : List PyData) (n : Nat) : PyData.bulkAll (xs.take n) + PyData.bulkAll (xs.drop n) = PyData.bulkAll xs := by
  rw [← bulk_app, List.take_append_drop]
theorem bulk_one {xs : List PyData} {n : Nat} {d : PyData} (h : xs[n]? = some d) : (xs.drop n).take 1 = [d] ∧ d.bulk + 1 ≤ PyData.bulkAll xs := by
  have hl := (List.getElem?_eq_some_iff.mp h)
  obtain ⟨l, e⟩ := hl
  have dr : xs.drop n = d :: xs.drop (n + 1) := by rw [List.drop_eq_getElem_cons l, e]
  have := bulk_parts xs n
  rw [dr] at this ⊢
  simp only [PyData.bulkAll] at this
  exact ⟨rfl, by omega⟩
end SHT

set_option Elab.async false
set_option linter.all false
set_option maxRecDepth 100000
set_option maxHeartbeats 4000000
/-! x + n, x - n: x a number or a truth value -/
namespace IBD
open PySem PySem.Spec PyProof.Rows L2 GG
/-- what it counts as -/
def asNum : V → Option Int
  | .int i => some i
  | .bl b => some (if b = true then 1 else 0)
  | _ => none
section
variable {X : Cx}
def rNum (f : Int → Int → Int) : R2 := fun x y H Q => ∃ i j : Int, asNum x = some i ∧ y = .int j ∧ Q (.int (f i j)) H
theorem op_addN2 : OpR X (binaryOp .Add) (rNum fun i j => i + j) := by
  intro pins s σ H x y v u Q I rx ry h
  obtain ⟨i, j, hx, rfl, q⟩ := h
  cases x with
  | int k =>
    cases hx
    exact op_add pins s σ H _ _ v u Q I rx ry ⟨_, _, rfl, rfl, q⟩
  | bl b =>
    cases hx
    cases rx
    obtain ⟨t, rfl⟩ := ry
    exact PySem.IntBool.add_bool_int ⟨.int _, H, I.tok _, ⟨_, rfl⟩, q⟩
  | _ => cases hx
theorem op_subN2 : OpR X (binaryOp .Sub) (rNum fun i j => i - j) := by
  intro pins s σ H x y v u Q I rx ry h
  obtain ⟨i, j, hx, rfl, q⟩ := h
  cases x with
  | int k =>
    cases hx
    exact op_sub pins s σ H _ _ v u Q I rx ry ⟨_, _, rfl, rfl, q⟩
  | bl b =>
    cases hx
    cases rx
    obtain ⟨t, rfl⟩ := ry
    exact PySem.IntBool.sub_bool_int ⟨.int _, H, I.tok _, ⟨_, rfl⟩, q⟩
  | _ => cases hx
end
end IBD

set_option Elab.async false
set_option linter.all false
set_option maxRecDepth 100000
set_option maxHeartbeats 4000000
/-! t[::-1], t a tuple -/
namespace RVT
open PySem PySem.Spec PyProof.Rows L2 GG
theorem turned_list (xs : Array Value) : ((List.range xs.size).filterMap fun (m : Nat) => xs[((xs.size : Int) - 1 + (m : Int) * (-1)).toNat]?) = xs.toList.reverse := by
  refine List.ext_getElem? fun i => ?_
  have key : ∀ n, n ≤ xs.size → ((List.range n).filterMap fun (m : Nat) => xs[((xs.size : Int) - 1 + (m : Int) * (-1)).toNat]?) = xs.toList.reverse.take n := by
    intro n hn
    induction n with
    | zero => rfl
    | succ n ih =>
      rw [List.range_succ, List.filterMap_append, ih (by omega), List.take_succ]
      congr 1
      have e : (((xs.size : Int) - 1 + (n : Int) * (-1)).toNat) = xs.size - 1 - n := by omega
      have l : xs.size - 1 - n < xs.size := by omega
      rw [List.filterMap_cons, e, Array.getElem?_eq_getElem l]
      have h1 : xs.toList.reverse[n]? = some xs[xs.size - 1 - n] := by
        rw [List.getElem?_reverse (by rw [Array.length_toList]; omega), Array.length_toList, Array.getElem?_toList, Array.getElem?_eq_getElem l]
      rw [h1]
      rfl
  rw [key _ (Nat.le_refl _), List.take_of_length_le (by rw [List.length_reverse, Array.length_toList]; exact Nat.le_refl _)]
section
variable {prog : Program} {w : World} {A : Around} {E : Value → Shared → Prop} {s : Shared}
theorem part_back {sl : Addr} {n : Nat} {tk : Tok} {Q : Int × Int × Nat → Shared → Prop} (cc : s.heap.IsSliceOf sl .none .none (.int (-1) tk)) (go : Q ((n : Int) - 1, -1, n) s) :
    wpAny (model prog w) A (Builtin.Slice.sliceApplied (.ref sl) (pure (n : Int))) Q E s := by
  obtain ⟨os, o1, o2, o3⟩ := id cc
  delta Builtin.Slice.sliceApplied Builtin.Slice.sliceFields
  refine wpAny_bind (wpAny_bind (wpAny_field o1 o3 (x := .none) rfl (wpAny_bind (wpAny_field o1 o3 (x := .none) rfl (wpAny_bind (wpAny_field o1 o3 (x := .int (-1) tk) rfl (wpAny_pure ?_)))))))
  refine wpAny_bind (slicePart_int ?_)
  show wpAny _ _ (if ((-1 : Int) == 0) = true then _ else _) _ _ s
  rw [if_neg (by decide)]
  refine wpAny_bind (slicePart_none (wpAny_bind (slicePart_none (wpAny_bind (wpAny_pure ?_)))))
  show wpAny _ _ (pure ((n : Int) - 1, (-1 : Int), Builtin.Slice.slicePlaces ((n : Int) - 1) (-1) (-1))) _ _ s
  have e : Builtin.Slice.slicePlaces ((n : Int) - 1) (-1) (-1) = n := by
    show (if (n : Int) - 1 > -1 then ((n : Int) - 1 - -1 - 1) / (- -1) + 1 else 0).toNat = n
    rw [show (- -1 : Int) = 1 from rfl, Int.ediv_one]
    split <;> omega
  rw [e]
  exact wpAny_pure go
theorem item_back {tu sl : Addr} {items : Array Value} {tk : Tok} {Q : Value → Shared → Prop} (tt : IsTup s.heap tu items) (cc : s.heap.IsSliceOf sl .none .none (.int (-1) tk)) (fits : items.size ≤ sizeLine)
    (go : Q (.ref s.heap.objs.size) { s with heap := s.heap.push { cls := .type "tuple", data := .seq items.toList.reverse.toArray } }) : wpAny (model prog w) A (getItem (.ref tu) (.ref sl)) Q E s := by
  obtain ⟨os, o1, o2, o3⟩ := id cc
  have isSlice : s.TypeIs (.ref sl) "slice" := ⟨os, o1, o2⟩
  have small : sizeOk (.seq items.toList.reverse.toArray) := by
    show items.toList.reverse.toArray.size ≤ sizeLine
    rw [List.size_toArray, List.length_reverse, Array.length_toList]
    exact fits
  unfold getItem
  first | (with_reducible refine wpAny_holding ?_) | skip
  first | (refine wpAny_bind (wpAny_pure ?_)) | skip
  refine wpAny_bind (wpAny_sequenceKey tt.typeIs (by decide) ?_)
  refine wpAny_bind (wpAny_callSpecial?_slot (name := Str.ofString "__getitem__") tt.typeIs PyProof.Rows.slot_tuple_getitem
    (wpAny_call_entry PyProof.Rows.slot_tuple_getitem tt.typeIs entry_tuple_getitem ?_ (args_tuple_getitem _ _)))
  show wpAny _ _ (Builtin.Tuple.tupleItemsOf (.ref tu) >>= _) _ _ s
  refine wpAny_bind (tupleItemsOf_ tt ?_)
  refine wpAny_bind (wpAny_typeOf isSlice ?_)
  rw [if_pos (by decide)]
  refine wpAny_bind (part_back cc ?_)
  have no : ¬ (((((items.size : Int) - 1 : Int) == 0 && ((-1 : Int) == 1) && (items.size == items.size)) = true)) := by
    rw [show ((-1 : Int) == 1) = false from rfl, Bool.and_false, Bool.false_and]
    decide
  show wpAny _ _ (if ((((items.size : Int) - 1 : Int) == 0 && ((-1 : Int) == 1) && (items.size == items.size))) = true then _ else _) _ _ s
  rw [if_neg no, turned_list]
  first
    | exact wpAny_bind (m := Builtin.Tuple.tupleExact _) (wpAny_newObj_type (wpAny_pure ⟨_, rfl, wpAny_pure go⟩) small)
    | exact wpAny_bind (wpAny_bind (m := Builtin.Tuple.tupleExact _) (wpAny_newObj_type (wpAny_pure (wpAny_pure ⟨_, rfl, wpAny_pure go⟩)) small))
    | exact wpAny_bind (wpAny_bind (m := Builtin.Tuple.tupleExact _) (wpAny_newObj_type (wpAny_pure ⟨_, rfl, wpAny_pure go⟩) small))
end
section
variable {X : Cx}
def tTurned (te : TE) : TE := fun σ H Q => te σ H fun x H1 => ∃ (a : Addr) (xs : List V), x = .ref a ∧ H1 a = some (.tup xs) ∧ ∀ p, H1 p = none → Q (.ref p) (upd H1 p (.tup xs.reverse))
theorem vals_turned {xs : List V} {us : List Value} (r : Vals xs us) : Vals xs.reverse us.reverse := by
  induction r with
  | nil => exact .nil
  | cons h _ ih =>
    rw [List.reverse_cons, List.reverse_cons]
    exact ih.append (.cons h .nil)
theorem pe_turned {e back : Expr} {te : TE} {p2 pos : Pos} (he : PE X e te) (hb : PE X back (tUn (rU fun i => .int (-i)) (tC (.int 1)))) (tailed : ∀ (a sl : Addr), subscripted (.Slice none none (some back) p2) false (.ref a) (.ref sl) = operate [.ref a, .ref sl] (getItem (.ref a) (.ref sl)) := by intros; with_unfolding_all rfl) :
    PE X (.Subscript e (.Slice none none (some back) p2) pos) (tTurned te) := by
  constructor
  intro pins s σ H Q I h
  refine Subscript_ (thn (he.run pins s σ H _ I h) fun v s1 ⟨x, H1, I1, r1, a, xs, ex, ha, q⟩ => ?_)
  subst ex
  obtain rfl : v = Value.ref a := r1
  refine wpAny_Slice ?_
  rw [evalPart_none]
  refine wpAny_pure (wpAny_pure ?_)
  rw [evalPart_some]
  refine thn (hb.run pins s1 σ H1 (fun y H2 => y = .int (-1) ∧ H2 = H1) I1 ⟨1, rfl, rfl, rfl⟩) fun c s2 ⟨y, H2, I2, r2, ey, eH⟩ => ?_
  subst ey eH
  obtain ⟨tk, rfl⟩ := r2
  have I4 := I2.kept (t' := s2.toks) fun b ob e => Heap.get?_push_of_some { cls := .type "slice", data := .fields #[.none, .none, .int (-1) tk] } e
  obtain ⟨its, rv, tup, fits⟩ := I4.tuple (SqT.of ha)
  have hl := rv.length
  show wpAny (model X.prog X.w) X.A (subscriptTail e (.Slice none none (some back) p2) (.ref a) (.ref s2.heap.objs.size)) (EP X pins σ Q) X.xe _
  refine tail_any (ops := [.ref a, .ref s2.heap.objs.size]) tup.typeIs PyProof.Rows.slot_tuple_getitem.lookup ?_ (tailed _ _)
  refine item_back tup (Heap.IsSliceOf.new ..) (by rw [List.size_toArray, ← hl]; exact fits) ?_
  have new := I4.hok.fresh (Nat.le_refl _)
  refine ⟨.ref _, _, I4.laid (t' := s2.toks) (o := .tup xs.reverse) (fun b ob e => Heap.get?_push_of_some _ e) (Nat.le_refl _) ⟨by rw [List.length_reverse]; exact fits, its.reverse, vals_turned rv, ?_⟩, rfl, q _ new⟩
  exact IsTup.new _ _
end
end RVT

set_option Elab.async false
set_option linter.all false
set_option maxRecDepth 100000
set_option maxHeartbeats 4000000
set_option exponentiation.threshold 20000
namespace Z
open PySem PySem.Spec PyProof.Rows L2 GG TPD EQD DSD SHT IBD
abbrev sOdd : Stmt := top 20
section
variable {N : Addr → Prop} {p : Addr} {H H' : Hp}
theorem BN.but (np : N p) (h : But p H H') : BN N H H' := fun b o e n => h b o e fun z => n (z ▸ np)
theorem BN.trans {H1 : Hp} (x : BN N H H1) (y : BN N H1 H') : BN N H H' := fun b o e n => y b o (x b o e n) n
theorem BN.of (s : Same H H') : BN N H H' := fun b o e _ => s b o e
/-- data, short, its numbers at most c -/
def Dv (N : Addr → Prop) (H : Hp) (v : V) (c a b : Nat) : Prop := ∃ d, Ds N H v d ∧ Sh d a b ∧ small c d = true
theorem Dv.bn {v : V} {c a b : Nat} (x : Dv N H v c a b) (h : BN N H H') : Dv N H' v c a b := by
  obtain ⟨d, h1, h2, h3⟩ := x
  exact ⟨d, Ds.bn h d v h1, h2, h3⟩
theorem Dv.mono {v : V} {c a b c' a' b' : Nat} (x : Dv N H v c a b) (h0 : c ≤ c') (h1 : a ≤ a') (h2 : b ≤ b') : Dv N H v c' a' b' := by
  obtain ⟨d, h3, h4, h5⟩ := x
  exact ⟨d, h3, h4.mono h1 h2, small_mono h0 d h5⟩
/-- a tuple of items -/
def TT (N : Addr → Prop) (H : Hp) (q : Addr) (xs : List V) (ds : List PyData) : Prop := H q = some (.tup xs) ∧ ¬ N q ∧ DsAll N H xs ds
theorem TT.bn {q : Addr} {xs : List V} {ds : List PyData} (x : TT N H q xs ds) (h : BN N H H') : TT N H' q xs ds := ⟨h _ _ x.1 x.2.1, x.2.1, Ds.bnAll h ds xs x.2.2⟩
theorem TT.same {q : Addr} {xs : List V} {ds : List PyData} (x : TT N H q xs ds) (s : Same H H') : TT N H' q xs ds := x.bn (BN.of s)
def cutD (ds : List PyData) (lo hi : Option Int) : List PyData := (ds.drop (HT.sIx ds.length 0 lo)).take (HT.sIx ds.length ds.length hi - HT.sIx ds.length 0 lo)
theorem TT.cut {q r : Addr} {xs : List V} {ds : List PyData} {lo hi : Option Int} (x : TT N H q xs ds) (s : Same H H') (e : H' r = some (.tup (cutV xs lo hi))) (f : r = q ∨ H r = none) (occ : ∀ b, N b → H b ≠ none) : TT N H' r (cutV xs lo hi) (cutD ds lo hi) := by
  refine ⟨e, fun h => ?_, ?_⟩
  · rcases f with f | f
    · exact x.2.1 (f ▸ h)
    · exact occ r h f
  · have h1 := Ds.bnAll (BN.of s) ds xs x.2.2
    have hl := h1.len
    unfold cutV cutD
    rw [hl]
    exact (h1.drop _).take _
theorem TT.cat {q r t : Addr} {xs ys : List V} {ds es : List PyData} (x : TT N H q xs ds) (y : TT N H r ys es) (s : Same H H') (e : H' t = some (.tup (xs ++ ys))) (f : t = q ∨ t = r ∨ H t = none) (occ : ∀ b, N b → H b ≠ none) : TT N H' t (xs ++ ys) (ds ++ es) := by
  refine ⟨e, fun h => ?_, (Ds.bnAll (BN.of s) ds xs x.2.2).app (Ds.bnAll (BN.of s) es ys y.2.2)⟩
  rcases f with f | f | f
  · exact x.2.1 (f ▸ h)
  · exact y.2.1 (f ▸ h)
  · exact occ t h f
theorem TT.dv {q : Addr} {xs : List V} {ds : List PyData} {c a b : Nat} (x : TT N H q xs ds) (h : ShA ds a b) (k : smallAll c ds = true) : Dv N H (.ref q) c (a + 1) b := ⟨.tuple ds, .tup x.1 x.2.1 x.2.2, Sh.tup h, k⟩
theorem cutD_mem {ds : List PyData} {lo hi : Option Int} {d : PyData} (h : d ∈ cutD ds lo hi) : d ∈ ds := List.mem_of_mem_drop (List.mem_of_mem_take h)
theorem cutD_sh {ds : List PyData} {lo hi : Option Int} {a b : Nat} (h : ShA ds a b) : ShA (cutD ds lo hi) a b := (h.drop _).take _
theorem cutD_small {ds : List PyData} {lo hi : Option Int} {c : Nat} (h : smallAll c ds = true) : smallAll c (cutD ds lo hi) = true := smallAll_of.mpr fun d hd => smallAll_of.mp h d (cutD_mem hd)
theorem small_app {xs ys : List PyData} {c : Nat} (h : smallAll c xs = true) (k : smallAll c ys = true) : smallAll c (xs ++ ys) = true := smallAll_of.mpr fun d hd => (List.mem_append.mp hd).elim (smallAll_of.mp h d) (smallAll_of.mp k d)
theorem small_rev {xs : List PyData} {c : Nat} (h : smallAll c xs = true) : smallAll c xs.reverse = true := smallAll_of.mpr fun d hd => smallAll_of.mp h d (List.mem_reverse.mp hd)
theorem exact_sh {xs : List PyData} {a b : Nat} (h : ShA xs a b) : ShA xs a (PyData.bulkAll xs) := ⟨h.s, h.l, h.p, Nat.le_refl _⟩
theorem twice_one {ds : List PyData} {a b : Nat} {hi : Option Int} (n : Nat) (h : ShA ds a b) : ShA ((cutD ds none (some (n : Int)) ++ cutD ds (some (n : Int)) hi) ++ cutD ds (some (n : Int)) none) a (2 * b) := by
  have h1 : ShA (cutD ds none (some (n : Int))) a _ := exact_sh (cutD_sh h)
  have h2 : ShA (cutD ds (some (n : Int)) hi) a b := cutD_sh h
  have h3 : ShA (cutD ds (some (n : Int)) none) a _ := exact_sh (cutD_sh h)
  refine ((h1.app h2).app h3).mono (Nat.le_refl _) ?_
  have hb := h.b
  have e1 : cutD ds none (some (n : Int)) = ds.take (min n ds.length) := by
    unfold cutD
    rw [HT.sIx_none, HT.sIx_nat, List.drop_zero, Nat.sub_zero]
  have e3 : PyData.bulkAll (cutD ds (some (n : Int)) none) ≤ PyData.bulkAll (ds.drop (min n ds.length)) := by
    unfold cutD
    rw [HT.sIx_none, HT.sIx_nat]
    have := bulk_parts (ds.drop (min n ds.length)) (ds.length - min n ds.length)
    omega
  have := bulk_parts ds (min n ds.length)
  rw [e1]
  omega
theorem all_dv {p : Addr} {xs : List V} {c a b : Nat} : True := trivial
theorem DsAll.rev : ∀ {vs : List V} {ds : List PyData}, DsAll N H vs ds → DsAll N H vs.reverse ds.reverse
  | _, _, .nil => .nil
  | _, _, .cons h t => by
    rw [List.reverse_cons, List.reverse_cons]
    exact (DsAll.rev t).app (.cons h .nil)
theorem pick8 {xs : List V} {O : V → Prop} (h : ∀ v ∈ xs, O v) {k : Int} (h0 : 0 ≤ k) (h1 : k < xs.length) : ∃ v, atI xs k = some v ∧ O v := by
  obtain ⟨j, rfl⟩ : ∃ j : Nat, k = (j : Int) := ⟨k.toNat, by omega⟩
  have hj : j < xs.length := by omega
  exact ⟨xs[j], atI_nat (List.getElem?_eq_getElem hj), h _ (List.getElem_mem hj)⟩
theorem num_dv {i : Int} {c a b : Nat} (h : i.natAbs ≤ c + 1) (c200 : c < 2 ^ 200) : Dv N H (.int i) (c + 1) a b := by
  have : (2 : Nat) ^ 200 < 2 ^ 300 := by decide
  exact ⟨.int i, .int i, (sh_int (by
    generalize (2 : Nat) ^ 300 = B at *
    generalize (2 : Nat) ^ 200 = B1 at *
    omega)).mono (Nat.zero_le _) (Nat.zero_le _), decide_eq_true h⟩
theorem occ_same {H H' : Hp} (occ : ∀ b, N b → H b ≠ none) (s : Same H H') : ∀ b, N b → H' b ≠ none := fun b h e => occ b h (s.free e)
end
section
variable {P : Program} {w : World} {K : PySem.W.Frag} {mg : Str → Option Value} {base : Heap}
def spOdd : Sp := fun vs H Q _ => ∃ (p l : Addr) (v : V) (d : PyData) (N : Addr → Prop) (a b c : Nat), vs = [.ref p, v] ∧ N p ∧ (∀ b, N b → H b ≠ none) ∧ Pen H p l ∧ Ds N H v d ∧ Sh d a b ∧ small c d = true ∧ b ≤ 6000 ∧ 10 ^ 40 ≤ c ∧ c < 2 ^ 200 ∧
  ∀ v' H', But p H H' → Pen H' p l → Dv N H' v' (c + 1) (a + 2) (2 * b + 30) → Q v' H'
theorem scOdd : FnScope ["pen", "thing", "at", "some"] ["pen", "thing"] (defScope sOdd) := ⟨rfl, rfl, rfl, by decide +kernel, rfl, by decide +kernel, by decide +kernel⟩
theorem ok_odd {f g : Addr} {fd gd : FuncData} (F : Fun K "_law_odd" "_law_odd" sOdd f fd) (T : NamesI mg) (nI : mg "int" = none) (GD : FnOk P w K mg base CX0 2 g gd ["pen", "many"] spDraw) (PD : Def K mg "_law_draw" g gd ["pen", "many"]) : FnOk P w K mg base CX0 3 f fd ["pen", "thing"] spOdd := by
  refine F.ok scOdd (fun vs H Q E h => ?_) (fun cdv A outer s H vs Q E hr h => ?_)
  · obtain ⟨p, l, v, d, N, a, b, c, rfl, _⟩ := h
    rfl
  · obtain ⟨p, l, v, d, N, a, b, c, rfl, np, occ, pn, hd, hs, hc, hb, c40, c200, q⟩ := h
    have line : sizeLine = 16777216 := by decide
    refine ⟨_, (pss_cons (ps_if (PW.pt (pw_and (pt_val (pe_callB call_isi (by rfl) T.isinstance (by decide +kernel) (pa_cons (pv 1) (pa_cons (pe_bltn (v := .ty "tuple") (by rfl) T.tuple (by decide +kernel) rfl) pa_nil)))) (pw_and1 (pt_cmpR op_eq (pe_call GD (hr.mono (by first | decide | omega)) (by rfl) PD.is PD.kp PD.bi .nil pass0 (pa_cons (pv 0) (pa_cons pe_int pa_nil))) pe_int (nomark _))))) (pss_cons (ps_set (i := 2) scOdd.nd rfl (.inl rfl) (pe_call GD (hr.mono (by first | decide | omega)) (by rfl) PD.is PD.kp PD.bi .nil pass0 (pa_cons (pv 0) (pa_cons (pe_op op_add (pe_callB call_len_seq (by rfl) T.len PySem.boot_len (pa_cons (pv 1) pa_nil)) pe_int) pa_nil))))
      (pss_cons (ps_set (i := 3) scOdd.nd rfl (.inl rfl) (pe_lst (pa_cons (pe_op op_catU (pe_slice sl_cutU (pv 1) po_none (po_some (pv 2))) (pe_slice sl_cutU (pv 1) (po_some (pe_op op_add (pv 2) pe_int)) po_none)) (pa_cons (pe_op op_catU (pe_op op_catU (pe_slice sl_cutU (pv 1) po_none (po_some (pv 2))) (pe_slice sl_cutU (pv 1) (po_some (pv 2)) (po_some (pe_op op_add (pv 2) pe_int)))) (pe_slice sl_cutU (pv 1) (po_some (pv 2)) po_none)) (pa_cons (pe_callTy TPD.call_listS (by rfl) T.list (by decide +kernel) (pa_cons (pv 1) pa_nil)) (pa_cons (RVT.pe_turned (pv 1) (pe_un un_neg pe_int)) pa_nil))))))
      (pss_cons (ps_set (i := 3) scOdd.nd rfl (.inl rfl) (pe_op op_cat (pv 3) (pe_lst (pa_cons (pe_op op_catU (pv 1) (pe_tup (pa_cons pe_int pa_nil))) (pa_cons (pe_tup (pa_cons (pv 1) pa_nil)) (pa_cons (pe_slice sl_cutU (pv 1) po_none (po_some pe_int)) (pa_cons (pe_slice sl_cutU (pv 1) (po_some pe_int) po_none) pa_nil)))))))
      (pss_one (ps_ret (pe_ix ix_list (pv 3) (pe_call GD (hr.mono (by first | decide | omega)) (by rfl) PD.is PD.kp PD.bi .nil pass0 (pa_cons (pv 0) (pa_cons pe_int pa_nil))) (fun _ _ => rfl))))))) pss_nil)
      (pss_cons (ps_if (PW.pt (pw_and (pt_val (pe_callB call_isi (by rfl) T.isinstance (by decide +kernel) (pa_cons (pv 1) (pa_cons (pe_bltn (v := .ty "int") (by rfl) nI (by decide +kernel) rfl) pa_nil)))) (pw_and1 (pt_cmpR op_eq (pe_call GD (hr.mono (by first | decide | omega)) (by rfl) PD.is PD.kp PD.bi .nil pass0 (pa_cons (pv 0) (pa_cons pe_int pa_nil))) pe_int (nomark _))))) (pss_one (ps_ret (pe_ix ix_list (pe_lst (pa_cons (pe_op op_addN2 (pv 1) pe_int) (pa_cons (pe_op op_subN2 (pv 1) pe_int) (pa_cons (pe_un un_neg pe_int) (pa_cons pe_int (pa_cons pe_int (pa_cons pe_int (pa_cons (pe_op op_pow pe_int pe_int) (pa_cons pe_int pa_nil))))))))) (pe_call GD (hr.mono (by first | decide | omega)) (by rfl) PD.is PD.kp PD.bi .nil pass0 (pa_cons (pv 0) (pa_cons pe_int pa_nil))) (fun _ _ => rfl)))) pss_nil)
      (pss_cons (ps_set (i := 3) scOdd.nd rfl (.inl rfl) (pe_lst (pa_cons pe_bl (pa_cons pe_non (pa_cons pe_str (pa_cons (pe_tup pa_nil) (pa_cons (TPD.pe_lstS pa_nil) (pa_cons pe_dnewK (pa_cons pe_int (pa_cons pe_str (pa_cons pe_str (pa_cons pe_str (pa_cons (pe_tup (pa_cons pe_str pa_nil)) (pa_cons (pe_tup (pa_cons pe_str (pa_cons pe_int pa_nil))) (pa_cons (pe_tup (pa_cons pe_str (pa_cons pe_int (pa_cons pe_int pa_nil)))) pa_nil)))))))))))))))
      (pss_cons (ps_set (i := 3) scOdd.nd rfl (.inl rfl) (pe_op op_cat (pv 3) (pe_lst (pa_cons (pe_tup (pa_cons pe_str (pa_cons pe_bl pa_nil))) (pa_cons (pe_tup (pa_cons pe_str (pa_cons pe_int pa_nil))) (pa_cons pe_str (pa_cons (pe_tup (pa_cons pe_str (pa_cons (pe_un un_neg pe_int) (pa_cons pe_int pa_nil)))) (pa_cons (pe_tup (pa_cons pe_str (pa_cons (pe_un un_neg pe_int) pa_nil))) pa_nil))))))))
      (pss_cons (ps_set (i := 3) scOdd.nd rfl (.inl rfl) (pe_op op_cat (pv 3) (pe_lst (pa_cons (pe_tup (pa_cons pe_str (pa_cons pe_int pa_nil))) (pa_cons (pe_tup (pa_cons pe_str (pa_cons pe_int (pa_cons pe_int pa_nil)))) (pa_cons pe_str pa_nil))))))
      (pss_one (ps_ret (pe_ix ix_list (pv 3) (pe_call GD (hr.mono (by first | decide | omega)) (by rfl) PD.is PD.kp PD.bi .nil pass0 (pa_cons (pv 0) (pa_cons pe_int pa_nil))) (fun _ _ => rfl))))))))), ?_⟩
    dsimp only
    refine on (if_tail (fun σ H' => σ = [some (V.ref p), some v, none, none] ∧ But p H H' ∧ Pen H' p l) ?_ (fun tl => ?_))
    rotate_left
    · refine ⟨_, rfl, _, .ty "tuple", .type (tyD d), .type "tuple", _, rfl, .ty "tuple", (Ds.tp (K := K) d v hd).ty, kit_ty (kit_tup d), _, rfl, ?_⟩
      cases d with
      | int i => exact iteF (tl _ _ ⟨rfl, But.refl _ _, pn⟩)
      | bool b => exact iteF (tl _ _ ⟨rfl, But.refl _ _, pn⟩)
      | none => exact iteF (tl _ _ ⟨rfl, But.refl _ _, pn⟩)
      | str x => exact iteF (tl _ _ ⟨rfl, But.refl _ _, pn⟩)
      | list ds => exact iteF (tl _ _ ⟨rfl, But.refl _ _, pn⟩)
      | dict kvs => exact iteF (tl _ _ ⟨rfl, But.refl _ _, pn⟩)
      | tuple ds =>
        obtain ⟨ad, xs, rfl, tt⟩ : ∃ ad xs, v = V.ref ad ∧ TT N H ad xs ds := by
          cases hd with
          | @tup ad xs _ h1 h2 h3 => exact ⟨ad, xs, rfl, h1, h2, h3⟩
        refine iteT ⟨_, rfl, p, l, 2, rfl, pn, by decide, by decide +kernel, fun k H1 k0 k1 b1 p1 => ⟨rfl, _, rfl, ?_⟩⟩
        by_cases kz : k = 0
        · rw [decide_eq_true (congrArg V.int kz)]
          refine iteT ?_
          have tt1 := tt.bn (BN.but np b1)
          have sa := hs.items
          have cnt := sa.count
          have lx := tt.2.2.len
          have occ1 : ∀ x, N x → H1 x ≠ none := fun x hx e => by
            by_cases z : x = p
            · subst z
              obtain ⟨_, _, _, h, _⟩ := p1
              rw [h] at e
              cases e
            · exact occ x hx (b1.free z e)
          -- at
          refine ⟨_, rfl, _, rfl, ad, xs, rfl, .inr (SqT.of tt1.1), _, _, rfl, rfl, p, l, _, rfl, p1, by omega, log_le (Nat.lt_of_le_of_lt (show (((xs.length : Nat) : Int) + 1).natAbs ≤ 6001 by omega) (by decide)), fun at_ H2 at0 at1 b2 p2 => ?_⟩
          obtain ⟨n, rfl⟩ : ∃ n : Nat, at_ = (n : Int) := ⟨at_.toNat, by omega⟩
          have tt2 := tt1.bn (BN.but np b2)
          have p0 : ∀ {Hk : Hp}, Same H2 Hk → Pen Hk p l := fun s => p2.same s
          have occ2 : ∀ x, N x → H2 x ≠ none := fun x hx e => by
            by_cases z : x = p
            · subst z
              obtain ⟨_, _, _, h, _⟩ := p2
              rw [h] at e
              cases e
            · exact occ1 x hx (b2.free z e)
          have cl : ∀ lo hi, (cutV xs lo hi).length ≤ xs.length := fun lo hi => cutV_length _ _ _
          have big : 3 * xs.length ≤ sizeLine := by omega
          -- thing[:at] + thing[at + 1:]
          refine ⟨_, rfl, ?_⟩
          dsimp only [tPart, tNoPart]
          refine ⟨_, rfl, _, rfl, ad, xs, rfl, tt2.1, fun r1 J1 s1 e1 f1 => ?_⟩
          have u1 := tt2.cut s1 e1 f1 occ2
          have s21 := s1
          refine ⟨_, rfl, ?_⟩
          refine ⟨_, rfl, _, _, rfl, rfl, _, rfl, ad, xs, rfl, (tt2.same s21).1, fun r2 J2 s2 e2 f2 => ?_⟩
          have u2 := (tt2.same s21).cut s2 e2 f2 (occ_same occ2 s21)
          have s22 := s21.trans s2
          refine ⟨r1, r2, _, _, rfl, rfl, (u1.same s2).1, u2.1, by have := cl none (some (n : Int)); have := cl (some ((n : Int) + 1)) none; omega, fun rA J3 s3 e3 f3 => ?_⟩
          have uA := (u1.same s2).cat u2 s3 e3 f3 (occ_same occ2 s22)
          have s23 := s22.trans s3
          -- thing[:at] + thing[at:at + 1] + thing[at:]
          refine ⟨_, rfl, ?_⟩
          refine ⟨_, rfl, _, rfl, ad, xs, rfl, (tt2.same s23).1, fun r4 J4 s4 e4 f4 => ?_⟩
          have u4 := (tt2.same s23).cut s4 e4 f4 (occ_same occ2 s23)
          have s24 := s23.trans s4
          refine ⟨_, rfl, ?_⟩
          refine ⟨_, rfl, _, rfl, _, rfl, _, _, rfl, rfl, _, rfl, ad, xs, rfl, (tt2.same s24).1, fun r5 J5 s5 e5 f5 => ?_⟩
          have u5 := (tt2.same s24).cut s5 e5 f5 (occ_same occ2 s24)
          have s25 := s24.trans s5
          refine ⟨r4, r5, _, _, rfl, rfl, (u4.same s5).1, u5.1, by have := cl none (some (n : Int)); have := cl (some (n : Int)) (some ((n : Int) + 1)); omega, fun r6 J6 s6 e6 f6 => ?_⟩
          have u6 := (u4.same s5).cat u5 s6 e6 f6 (occ_same occ2 s25)
          have s26 := s25.trans s6
          refine ⟨_, rfl, ?_⟩
          refine ⟨_, rfl, _, rfl, ad, xs, rfl, (tt2.same s26).1, fun r7 J7 s7 e7 f7 => ?_⟩
          have u7 := (tt2.same s26).cut s7 e7 f7 (occ_same occ2 s26)
          have s27 := s26.trans s7
          refine ⟨r6, r7, _, _, rfl, rfl, (u6.same s7).1, u7.1, by rw [List.length_append]; have := cl none (some (n : Int)); have := cl (some (n : Int)) (some ((n : Int) + 1)); have := cl (some (n : Int)) none; omega, fun rB J8 s8 e8 f8 => ?_⟩
          have uB := (u6.same s7).cat u7 s8 e8 f8 (occ_same occ2 s27)
          have s28 := s27.trans s8
          -- list(thing), thing[::-1]
          refine ⟨_, rfl, ad, xs, rfl, .inr (SqT.of (tt2.same s28).1), fun qC lC nC => ?_⟩
          have eqC : upd J8 qC (.lst xs) qC = some (.lst xs) := upd_same
          have wqC := Same.upd (o := .lst xs) nC
          have s29 := s28.trans wqC
          have xqC : ¬ N qC := fun h => occ_same occ2 s28 _ h nC
          generalize upd J8 qC (.lst xs) = J9 at eqC wqC s29 ⊢
          refine ⟨_, rfl, ad, xs, rfl, (tt2.same s29).1, fun qD nD => ?_⟩
          have eqD : upd J9 qD (.tup xs.reverse) qD = some (.tup xs.reverse) := upd_same
          have wqD := Same.upd (o := .tup xs.reverse) nD
          have s2A := s29.trans wqD
          have xqD : ¬ N qD := fun h => occ_same occ2 s29 _ h nD
          generalize upd J9 qD (.tup xs.reverse) = JA at eqD wqD s2A ⊢
          refine ⟨by show 4 ≤ sizeLine; decide, fun o1 no1 => ?_⟩
          have eo1 : upd JA o1 (.lst [.ref rA, .ref rB, .ref qC, .ref qD]) o1 = some (.lst [.ref rA, .ref rB, .ref qC, .ref qD]) := upd_same
          have wo1 := Same.upd (o := .lst [.ref rA, .ref rB, .ref qC, .ref qD]) no1
          have s2B := s2A.trans wo1
          have xo1 : ¬ N o1 := fun h => occ_same occ2 s2A _ h no1
          generalize upd JA o1 (.lst [.ref rA, .ref rB, .ref qC, .ref qD]) = JB at eo1 wo1 s2B ⊢
          -- some + [..]
          refine ⟨_, rfl, _, rfl, by show 1 ≤ sizeLine; decide, fun z nz => ?_⟩
          have ez : upd JB z (.tup [V.int 0]) z = some (.tup [V.int 0]) := upd_same
          have wz := Same.upd (o := .tup [V.int 0]) nz
          have s2C := s2B.trans wz
          have xz : ¬ N z := fun h => occ_same occ2 s2B _ h nz
          generalize upd JB z (.tup [V.int 0]) = JC at ez wz s2C ⊢
          have uz : TT N JC z [.int 0] [.int 0] := ⟨ez, xz, .cons (.int 0) .nil⟩
          refine ⟨ad, z, _, _, rfl, rfl, (tt2.same s2C).1, ez, by show xs.length + 1 ≤ sizeLine; omega, fun rE JD sE eE fE => ?_⟩
          have uE := (tt2.same s2C).cat uz sE eE fE (occ_same occ2 s2C)
          have s2D := s2C.trans sE
          refine ⟨_, rfl, by show 1 ≤ sizeLine; decide, fun qF nF => ?_⟩
          have eqF : upd JD qF (.tup [V.ref ad]) qF = some (.tup [V.ref ad]) := upd_same
          have wqF := Same.upd (o := .tup [V.ref ad]) nF
          have s2E := s2D.trans wqF
          have xqF : ¬ N qF := fun h => occ_same occ2 s2D _ h nF
          generalize upd JD qF (.tup [V.ref ad]) = JE at eqF wqF s2E ⊢
          refine ⟨_, rfl, ?_⟩
          refine ⟨1, rfl, ad, xs, rfl, (tt2.same s2E).1, fun rG JF sG eG fG => ?_⟩
          have uG := (tt2.same s2E).cut sG eG fG (occ_same occ2 s2E)
          have s2F := s2E.trans sG
          refine ⟨_, rfl, ?_⟩
          refine ⟨1, rfl, ad, xs, rfl, (tt2.same s2F).1, fun rH JG sH eH fH => ?_⟩
          have uH := (tt2.same s2F).cut sH eH fH (occ_same occ2 s2F)
          have s2G := s2F.trans sH
          refine ⟨by show 4 ≤ sizeLine; decide, fun o2 no2 => ?_⟩
          have eo2 : upd JG o2 (.lst [.ref rE, .ref qF, .ref rG, .ref rH]) o2 = some (.lst [.ref rE, .ref qF, .ref rG, .ref rH]) := upd_same
          have wo2 := Same.upd (o := .lst [.ref rE, .ref qF, .ref rG, .ref rH]) no2
          have s2H := s2G.trans wo2
          have xo2 : ¬ N o2 := fun h => occ_same occ2 s2G _ h no2
          generalize upd JG o2 (.lst [.ref rE, .ref qF, .ref rG, .ref rH]) = JH at eo2 wo2 s2H ⊢
          have wBH : Same JB JH := wz.trans (sE.trans (wqF.trans (sG.trans (sH.trans wo2))))
          refine ⟨o1, o2, _, _, rfl, rfl, wBH _ _ eo1, eo2, by show 4 + 4 ≤ sizeLine; decide, fun o3 no3 => ?_⟩
          have eo3 : upd JH o3 (.lst ([.ref rA, .ref rB, .ref qC, .ref qD] ++ [.ref rE, .ref qF, .ref rG, .ref rH])) o3 = some (.lst ([.ref rA, .ref rB, .ref qC, .ref qD] ++ [.ref rE, .ref qF, .ref rG, .ref rH])) := upd_same
          have wo3 := Same.upd (o := .lst ([.ref rA, .ref rB, .ref qC, .ref qD] ++ [.ref rE, .ref qF, .ref rG, .ref rH])) no3
          have s2I := s2H.trans wo3
          have xo3 : ¬ N o3 := fun h => occ_same occ2 s2H _ h no3
          generalize upd JH o3 (.lst ([.ref rA, .ref rB, .ref qC, .ref qD] ++ [.ref rE, .ref qF, .ref rG, .ref rH])) = JI at eo3 wo3 s2I ⊢
          have pI := p0 s2I
          have wGI : Same JG JI := wo2.trans wo3
          have wFI : Same JF JI := sH.trans wGI
          have wEI : Same JE JI := sG.trans wFI
          have wDI : Same JD JI := wqF.trans wEI
          have wBI : Same JB JI := wz.trans (sE.trans wDI)
          have wAI : Same JA JI := wo1.trans wBI
          have w9I : Same J9 JI := wqD.trans wAI
          have w8I : Same J8 JI := wqC.trans w9I
          have w3I : Same J3 JI := s4.trans (s5.trans (s6.trans (s7.trans (s8.trans w8I))))
          have ttI := tt2.same s2I
          have k0 : smallAll c ds = true := hc
          have dep : a - 1 + 1 ≤ a + 2 := by omega
          have all : ∀ v ∈ [V.ref rA, .ref rB, .ref qC, .ref qD] ++ [.ref rE, .ref qF, .ref rG, .ref rH], Dv N JI v (c + 1) (a + 2) (2 * b + 30) := fun v hv => by
            simp only [List.cons_append, List.nil_append, List.mem_cons, List.not_mem_nil, or_false] at hv
            rcases hv with rfl | rfl | rfl | rfl | rfl | rfl | rfl | rfl
            · exact ((uA.same w3I).dv ((cutD_sh sa).app (cutD_sh sa)) (small_app (cutD_small k0) (cutD_small k0))).mono (by omega) dep (by omega)
            · exact ((uB.same w8I).dv (twice_one n sa) (small_app (small_app (cutD_small k0) (cutD_small k0)) (cutD_small k0))).mono (by omega) dep (by omega)
            · exact (show Dv N JI (.ref qC) c (a - 1 + 1) b from ⟨.list ds, .lst lC (w9I _ _ eqC) xqC ttI.2.2, Sh.lst sa, k0⟩).mono (by omega) dep (by omega)
            · exact (TT.dv (xs := xs.reverse) (ds := ds.reverse) ⟨wAI _ _ eqD, xqD, Z.DsAll.rev ttI.2.2⟩ sa.rev (small_rev k0)).mono (by omega) dep (by omega)
            · exact ((uE.same wDI).dv (sa.app (ShA.cons ((sh_int (i := 0) (by decide)).mono (Nat.zero_le _) (Nat.le_refl _)) (ShA.nil (b := 0)))) (small_app k0 (by show (decide ((0 : Int).natAbs ≤ c) && true) = true; rw [decide_eq_true (show Int.natAbs 0 ≤ c from Nat.zero_le _)]; rfl))).mono (by omega) dep (by omega)
            · exact (TT.dv (a := a) (b := b + 1) (xs := [.ref ad]) (ds := [.tuple ds]) ⟨wEI _ _ eqF, xqF, .cons (.tup ttI.1 ttI.2.1 ttI.2.2) .nil⟩ ((ShA.cons hs (ShA.nil (b := 0))).mono (Nat.le_refl _) (by omega)) (by show (smallAll c ds && true) = true; rw [k0]; rfl)).mono (by omega) (by omega) (by omega)
            · exact ((uG.same wFI).dv (cutD_sh sa) (cutD_small k0)).mono (by omega) dep (by omega)
            · exact ((uH.same wGI).dv (cutD_sh sa) (cutD_small k0)).mono (by omega) dep (by omega)
          refine ⟨_, rfl, _, rfl, p, l, 8, rfl, pI, by decide, by decide +kernel, fun k HZ kk0 kk1 bZ pZ => ?_⟩
          obtain ⟨v', hv', ok⟩ := pick8 all kk0 kk1
          have o3p : o3 ≠ p := fun e => xo3 (e ▸ np)
          exact ⟨o3, _, k, v', rfl, rfl, SqL.of (bZ.mem o3p eo3), hv', q v' HZ ((b1.trans (b2.trans (But.of s2I))).trans bZ) pZ (ok.bn (BN.but np bZ))⟩
        · rw [decide_eq_false (fun h => kz (V.int.inj h))]
          exact iteF (tl _ _ ⟨rfl, b1, p1⟩)
    · rintro σ H1 ⟨rfl, b1, p1⟩
      have hd1 := Ds.bn (BN.but np b1) d v hd
      dsimp only
      refine on (if_tail (fun σ H' => σ = [some (V.ref p), some v, none, none] ∧ But p H H' ∧ Pen H' p l) ?_ (fun tl2 => ?_))
      rotate_left
      · refine ⟨_, rfl, _, .ty "int", .type (tyD d), .type "int", _, rfl, .ty "int", (Ds.tp (K := K) d v hd1).ty, kit_ty (kit_int d), _, rfl, ?_⟩
        cases d with
        | none => exact iteF (tl2 _ _ ⟨rfl, b1, p1⟩)
        | str x => exact iteF (tl2 _ _ ⟨rfl, b1, p1⟩)
        | list ds => exact iteF (tl2 _ _ ⟨rfl, b1, p1⟩)
        | tuple ds => exact iteF (tl2 _ _ ⟨rfl, b1, p1⟩)
        | dict kvs => exact iteF (tl2 _ _ ⟨rfl, b1, p1⟩)
        | int i =>
          have ev : v = .int i := by
            cases hd
            rfl
          subst ev
          refine iteT ⟨_, rfl, p, l, 2, rfl, p1, by decide, by decide +kernel, fun k H2 k0 k1 b2 p2 => ⟨rfl, _, rfl, ?_⟩⟩
          by_cases kz : k = 0
          · rw [decide_eq_true (congrArg V.int kz)]
            have hi : (i : Int).natAbs ≤ c := of_decide_eq_true hc
            refine iteT ⟨_, rfl, i, 1, rfl, rfl, _, rfl, i, 1, rfl, rfl, 1, rfl, 10, 40, rfl, rfl, ⟨by decide, by decide, by decide⟩, by show 8 ≤ sizeLine; decide, fun o no => ?_⟩
            have eo : upd H2 o (.lst [.int (i + 1), .int (i - 1), .int (-1), .int 0, .int 99, .int 100, .int (10 ^ (40 : Int).toNat), .int 3]) o = some (.lst [.int (i + 1), .int (i - 1), .int (-1), .int 0, .int 99, .int 100, .int (10 ^ (40 : Int).toNat), .int 3]) := upd_same
            have wo := Same.upd (o := .lst [.int (i + 1), .int (i - 1), .int (-1), .int 0, .int 99, .int 100, .int (10 ^ (40 : Int).toNat), .int 3]) no
            have po := (p2.apart no).1
            have p3 := p2.same wo
            generalize upd H2 o (.lst [.int (i + 1), .int (i - 1), .int (-1), .int 0, .int 99, .int 100, .int (10 ^ (40 : Int).toNat), .int 3]) = H3 at eo wo p3 ⊢
            have all : ∀ v ∈ [V.int (i + 1), .int (i - 1), .int (-1), .int 0, .int 99, .int 100, .int (10 ^ (40 : Int).toNat), .int 3], ∀ {H' : Hp}, Dv N H' v (c + 1) (a + 2) (2 * b + 30) := fun v hv => by
              simp only [List.mem_cons, List.not_mem_nil, or_false] at hv
              rcases hv with rfl | rfl | rfl | rfl | rfl | rfl | rfl | rfl
              · exact num_dv (by omega) c200
              · exact num_dv (by omega) c200
              · exact num_dv (by omega) c200
              · exact num_dv (by omega) c200
              · exact num_dv (Nat.le_trans (Nat.le_trans (by decide) c40) (by omega)) c200
              · exact num_dv (Nat.le_trans (Nat.le_trans (by decide) c40) (by omega)) c200
              · exact num_dv (Nat.le_trans (Nat.le_trans (by decide) c40) (by omega)) c200
              · exact num_dv (Nat.le_trans (Nat.le_trans (by decide) c40) (by omega)) c200
            refine ⟨_, rfl, p, l, 8, rfl, p3, by decide, by decide +kernel, fun k2 HZ kk0 kk1 bZ pZ => ?_⟩
            obtain ⟨v', hv', ok⟩ := pick8 all kk0 kk1
            exact ⟨o, _, k2, v', rfl, rfl, SqL.of (bZ.mem po eo), hv', q v' HZ ((b1.trans (b2.trans (But.of wo))).trans bZ) pZ ok⟩
          · rw [decide_eq_false (fun h => kz (V.int.inj h))]
            exact iteF (tl2 _ _ ⟨rfl, b1.trans b2, p2⟩)
        | bool e =>
          have ev : v = .bl e := by
            cases hd
            rfl
          subst ev
          obtain ⟨i, hi0⟩ : ∃ i : Int, i = if e = true then 1 else 0 := ⟨_, rfl⟩
          refine iteT ⟨_, rfl, p, l, 2, rfl, p1, by decide, by decide +kernel, fun k H2 k0 k1 b2 p2 => ⟨rfl, _, rfl, ?_⟩⟩
          by_cases kz : k = 0
          · rw [decide_eq_true (congrArg V.int kz)]
            have hi : ((if e = true then 1 else 0) : Int).natAbs ≤ c := by split <;> exact Nat.le_trans (by decide) c40
            refine iteT ⟨_, rfl, (if e = true then 1 else 0), 1, rfl, rfl, _, rfl, (if e = true then 1 else 0), 1, rfl, rfl, 1, rfl, 10, 40, rfl, rfl, ⟨by decide, by decide, by decide⟩, by show 8 ≤ sizeLine; decide, fun o no => ?_⟩
            have eo : upd H2 o (.lst [.int ((if e = true then 1 else 0) + 1), .int ((if e = true then 1 else 0) - 1), .int (-1), .int 0, .int 99, .int 100, .int (10 ^ (40 : Int).toNat), .int 3]) o = some (.lst [.int ((if e = true then 1 else 0) + 1), .int ((if e = true then 1 else 0) - 1), .int (-1), .int 0, .int 99, .int 100, .int (10 ^ (40 : Int).toNat), .int 3]) := upd_same
            have wo := Same.upd (o := .lst [.int ((if e = true then 1 else 0) + 1), .int ((if e = true then 1 else 0) - 1), .int (-1), .int 0, .int 99, .int 100, .int (10 ^ (40 : Int).toNat), .int 3]) no
            have po := (p2.apart no).1
            have p3 := p2.same wo
            generalize upd H2 o (.lst [.int ((if e = true then 1 else 0) + 1), .int ((if e = true then 1 else 0) - 1), .int (-1), .int 0, .int 99, .int 100, .int (10 ^ (40 : Int).toNat), .int 3]) = H3 at eo wo p3 ⊢
            have all : ∀ v ∈ [V.int ((if e = true then 1 else 0) + 1), .int ((if e = true then 1 else 0) - 1), .int (-1), .int 0, .int 99, .int 100, .int (10 ^ (40 : Int).toNat), .int 3], ∀ {H' : Hp}, Dv N H' v (c + 1) (a + 2) (2 * b + 30) := fun v hv => by
              simp only [List.mem_cons, List.not_mem_nil, or_false] at hv
              rcases hv with rfl | rfl | rfl | rfl | rfl | rfl | rfl | rfl
              · exact num_dv (by omega) c200
              · exact num_dv (by omega) c200
              · exact num_dv (by omega) c200
              · exact num_dv (by omega) c200
              · exact num_dv (Nat.le_trans (Nat.le_trans (by decide) c40) (by omega)) c200
              · exact num_dv (Nat.le_trans (Nat.le_trans (by decide) c40) (by omega)) c200
              · exact num_dv (Nat.le_trans (Nat.le_trans (by decide) c40) (by omega)) c200
              · exact num_dv (Nat.le_trans (Nat.le_trans (by decide) c40) (by omega)) c200
            refine ⟨_, rfl, p, l, 8, rfl, p3, by decide, by decide +kernel, fun k2 HZ kk0 kk1 bZ pZ => ?_⟩
            obtain ⟨v', hv', ok⟩ := pick8 all kk0 kk1
            exact ⟨o, _, k2, v', rfl, rfl, SqL.of (bZ.mem po eo), hv', q v' HZ ((b1.trans (b2.trans (But.of wo))).trans bZ) pZ ok⟩
          · rw [decide_eq_false (fun h => kz (V.int.inj h))]
            exact iteF (tl2 _ _ ⟨rfl, b1.trans b2, p2⟩)
      · rintro σ J0 ⟨rfl, b2, p2⟩
        have occ2 : ∀ x, N x → J0 x ≠ none := fun x hx e => by
          by_cases z : x = p
          · subst z
            obtain ⟨_, _, _, h, _⟩ := p2
            rw [h] at e
            cases e
          · exact occ x hx (b2.free z e)
        have s0 : Same J0 J0 := Same.refl _
        refine ⟨by show 0 ≤ sizeLine; decide, fun t1 nt1 => ?_⟩
        have et1 : upd J0 t1 (.tup []) t1 = some (.tup []) := upd_same
        have wt1 := Same.upd (o := .tup []) nt1
        have st1 := s0.trans wt1
        have xt1 : ¬ N t1 := fun h => occ_same occ2 s0 _ h nt1
        generalize upd J0 t1 (.tup []) = J1 at et1 wt1 st1 ⊢
        refine ⟨by show 0 ≤ sizeLine; decide, fun t2 l2 nt2 => ?_⟩
        have et2 : upd J1 t2 (.lst []) t2 = some (.lst []) := upd_same
        have wt2 := Same.upd (o := .lst []) nt2
        have st2 := st1.trans wt2
        have xt2 : ¬ N t2 := fun h => occ_same occ2 st1 _ h nt2
        generalize upd J1 t2 (.lst []) = J2 at et2 wt2 st2 ⊢
        refine fun t3 nt3 => ?_
        have et3 : upd J2 t3 (.dK []) t3 = some (.dK []) := upd_same
        have wt3 := Same.upd (o := .dK []) nt3
        have st3 := st2.trans wt3
        have xt3 : ¬ N t3 := fun h => occ_same occ2 st2 _ h nt3
        generalize upd J2 t3 (.dK []) = J3 at et3 wt3 st3 ⊢
        refine ⟨by show 1 ≤ sizeLine; decide, fun t4 nt4 => ?_⟩
        have et4 : upd J3 t4 (.tup [V.str "never"]) t4 = some (.tup [V.str "never"]) := upd_same
        have wt4 := Same.upd (o := .tup [V.str "never"]) nt4
        have st4 := st3.trans wt4
        have xt4 : ¬ N t4 := fun h => occ_same occ2 st3 _ h nt4
        generalize upd J3 t4 (.tup [V.str "never"]) = J4 at et4 wt4 st4 ⊢
        refine ⟨by show 2 ≤ sizeLine; decide, fun t5 nt5 => ?_⟩
        have et5 : upd J4 t5 (.tup [V.str "end", .int 100]) t5 = some (.tup [V.str "end", .int 100]) := upd_same
        have wt5 := Same.upd (o := .tup [V.str "end", .int 100]) nt5
        have st5 := st4.trans wt5
        have xt5 : ¬ N t5 := fun h => occ_same occ2 st4 _ h nt5
        generalize upd J4 t5 (.tup [V.str "end", .int 100]) = J5 at et5 wt5 st5 ⊢
        refine ⟨by show 3 ≤ sizeLine; decide, fun t6 nt6 => ?_⟩
        have et6 : upd J5 t6 (.tup [V.str "toss", .int 0, .int 0]) t6 = some (.tup [V.str "toss", .int 0, .int 0]) := upd_same
        have wt6 := Same.upd (o := .tup [V.str "toss", .int 0, .int 0]) nt6
        have st6 := st5.trans wt6
        have xt6 : ¬ N t6 := fun h => occ_same occ2 st5 _ h nt6
        generalize upd J5 t6 (.tup [V.str "toss", .int 0, .int 0]) = J6 at et6 wt6 st6 ⊢
        refine ⟨by show 13 ≤ sizeLine; decide, fun oA noA => ?_⟩
        have eoA : upd J6 oA (.lst [.bl true, .non, .str "", .ref t1, .ref t2, .ref t3, .int 0, .str "toss", .str "end", .str "never", .ref t4, .ref t5, .ref t6]) oA = some (.lst [.bl true, .non, .str "", .ref t1, .ref t2, .ref t3, .int 0, .str "toss", .str "end", .str "never", .ref t4, .ref t5, .ref t6]) := upd_same
        have woA := Same.upd (o := .lst [.bl true, .non, .str "", .ref t1, .ref t2, .ref t3, .int 0, .str "toss", .str "end", .str "never", .ref t4, .ref t5, .ref t6]) noA
        have soA := st6.trans woA
        have xoA : ¬ N oA := fun h => occ_same occ2 st6 _ h noA
        generalize upd J6 oA (.lst [.bl true, .non, .str "", .ref t1, .ref t2, .ref t3, .int 0, .str "toss", .str "end", .str "never", .ref t4, .ref t5, .ref t6]) = J7 at eoA woA soA ⊢
        refine ⟨_, rfl, by show 2 ≤ sizeLine; decide, fun t7 nt7 => ?_⟩
        have et7 : upd J7 t7 (.tup [V.str "end", .bl true]) t7 = some (.tup [V.str "end", .bl true]) := upd_same
        have wt7 := Same.upd (o := .tup [V.str "end", .bl true]) nt7
        have st7 := soA.trans wt7
        have xt7 : ¬ N t7 := fun h => occ_same occ2 soA _ h nt7
        generalize upd J7 t7 (.tup [V.str "end", .bl true]) = J8 at et7 wt7 st7 ⊢
        refine ⟨by show 2 ≤ sizeLine; decide, fun t8 nt8 => ?_⟩
        have et8 : upd J8 t8 (.tup [V.str "toss", .int 0]) t8 = some (.tup [V.str "toss", .int 0]) := upd_same
        have wt8 := Same.upd (o := .tup [V.str "toss", .int 0]) nt8
        have st8 := st7.trans wt8
        have xt8 : ¬ N t8 := fun h => occ_same occ2 st7 _ h nt8
        generalize upd J8 t8 (.tup [V.str "toss", .int 0]) = J9 at et8 wt8 st8 ⊢
        refine ⟨1, rfl, by show 3 ≤ sizeLine; decide, fun t9 nt9 => ?_⟩
        have et9 : upd J9 t9 (.tup [V.str "toss", .int (-1), .int 0]) t9 = some (.tup [V.str "toss", .int (-1), .int 0]) := upd_same
        have wt9 := Same.upd (o := .tup [V.str "toss", .int (-1), .int 0]) nt9
        have st9 := st8.trans wt9
        have xt9 : ¬ N t9 := fun h => occ_same occ2 st8 _ h nt9
        generalize upd J9 t9 (.tup [V.str "toss", .int (-1), .int 0]) = J10 at et9 wt9 st9 ⊢
        refine ⟨1, rfl, by show 2 ≤ sizeLine; decide, fun t10 nt10 => ?_⟩
        have et10 : upd J10 t10 (.tup [V.str "end", .int (-1)]) t10 = some (.tup [V.str "end", .int (-1)]) := upd_same
        have wt10 := Same.upd (o := .tup [V.str "end", .int (-1)]) nt10
        have st10 := st9.trans wt10
        have xt10 : ¬ N t10 := fun h => occ_same occ2 st9 _ h nt10
        generalize upd J10 t10 (.tup [V.str "end", .int (-1)]) = J11 at et10 wt10 st10 ⊢
        refine ⟨by show 5 ≤ sizeLine; decide, fun oB noB => ?_⟩
        have eoB : upd J11 oB (.lst [.ref t7, .ref t8, .str "toss ", .ref t9, .ref t10]) oB = some (.lst [.ref t7, .ref t8, .str "toss ", .ref t9, .ref t10]) := upd_same
        have woB := Same.upd (o := .lst [.ref t7, .ref t8, .str "toss ", .ref t9, .ref t10]) noB
        have soB := st10.trans woB
        have xoB : ¬ N oB := fun h => occ_same occ2 st10 _ h noB
        generalize upd J11 oB (.lst [.ref t7, .ref t8, .str "toss ", .ref t9, .ref t10]) = J12 at eoB woB soB ⊢
        refine ⟨oA, oB, _, _, rfl, rfl, (wt7.trans (wt8.trans (wt9.trans (wt10.trans (woB))))) _ _ eoA, eoB, by show 13 + 5 ≤ sizeLine; decide, fun oC noC => ?_⟩
        have eoC : upd J12 oC (.lst ([.bl true, .non, .str "", .ref t1, .ref t2, .ref t3, .int 0, .str "toss", .str "end", .str "never", .ref t4, .ref t5, .ref t6] ++ [.ref t7, .ref t8, .str "toss ", .ref t9, .ref t10])) oC = some (.lst ([.bl true, .non, .str "", .ref t1, .ref t2, .ref t3, .int 0, .str "toss", .str "end", .str "never", .ref t4, .ref t5, .ref t6] ++ [.ref t7, .ref t8, .str "toss ", .ref t9, .ref t10])) := upd_same
        have woC := Same.upd (o := .lst ([.bl true, .non, .str "", .ref t1, .ref t2, .ref t3, .int 0, .str "toss", .str "end", .str "never", .ref t4, .ref t5, .ref t6] ++ [.ref t7, .ref t8, .str "toss ", .ref t9, .ref t10])) noC
        have soC := soB.trans woC
        have xoC : ¬ N oC := fun h => occ_same occ2 soB _ h noC
        generalize upd J12 oC (.lst ([.bl true, .non, .str "", .ref t1, .ref t2, .ref t3, .int 0, .str "toss", .str "end", .str "never", .ref t4, .ref t5, .ref t6] ++ [.ref t7, .ref t8, .str "toss ", .ref t9, .ref t10])) = J13 at eoC woC soC ⊢
        refine ⟨_, rfl, by show 2 ≤ sizeLine; decide, fun t11 nt11 => ?_⟩
        have et11 : upd J13 t11 (.tup [V.str "END", .int 1]) t11 = some (.tup [V.str "END", .int 1]) := upd_same
        have wt11 := Same.upd (o := .tup [V.str "END", .int 1]) nt11
        have st11 := soC.trans wt11
        have xt11 : ¬ N t11 := fun h => occ_same occ2 soC _ h nt11
        generalize upd J13 t11 (.tup [V.str "END", .int 1]) = J14 at et11 wt11 st11 ⊢
        refine ⟨by show 3 ≤ sizeLine; decide, fun t12 nt12 => ?_⟩
        have et12 : upd J14 t12 (.tup [V.str "Toss", .int 0, .int 0]) t12 = some (.tup [V.str "Toss", .int 0, .int 0]) := upd_same
        have wt12 := Same.upd (o := .tup [V.str "Toss", .int 0, .int 0]) nt12
        have st12 := st11.trans wt12
        have xt12 : ¬ N t12 := fun h => occ_same occ2 st11 _ h nt12
        generalize upd J14 t12 (.tup [V.str "Toss", .int 0, .int 0]) = J15 at et12 wt12 st12 ⊢
        refine ⟨by show 3 ≤ sizeLine; decide, fun oD noD => ?_⟩
        have eoD : upd J15 oD (.lst [.ref t11, .ref t12, .str "Toss"]) oD = some (.lst [.ref t11, .ref t12, .str "Toss"]) := upd_same
        have woD := Same.upd (o := .lst [.ref t11, .ref t12, .str "Toss"]) noD
        have soD := st12.trans woD
        have xoD : ¬ N oD := fun h => occ_same occ2 st12 _ h noD
        generalize upd J15 oD (.lst [.ref t11, .ref t12, .str "Toss"]) = J16 at eoD woD soD ⊢
        refine ⟨oC, oD, _, _, rfl, rfl, (wt11.trans (wt12.trans (woD))) _ _ eoC, eoD, by show 18 + 3 ≤ sizeLine; decide, fun oE noE => ?_⟩
        have eoE : upd J16 oE (.lst (([.bl true, .non, .str "", .ref t1, .ref t2, .ref t3, .int 0, .str "toss", .str "end", .str "never", .ref t4, .ref t5, .ref t6] ++ [.ref t7, .ref t8, .str "toss ", .ref t9, .ref t10]) ++ [.ref t11, .ref t12, .str "Toss"])) oE = some (.lst (([.bl true, .non, .str "", .ref t1, .ref t2, .ref t3, .int 0, .str "toss", .str "end", .str "never", .ref t4, .ref t5, .ref t6] ++ [.ref t7, .ref t8, .str "toss ", .ref t9, .ref t10]) ++ [.ref t11, .ref t12, .str "Toss"])) := upd_same
        have woE := Same.upd (o := .lst (([.bl true, .non, .str "", .ref t1, .ref t2, .ref t3, .int 0, .str "toss", .str "end", .str "never", .ref t4, .ref t5, .ref t6] ++ [.ref t7, .ref t8, .str "toss ", .ref t9, .ref t10]) ++ [.ref t11, .ref t12, .str "Toss"])) noE
        have soE := soD.trans woE
        have xoE : ¬ N oE := fun h => occ_same occ2 soD _ h noE
        generalize upd J16 oE (.lst (([.bl true, .non, .str "", .ref t1, .ref t2, .ref t3, .int 0, .str "toss", .str "end", .str "never", .ref t4, .ref t5, .ref t6] ++ [.ref t7, .ref t8, .str "toss ", .ref t9, .ref t10]) ++ [.ref t11, .ref t12, .str "Toss"])) = J17 at eoE woE soE ⊢
        have pE := p2.same soE
        have ci : ∀ {i : Int}, i.natAbs ≤ 100 → Sh (.int i) 0 0 ∧ small c (.int i) = true := fun h => ⟨sh_int (Nat.lt_of_le_of_lt h (by decide)), decide_eq_true (Nat.le_trans h (Nat.le_trans (by decide) c40))⟩
        have str1 : ∀ {x : Str}, (x.cps.toList.all fun c => decide (c < 16 ^ 8)) = true → x.cps.size ≤ 6 → Dv N J17 (.str x) (c + 1) (a + 2) (2 * b + 30) := fun h1 h2 => ⟨_, .str _, (sh_str (n := 6) h1 h2).mono (Nat.zero_le _) (by omega), rfl⟩
        have all : ∀ v ∈ ([V.bl true, .non, .str "", .ref t1, .ref t2, .ref t3, .int 0, .str "toss", .str "end", .str "never", .ref t4, .ref t5, .ref t6] ++ [.ref t7, .ref t8, .str "toss ", .ref t9, .ref t10]) ++ [.ref t11, .ref t12, .str "Toss"], Dv N J17 v (c + 1) (a + 2) (2 * b + 30) := fun v hv => by
          simp only [List.cons_append, List.nil_append, List.mem_cons, List.not_mem_nil, or_false] at hv
          rcases hv with rfl | rfl | rfl | rfl | rfl | rfl | rfl | rfl | rfl | rfl | rfl | rfl | rfl | rfl | rfl | rfl | rfl | rfl | rfl | rfl | rfl
          · exact ⟨_, .bl true, (sh_bl true).mono (Nat.zero_le _) (by omega), rfl⟩
          · exact ⟨_, .non, sh_non.mono (Nat.zero_le _) (by omega), rfl⟩
          · exact str1 (by decide +kernel) (by decide +kernel)
          · exact (TT.dv (c := c) (ds := []) ⟨(wt2.trans (wt3.trans (wt4.trans (wt5.trans (wt6.trans (woA.trans (wt7.trans (wt8.trans (wt9.trans (wt10.trans (woB.trans (woC.trans (wt11.trans (wt12.trans (woD.trans (woE)))))))))))))))) _ _ et1, xt1, .nil⟩ (ShA.nil (a := 0) (b := 0)) (rfl)).mono (by omega) (by omega) (by omega)
          · exact ⟨.list [], .lst l2 ((wt3.trans (wt4.trans (wt5.trans (wt6.trans (woA.trans (wt7.trans (wt8.trans (wt9.trans (wt10.trans (woB.trans (woC.trans (wt11.trans (wt12.trans (woD.trans (woE))))))))))))))) _ _ et2) xt2 .nil, (Sh.lst (ShA.nil (a := 0) (b := 0))).mono (by omega) (by omega), rfl⟩
          · exact ⟨.dict [], .dic ((wt4.trans (wt5.trans (wt6.trans (woA.trans (wt7.trans (wt8.trans (wt9.trans (wt10.trans (woB.trans (woC.trans (wt11.trans (wt12.trans (woD.trans (woE)))))))))))))) _ _ et3) xt3, sh_dic.mono (by omega) (by omega), rfl⟩
          · exact num_dv (by omega) c200
          · exact str1 (by decide +kernel) (by decide +kernel)
          · exact str1 (by decide +kernel) (by decide +kernel)
          · exact str1 (by decide +kernel) (by decide +kernel)
          · exact (TT.dv (c := c) (ds := [.str "never"]) ⟨(wt5.trans (wt6.trans (woA.trans (wt7.trans (wt8.trans (wt9.trans (wt10.trans (woB.trans (woC.trans (wt11.trans (wt12.trans (woD.trans (woE))))))))))))) _ _ et4, xt4, .cons (.str _) .nil⟩ (ShA.cons (sh_str (n := 6) (by decide +kernel) (by decide +kernel)) (ShA.nil (a := 0) (b := 0))) (smallAll_of.mpr fun d hd => by
                      simp only [List.mem_cons, List.not_mem_nil, or_false] at hd
                      rcases hd with rfl
                      · exact rfl)).mono (by omega) (by omega) (by omega)
          · exact (TT.dv (c := c) (ds := [.str "end", .int 100]) ⟨(wt6.trans (woA.trans (wt7.trans (wt8.trans (wt9.trans (wt10.trans (woB.trans (woC.trans (wt11.trans (wt12.trans (woD.trans (woE)))))))))))) _ _ et5, xt5, .cons (.str _) (.cons (.int _) .nil)⟩ (ShA.cons (sh_str (n := 6) (by decide +kernel) (by decide +kernel)) (ShA.cons (ci (i := 100) (by decide)).1 (ShA.nil (a := 0) (b := 0)))) (smallAll_of.mpr fun d hd => by
                      simp only [List.mem_cons, List.not_mem_nil, or_false] at hd
                      rcases hd with rfl | rfl
                      · exact rfl
                      · exact (ci (by decide)).2)).mono (by omega) (by omega) (by omega)
          · exact (TT.dv (c := c) (ds := [.str "toss", .int 0, .int 0]) ⟨(woA.trans (wt7.trans (wt8.trans (wt9.trans (wt10.trans (woB.trans (woC.trans (wt11.trans (wt12.trans (woD.trans (woE))))))))))) _ _ et6, xt6, .cons (.str _) (.cons (.int _) (.cons (.int _) .nil))⟩ (ShA.cons (sh_str (n := 6) (by decide +kernel) (by decide +kernel)) (ShA.cons (ci (i := 0) (by decide)).1 (ShA.cons (ci (i := 0) (by decide)).1 (ShA.nil (a := 0) (b := 0))))) (smallAll_of.mpr fun d hd => by
                      simp only [List.mem_cons, List.not_mem_nil, or_false] at hd
                      rcases hd with rfl | rfl | rfl
                      · exact rfl
                      · exact (ci (by decide)).2
                      · exact (ci (by decide)).2)).mono (by omega) (by omega) (by omega)
          · exact (TT.dv (c := c) (ds := [.str "end", .bool true]) ⟨(wt8.trans (wt9.trans (wt10.trans (woB.trans (woC.trans (wt11.trans (wt12.trans (woD.trans (woE))))))))) _ _ et7, xt7, .cons (.str _) (.cons (.bl true) .nil)⟩ (ShA.cons (sh_str (n := 6) (by decide +kernel) (by decide +kernel)) (ShA.cons (sh_bl true) (ShA.nil (a := 0) (b := 0)))) (smallAll_of.mpr fun d hd => by
                      simp only [List.mem_cons, List.not_mem_nil, or_false] at hd
                      rcases hd with rfl | rfl
                      · exact rfl
                      · exact rfl)).mono (by omega) (by omega) (by omega)
          · exact (TT.dv (c := c) (ds := [.str "toss", .int 0]) ⟨(wt9.trans (wt10.trans (woB.trans (woC.trans (wt11.trans (wt12.trans (woD.trans (woE)))))))) _ _ et8, xt8, .cons (.str _) (.cons (.int _) .nil)⟩ (ShA.cons (sh_str (n := 6) (by decide +kernel) (by decide +kernel)) (ShA.cons (ci (i := 0) (by decide)).1 (ShA.nil (a := 0) (b := 0)))) (smallAll_of.mpr fun d hd => by
                      simp only [List.mem_cons, List.not_mem_nil, or_false] at hd
                      rcases hd with rfl | rfl
                      · exact rfl
                      · exact (ci (by decide)).2)).mono (by omega) (by omega) (by omega)
          · exact str1 (by decide +kernel) (by decide +kernel)
          · exact (TT.dv (c := c) (ds := [.str "toss", .int (-1), .int 0]) ⟨(wt10.trans (woB.trans (woC.trans (wt11.trans (wt12.trans (woD.trans (woE))))))) _ _ et9, xt9, .cons (.str _) (.cons (.int _) (.cons (.int _) .nil))⟩ (ShA.cons (sh_str (n := 6) (by decide +kernel) (by decide +kernel)) (ShA.cons (ci (i := (-1)) (by decide)).1 (ShA.cons (ci (i := 0) (by decide)).1 (ShA.nil (a := 0) (b := 0))))) (smallAll_of.mpr fun d hd => by
                      simp only [List.mem_cons, List.not_mem_nil, or_false] at hd
                      rcases hd with rfl | rfl | rfl
                      · exact rfl
                      · exact (ci (by decide)).2
                      · exact (ci (by decide)).2)).mono (by omega) (by omega) (by omega)
          · exact (TT.dv (c := c) (ds := [.str "end", .int (-1)]) ⟨(woB.trans (woC.trans (wt11.trans (wt12.trans (woD.trans (woE)))))) _ _ et10, xt10, .cons (.str _) (.cons (.int _) .nil)⟩ (ShA.cons (sh_str (n := 6) (by decide +kernel) (by decide +kernel)) (ShA.cons (ci (i := (-1)) (by decide)).1 (ShA.nil (a := 0) (b := 0)))) (smallAll_of.mpr fun d hd => by
                      simp only [List.mem_cons, List.not_mem_nil, or_false] at hd
                      rcases hd with rfl | rfl
                      · exact rfl
                      · exact (ci (by decide)).2)).mono (by omega) (by omega) (by omega)
          · exact (TT.dv (c := c) (ds := [.str "END", .int 1]) ⟨(wt12.trans (woD.trans (woE))) _ _ et11, xt11, .cons (.str _) (.cons (.int _) .nil)⟩ (ShA.cons (sh_str (n := 6) (by decide +kernel) (by decide +kernel)) (ShA.cons (ci (i := 1) (by decide)).1 (ShA.nil (a := 0) (b := 0)))) (smallAll_of.mpr fun d hd => by
                      simp only [List.mem_cons, List.not_mem_nil, or_false] at hd
                      rcases hd with rfl | rfl
                      · exact rfl
                      · exact (ci (by decide)).2)).mono (by omega) (by omega) (by omega)
          · exact (TT.dv (c := c) (ds := [.str "Toss", .int 0, .int 0]) ⟨(woD.trans (woE)) _ _ et12, xt12, .cons (.str _) (.cons (.int _) (.cons (.int _) .nil))⟩ (ShA.cons (sh_str (n := 6) (by decide +kernel) (by decide +kernel)) (ShA.cons (ci (i := 0) (by decide)).1 (ShA.cons (ci (i := 0) (by decide)).1 (ShA.nil (a := 0) (b := 0))))) (smallAll_of.mpr fun d hd => by
                      simp only [List.mem_cons, List.not_mem_nil, or_false] at hd
                      rcases hd with rfl | rfl | rfl
                      · exact rfl
                      · exact (ci (by decide)).2
                      · exact (ci (by decide)).2)).mono (by omega) (by omega) (by omega)
          · exact str1 (by decide +kernel) (by decide +kernel)
        refine ⟨_, rfl, _, rfl, p, l, 21, rfl, pE, by decide, by decide +kernel, fun k HZ kk0 kk1 bZ pZ => ?_⟩
        obtain ⟨v', hv', ok⟩ := pick8 all kk0 kk1
        have oEp : oE ≠ p := fun e => xoE (e ▸ np)
        exact ⟨oE, _, k, v', rfl, rfl, SqL.of (bZ.mem oEp eoE), hv', q v' HZ ((b2.trans (But.of soE)).trans bZ) pZ (ok.bn (BN.but np bZ))⟩
end
end Z

set_option Elab.async false
set_option linter.all false
set_option maxRecDepth 100000
set_option maxHeartbeats 4000000
set_option exponentiation.threshold 20000
namespace Z
open PySem PySem.Spec PyProof.Rows L2 GG TPD EQD DSD SHT IBD
abbrev sBent : Stmt := top 21
section
variable {P : Program} {w : World} {K : PySem.W.Frag} {mg : Str → Option Value} {base : Heap}
def spBent (n : Nat) : Sp := fun vs H Q E => ∃ (p l : Addr) (v : V) (d : PyData) (N : Addr → Prop) (a b c : Nat), d.depth < n ∧ vs = [.ref p, v] ∧ N p ∧ (∀ b, N b → H b ≠ none) ∧ Pen H p l ∧ Ds N H v d ∧ Sh d a b ∧ small c d = true ∧ b ≤ 6000 ∧ 10 ^ 40 ≤ c ∧ c < 2 ^ 200 ∧
  ∀ v' H', But p H H' → Pen H' p l → Dv N H' v' (c + 1) (a + 2) (2 * b + 30) → Q v' H'
theorem scBent : FnScope ["pen", "thing", "at"] ["pen", "thing"] (defScope sBent) := ⟨rfl, rfl, rfl, by decide +kernel, rfl, by decide +kernel, by decide +kernel⟩
theorem ok_bent {f g o : Addr} {fd gd od : FuncData} (F : Fun K "_law_bent" "_law_bent" sBent f fd) (T : NamesI mg) (GD : FnOk P w K mg base CX0 2 g gd ["pen", "many"] spDraw) (PD : Def K mg "_law_draw" g gd ["pen", "many"])
    (GO : FnOk P w K mg base CX0 3 o od ["pen", "thing"] spOdd) (PO_ : Def K mg "_law_odd" o od ["pen", "thing"]) (PB_ : Def K mg "_law_bent" f fd ["pen", "thing"]) : ∀ n, FnOk P w K mg base CX0 (n + 4) f fd ["pen", "thing"] (spBent n) := by
  intro n
  induction n with
  | zero =>
    refine F.ok scBent (fun vs H Q E h => ?_) (fun cdv A outer s H vs Q E hr h => ?_)
    · obtain ⟨p, l, v, d, N, a, b, c, _, rfl, _⟩ := h
      rfl
    · obtain ⟨p, l, v, d, N, a, b, c, dn, _⟩ := h
      exact absurd dn (Nat.not_lt_zero _)
  | succ n GR =>
    refine F.ok scBent (fun vs H Q E h => ?_) (fun cdv A outer s H vs Q E hr h => ?_)
    · obtain ⟨p, l, v, d, N, a, b, c, _, rfl, _⟩ := h
      rfl
    · obtain ⟨p, l, v, d, N, a, b, c, dn, rfl, np, occ, pn, hd, hs, hc, hb, c40, c200, q⟩ := h
      have hu64 : A.units + 3 + 64 < cLine := hr.units
      have hu0 : A.units + 3 < cLine := by omega
      refine ⟨_, (pss_cons (ps_if (PW.pt (pw_or (pt_not (pt_val (pe_callB call_isi (by rfl) T.isinstance (by decide +kernel) (pa_cons (pv 1) (pa_cons (pe_bltn (v := .ty "tuple") (by rfl) T.tuple (by decide +kernel) rfl) pa_nil))))) (pw_or (pt_cmpR (WRD.op_noneIn (K := K) rfl hu0) (pv 1) (pe_tup pa_nil) (nomark _)) (pw_or1 (pt_cmpR op_eq (pe_call GD (hr.mono (by first | decide | omega)) (by rfl) PD.is PD.kp PD.bi .nil pass0 (pa_cons (pv 0) (pa_cons pe_int pa_nil))) pe_int (nomark _)))))) (pss_one (ps_ret (pe_call GO (hr.mono (by first | decide | omega)) (by rfl) PO_.is PO_.kp PO_.bi .nil pass0 (pa_cons (pv 0) (pa_cons (pv 1) pa_nil))))) pss_nil)
      (pss_cons (ps_set (i := 2) scBent.nd rfl (.inl rfl) (pe_call GD (hr.mono (by first | decide | omega)) (by rfl) PD.is PD.kp PD.bi .nil pass0 (pa_cons (pv 0) (pa_cons (pe_callB call_len_seq (by rfl) T.len PySem.boot_len (pa_cons (pv 1) pa_nil)) pa_nil))))
      (pss_one (ps_ret (pe_op op_catU (pe_op op_catU (pe_slice sl_cutU (pv 1) po_none (po_some (pv 2))) (pe_tup (pa_cons (pe_call GR (hr.mono (by first | decide | omega)) (by rfl) PB_.is PB_.kp PB_.bi .nil pass0 (pa_cons (pv 0) (pa_cons (pe_ix ix_tup (pv 1) (pv 2) (fun _ _ => rfl)) pa_nil))) pa_nil))) (pe_slice sl_cutU (pv 1) (po_some (pe_op op_add (pv 2) pe_int)) po_none)))))), ?_⟩
      have odd : ∀ {H1 : Hp}, But p H H1 → Pen H1 p l → ∃ E', True := fun _ _ => ⟨E, trivial⟩
      have occ1 : ∀ {H1 : Hp}, But p H H1 → Pen H1 p l → ∀ x, N x → H1 x ≠ none := fun b1 p1 x hx e => by
        by_cases z : x = p
        · subst z
          obtain ⟨_, _, _, h, _⟩ := p1
          rw [h] at e
          cases e
        · exact occ x hx (b1.free z e)
      dsimp only
      refine on (if_tail (fun σ H' => (∃ ad xs ds, v = V.ref ad ∧ d = .tuple ds ∧ TT N H' ad xs ds ∧ 0 < xs.length) ∧ σ = [some (V.ref p), some v, none] ∧ But p H H' ∧ Pen H' p l) ?_ (fun tl => ?_))
      rotate_left
      · have oddAt : ∀ {Hk : Hp}, But p H Hk → Pen Hk p l → spOdd [.ref p, v] Hk Q E0 := fun bk pk => ⟨p, l, v, d, N, a, b, c, rfl, np, occ1 bk pk, pk, Ds.bn (BN.but np bk) d v hd, hs, hc, hb, c40, c200, fun v' H' b' p' ok => q v' H' (bk.trans b') p' ok⟩
        refine ⟨_, rfl, _, .ty "tuple", .type (tyD d), .type "tuple", _, rfl, .ty "tuple", (Ds.tp (K := K) d v hd).ty, kit_ty (kit_tup d), _, rfl, ?_⟩
        cases d with
        | int i => exact iteT ⟨_, rfl, _, rfl, oddAt (But.refl _ _) pn⟩
        | bool e => exact iteT ⟨_, rfl, _, rfl, oddAt (But.refl _ _) pn⟩
        | none => exact iteT ⟨_, rfl, _, rfl, oddAt (But.refl _ _) pn⟩
        | str x => exact iteT ⟨_, rfl, _, rfl, oddAt (But.refl _ _) pn⟩
        | list ds => exact iteT ⟨_, rfl, _, rfl, oddAt (But.refl _ _) pn⟩
        | dict kvs => exact iteT ⟨_, rfl, _, rfl, oddAt (But.refl _ _) pn⟩
        | tuple ds =>
          obtain ⟨ad, xs, rfl, tt⟩ : ∃ ad xs, v = V.ref ad ∧ TT N H ad xs ds := by
            cases hd with
            | @tup ad xs _ h1 h2 h3 => exact ⟨ad, xs, rfl, h1, h2, h3⟩
          refine iteF ⟨_, rfl, by show 0 ≤ sizeLine; decide, fun q0 nq0 => ?_⟩
          have s0 := Same.upd (o := .tup []) nq0
          have e0 : upd H q0 (.tup []) q0 = some (.tup []) := upd_same
          have pn0 := pn.same s0
          have bn0 : But p H (upd H q0 (.tup [])) := But.of s0
          have tt0 := tt.same s0
          generalize upd H q0 (.tup []) = H0 at s0 e0 pn0 bn0 tt0 ⊢
          refine ⟨ad, q0, xs, rfl, rfl, SqT.of tt0.1, SqT.of e0, _, rfl, ?_⟩
          by_cases l0 : xs.length = 0
          · rw [decide_eq_true l0]
            exact iteT (iteT ⟨_, rfl, _, rfl, oddAt bn0 pn0⟩)
          · rw [decide_eq_false l0]
            refine iteF ⟨_, rfl, p, l, 4, rfl, pn0, by decide, by decide +kernel, fun k H1 k0 k1 b1 p1 => ⟨rfl, _, rfl, ?_⟩⟩
            by_cases kz : k = 0
            · rw [decide_eq_true (congrArg V.int kz)]
              exact iteT ⟨_, rfl, _, rfl, oddAt (bn0.trans b1) p1⟩
            · rw [decide_eq_false (fun h => kz (V.int.inj h))]
              exact iteF (tl _ _ ⟨⟨ad, xs, ds, rfl, rfl, tt0.bn (BN.but np b1), by omega⟩, rfl, bn0.trans b1, p1⟩)
      · rintro σ H1 ⟨⟨ad, xs, ds, rfl, rfl, tt1, l0⟩, rfl, b1, p1⟩
        have sa := hs.items
        have cnt := sa.count
        have lx := tt1.2.2.len
        have line : sizeLine = 16777216 := by decide
        refine ⟨_, rfl, _, rfl, ad, xs, rfl, .inr (SqT.of tt1.1), p, l, _, rfl, p1, by omega, log_le (Nat.lt_of_le_of_lt (show (((xs.length : Nat) : Int)).natAbs ≤ 6000 by omega) (by decide)), fun at_ H2 at0 at1 b2 p2 => ?_⟩
        obtain ⟨j, rfl⟩ : ∃ j : Nat, at_ = (j : Int) := ⟨at_.toNat, by omega⟩
        have hj : j < ds.length := by omega
        have tt2 := tt1.bn (BN.but np b2)
        have b12 := b1.trans b2
        have dsj : ds[j]? = some ds[j] := List.getElem?_eq_getElem hj
        have tight : ShA ds ((PyData.tuple ds).depth - 1) _ := (show Sh (.tuple ds) (PyData.tuple ds).depth (PyData.tuple ds).bulk from ⟨hs.s, hs.l, Nat.le_refl _, Nat.le_refl _⟩).items
        have dj := (tight.get dsj).p
        have d1 : 1 ≤ (PyData.tuple ds).depth := by simp only [PyData.depth]; omega
        have a1 : 1 ≤ a := Nat.le_trans d1 hs.p
        have shj := sa.get dsj
        obtain ⟨u, hu, du⟩ : ∃ u, xs[j]? = some u ∧ Ds N H2 u ds[j] := by
          have h3 := tt2.2.2
          have one := (h3.drop j)
          have e1 : xs.drop j = xs[j]'(by omega) :: xs.drop (j + 1) := List.drop_eq_getElem_cons _
          have e2 : ds.drop j = ds[j] :: ds.drop (j + 1) := List.drop_eq_getElem_cons hj
          rw [e1, e2] at one
          cases one with
          | cons g _ => exact ⟨_, List.getElem?_eq_getElem (by omega), g⟩
        have smj : small c ds[j] = true := smallAll_of.mp hc _ (List.getElem_mem hj)
        have bulks : PyData.bulkAll (ds.take j) + (ds[j].bulk + 1 + PyData.bulkAll (ds.drop (j + 1))) ≤ b := by
          have h1 := bulk_parts ds j
          rw [List.drop_eq_getElem_cons hj] at h1
          simp only [PyData.bulkAll] at h1
          have := sa.b
          omega
        refine ⟨_, rfl, ?_⟩
        refine ⟨_, rfl, _, rfl, ad, xs, rfl, tt2.1, fun r1 J1 s1 e1 f1 => ?_⟩
        have u1 := tt2.cut s1 e1 f1 (occ1 b12 p2)
        have p3 := p2.same s1
        refine ⟨_, rfl, _, rfl, _, rfl, ad, xs, _, u, rfl, rfl, SqT.of (tt2.same s1).1, atI_nat hu, p, l, u, ds[j], N, a - 1, ds[j].bulk, c, by omega, rfl, np, occ1 (b12.trans (But.of s1)) p3, p3, Ds.bn (BN.of s1) _ _ du, ⟨shj.s, shj.l, shj.p, Nat.le_refl _⟩, smj, by omega, c40, c200, fun v' J2 b3 p4 ok => ?_⟩
        obtain ⟨dv, g1, g2, g3⟩ := ok
        have cl : ∀ lo hi, (cutV xs lo hi).length ≤ xs.length := fun lo hi => cutV_length _ _ _
        have u2 := u1.bn (BN.but np b3)
        have tt3 := (tt2.same s1).bn (BN.but np b3)
        have b13 := (b12.trans (But.of s1)).trans b3
        have oc3 := occ1 b13 p4
        refine ⟨by show 1 ≤ sizeLine; decide, fun t nt => ?_⟩
        have st := Same.upd (o := .tup [v']) nt
        have uT : TT N (upd J2 t (.tup [v'])) t [v'] [dv] := ⟨upd_same, fun h => oc3 t h nt, .cons (Ds.bn (BN.of st) _ _ g1) .nil⟩
        generalize upd J2 t (.tup [v']) = J3 at st uT ⊢
        have oct := occ_same oc3 st
        refine ⟨r1, t, _, _, rfl, rfl, (u2.same st).1, uT.1, by have := cl none (some (j : Int)); show _ + 1 ≤ sizeLine; omega, fun rA J4 sA eA fA => ?_⟩
        have uA := (u2.same st).cat uT sA eA fA oct
        have stA := st.trans sA
        refine ⟨_, rfl, ?_⟩
        refine ⟨_, rfl, _, _, rfl, rfl, _, rfl, ad, xs, rfl, (tt3.same stA).1, fun r2 J5 s5 e5 f5 => ?_⟩
        have u5 := (tt3.same stA).cut s5 e5 f5 (occ_same oc3 stA)
        have st5 := stA.trans s5
        refine ⟨rA, r2, _, _, rfl, rfl, (uA.same s5).1, u5.1, by rw [List.length_append]; exact Nat.le_trans (Nat.add_le_add (Nat.add_le_add_right (cl _ _) 1) (cl _ _)) (by omega), fun rB J6 s6 e6 f6 => ?_⟩
        have uB := (uA.same s5).cat u5 s6 e6 f6 (occ_same oc3 st5)
        have st6 := st5.trans s6
        have ebl : PyData.bulkAll (cutD ds none (some (j : Int))) ≤ PyData.bulkAll (ds.take j) := by
          unfold cutD
          rw [HT.sIx_none, HT.sIx_nat, List.drop_zero, Nat.sub_zero, Nat.min_eq_left (by omega)]
          exact Nat.le_refl _
        have ebr : PyData.bulkAll (cutD ds (some ((j : Int) + 1)) none) ≤ PyData.bulkAll (ds.drop (j + 1)) := by
          unfold cutD
          rw [show ((j : Int) + 1) = ((j + 1 : Nat) : Int) by omega, HT.sIx_none, HT.sIx_nat, Nat.min_eq_left (by omega)]
          have := bulk_parts (ds.drop (j + 1)) (ds.length - (j + 1))
          omega
        have sh := ((exact_sh (cutD_sh (lo := none) (hi := some (j : Int)) sa)).mono (show a - 1 ≤ a + 1 by omega) (Nat.le_refl _)).app (ShA.cons (g2.mono (show a - 1 + 2 ≤ a + 1 by omega) (Nat.le_refl _)) (ShA.nil (b := 0)))
        have sh2 := sh.app ((exact_sh (cutD_sh (lo := some ((j : Int) + 1)) (hi := none) sa)).mono (show a - 1 ≤ a + 1 by omega) (Nat.le_refl _))
        have k0 := smallAll_mono (Nat.le_succ c) ds hc
        have sm := small_app (small_app (cutD_small (lo := none) (hi := some (j : Int)) k0) (show smallAll (c + 1) [dv] = true by show (small (c + 1) dv && true) = true; rw [g3]; rfl)) (cutD_small (lo := some ((j : Int) + 1)) (hi := none) k0)
        exact q (.ref rB) J6 (b13.trans (But.of st6)) (p4.same st6) ((uB.dv sh2 sm).mono (Nat.le_refl _) (Nat.le_refl _) (by omega))
end
end Z

set_option Elab.async false
set_option linter.all false
set_option maxRecDepth 100000
set_option maxHeartbeats 4000000
namespace Z
open PySem PySem.Spec PyProof.Rows L2 GG
abbrev sEnds : Stmt := top 14
abbrev sMach : Stmt := top 15
abbrev sNumb : Stmt := top 16
/-! ### machines -/
inductive Pl where
  | toss (a b : Int)
  | fin (n : Int)
  | never
def Pl.row : Pl → List V
  | .toss a b => [.str "toss", .int a, .int b]
  | .fin n => [.str "end", .int n]
  | .never => [.str "never"]
def Pl.ok (m : Nat) : Pl → Prop
  | .toss a b => 0 ≤ a ∧ a < m ∧ 0 ≤ b ∧ b < m
  | .fin n => 0 ≤ n ∧ n < 100
  | .never => True
def Pl.still (p : Pl) : Prop := p = .never ∨ ∃ n, p = .fin n ∧ 0 ≤ n ∧ n < 100
theorem Pl.still.ok {p : Pl} (h : p.still) (m : Nat) : p.ok m := by
  rcases h with rfl | ⟨n, rfl, h1, h2⟩
  · trivial
  · exact ⟨h1, h2⟩
def Pl.isT : Pl → Bool
  | .toss _ _ => true
  | _ => false
theorem Pl.still.isT {p : Pl} (h : p.still) : p.isT = false := by
  rcases h with rfl | ⟨n, rfl, _⟩ <;> rfl
inductive Pls (H : Hp) : List V → List Pl → Prop where
  | nil : Pls H [] []
  | cons {t : Addr} {p : Pl} {rs : List V} {ps : List Pl} : H t = some (.tup p.row) → Pls H rs ps → Pls H (.ref t :: rs) (p :: ps)
theorem Pls.mono {H H' : Hp} (f : ∀ t xs, H t = some (.tup xs) → H' t = some (.tup xs)) {rs : List V} {ps : List Pl} (h : Pls H rs ps) : Pls H' rs ps := by
  induction h with
  | nil => exact .nil
  | cons e _ ih => exact .cons (f _ _ e) ih
theorem Pls.snoc {H : Hp} {rs : List V} {ps : List Pl} (h : Pls H rs ps) {t : Addr} {p : Pl} (e : H t = some (.tup p.row)) : Pls H (rs ++ [.ref t]) (ps ++ [p]) := by
  induction h with
  | nil => exact .cons e .nil
  | cons e' _ ih => exact .cons e' ih
theorem Pls.len {H : Hp} {rs : List V} {ps : List Pl} (h : Pls H rs ps) : rs.length = ps.length := by
  induction h with
  | nil => rfl
  | cons _ _ ih => simp [ih]
theorem Pls.get {H : Hp} {rs : List V} {ps : List Pl} (h : Pls H rs ps) : ∀ {i : Nat} {p : Pl}, ps[i]? = some p → ∃ t, rs[i]? = some (.ref t) ∧ H t = some (.tup p.row) := by
  induction h with
  | nil => intro i p e; simp at e
  | @cons t q rs ps e' _ ih =>
    intro i p e
    cases i with
    | zero =>
      have : q = p := by simpa using e
      subst this
      exact ⟨t, rfl, e'⟩
    | succ i => exact ih (by simpa using e)
def Mach (H : Hp) (m : Addr) (ps : List Pl) : Prop := ∃ rs, H m = some (.tup rs) ∧ Pls H rs ps
theorem Mach.mono {H H' : Hp} (f : ∀ t xs, H t = some (.tup xs) → H' t = some (.tup xs)) {m : Addr} {ps : List Pl} (h : Mach H m ps) : Mach H' m ps := by
  obtain ⟨rs, e, h⟩ := h
  exact ⟨rs, f _ _ e, h.mono f⟩
theorem Mach.same {H H' : Hp} (s : Same H H') {m : Addr} {ps : List Pl} (h : Mach H m ps) : Mach H' m ps := h.mono fun t xs e => s _ _ e
theorem Mach.but {H H' : Hp} {a l m : Addr} {ps : List Pl} (pn : Pen H a l) (b : But a H H') (h : Mach H m ps) : Mach H' m ps := h.mono fun t xs e => b.mem (pn.notTup e) e
structure WF (ps : List Pl) : Prop where
  ne : 0 < ps.length
  le : ps.length ≤ 30
  ok : ∀ p ∈ ps, p.ok ps.length
theorem WF.get {ps : List Pl} (w : WF ps) {a : Int} (h0 : 0 ≤ a) (h1 : a < ps.length) : ∃ p, ps[a.toNat]? = some p ∧ p.ok ps.length := by
  have lt : a.toNat < ps.length := by omega
  exact ⟨ps[a.toNat], List.getElem?_eq_getElem lt, w.ok _ (List.getElem_mem lt)⟩
theorem str_toss_end : (V.str "end" : V) ≠ V.str "toss" := by intro h; exact absurd (V.str.inj h) (by decide +kernel)
theorem str_toss_never : (V.str "never" : V) ≠ V.str "toss" := by intro h; exact absurd (V.str.inj h) (by decide +kernel)
theorem str_end_toss : (V.str "toss" : V) ≠ V.str "end" := by intro h; exact absurd (V.str.inj h) (by decide +kernel)
theorem str_end_never : (V.str "never" : V) ≠ V.str "end" := by intro h; exact absurd (V.str.inj h) (by decide +kernel)
theorem str_never_toss : (V.str "toss" : V) ≠ V.str "never" := by intro h; exact absurd (V.str.inj h) (by decide +kernel)
theorem str_never_end : (V.str "end" : V) ≠ V.str "never" := by intro h; exact absurd (V.str.inj h) (by decide +kernel)
section
variable {P : Program} {w : World} {K : PySem.W.Frag} {mg : Str → Option Value} {base : Heap}
def spEnds : Sp := fun vs H Q _ => ∃ (a l q : Addr) (ns : List Int), vs = [.ref a, .ref q] ∧ Pen H a l ∧ H q = some (.lst (ns.map V.int)) ∧ 0 < ns.length ∧ ns.length ≤ 60 ∧ (∀ n ∈ ns, 0 ≤ n ∧ n < 100) ∧
  ∀ (t : Addr) (p : Pl) H', But a H H' → H t = none → H' t = some (.tup p.row) → Pen H' a l → p.still → Q (.ref t) H'
theorem Pen.notInts {H : Hp} {a l q : Addr} {ns : List Int} (p : Pen H a l) (h : H q = some (.lst (ns.map V.int))) : q ≠ a := by
  obtain ⟨cs, pos, val, ha, hl, _⟩ := p
  rintro rfl
  rw [ha] at h
  cases ns with
  | nil => cases h
  | cons x r => cases h
theorem scEnds : FnScope ["pen", "answers"] ["pen", "answers"] (defScope sEnds) := ⟨rfl, rfl, rfl, by decide +kernel, rfl, by decide +kernel, by decide +kernel⟩
theorem ok_ends {f g : Addr} {fd gd : FuncData} (F : Fun K "_law_ends" "_law_ends" sEnds f fd) (T : Names mg) (GD : FnOk P w K mg base CX0 2 g gd ["pen", "many"] spDraw) (PD : Def K mg "_law_draw" g gd ["pen", "many"]) :
    FnOk P w K mg base CX0 3 f fd ["pen", "answers"] spEnds := by
  refine F.ok scEnds (fun vs H Q E h => ?_) (fun cdv A outer s H vs Q E hr h => ?_)
  · obtain ⟨a, l, q, ns, rfl, _⟩ := h
    rfl
  · obtain ⟨a, l, r, ns, rfl, pn, hr1, h0, h60, hns, q⟩ := h
    refine ⟨_, (pss_cons (ps_if (pt_cmpR op_eq (pe_call GD (hr.mono (by first | decide | omega)) (by rfl) PD.is PD.kp PD.bi .nil pass0 (pa_cons (pv 0) (pa_cons pe_int pa_nil))) pe_int (nomark _)) (pss_one (ps_ret (pe_tup (pa_cons pe_str pa_nil)))) pss_nil)
      (pss_one (ps_ret (pe_tup (pa_cons pe_str (pa_cons (pe_ix ix_list (pv 1) (pe_call GD (hr.mono (by first | decide | omega)) (by rfl) PD.is PD.kp PD.bi .nil pass0 (pa_cons (pv 0) (pa_cons (pe_callB call_len_seq (by rfl) T.len PySem.boot_len (pa_cons (pv 1) pa_nil)) pa_nil))) (fun _ _ => rfl)) pa_nil)))))), ?_⟩
    refine ⟨.ref a, rfl, a, l, 7, rfl, pn, by decide, by decide +kernel, fun d H1 u0 u1 b1 p1 => ⟨rfl, _, rfl, ite2 (fun _ => ?_) (fun _ => ?_)⟩⟩
    · refine ⟨by show 1 ≤ sizeLine; decide, fun t nt => ?_⟩
      exact q t .never _ (b1.trans (But.of (Same.upd nt))) (b1.free (p1.apart nt).1 nt) upd_same (p1.same (Same.upd nt)) (.inl rfl)
    · have hr2 := b1.mem (pn.notInts hr1) hr1
      refine ⟨.ref r, rfl, .ref a, rfl, .ref r, rfl, r, _, rfl, .inl (SqL.of hr2), a, l, _, rfl, p1, ?_, ?_, fun d2 H2 v0 v1 b2 p2 => ?_⟩
      · rw [List.length_map]
        omega
      · rw [List.length_map]
        refine log_le (Nat.lt_of_le_of_lt (show _ ≤ 60 by omega) (by decide))
      · rw [List.length_map] at v1
        obtain ⟨j, rfl⟩ : ∃ j : Nat, d2 = (j : Int) := ⟨d2.toNat, by omega⟩
        have hj : j < ns.length := by omega
        refine ⟨r, _, j, .int ns[j], rfl, rfl, SqL.of (b2.mem (p1.notInts hr2) hr2), atI_nat (by rw [List.getElem?_map, List.getElem?_eq_getElem hj]; rfl), by show 2 ≤ sizeLine; decide, fun t nt => ?_⟩
        have b3 := b1.trans b2
        exact q t (.fin ns[j]) _ (b3.trans (But.of (Same.upd nt))) (b3.free (p2.apart nt).1 nt) upd_same (p2.same (Same.upd nt)) (.inr ⟨_, rfl, hns _ (List.getElem_mem hj)⟩)
/-! ### the numbers of the places changed -/
structure Order (n : Nat) (os : List Int) : Prop where
  len : os.length = n
  all : ∀ k : Int, 0 ≤ k → k < n → k ∈ os
  ok : ∀ k ∈ os, 0 ≤ k ∧ k < n
def spNumb : Sp := fun vs H Q _ => ∃ (m o : Addr) (ps : List Pl) (os : List Int), vs = [.ref m, .ref o] ∧ Mach H m ps ∧ WF ps ∧ H o = some (.lst (os.map V.int)) ∧ Order ps.length os ∧
  ∀ (t : Addr) (qs : List Pl) H', Same H H' → H t = none → Mach H' t qs → WF qs → qs.length = ps.length → ((∃ p ∈ ps, p.isT = false) → ∃ q ∈ qs, q.isT = false) → Q (.ref t) H'
theorem flat_ints : ∀ ns : List Int, (ns.map V.int).all flatV = true
  | [] => rfl
  | _ :: r => flat_ints r
theorem find_int {os : List Int} {k : Int} (h : k ∈ os) : ∃ j : Nat, j < os.length ∧ (os.map V.int)[j]? = some (V.int k) ∧ ∀ (m : Nat) (z : V), m < j → (os.map V.int)[m]? = some z → eqV z (V.int k) = false := by
  induction os with
  | nil => cases h
  | cons x r ih =>
    by_cases e : x = k
    · subst e
      exact ⟨0, by simp, rfl, fun m z hm => absurd hm (Nat.not_lt_zero m)⟩
    · have h' : k ∈ r := by
        rcases List.mem_cons.mp h with z | z
        · exact absurd z.symm e
        · exact z
      obtain ⟨j, h1, h2, h3⟩ := ih h'
      refine ⟨j + 1, by simpa using h1, h2, fun m z hm hz => ?_⟩
      cases m with
      | zero =>
        have : z = V.int x := by simpa using hz.symm
        subst this
        show (x == k) = false
        simpa using e
      | succ m => exact h3 m z (by omega) (by simpa using hz)
theorem scNumb : FnScope ["machine", "order", "found", "old", "place"] ["machine", "order"] (defScope sNumb) := ⟨rfl, rfl, rfl, by decide +kernel, rfl, by decide +kernel, by decide +kernel⟩
theorem ok_numb {f : Addr} {fd : FuncData} (F : Fun K "_law_numbered" "_law_numbered" sNumb f fd) (T : Names mg) : FnOk P w K mg base CX0 1 f fd ["machine", "order"] spNumb := by
  refine F.ok scNumb (fun vs H Q E h => ?_) (fun cdv A outer s H vs Q E hr h => ?_)
  · obtain ⟨m, o, ps, os, rfl, _⟩ := h
    rfl
  · obtain ⟨m, o, ps, os, rfl, hm, hw, ho, hos, q⟩ := h
    refine ⟨_, (pss_cons (ps_set (i := 2) scNumb.nd rfl (.inl rfl) (pe_lst pa_nil))
      (pss_cons (ps_for PassesOwn.never rfl (pi_list (pv 1)) (pg_name (i := 3) scNumb.nd rfl (.inl rfl)) (pss_cons (ps_set (i := 4) scNumb.nd rfl (.inl rfl) (pe_ix ix_tup (pv 0) (pv 3) (fun _ _ => rfl)))
      (pss_cons (ps_if (pt_cmpR op_eq (pe_ix ix_tup (pv 4) pe_int (fun _ _ => rfl)) pe_str (nomark _)) (pss_one (ps_set (i := 4) scNumb.nd rfl (.inl rfl) (pe_tup (pa_cons pe_str (pa_cons (pe_bm PySem.F.plainAttrs_list PySem.F.slot_list_index PySem.F.type_list_index mt_index (pv 1) (pa_cons (pe_ix ix_tup (pv 4) pe_int (fun _ _ => rfl)) pa_nil)) (pa_cons (pe_bm PySem.F.plainAttrs_list PySem.F.slot_list_index PySem.F.type_list_index mt_index (pv 1) (pa_cons (pe_ix ix_tup (pv 4) pe_int (fun _ _ => rfl)) pa_nil)) pa_nil)))))) pss_nil)
      (pss_one (ps_expr (pe_bm PySem.F.plainAttrs_list PySem.F.slot_list_append PySem.F.type_list_append mt_append (pv 2) (pa_cons (pv 4) pa_nil)))))))
      (pss_one (ps_ret (pe_callTy call_tuple_of (by rfl) T.tuple (by decide +kernel) (pa_cons (pv 2) pa_nil)))))), ?_⟩
    refine ⟨Nat.zero_le _, fun L nL => ?_⟩
    have s1 : Same H (upd H L (.lst [])) := Same.upd nL
    have eL : upd H L (.lst []) L = some (.lst []) := upd_same
    change (_ : Hp → Prop) (upd H L (.lst []))
    generalize upd H L (.lst []) = H1 at s1 eL ⊢
    refine ⟨.ref o, rfl, o, rfl, ⟨_, SqL.of (s1 _ _ ho)⟩, for_list (K := K) (a := o) (xs := os.map V.int) (fun i σ H' => ∃ (v3 v4 : Option V) (rs : List V) (qs : List Pl), σ = [some (V.ref m), some (V.ref o), some (V.ref L), v3, v4] ∧ Same H H' ∧ H' L = some (.lst rs) ∧ Pls H' rs qs ∧ qs.length = i ∧ (∀ p ∈ qs, p.ok ps.length) ∧ ∀ (j k : Nat) (p : Pl), j < i → os[j]? = some ((k : Nat) : Int) → ps[k]? = some p → ∃ q, qs[j]? = some q ∧ q.isT = p.isT)
      ⟨_, _, [], [], rfl, s1, eL, .nil, rfl, by simp, fun j k p h => absurd h (Nat.not_lt_zero _)⟩ (fun i σ H' _ ⟨_, _, _, _, _, s, _⟩ => SqL.of (s _ _ ho)) ?_ ?_⟩
    · rintro i x σ H2 hx ⟨v3, v4, rs, qs, rfl, s2, e2, pl, len, okq, still⟩
      have hi : i < os.length := by
        have := (List.getElem?_eq_some_iff.mp hx).1
        rwa [List.length_map] at this
      have ex : x = .int os[i] := by
        rw [List.getElem?_map, List.getElem?_eq_getElem hi] at hx
        exact (Option.some.inj hx).symm
      subst ex
      obtain ⟨k0, k1⟩ := hos.ok _ (List.getElem_mem hi)
      obtain ⟨p, hp, okp⟩ := hw.get k0 k1
      obtain ⟨rs0, em, pls0⟩ := hm.same s2
      obtain ⟨t, ht, et⟩ := pls0.get hp
      obtain ⟨j, ej⟩ : ∃ j : Nat, os[i] = (j : Int) := ⟨os[i].toNat, by omega⟩
      rw [ej, Int.toNat_natCast] at hp ht
      have hlen : rs.length < sizeLine := by
        have := pl.len
        have := hos.len
        have := hw.le
        have e : sizeLine = 16777216 := by decide
        omega
      refine ⟨.ref m, rfl, .int os[i], rfl, m, rs0, _, .ref t, rfl, rfl, SqT.of em, by rw [ej]; exact atI_nat ht, ?_⟩
      dsimp only
      refine on (if_tail (fun σ H3 => ∃ (t' : Addr) (p' : Pl), σ = [some (V.ref m), some (V.ref o), some (V.ref L), some (V.int os[i]), some (V.ref t')] ∧ Same H2 H3 ∧ H3 t' = some (.tup p'.row) ∧ p'.ok ps.length ∧ p'.isT = p.isT) ?_ (fun tl => ?_))
      rotate_left
      · cases p with
        | toss x y =>
          refine ⟨.ref t, rfl, t, _, 0, .str "toss", rfl, rfl, SqT.of et, atI_nat (j := 0) rfl, rfl, _, rfl, ?_⟩
          rw [decide_eq_true rfl]
          refine iteT ?_
          obtain ⟨x0, x1, y0, y1⟩ := okp
          obtain ⟨jx, jx1, jx2, jx3⟩ := find_int (hos.all x x0 x1)
          obtain ⟨jy, jy1, jy2, jy3⟩ := find_int (hos.all y y0 y1)
          have ho2 := s2 _ _ ho
          refine ⟨.ref o, rfl, .inl ⟨rfl, _, SqL.of ho2⟩, .ref t, rfl, t, _, 1, .int x, rfl, rfl, SqT.of et, atI_nat (j := 1) rfl, o, _, .int x, jx, .int x, rfl, rfl, SqL.of ho2, rfl, flat_ints os, jx2, by show (x == x) = true; simp, jx3, ?_⟩
          refine ⟨.ref o, rfl, .inl ⟨rfl, _, SqL.of ho2⟩, .ref t, rfl, t, _, 2, .int y, rfl, rfl, SqT.of et, atI_nat (j := 2) rfl, o, _, .int y, jy, .int y, rfl, rfl, SqL.of ho2, rfl, flat_ints os, jy2, by show (y == y) = true; simp, jy3, ?_⟩
          refine ⟨by show 3 ≤ sizeLine; decide, fun t' nt => tl _ _ ⟨t', .toss (jx : Nat) (jy : Nat), rfl, Same.upd nt, upd_same, ?_⟩⟩
          have := hos.len
          exact ⟨⟨by omega, by omega, by omega, by omega⟩, rfl⟩
        | fin n =>
          refine ⟨.ref t, rfl, t, _, 0, .str "end", rfl, rfl, SqT.of et, atI_nat (j := 0) rfl, rfl, _, rfl, ?_⟩
          rw [decide_eq_false str_toss_end]
          exact iteF (tl _ _ ⟨t, .fin n, rfl, Same.refl _, et, okp, rfl⟩)
        | never =>
          refine ⟨.ref t, rfl, t, _, 0, .str "never", rfl, rfl, SqT.of et, atI_nat (j := 0) rfl, rfl, _, rfl, ?_⟩
          rw [decide_eq_false str_toss_never]
          exact iteF (tl _ _ ⟨t, .never, rfl, Same.refl _, et, okp, rfl⟩)
      · rintro σ H3 ⟨t', p', rfl, s3, et', okp', same'⟩
        have e3 := s3 _ _ e2
        refine ⟨.ref L, rfl, .inl ⟨rfl, _, SqL.of e3⟩, .ref t', rfl, L, _, _, rfl, rfl, e3, hlen, ?_⟩
        have ntL : ∀ b xs, H3 b = some (.tup xs) → b ≠ L := by
          rintro b xs e rfl
          rw [e3] at e
          cases e
        refine ⟨_, _, rs ++ [.ref t'], qs ++ [p'], rfl, ?_, upd_same, ?_, by simp [len], ?_, ?_⟩
        · intro b u e
          rw [upd_ne (ne_of_none e nL)]
          exact s3 _ _ (s2 _ _ e)
        · exact ((pl.mono fun b xs e => s3 _ _ e).snoc et').mono fun b xs e => by rw [upd_ne (ntL _ _ e)]; exact e
        · intro x hx
          rcases List.mem_append.mp hx with hx | hx
          · exact okq x hx
          · rw [List.mem_singleton.mp hx]
            exact okp'
        · intro j' k' p2 hj' ho' hp'
          rcases Nat.lt_or_ge j' i with l | l
          · obtain ⟨q', hq', e'⟩ := still j' k' p2 l ho' hp'
            exact ⟨q', by rw [List.getElem?_append_left (by omega)]; exact hq', e'⟩
          · have ei : j' = i := by omega
            subst ei
            rw [List.getElem?_eq_getElem hi, ej] at ho'
            have ek : k' = j := by
              have := Option.some.inj ho'
              omega
            subst ek
            rw [hp] at hp'
            have ep := Option.some.inj hp'
            subst ep
            exact ⟨p', by rw [List.getElem?_append_right (by omega), len, Nat.sub_self]; rfl, same'⟩
    · rintro σ H2 ⟨v3, v4, rs, qs, rfl, s2, e2, pl, len, okq, still⟩
      rw [List.length_map] at still
      rw [List.length_map, hos.len] at len
      refine ⟨.ref L, rfl, L, _, rfl, .inl ⟨SqL.of e2, fun t nt => ?_⟩⟩
      have s3 := Same.upd (o := .tup rs) nt
      exact q t qs _ (s2.trans s3) (s2.free nt) ⟨rs, upd_same, pl.mono fun b xs e => s3 _ _ e⟩ ⟨by have := hw.ne; omega, by have := hw.le; omega, by rw [len]; exact okq⟩ len (fun ⟨p, hp, hf⟩ => by
        obtain ⟨k, hk, ek⟩ := List.getElem_of_mem hp
        obtain ⟨j, hj, ej⟩ := List.getElem_of_mem (hos.all (k : Nat) (by omega) (by omega))
        obtain ⟨q', hq', e'⟩ := still j k p hj (by rw [List.getElem?_eq_getElem hj, ej]) (by rw [List.getElem?_eq_getElem hk, ek])
        exact ⟨q', List.mem_of_getElem? hq', e'.trans hf⟩)
/-! ### a machine that is drawn -/
theorem ixN_nat {n j : Nat} (h : j < n) : ixN n (j : Int) = some j := by
  unfold ixN
  rw [if_pos (by omega), if_pos (by omega)]
  simp
theorem order_swap {n z : Nat} (h : z < n) : Order n ((((List.range n).map fun i : Nat => (i : Int)).set 0 (z : Int)).set z 0) := by
  have len : ((List.range n).map fun i : Nat => (i : Int)).length = n := by simp
  refine ⟨by simp, fun k k0 k1 => ?_, fun k hk => ?_⟩
  · obtain ⟨j, rfl⟩ : ∃ j : Nat, k = (j : Int) := ⟨k.toNat, by omega⟩
    have hj : j < n := by omega
    refine List.mem_of_getElem? (i := if j = 0 then z else if j = z then 0 else j) ?_
    rw [List.getElem?_set, List.getElem?_set]
    by_cases e0 : j = 0
    · subst e0
      rw [if_pos rfl, if_pos rfl, List.length_set, len, if_pos h]
      rfl
    · rw [if_neg e0]
      by_cases ez : j = z
      · subst ez
        rw [if_pos rfl, if_neg e0, if_pos rfl, len, if_pos (by omega)]
      · rw [if_neg ez, if_neg (fun q => ez q.symm), if_neg (fun q => e0 q.symm), List.getElem?_map, List.getElem?_range hj]
        rfl
  · rcases List.mem_or_eq_of_mem_set hk with hk | rfl
    · rcases List.mem_or_eq_of_mem_set hk with hk | rfl
      · obtain ⟨i, hi, rfl⟩ := List.mem_map.mp hk
        have := List.mem_range.mp hi
        omega
      · omega
    · omega
theorem first_is {n : Nat} (h : 0 < n) {d : Int} (d0 : 0 ≤ d) (d1 : d < 6) : ∃ z : Nat, z < n ∧ atI [V.int ((n : Int) - 1), V.int 0, V.int 0, V.int 0, V.int 0, V.int 0] d = some (V.int (z : Nat)) := by
  rcases (show d = 0 ∨ d = 1 ∨ d = 2 ∨ d = 3 ∨ d = 4 ∨ d = 5 by omega) with rfl | rfl | rfl | rfl | rfl | rfl
  · refine ⟨n - 1, by omega, ?_⟩
    rw [show ((n - 1 : Nat) : Int) = (n : Int) - 1 by omega]
    rfl
  all_goals exact ⟨0, h, rfl⟩
theorem rg_is (n : Nat) : rgV 0 (n : Int) = ((List.range n).map fun i : Nat => (i : Int)).map V.int := by
  unfold rgV
  rw [List.map_map, show ((n : Int) - 0).toNat = n by omega]
  refine List.map_congr_left fun i _ => ?_
  show V.int (0 + (i : Int)) = V.int (i : Int)
  rw [Int.zero_add]
def spMach : Sp := fun vs H Q _ => ∃ (a l r : Addr) (m : Int) (ns : List Int), vs = [.ref a, .int m, .ref r] ∧ Pen H a l ∧ 0 ≤ m ∧ m ≤ 20 ∧ H r = some (.lst (ns.map V.int)) ∧ 0 < ns.length ∧ ns.length ≤ 60 ∧ (∀ n ∈ ns, 0 ≤ n ∧ n < 100) ∧
  ∀ (t : Addr) (ps : List Pl) H', But a H H' → H t = none → Mach H' t ps → WF ps → Pen H' a l → (ps.length : Int) ≤ m + 3 → (∃ p ∈ ps, p.isT = false) → Q (.ref t) H'
theorem scMach : FnScope ["pen", "most", "answers", "tosses", "others", "many", "first", "places", "at", "order"] ["pen", "most", "answers"] (defScope sMach) := ⟨rfl, rfl, rfl, by decide +kernel, rfl, by decide +kernel, by decide +kernel⟩
theorem ok_mach {f g e n : Addr} {fd gd ed nd : FuncData} (F : Fun K "_law_machine" "_law_machine" sMach f fd) (T : Names mg) (GD : FnOk P w K mg base CX0 2 g gd ["pen", "many"] spDraw) (PD : Def K mg "_law_draw" g gd ["pen", "many"])
    (GE : FnOk P w K mg base CX0 3 e ed ["pen", "answers"] spEnds) (PE_ : Def K mg "_law_ends" e ed ["pen", "answers"]) (GN : FnOk P w K mg base CX0 1 n nd ["machine", "order"] spNumb) (PN : Def K mg "_law_numbered" n nd ["machine", "order"]) :
    FnOk P w K mg base CX0 4 f fd ["pen", "most", "answers"] spMach := by
  refine F.ok scMach (fun vs H Q E h => ?_) (fun cdv A outer s H vs Q E hr h => ?_)
  · obtain ⟨a, l, r, m, ns, rfl, _⟩ := h
    rfl
  · obtain ⟨a, l, r, m, ns, rfl, pn, m0, m20, hr1, h0, h60, hns, q⟩ := h
    refine ⟨_, (pss_cons (ps_par (i := 3) (j := 4) (by rfl) scMach.nd rfl rfl (by decide) rfl rfl (pa_cons (pe_call GD (hr.mono (by first | decide | omega)) (by rfl) PD.is PD.kp PD.bi .nil pass0 (pa_cons (pv 0) (pa_cons (pe_op op_add (pv 1) pe_int) pa_nil))) (pa_cons (pe_op op_add pe_int (pe_call GD (hr.mono (by first | decide | omega)) (by rfl) PD.is PD.kp PD.bi .nil pass0 (pa_cons (pv 0) (pa_cons pe_int pa_nil)))) pa_nil)) (by rfl))
      (pss_cons (ps_set (i := 5) scMach.nd rfl (.inl rfl) (pe_op op_add (pv 3) (pv 4)))
      (pss_cons (ps_set (i := 6) scMach.nd rfl (.inl rfl) (pe_ifExp (pt_cmpR op_gt (pv 3) pe_int (nomark _)) (pe_ix ix_list (pe_lst (pa_cons (pe_op op_sub (pv 5) pe_int) (pa_cons pe_int (pa_cons pe_int (pa_cons pe_int (pa_cons pe_int (pa_cons pe_int pa_nil))))))) (pe_call GD (hr.mono (by first | decide | omega)) (by rfl) PD.is PD.kp PD.bi .nil pass0 (pa_cons (pv 0) (pa_cons pe_int pa_nil))) (fun _ _ => rfl)) pe_int))
      (pss_cons (ps_set (i := 7) scMach.nd rfl (.inl rfl) (pe_lst pa_nil))
      (pss_cons (ps_for PassesOwn.never rfl (pi_range1 rfl T.range (pa_cons (pv 5) pa_nil)) (pg_name (i := 8) scMach.nd rfl (.inl rfl)) (pss_one (ps_if (pt_cmpR op_lt (pv 8) (pv 3) (nomark _)) (pss_one (ps_expr (pe_bm PySem.F.plainAttrs_list PySem.F.slot_list_append PySem.F.type_list_append mt_append (pv 7) (pa_cons (pe_tup (pa_cons pe_str (pa_cons (pe_call GD (hr.mono (by first | decide | omega)) (by rfl) PD.is PD.kp PD.bi .nil pass0 (pa_cons (pv 0) (pa_cons (pv 5) pa_nil))) (pa_cons (pe_call GD (hr.mono (by first | decide | omega)) (by rfl) PD.is PD.kp PD.bi .nil pass0 (pa_cons (pv 0) (pa_cons (pv 5) pa_nil))) pa_nil)))) pa_nil)))) (pss_one (ps_expr (pe_bm PySem.F.plainAttrs_list PySem.F.slot_list_append PySem.F.type_list_append mt_append (pv 7) (pa_cons (pe_call GE (hr.mono (by first | decide | omega)) (by rfl) PE_.is PE_.kp PE_.bi .nil pass0 (pa_cons (pv 0) (pa_cons (pv 2) pa_nil))) pa_nil)))))))
      (pss_cons (ps_set (i := 9) scMach.nd rfl (.inl rfl) (pe_listRg rfl (by rfl) T.list (prg_1 (by rfl) T.range (pv 5))))
      (pss_cons (ps_asg (pe_tup (pa_cons (pe_ix ix_list (pv 9) (pv 6) (fun _ _ => rfl)) (pa_cons (pe_ix ix_list (pv 9) pe_int (fun _ _ => rfl)) pa_nil))) (pg_tup rfl (pgs_cons (pg_sub (pv 9) pe_int set_list) (pgs_cons (pg_sub (pv 9) (pv 6) set_list) pgs_nil))))
      (pss_one (ps_ret (pe_call GN (hr.mono (by first | decide | omega)) (by rfl) PN.is PN.kp PN.bi .nil pass0 (pa_cons (pe_callTy call_tuple_of (by rfl) T.tuple (by decide +kernel) (pa_cons (pv 7) pa_nil)) (pa_cons (pv 9) pa_nil)))))))))))), ?_⟩
    refine ⟨.ref a, rfl, .int m, rfl, _, _, rfl, rfl, a, l, m + 1, rfl, pn, by omega, log_le (Nat.lt_of_le_of_lt (show _ ≤ 100 by omega) (by decide)), fun d H1 u0 u1 b1 p1 => ?_⟩
    refine ⟨.ref a, rfl, a, l, 3, rfl, p1, by decide, by decide +kernel, fun d2 H2 v0 v1 b2 p2 => ⟨_, _, rfl, rfl, _, _, rfl, ?_⟩⟩
    obtain ⟨n, hn⟩ : ∃ n : Nat, d + (1 + d2) = (n : Int) := ⟨(d + (1 + d2)).toNat, by omega⟩
    refine ⟨_, rfl, _, rfl, _, _, rfl, rfl, ?_⟩
    dsimp only
    rw [hn]
    have n0 : 0 < n := by omega
    have n30 : n ≤ 30 := by omega
    have b12 := b1.trans b2
    refine on (asg_tail (fun v H' => ∃ z : Nat, v = .int (z : Nat) ∧ z < n ∧ But a H H' ∧ Pen H' a l) ?_ (fun t => ?_))
    rotate_left
    · refine ⟨_, rfl, _, _, rfl, rfl, _, rfl, ite2 (fun _ => ?_) (fun _ => t _ _ ⟨0, rfl, n0, b12, p2⟩)⟩
      refine ⟨_, rfl, _, _, rfl, rfl, by show 6 ≤ sizeLine; decide, fun e ne => ?_⟩
      have s3 : Same H2 (upd H2 e (.lst [.int ((n : Int) - 1), .int 0, .int 0, .int 0, .int 0, .int 0])) := Same.upd ne
      have he : upd H2 e (.lst [.int ((n : Int) - 1), .int 0, .int 0, .int 0, .int 0, .int 0]) e = some (.lst [.int ((n : Int) - 1), .int 0, .int 0, .int 0, .int 0, .int 0]) := upd_same
      have p3 := p2.same s3
      have nea := (p2.apart ne).1
      generalize upd H2 e (.lst [.int ((n : Int) - 1), .int 0, .int 0, .int 0, .int 0, .int 0]) = H3 at s3 he p3 ⊢
      refine ⟨.ref a, rfl, a, l, 6, rfl, p3, by decide, by decide +kernel, fun d3 H4 w0 w1 b4 p4 => ?_⟩
      obtain ⟨z, hz, ez⟩ := first_is n0 w0 w1
      exact ⟨e, _, d3, .int (z : Nat), rfl, rfl, SqL.of (b4.mem nea he), ez, t _ _ ⟨z, rfl, hz, (b12.trans (But.of s3)).trans b4, p4⟩⟩
    · rintro v H3 ⟨z, rfl, hz, b3, p3⟩
      refine ⟨Nat.zero_le _, fun L nL => ?_⟩
      have aL := p3.apart nL
      have nLH : H L = none := b3.free aL.1 nL
      have b4 : But a H (upd H3 L (.lst [])) := b3.trans (But.of (Same.upd nL))
      have p4 : Pen (upd H3 L (.lst [])) a l := p3.same (Same.upd nL)
      have eL : upd H3 L (.lst []) L = some (.lst []) := upd_same
      change (_ : Hp → Prop) (upd H3 L (.lst []))
      generalize upd H3 L (.lst []) = H4 at b4 p4 eL ⊢
      clear nL
      refine ⟨_, rfl, _, rfl, by omega, by omega, for_range (lo := 0) (n := n) (fun i σ H' => ∃ (v8 : Option V) (rs : List V) (ps : List Pl), σ = [some (V.ref a), some (V.int m), some (V.ref r), some (V.int d), some (V.int (1 + d2)), some (V.int (n : Nat)), some (V.int (z : Nat)), some (V.ref L), v8, none] ∧ But a H H' ∧ Pen H' a l ∧ H' L = some (.lst rs) ∧ Pls H' rs ps ∧ ps.length = i ∧ (∀ p ∈ ps, p.ok n) ∧ ∀ k : Nat, d ≤ k → k < i → ∃ p, ps[k]? = some p ∧ p.isT = false)
        ⟨_, [], [], rfl, b4, p4, eL, .nil, rfl, by simp, fun k _ h => absurd h (Nat.not_lt_zero _)⟩ ?_ ?_⟩
      · rintro i σ H5 hi ⟨v8, rs, ps, rfl, b5, p5, e5, pl, len, okp, quiet⟩
        have hlen : rs.length < sizeLine := by
          have := pl.len
          have e : sizeLine = 16777216 := by decide
          omega
        have fin : ∀ (t : Addr) (p : Pl) (H7 : Hp), But a H5 H7 → Pen H7 a l → H7 t = some (.tup p.row) → p.ok n → (d ≤ ((i : Nat) : Int) → p.isT = false) → H7 L = some (.lst rs) ∧ ∃ (v8 : Option V) (rs' : List V) (ps' : List Pl), [some (V.ref a), some (V.int m), some (V.ref r), some (V.int d), some (V.int (1 + d2)), some (V.int (n : Nat)), some (V.int (z : Nat)), some (V.ref L), some (V.int (0 + (i : Nat))), none] = [some (V.ref a), some (V.int m), some (V.ref r), some (V.int d), some (V.int (1 + d2)), some (V.int (n : Nat)), some (V.int (z : Nat)), some (V.ref L), v8, none] ∧
            But a H (upd H7 L (.lst (rs ++ [V.ref t]))) ∧ Pen (upd H7 L (.lst (rs ++ [V.ref t]))) a l ∧ upd H7 L (.lst (rs ++ [V.ref t])) L = some (.lst rs') ∧ Pls (upd H7 L (.lst (rs ++ [V.ref t]))) rs' ps' ∧ ps'.length = i + 1 ∧ (∀ p ∈ ps', p.ok n) ∧ ∀ k : Nat, d ≤ k → k < i + 1 → ∃ p, ps'[k]? = some p ∧ p.isT = false := by
          intro t p H7 b7 p7 et okt tq
          have e7 := b7.mem aL.1 e5
          refine ⟨e7, _, rs ++ [V.ref t], ps ++ [p], rfl, ?_, ?_, upd_same, ?_, by simp [len], ?_, ?_⟩
          · intro b o e nb
            rw [upd_ne (ne_of_none e nLH)]
            exact b7 _ _ (b5 _ _ e nb) nb
          · obtain ⟨cs, pos, val, h1, h2, h3⟩ := p7
            exact ⟨cs, pos, val, by rw [upd_ne aL.1.symm]; exact h1, by rw [upd_ne aL.2.symm]; exact h2, h3⟩
          · have pl7 : Pls H7 rs ps := pl.mono fun b xs e => b7.mem (p5.notTup e) e
            refine (pl7.snoc et).mono fun b xs e => ?_
            rw [upd_ne (by rintro rfl; rw [e7] at e; cases e)]
            exact e
          · intro x hx
            rcases List.mem_append.mp hx with hx | hx
            · exact okp x hx
            · rw [List.mem_singleton.mp hx]
              exact okt
          · intro k hk hk2
            rcases Nat.lt_or_ge k i with l | l
            · obtain ⟨p', hp', e'⟩ := quiet k hk l
              exact ⟨p', by rw [List.getElem?_append_left (by omega)]; exact hp', e'⟩
            · have ek : k = i := by omega
              subst ek
              exact ⟨p, by rw [List.getElem?_append_right (by omega), len, Nat.sub_self]; rfl, tq hk⟩
        have hb : (0 : Int) < (n : Nat) := by omega
        have hb2 : ((n : Nat) : Int).natAbs.log2 < 9000 := log_le (Nat.lt_of_le_of_lt (show _ ≤ 100 by omega) (by decide))
        refine ⟨_, rfl, _, rfl, _, _, rfl, rfl, _, rfl, ite2 (fun hlt => ?_) (fun _ => ?_)⟩
        · have hlt : (0 : Int) + (i : Nat) < d := by simpa using hlt
          refine ⟨.ref L, rfl, .inl ⟨rfl, _, SqL.of e5⟩, .ref a, rfl, _, rfl, a, l, _, rfl, p5, hb, hb2, fun x H6 x0 x1 b6 p6 => ?_⟩
          refine ⟨.ref a, rfl, _, rfl, a, l, _, rfl, p6, hb, hb2, fun y H7 y0 y1 b7 p7 => ⟨by show 3 ≤ sizeLine; decide, fun t nt => ?_⟩⟩
          obtain ⟨e8, go⟩ := fin t (.toss x y) _ ((b6.trans b7).trans (But.of (Same.upd nt))) (p7.same (Same.upd nt)) upd_same ⟨x0, x1, y0, y1⟩ (fun h => by omega)
          exact ⟨L, _, _, rfl, rfl, e8, hlen, go⟩
        · refine ⟨.ref L, rfl, .inl ⟨rfl, _, SqL.of e5⟩, .ref a, rfl, .ref r, rfl, a, l, r, ns, rfl, p5, b5.mem (pn.notInts hr1) hr1, h0, h60, hns, fun t p H6 b6 nt et p6 st => ?_⟩
          obtain ⟨e8, go⟩ := fin t p H6 b6 p6 et (st.ok n) (fun _ => st.isT)
          exact ⟨L, _, _, rfl, rfl, e8, hlen, go⟩
      · rintro σ H5 ⟨v8, rs, ps, rfl, b5, p5, e5, pl, len, okp, quiet⟩
        refine ⟨_, rfl, _, rfl, RgOk.of_le (by decide) (by omega) (by decide) (by omega), fun O nO => ?_⟩
        rw [rg_is]
        have aO := p5.apart nO
        have nOH : H O = none := b5.free aO.1 nO
        have s6 := Same.upd (o := .lst (((List.range n).map fun i : Nat => (i : Int)).map V.int)) nO
        have e6 : upd H5 O (.lst (((List.range n).map fun i : Nat => (i : Int)).map V.int)) O = some (.lst (((List.range n).map fun i : Nat => (i : Int)).map V.int)) := upd_same
        generalize upd H5 O (.lst (((List.range n).map fun i : Nat => (i : Int)).map V.int)) = H6 at s6 e6 ⊢
        have gz : ∀ j : Nat, j < n → (((List.range n).map fun i : Nat => (i : Int)).map V.int)[j]? = some (V.int (j : Nat)) := fun j hj => by
          rw [List.getElem?_map, List.getElem?_map, List.getElem?_range hj]
          rfl
        refine ⟨.ref O, rfl, _, rfl, O, _, _, .int (z : Nat), rfl, rfl, SqL.of e6, atI_nat (gz z hz), .ref O, rfl, O, _, 0, .int 0, rfl, rfl, SqL.of e6, atI_nat (j := 0) (gz 0 n0), by show 2 ≤ sizeLine; decide, fun t nt => ?_⟩
        have s7 := Same.upd (o := .tup [.int (z : Nat), .int 0]) nt
        have e7 := s7 _ _ e6
        have et : upd H6 t (.tup [.int (z : Nat), .int 0]) t = some (.tup [.int (z : Nat), .int 0]) := upd_same
        generalize upd H6 t (.tup [.int (z : Nat), .int 0]) = H7 at s7 e7 et ⊢
        have ln : (((List.range n).map fun i : Nat => (i : Int)).map V.int).length = n := by simp
        refine ⟨t, _, rfl, SqT.of et, rfl, _, _, rfl, .ref O, rfl, O, _, 0, 0, rfl, rfl, e7, by rw [ln]; exact ixN_nat (j := 0) n0, ?_⟩
        refine ⟨_, _, rfl, .ref O, rfl, _, rfl, O, _, _, z, rfl, rfl, upd_same, by rw [List.length_set, ln]; exact ixN_nat hz, rfl, ?_⟩
        have nOO : ∀ b o, H5 b = some o → b ≠ O := fun b o e => ne_of_none e nO
        have s57 := s6.trans s7
        have up : ∀ (x y : HO) b o, H5 b = some o → upd (upd H7 O x) O y b = some o := fun x y b o e => by
          rw [upd_ne (nOO b o e), upd_ne (nOO b o e)]
          exact s57 _ _ e
        have e8 : upd (upd H7 O (.lst ((((List.range n).map fun i : Nat => (i : Int)).map V.int).set 0 (.int (z : Nat))))) O (.lst (((((List.range n).map fun i : Nat => (i : Int)).map V.int).set 0 (.int (z : Nat))).set z (.int 0))) O = some (.lst (((((List.range n).map fun i : Nat => (i : Int)).set 0 (z : Int)).set z 0).map V.int)) := by
          rw [upd_same, List.map_set, List.map_set]
        have up := up (.lst ((((List.range n).map fun i : Nat => (i : Int)).map V.int).set 0 (.int (z : Nat)))) (.lst (((((List.range n).map fun i : Nat => (i : Int)).map V.int).set 0 (.int (z : Nat))).set z (.int 0)))
        change (_ : Hp → Prop) (upd (upd H7 O (.lst ((((List.range n).map fun i : Nat => (i : Int)).map V.int).set 0 (.int (z : Nat))))) O (.lst (((((List.range n).map fun i : Nat => (i : Int)).map V.int).set 0 (.int (z : Nat))).set z (.int 0))))
        generalize upd (upd H7 O (.lst ((((List.range n).map fun i : Nat => (i : Int)).map V.int).set 0 (.int (z : Nat))))) O (.lst (((((List.range n).map fun i : Nat => (i : Int)).map V.int).set 0 (.int (z : Nat))).set z (.int 0))) = H8 at e8 up ⊢
        have s58 : Same H5 H8 := up
        refine ⟨.ref L, rfl, L, _, rfl, .inl ⟨SqL.of (up _ _ e5), fun p np => ?_⟩⟩
        have s9 := Same.upd (o := .tup rs) np
        have s59 := s58.trans s9
        refine ⟨.ref O, rfl, p, O, ps, _, rfl, ⟨rs, upd_same, pl.mono fun b xs e => s59 _ _ e⟩, ⟨by omega, by omega, by rw [len]; exact okp⟩, s9 _ _ e8, by rw [len]; exact order_swap hz, fun t qs H9 s10 nt hm hw hq hstill => ?_⟩
        have s50 := s59.trans s10
        exact q t qs H9 (b5.trans (But.of s50)) (b5.free ((p5.same s59).apart nt).1 (s59.free nt)) hm hw (p5.same s50) (by rw [hq, len]; omega) (hstill (by
          obtain ⟨p', hp', e'⟩ := quiet d.toNat (by omega) (by omega)
          exact ⟨p', List.mem_of_getElem? hp', e'⟩))
end
end Z

set_option Elab.async false
set_option linter.all false
set_option maxRecDepth 100000
set_option maxHeartbeats 4000000
/-! one parameter, by its name -/
namespace NM
open PySem PySem.Spec PyProof.Rows L2 GG
theorem named1 {K : PySem.W.Frag} {x qual : Str} {st : Stmt} {f : Addr} {fd : FuncData} {a : Str} (F : Fun K x qual st f fd)
    (h : ∀ (kV doc pm : Value) (an : Option Addr) (cd ct u : Value), bindArgs (PySem.W.fnOf x qual (defArgs st) (defBody st) (defScope st) .none kV doc pm an cd ct) ⟨[], [(a, u)]⟩ = pure [(a, u)]) :
    KBn K fd [a] 0 [a] (fun _ ws => ws) (fun _ zs => zs) := by
  obtain ⟨oc, od, kV, doc, pm, an, cd, ct, slots, rfl, found, code⟩ := F.ex
  refine ⟨fun s us ws _ l0 l2 => ?_, fun _ r => r⟩
  match us, ws, l0, l2 with
  | [], [u], _, _ => exact .of_eq (h kV doc pm an cd ct u)
end NM

set_option Elab.async false
set_option linter.all false
set_option maxRecDepth 100000
set_option maxHeartbeats 4000000
/-! t * k, k 0 or more -/
namespace TR
open PySem PySem.Spec PyProof.Rows L2
theorem mul_one_ (l : Addr) (items : Array Value) (n : Nat) (dd : Option Addr) (sl : Array (Option Value)) (x : Int) (u : Tok) (h1 : x = 1) :
    Meets (Builtin.«tuple.__mul__» ⟨[.ref l, .int x u], []⟩) (fun _ R s => s.heap.get? l = some { cls := .type "tuple", dict := dd, data := .seq items n, slots := sl } ∧ R (.ok (.ret (.ref l))) s) := by
  refine .of_wp fun prog w A R s h => ?_
  obtain ⟨hp, g, d, tk, os⟩ := s
  obtain ⟨hl, h⟩ := h
  subst h1
  have ix := AutoSeq1.idx_int
  have c0 : ¬ ((decide ((1 : Int) < -(2 ^ 63)) || decide ((1 : Int) ≥ 2 ^ 63)) = true) := by decide
  have c1 : (items.isEmpty || (1 : Int) == 1) = true := by simp
  wp_walk using wpAny_loadPart' hl
  repeat (first
    | (refine wpAny_ite_false (decide_eq_false c0) ?_; wp_walk using wpAny_loadPart' hl)
    | (refine wpAny_ite_true (decide_eq_true c1) ?_; wp_walk using wpAny_loadPart' hl))
  exact ⟨_, rfl, h⟩
theorem mul_none_ (l : Addr) (items : Array Value) (n : Nat) (dd : Option Addr) (sl : Array (Option Value)) (x : Int) (u : Tok) (h1 : x = 0) (ne : items.isEmpty = false) :
    Meets (Builtin.«tuple.__mul__» ⟨[.ref l, .int x u], []⟩) (fun _ R s => s.heap.get? l = some { cls := .type "tuple", dict := dd, data := .seq items n, slots := sl } ∧
      R (.ok (.ret (.ref s.heap.objs.size))) { s with heap := s.heap.push { cls := .type "tuple", data := .seq #[] }, toks := s.toks }) := by
  refine .of_wp fun prog w A R s h => ?_
  obtain ⟨hp, g, d, tk, os⟩ := s
  obtain ⟨hl, h⟩ := h
  subst h1
  have ix := AutoSeq1.idx_int
  have c0 : ¬ ((decide ((0 : Int) < -(2 ^ 63)) || decide ((0 : Int) ≥ 2 ^ 63)) = true) := by decide
  have c1 : ¬ ((items.isEmpty || (0 : Int) == 1) = true) := by rw [ne]; decide
  have c2 : (decide ((0 : Int) ≤ 0) || items.isEmpty) = true := by simp
  wp_walk using wpAny_loadPart' hl
  repeat (first
    | (refine wpAny_ite_false (decide_eq_false c0) ?_; wp_walk using wpAny_loadPart' hl)
    | (refine wpAny_ite_false (decide_eq_false c1) ?_; wp_walk using wpAny_loadPart' hl)
    | (refine wpAny_ite_true (decide_eq_true c2) ?_; wp_walk using wpAny_loadPart' hl))
  exact ⟨_, rfl, h⟩
section
variable {X : Cx}
def rRepA (K : PySem.W.Frag) : R2 := fun x y H Q => ∃ (l : Addr) (k : Int) (xs : List V), x = .ref l ∧ y = .int k ∧ SqT K H l xs ∧ xs ≠ [] ∧ 0 ≤ k ∧ k ≤ 1000 ∧ xs.length ≤ 1000 ∧ (k = 1 → Q (.ref l) H) ∧ (k ≠ 1 → ∀ p, H p = none → Q (.ref p) (upd H p (.tup (List.replicate k.toNat xs).flatten)))
theorem op_repA : OpR X (binaryOp .Mult) (rRepA X.K) := by
  intro pins s σ H x y v u Q I rx ry h
  obtain ⟨l, k, xs, rfl, rfl, hT, hne, h1, h2, hz, q1, q2⟩ := h
  by_cases two : 2 ≤ k
  · exact op_repT pins s σ H _ _ v u Q I rx ry ⟨l, k, xs, rfl, rfl, hT, hne, two, h2, hz, q2 (by omega)⟩
  · cases rx
    obtain ⟨t, rfl⟩ := ry
    obtain ⟨its, r, ⟨⟨cls, dd, data, sl⟩, ho, hc, n, hd⟩, hs⟩ := I.tuple hT
    simp only at hc hd
    subst hc hd
    by_cases one : k = 1
    · refine wpAny_binaryOp_repeat_ref (T := "tuple") (U := "int") (by decide) ⟨_, ho, rfl⟩ (fun s' => typeIs_int s' k t) noFill_tuple_mul F.fills_int_mul F.slot_int_rmul repeat_tuple F.slot_int_index.lookup ?_
      refine call_meets F.slot_int_rmul (typeIs_int s k t) F.entry_int_rmul (F.args_int_rmul_2 _ _) (int_rmul_tuple k t l its.toArray n dd sl) ⟨ho, rfl, ⟨_, ho, rfl⟩, ?_⟩
      exact call_meets F.slot_tuple_mul ⟨_, ho, rfl⟩ F.entry_tuple_mul (F.args_tuple_mul_2 _ _) (mul_one_ l its.toArray n dd sl k t one) ⟨ho, ⟨.ref l, H, I, rfl, q1 one⟩⟩
    · have ne : its.toArray.isEmpty = false := by
        have len := r.length
        cases its with
        | nil => exact absurd (List.eq_nil_of_length_eq_zero len) hne
        | cons a b => rfl
      have zero : k = 0 := by omega
      refine wpAny_binaryOp_repeat_ref (T := "tuple") (U := "int") (by decide) ⟨_, ho, rfl⟩ (fun s' => typeIs_int s' k t) noFill_tuple_mul F.fills_int_mul F.slot_int_rmul repeat_tuple F.slot_int_index.lookup ?_
      refine call_meets F.slot_int_rmul (typeIs_int s k t) F.entry_int_rmul (F.args_int_rmul_2 _ _) (int_rmul_tuple k t l its.toArray n dd sl) ⟨ho, rfl, ⟨_, ho, rfl⟩, ?_⟩
      refine call_meets F.slot_tuple_mul ⟨_, ho, rfl⟩ F.entry_tuple_mul (F.args_tuple_mul_2 _ _) (mul_none_ l its.toArray n dd sl k t zero ne) ⟨ho, ?_⟩
      have q := q2 one
      rw [zero] at q
      refine ⟨.ref s.heap.objs.size, _, I.laid (t' := s.toks) (o := .tup []) (fun b ob q => Heap.get?_push_of_some _ q) (Nat.le_refl _) ?_, rfl, q _ (I.hok.fresh (Nat.le_refl _))⟩
      exact ⟨Nat.zero_le _, _, .nil, IsTup.new _ _⟩
end
end TR

set_option Elab.async false
set_option linter.all false
set_option maxRecDepth 100000
set_option maxHeartbeats 4000000
set_option exponentiation.threshold 20000
namespace Z
open PySem PySem.Spec PyProof.Rows L2 GG TPD EQD DSD SHT IBD
abbrev sLaw : Stmt := top 22
theorem errM_body {l : List PyData} (h1 : 1 ≤ l.length) (h2 : l.length ≤ 60) : errM (.tuple l) = (match (List.range l.length).find? fun i => (errW (itD (.tuple l) i) (l.length : Nat)).isSome with
    | some i => .tuple [.int (i : Nat), .str ((errW (itD (.tuple l) i) (l.length : Nat)).getD "")]
    | none => .none) := by
  show (if (decide (1 ≤ l.length) && decide (l.length ≤ 60)) = true then _ else _) = _
  rw [decide_eq_true h1, decide_eq_true h2, if_pos (by rfl)] <;> rfl
theorem errM_ok {l : List PyData} (h1 : 1 ≤ l.length) (h2 : l.length ≤ 60) (h : ∀ i, i < l.length → errW (itD (.tuple l) i) (l.length : Nat) = none) : errM (.tuple l) = .none := by
  have e : ((List.range l.length).find? fun i => (errW (itD (.tuple l) i) (l.length : Nat)).isSome) = none := by
    rw [List.find?_eq_none]
    intro i hi
    rw [h i (List.mem_range.mp hi)]
    decide
  rw [errM_body h1 h2, e]
theorem find_at (f : Nat → Bool) (n : Nat) {i : Nat} (hi : i < n) (h : ∀ j, j < i → f j = false) (e : f i = true) : (List.range n).find? f = some i := by
  rw [List.find?_range_eq_some]
  exact ⟨e, List.mem_range.mpr hi, fun j hj => by rw [h j hj]; decide⟩
theorem errM_at {l : List PyData} (h1 : 1 ≤ l.length) (h2 : l.length ≤ 60) {i : Nat} {x : Str} (hi : i < l.length) (h : ∀ j, j < i → errW (itD (.tuple l) j) (l.length : Nat) = none) (e : errW (itD (.tuple l) i) (l.length : Nat) = some x) : errM (.tuple l) = .tuple [.int (i : Nat), .str x] := by
  have f : ((List.range l.length).find? fun i => (errW (itD (.tuple l) i) (l.length : Nat)).isSome) = some i := find_at _ _ hi (fun j hj => by rw [h j hj]; rfl) (by rw [e]; rfl)
  rw [errM_body h1 h2, f]
  show PyData.tuple [.int (i : Nat), .str ((errW (itD (.tuple l) i) (l.length : Nat)).getD "")] = _
  rw [e]
  rfl
theorem errM_long {l : List PyData} (h : 60 < l.length) : errM (.tuple l) = .tuple [.int (-1), .str "form"] := by
  show (if (decide (1 ≤ l.length) && decide (l.length ≤ 60)) = true then _ else _) = _
  rw [decide_eq_false (show ¬ l.length ≤ 60 by omega), Bool.and_false, if_neg (by decide)]
def tossD (a b : Int) : PyData := .tuple [.str "toss", .int a, .int b]
def endD (n : Int) : PyData := .tuple [.str "end", .int n]
def plD : Pl → PyData
  | .toss a b => tossD a b
  | .fin n => endD n
  | .never => .tuple [.str "never"]
theorem errW_toss (a b m : Int) : errW (tossD a b) m = if 0 ≤ a ∧ a < m ∧ 0 ≤ b ∧ b < m then none else some ("place" : Str) := by
  have b1 : begD (tossD a b) "never" 1 = false := beg_len (show ((3 : Nat) : Int) ≠ 1 by decide)
  have b2 : begD (tossD a b) "toss" 3 = true := by
    unfold tossD
    rw [beg_str, show ((Str.ofString "toss" : Str) == "toss") = true from by decide +kernel]
    rfl
  unfold errW
  rw [b1, b2, if_neg (by decide), if_pos (by rfl)]
  show (if ((decide (0 ≤ a) && decide (a < m)) && (decide (0 ≤ b) && decide (b < m))) = true then _ else _) = _
  by_cases h : 0 ≤ a ∧ a < m ∧ 0 ≤ b ∧ b < m
  · rw [if_pos h, decide_eq_true h.1, decide_eq_true h.2.1, decide_eq_true h.2.2.1, decide_eq_true h.2.2.2, if_pos (by rfl)]
  · rw [if_neg h, if_neg]
    intro g
    simp only [Bool.and_eq_true, decide_eq_true_eq] at g
    exact h ⟨g.1.1, g.1.2, g.2.1, g.2.2⟩
theorem errW_end (n m : Int) : errW (endD n) m = if 0 ≤ n ∧ n ≤ 99 then none else some ("answer" : Str) := by
  have b1 : begD (endD n) "never" 1 = false := beg_len (show ((2 : Nat) : Int) ≠ 1 by decide)
  have b2 : begD (endD n) "toss" 3 = false := beg_len (show ((2 : Nat) : Int) ≠ 3 by decide)
  have b3 : begD (endD n) "end" 2 = true := by
    unfold endD
    rw [beg_str, show ((Str.ofString "end" : Str) == "end") = true from by decide +kernel]
    rfl
  unfold errW
  rw [b1, b2, b3, if_neg (by decide), Bool.false_and, if_neg (by decide), if_pos (by rfl)]
  show (if (decide (0 ≤ n) && decide (n ≤ 99)) = true then _ else _) = _
  by_cases h : 0 ≤ n ∧ n ≤ 99
  · rw [if_pos h, decide_eq_true h.1, decide_eq_true h.2, if_pos (by rfl)]
  · rw [if_neg h, if_neg]
    intro g
    simp only [Bool.and_eq_true, decide_eq_true_eq] at g
    exact h g
theorem errW_never (m : Int) : errW (.tuple [.str "never"]) m = none := by
  have b1 : begD (.tuple [.str "never"]) "never" 1 = true := by
    rw [beg_str]
    decide +kernel
  unfold errW
  rw [b1, if_pos rfl]
theorem errW_ok {p : Pl} {m : Nat} (h : p.ok m) : errW (plD p) m = none := by
  cases p with
  | toss a b =>
    obtain ⟨h1, h2, h3, h4⟩ := h
    show errW (tossD a b) m = none
    rw [errW_toss, if_pos ⟨h1, h2, h3, h4⟩]
  | fin n =>
    obtain ⟨h1, h2⟩ := h
    show errW (endD n) m = none
    rw [errW_end, if_pos ⟨h1, by omega⟩]
  | never => exact errW_never _
theorem itD_at {l : List PyData} {i : Nat} {d : PyData} (h : l[i]? = some d) : itD (.tuple l) i = d := by
  show l.getD i .none = d
  rw [List.getD_eq_getElem?_getD, h]
  rfl
theorem errM_good {ps : List Pl} (w : WF ps) : errM (.tuple (ps.map plD)) = .none := by
  have ne := w.ne
  have le := w.le
  refine errM_ok (by rw [List.length_map]; omega) (by rw [List.length_map]; omega) fun i hi => ?_
  rw [List.length_map] at hi ⊢
  rw [itD_at (d := plD ps[i]) (by rw [List.getElem?_map, List.getElem?_eq_getElem hi]; rfl)]
  exact errW_ok (w.ok _ (List.getElem_mem hi))
/-! the chain of sixty places -/
theorem chain_at {l : List PyData} {e : PyData} {k i : Nat} {t : PyData} (el : l = List.replicate k t ++ [e]) (hi : i < k) : itD (.tuple l) i = t := by
  subst el
  exact itD_at (by rw [List.getElem?_append_left (by rw [List.length_replicate]; exact hi), List.getElem?_replicate, if_pos hi])
theorem chain_end {l : List PyData} {e : PyData} {k : Nat} {t : PyData} (el : l = List.replicate k t ++ [e]) : itD (.tuple l) k = e := by
  subst el
  exact itD_at (by rw [List.getElem?_append_right (by rw [List.length_replicate]; exact Nat.le_refl _), List.length_replicate, Nat.sub_self]; rfl)
theorem chain_ok {n : Int} (h0 : 0 ≤ n) (h1 : n < 100) : errM (.tuple (List.replicate 59 (tossD 59 1) ++ [endD n])) = .none := by
  have ln : (List.replicate 59 (tossD 59 1) ++ [endD n]).length = 60 := by rw [List.length_append, List.length_replicate]; rfl
  refine errM_ok (by rw [ln]; decide) (by rw [ln]; decide) fun i hi => ?_
  rw [ln] at hi ⊢
  by_cases z : i < 59
  · rw [chain_at rfl z, errW_toss, if_pos (by decide)]
  · have : i = 59 := by omega
    subst this
    rw [chain_end rfl, errW_end, if_pos ⟨h0, by omega⟩]
theorem chain_answer {n : Int} (h0 : 100 ≤ n) : errM (.tuple (List.replicate 59 (tossD 59 1) ++ [endD n])) = .tuple [.int 59, .str "answer"] := by
  have ln : (List.replicate 59 (tossD 59 1) ++ [endD n]).length = 60 := by rw [List.length_append, List.length_replicate]; rfl
  refine errM_at (i := 59) (by rw [ln]; decide) (by rw [ln]; decide) (by rw [ln]; decide) (fun j hj => ?_) ?_
  · rw [ln, chain_at rfl hj, errW_toss, if_pos (by decide)]
  · rw [chain_end rfl, errW_end, if_neg (by omega)]
theorem chain_place : errM (.tuple ([tossD 1 0] ++ List.replicate 58 (tossD 59 1))) = .tuple [.int 1, .str "place"] := by
  have ln : ([tossD 1 0] ++ List.replicate 58 (tossD 59 1)).length = 59 := by rw [List.length_append, List.length_replicate]; rfl
  refine errM_at (i := 1) (by rw [ln]; decide) (by rw [ln]; decide) (by rw [ln]; decide) (fun j hj => ?_) ?_
  · have : j = 0 := by omega
    subst this
    rw [itD_at (d := tossD 1 0) rfl, errW_toss, if_pos (by rw [ln]; decide)]
  · rw [itD_at (d := tossD 59 1) rfl, errW_toss, if_neg (by rw [ln]; decide)]
theorem cut_last (t e : PyData) : cutD (List.replicate 59 t ++ [e]) (some (-1)) none = [e] := by rfl
theorem cut_but (t e : PyData) : cutD (List.replicate 59 t ++ [e]) none (some (-1)) = List.replicate 59 t := by rfl
theorem cut_mid (t e : PyData) : cutD (List.replicate 59 t ++ [e]) (some 1) (some (-1)) = List.replicate 58 t := by rfl
/-! short texts -/
theorem errW_short {d : PyData} {m : Int} {x : Str} (h : errW d m = some x) : Sh (.str x) 0 8 := by
  unfold errW at h
  have f1 : Sh (.str "place") 0 8 := sh_str (by decide +kernel) (by decide +kernel)
  have f2 : Sh (.str "answer") 0 8 := sh_str (by decide +kernel) (by decide +kernel)
  have f3 : Sh (.str "form") 0 8 := sh_str (by decide +kernel) (by decide +kernel)
  repeat' split at h
  all_goals first | cases h; assumption | cases h
theorem errM_short (d : PyData) : Sh (errM d) 1 100 := by
  have f3 : Sh (.str "form") 0 8 := sh_str (by decide +kernel) (by decide +kernel)
  have ff : Sh (.tuple [.int (-1), .str "form"]) 1 100 := Sh.mono (a := 1) (b := 10) (Sh.tup (a := 0) (b := 10) (ShA.cons (b := 0) (c := 9) (sh_int (show (-1 : Int).natAbs < 2 ^ 300 by decide)) ((ShA.cons f3 (ShA.nil (b := 0))).mono (Nat.le_refl _) (show 8 + 0 + 1 ≤ 9 by decide)))) (by decide) (by decide)
  cases d with
  | tuple l =>
    by_cases h : 1 ≤ l.length ∧ l.length ≤ 60
    · rw [errM_body h.1 h.2]
      cases hf : (List.range l.length).find? fun i => (errW (itD (.tuple l) i) (l.length : Nat)).isSome with
      | none => exact sh_non.mono (by decide) (by decide)
      | some i =>
        have hi := List.mem_range.mp (List.mem_of_find?_eq_some hf)
        have hs := List.find?_some hf
        cases hx : errW (itD (.tuple l) i) (l.length : Nat) with
        | none =>
          simp only [hx] at hs
          cases hs
        | some x =>
          have i3 : ((i : Nat) : Int).natAbs < 2 ^ 300 := Nat.lt_of_le_of_lt (show ((i : Nat) : Int).natAbs ≤ 60 by omega) (by decide)
          show Sh (.tuple [.int (i : Nat), .str ((errW (itD (.tuple l) i) (l.length : Nat)).getD "")]) 1 100
          rw [hx]
          exact Sh.mono (a := 1) (b := 10) (Sh.tup (a := 0) (b := 10) (ShA.cons (b := 0) (c := 9) (sh_int i3) ((ShA.cons (errW_short hx) (ShA.nil (b := 0))).mono (Nat.le_refl _) (show 8 + 0 + 1 ≤ 9 by decide)))) (by decide) (by decide)
    · have : errM (.tuple l) = .tuple [.int (-1), .str "form"] := by
        show (if (decide (1 ≤ l.length) && decide (l.length ≤ 60)) = true then _ else _) = _
        rw [if_neg]
        intro g
        simp only [Bool.and_eq_true, decide_eq_true_eq] at g
        exact h g
      rw [this]
      exact ff
  | int i => exact ff
  | bool b => exact ff
  | none => exact ff
  | str x => exact ff
  | list ds => exact ff
  | dict kvs => exact ff
/-! the machine as data -/
theorem pls_ds {N : Addr → Prop} {H : Hp} (f : ∀ t xs, H t = some (.tup xs) → ¬ N t) {rs : List V} {ps : List Pl} (h : Pls H rs ps) : DsAll N H rs (ps.map plD) := by
  induction h with
  | nil => exact .nil
  | @cons t p rs ps e _ ih =>
    refine .cons ?_ ih
    cases p with
    | toss a b => exact .tup e (f _ _ e) (.cons (.str _) (.cons (.int _) (.cons (.int _) .nil)))
    | fin n => exact .tup e (f _ _ e) (.cons (.str _) (.cons (.int _) .nil))
    | never => exact .tup e (f _ _ e) (.cons (.str _) .nil)
theorem pl_sh {p : Pl} {m : Nat} (hm : m ≤ 30) (h : p.ok m) : Sh (plD p) 1 7 ∧ small (10 ^ 40) (plD p) = true := by
  have big : (30 : Nat) < 2 ^ 300 ∧ 100 < 2 ^ 300 := by decide
  have big2 : (30 : Nat) ≤ 10 ^ 40 ∧ 100 ≤ 10 ^ 40 := by decide
  generalize (2 : Nat) ^ 300 = B at big
  generalize (10 : Nat) ^ 40 = C at big2 ⊢
  cases p with
  | toss a b =>
    obtain ⟨h1, h2, h3, h4⟩ := h
    have sa : Sh (.int a) 0 0 := sh_int (Nat.lt_of_le_of_lt (show a.natAbs ≤ 30 by omega) (by decide))
    have sb : Sh (.int b) 0 0 := sh_int (Nat.lt_of_le_of_lt (show b.natAbs ≤ 30 by omega) (by decide))
    have st : Sh (.str "toss") 0 4 := sh_str (by decide +kernel) (by decide +kernel)
    refine ⟨Sh.tup (a := 0) ((ShA.cons st (ShA.cons sa (ShA.cons sb (ShA.nil (b := 0))))).mono (Nat.le_refl _) (by decide)), ?_⟩
    show (true && (decide (a.natAbs ≤ C) && (decide (b.natAbs ≤ C) && true))) = true
    rw [decide_eq_true (by omega), decide_eq_true (by omega)]
    rfl
  | fin n =>
    obtain ⟨h1, h2⟩ := h
    have sa : Sh (.int n) 0 0 := sh_int (Nat.lt_of_le_of_lt (show n.natAbs ≤ 100 by omega) (by decide))
    have st : Sh (.str "end") 0 4 := sh_str (by decide +kernel) (by decide +kernel)
    refine ⟨Sh.tup (a := 0) ((ShA.cons st (ShA.cons sa (ShA.nil (b := 0)))).mono (Nat.le_refl _) (by decide)), ?_⟩
    show (true && (decide (n.natAbs ≤ C) && true)) = true
    rw [decide_eq_true (by omega)]
    rfl
  | never =>
    have st : Sh (.str "never") 0 5 := sh_str (by decide +kernel) (by decide +kernel)
    exact ⟨Sh.tup (a := 0) ((ShA.cons st (ShA.nil (b := 0))).mono (Nat.le_refl _) (by decide)), rfl⟩
theorem pls_sh {m : Nat} (hm : m ≤ 30) : ∀ {ps : List Pl}, (∀ p ∈ ps, p.ok m) → ShA (ps.map plD) 1 (8 * ps.length) ∧ smallAll (10 ^ 40) (ps.map plD) = true
  | [], _ => ⟨ShA.nil, rfl⟩
  | p :: r, h => by
    obtain ⟨h1, h2⟩ := pl_sh hm (h p (List.mem_cons_self))
    obtain ⟨h3, h4⟩ := pls_sh hm (ps := r) fun q hq => h q (List.mem_cons_of_mem _ hq)
    refine ⟨(ShA.cons h1 h3).mono (Nat.le_refl _) (by rw [List.length_cons]; omega), ?_⟩
    show (small (10 ^ 40) (plD p) && smallAll (10 ^ 40) (r.map plD)) = true
    rw [h2, h4]
    rfl
def Bk : Nat → Nat
  | 0 => 130
  | i + 1 => 2 * Bk i + 30
theorem Bk_le : ∀ i, i < 5 → Bk i ≤ 3000 := by decide
theorem Bk_le6 : ∀ i, i < 6 → Bk i ≤ 6000 := by decide
theorem item_count {l : List PyData} {a b : Nat} (h : Sh (.tuple l) a b) : ∀ x ∈ l, ∀ k, x = .tuple k → k.length ≤ b := by
  intro x hx k e
  subst e
  obtain ⟨i, hi, e⟩ := List.getElem_of_mem hx
  have := (h.items.get (show l[i]? = some (.tuple k) by rw [List.getElem?_eq_getElem hi, e])).items.count
  exact this
theorem rep_ds {N : Addr → Prop} {H : Hp} {v : V} {d : PyData} (h : Ds N H v d) : ∀ k : Nat, DsAll N H (List.replicate k [v]).flatten (List.replicate k d)
  | 0 => .nil
  | k + 1 => by
    rw [List.replicate_succ, List.flatten_cons, List.replicate_succ]
    exact .cons h (rep_ds h k)
theorem pair_dp {K : PySem.W.Frag} {H : Hp} {r : V} {i : Int} {x : Str} (h : Tp K H r (.tuple [.int i, .str x])) : Dp K H r (.tuple [.int i, .str x]) := by
  obtain ⟨a, xs, rfl, hs, ha⟩ := tp_tup h
  cases ha with
  | cons h1 h2 =>
    cases h2 with
    | cons h3 h4 =>
      cases h1
      cases h3
      cases h4
      exact .tup hs (.cons (.int _) (.cons (.str _) .nil))
theorem pair_eqv (i : Int) (x : Str) : PyData.eqv (.tuple [.int i, .str x]) (.tuple [.int i, .str x]) = true := by
  show ((i == i) && ((x == x) && true)) = true
  simp
structure NamesM (mg : Str → Option Value) : Prop extends Names mg where
  max : mg "max" = none
  min : mg "min" = none
section
variable {P : Program} {w : World} {K : PySem.W.Frag} {mg : Str → Option Value} {base : Heap}
def spLaw (K : PySem.W.Frag) : Sp := fun vs H Q _ => ∃ (a : Addr) (ns : List Int), vs = [.ref a] ∧ SqL K H a (ns.map V.int) ∧ ns.length ≤ 63 ∧ ∀ H', Q (.bl true) H'
theorem scLaw : FnScope ["script", "pen", "turn", "machine", "often", "shown", "long"] ["script"] (defScope sLaw) := ⟨rfl, rfl, rfl, by decide +kernel, rfl, by decide +kernel, by decide +kernel⟩
theorem ok_law {f fP fD fM fB fE fU : Addr} {fd dP dD dM dB dE dU : FuncData} (F : Fun K "law" "law" sLaw f fd) (T : NamesM mg) (mR : mg "repr" = none)
    (GP : FnOk P w K mg base CX0 1 fP dP ["script"] (spPen K)) (P1 : Def K mg "_law_pen" fP dP ["script"])
    (GD : FnOk P w K mg base CX0 2 fD dD ["pen", "many"] spDraw) (P2 : Def K mg "_law_draw" fD dD ["pen", "many"])
    (GM : FnOk P w K mg base CX0 4 fM dM ["pen", "most", "answers"] spMach) (P3 : Def K mg "_law_machine" fM dM ["pen", "most", "answers"])
    (GB : FnOk P w K mg base CX0 17 fB dB ["pen", "thing"] (spBent 13)) (P4 : Def K mg "_law_bent" fB dB ["pen", "thing"])
    (GE : FnOk P w K mg base CX0 4 fE dE ["value"] (spME K)) (P5 : Def K mg "machine_error" fE dE ["value"])
    (GU : FnOk P w K mg base CX0 3 fU dU ["thing"] (spDu K)) (P6 : Def K mg "_law_due" fU dU ["thing"]) :
    FnG P w K mg base 18 f fd ["script"] (spLaw K) := by
  refine fnG_of F scLaw (fun vs H Q E h => ?_) (fun cdv A outer s H vs Q E hg hr h => ?_)
  · obtain ⟨a, ns, rfl, _⟩ := h
    rfl
  · obtain ⟨a, ns, rfl, hS, hlen, q⟩ := h
    have hu : A.units + 3 + 64 < cLine := hr.units
    have cr := call_reprA (X := (cxOf CX0 P w K mg base ["script", "pen", "turn", "machine", "often", "shown", "long"] "law" (defScope sLaw) f cdv A outer s H E).nox) hg hr
    have line : sizeLine = 16777216 := by decide
    refine ⟨_, (pss_cons (ps_set (i := 1) scLaw.nd rfl (.inl rfl) (pe_call GP (hr.mono (by first | decide | omega)) (by rfl) P1.is P1.kp P1.bi .nil pass0 (pa_cons (pv 0) pa_nil)))
      (pss_cons (ps_for PassesOwn.never rfl (pi_range1 rfl T.range (pa_cons (pe_callB (call_max2 rfl) (by rfl) T.max (by decide +kernel) (pa_cons pe_int (pa_cons (pe_callB (call_min2 rfl) (by rfl) T.min (by decide +kernel) (pa_cons pe_int (pa_cons (pe_callB call_len_seq (by rfl) T.len PySem.boot_len (pa_cons (pv 0) pa_nil)) pa_nil))) pa_nil))) pa_nil)) (pg_name (i := 2) scLaw.nd rfl (.inl rfl)) (pss_cons (ps_set (i := 3) scLaw.nd rfl (.inl rfl) (pe_call GM (hr.mono (by first | decide | omega)) (by rfl) P3.is P3.kp P3.bi .nil pass0 (pa_cons (pv 1) (pa_cons pe_int (pa_cons (pe_lst (pa_cons pe_int (pa_cons pe_int (pa_cons pe_int (pa_cons pe_int (pa_cons pe_int (pa_cons pe_int pa_nil))))))) pa_nil)))))
      (pss_cons (ps_if (pt_cmpR op_notN (pe_call GE (hr.mono (by first | decide | omega)) (by rfl) P5.is P5.kp P5.bi .nil pass0 (pa_cons (pv 3) pa_nil)) pe_non (nomark _)) (pss_one (ps_ret pe_bl)) pss_nil)
      (pss_cons (ps_for PassesOwn.never rfl (pi_range1 rfl T.range (pa_cons pe_int pa_nil)) (pg_name (i := 4) scLaw.nd rfl (.inl rfl)) (pss_cons (ps_set (i := 3) scLaw.nd rfl (.inl rfl) (pe_call GB (hr.mono (by first | decide | omega)) (by rfl) P4.is P4.kp P4.bi .nil pass0 (pa_cons (pv 1) (pa_cons (pv 3) pa_nil))))
      (pss_cons (ps_set (i := 5) scLaw.nd rfl (.inl rfl) (pe_callB cr (by rfl) mR (by decide +kernel) (pa_cons (pv 3) pa_nil)))
      (pss_one (ps_if (PW.pt (pw_or (pt_cmpR op_ne (pe_callB cr (by rfl) mR (by decide +kernel) (pa_cons (pe_call GE (hr.mono (by first | decide | omega)) (by rfl) P5.is P5.kp P5.bi .nil pass0 (pa_cons (pv 3) pa_nil)) pa_nil)) (pe_callB cr (by rfl) mR (by decide +kernel) (pa_cons (pe_call GU (hr.mono (by first | decide | omega)) (by rfl) P6.is P6.kp P6.bi .nil pass0 (pa_cons (pv 3) pa_nil)) pa_nil)) (nomark _)) (pw_or1 (pt_cmpR op_ne (pe_callB cr (by rfl) mR (by decide +kernel) (pa_cons (pv 3) pa_nil)) (pv 5) (nomark _))))) (pss_one (ps_ret pe_bl)) pss_nil)))))
      (pss_cons (ps_set (i := 6) scLaw.nd rfl (.inl rfl) (pe_op op_catU (pe_op TR.op_repA (pe_tup (pa_cons (pe_tup (pa_cons pe_str (pa_cons pe_int (pa_cons pe_int pa_nil)))) pa_nil)) pe_int) (pe_tup (pa_cons (pe_tup (pa_cons pe_str (pa_cons (pe_call GD (hr.mono (by first | decide | omega)) (by rfl) P2.is P2.kp P2.bi .nil pass0 (pa_cons (pv 1) (pa_cons pe_int pa_nil))) pa_nil))) pa_nil))))
      (pss_cons (ps_if (PW.pt (pw_or (pt_cmpR op_notN (pe_call GE (hr.mono (by first | decide | omega)) (by rfl) P5.is P5.kp P5.bi .nil pass0 (pa_cons (pv 6) pa_nil)) pe_non (nomark _)) (pw_or1 (pt_cmpR (op_neD hu) (pe_call GE (hr.mono (by first | decide | omega)) (by rfl) P5.is P5.kp P5.bi .nil pass0 (pa_cons (pe_op op_catU (pv 6) (pe_slice sl_cutU (pv 6) (po_some (pe_un un_neg pe_int)) po_none)) pa_nil)) (pe_tup (pa_cons (pe_un un_neg pe_int) (pa_cons pe_str pa_nil))) (nomark _))))) (pss_one (ps_ret pe_bl)) pss_nil)
      (pss_cons (ps_if (pt_cmpR (op_neD hu) (pe_call GE (hr.mono (by first | decide | omega)) (by rfl) P5.is P5.kp P5.bi .nil pass0 (pa_cons (pe_op op_catU (pe_slice sl_cutU (pv 6) po_none (po_some (pe_un un_neg pe_int))) (pe_tup (pa_cons (pe_tup (pa_cons pe_str (pa_cons (pe_op op_add pe_int (pe_call GD (hr.mono (by first | decide | omega)) (by rfl) P2.is P2.kp P2.bi .nil pass0 (pa_cons (pv 1) (pa_cons pe_int pa_nil)))) pa_nil))) pa_nil))) pa_nil)) (pe_tup (pa_cons pe_int (pa_cons pe_str pa_nil))) (nomark _)) (pss_one (ps_ret pe_bl)) pss_nil)
      (pss_one (ps_if (pt_cmpR (op_neD hu) (pe_call GE (hr.mono (by first | decide | omega)) (by rfl) P5.is P5.kp P5.bi .nil pass0 (pa_cons (pe_op op_catU (pe_tup (pa_cons (pe_tup (pa_cons pe_str (pa_cons pe_int (pa_cons pe_int pa_nil)))) pa_nil)) (pe_slice sl_cutU (pv 6) (po_some pe_int) (po_some (pe_un un_neg pe_int)))) pa_nil)) (pe_tup (pa_cons pe_int (pa_cons pe_str pa_nil))) (nomark _)) (pss_one (ps_ret pe_bl)) pss_nil)))))))))
      (pss_one (ps_ret (pe_cmpR (op_eqD hu) (pe_call GE (hr.mono (by first | decide | omega)) (by rfl) P5.is P5.kp P5.bi .nil pass0 (pa_cons (pe_op TR.op_repA (pe_tup (pa_cons (pe_tup (pa_cons pe_str (pa_cons pe_int pa_nil))) pa_nil)) pe_int) pa_nil)) (pe_tup (pa_cons (pe_un un_neg pe_int) (pa_cons pe_str pa_nil))) (nomark _)))))), ?_⟩
    -- pen
    refine ⟨.ref a, rfl, a, ns, rfl, hS, hlen, fun p l H1 s1 np nl p1 => ?_⟩
    have hS1 := s1.seq hS
    refine ⟨.ref a, rfl, a, _, rfl, .inl hS1, _, _, rfl, _, _, rfl, _, rfl, ?_, ?_, for_range (lo := 0) (fun i σ H' => ∃ v2 v3 v4 v5 v6 : Option V, σ = [some (V.ref a), some (V.ref p), v2, v3, v4, v5, v6] ∧ Pen H' p l) ⟨none, none, none, none, none, rfl, p1⟩ ?_ ?_⟩
    · show -(2 ^ 62) ≤ _
      repeat' split
      all_goals omega
    · show _ < (2 : Int) ^ 62
      repeat' split
      all_goals omega
    · rintro i₀ σ H' hi ⟨v2, v3, v4, v5, v6, rfl, pn⟩
      refine ⟨.ref p, rfl, by show 6 ≤ sizeLine; decide, fun e ne => ?_⟩
      have eE : upd H' e (.lst [.int 0, .int 1, .int 2, .int 7, .int 98, .int 99]) e = some (.lst (([0, 1, 2, 7, 98, 99] : List Int).map V.int)) := upd_same
      have pn2 := pn.same (Same.upd (o := .lst [.int 0, .int 1, .int 2, .int 7, .int 98, .int 99]) ne)
      generalize upd H' e (.lst [.int 0, .int 1, .int 2, .int 7, .int 98, .int 99]) = H2 at eE pn2 ⊢
      refine ⟨p, l, e, 8, [0, 1, 2, 7, 98, 99], rfl, pn2, by decide, by decide, eE, by decide, by decide, by decide, fun m ps H3 b3 nm hm hw p3 le11 _ => ?_⟩
      -- the machine as data
      obtain ⟨rs, em, pls⟩ := hm
      have ds3 : Ds (· = p) H3 (.ref m) (.tuple (ps.map plD)) := .tup em (p3.notTup em) (pls_ds (fun t xs h => p3.notTup h) pls)
      obtain ⟨sh3, sm3⟩ := pls_sh hw.le hw.ok
      refine ⟨_, rfl, .ref m, _, rfl, Ds.tp _ _ ds3, fun r H4 s4 t4 => ?_⟩
      rw [errM_good hw] at t4
      cases t4
      refine ⟨rfl, _, rfl, ?_⟩
      rw [decide_eq_true rfl]
      refine iteF ?_
      have p4 := p3.same s4
      have dv4 : Dv (· = p) H4 (.ref m) (10 ^ 40 + 0) (2 + 2 * 0) (Bk 0) := ⟨_, Ds.bn (BN.of s4) _ _ ds3, Sh.tup (sh3.mono (Nat.le_refl _) (show 8 * ps.length ≤ 130 by omega)), sm3⟩
      have occ : ∀ {H : Hp}, Pen H p l → ∀ b, b = p → H b ≠ none := fun h b hb e => by
        subst hb
        obtain ⟨_, _, _, h, _⟩ := h
        rw [h] at e
        cases e
      -- bent five times
      refine ⟨5, rfl, by decide, by decide, for_range (lo := 0) (n := 5) (fun i σ H' => ∃ (v v4 v5 : V) (w4 w5 : Option V), σ = [some (V.ref a), some (V.ref p), some (V.int (0 + (i₀ : Nat))), some v, w4, w5, v6] ∧ Pen H' p l ∧ Dv (· = p) H' v (10 ^ 40 + i) (2 + 2 * i) (Bk i)) ⟨.ref m, .non, .non, _, _, rfl, p4, dv4⟩ ?_ ?_⟩
      · rintro i σ H5 hi ⟨v, _, _, w4, w5, rfl, p5, d, dd, sd, md⟩
        have h200 : (10 : Nat) ^ 40 + 5 < 2 ^ 200 := by decide
        refine ⟨_, rfl, _, rfl, p, l, v, d, (· = p), 2 + 2 * i, Bk i, 10 ^ 40 + i, by have := sd.p; omega, rfl, rfl, occ p5, p5, dd, sd, md, Bk_le6 i (by omega), by generalize (10 : Nat) ^ 40 = C; omega, by generalize (10 : Nat) ^ 40 = C at *; generalize (2 : Nat) ^ 200 = D at *; omega, fun v' H6 b6 p6 dv6 => ?_⟩
        have dv6 : Dv (· = p) H6 v' (10 ^ 40 + (i + 1)) (2 + 2 * (i + 1)) (Bk (i + 1)) := dv6
        obtain ⟨d', dd', sd', md'⟩ := dv6
        have s8 : Sh d' 50 8000 := sd'.mono (by omega) (by have := Bk_le i hi; show 2 * Bk i + 30 ≤ 8000; omega)
        have tp : Tp K H6 v' d' := Ds.tp _ _ dd'
        refine ⟨_, rfl, v', d', rfl, tp, s8.t, ?_⟩
        refine ⟨_, rfl, v', d', rfl, tp, fun r1 H7 s7 t7 => ⟨r1, _, rfl, t7, ((errM_short d').mono (by decide) (by decide)).t, ?_⟩⟩
        have dd7 := Ds.bn (BN.of s7) _ _ dd'
        refine ⟨_, rfl, v', d', rfl, Ds.tp _ _ dd7, ?_, fun r2 H8 s8' t8 => ⟨r2, _, rfl, t8, ((errM_short d').mono (by decide) (by decide)).t, rfl, _, rfl, iteNS rfl ?_⟩⟩
        · intro lst el x hx k ek
          subst el
          have := item_count s8 x hx k ek
          omega
        have dd8 := Ds.bn (BN.of s8') _ _ dd7
        refine ⟨_, rfl, v', d', rfl, Ds.tp _ _ dd8, s8.t, _, rfl, rfl, _, rfl, iteNS rfl ?_⟩
        exact ⟨v', .non, .non, _, _, rfl, (p6.same s7).same s8', d', dd8, sd', md'⟩
      · rintro σ H5 ⟨v, _, _, w4, w5, rfl, p5, _⟩
        -- the chain
        refine ⟨by show 3 ≤ sizeLine; decide, fun t1 n1 => ?_⟩
        have g1 := Same.upd (o := .tup [V.str "toss", .int 59, .int 1]) n1
        have e1 : upd H5 t1 (.tup [V.str "toss", .int 59, .int 1]) t1 = some (.tup [V.str "toss", .int 59, .int 1]) := upd_same
        have p6 := p5.same g1
        change (_ : Hp → Prop) (upd H5 t1 (.tup [V.str "toss", .int 59, .int 1]))
        generalize upd H5 t1 (.tup [V.str "toss", .int 59, .int 1]) = H6 at g1 e1 p6 ⊢
        have d1 : Ds (· = p) H6 (.ref t1) (tossD 59 1) := .tup e1 (p6.notTup e1) (.cons (.str _) (.cons (.int _) (.cons (.int _) .nil)))
        refine ⟨by show 1 ≤ sizeLine; decide, fun t2 n2 => ?_⟩
        have g2 := Same.upd (o := .tup [V.ref t1]) n2
        have e2 : upd H6 t2 (.tup [V.ref t1]) t2 = some (.tup [V.ref t1]) := upd_same
        have p7 := p6.same g2
        have d2 := Ds.bn (BN.of g2) _ _ d1
        change (_ : Hp → Prop) (upd H6 t2 (.tup [V.ref t1]))
        generalize upd H6 t2 (.tup [V.ref t1]) = H7 at g2 e2 p7 d2 ⊢
        refine ⟨t2, 59, _, rfl, rfl, SqT.of e2, List.cons_ne_nil _ _, by decide, by decide, by show 1 ≤ 1000; decide, fun h => absurd h (by decide), fun _ t3 n3 => ?_⟩
        have g3 := Same.upd (o := .tup (List.replicate (59 : Int).toNat [V.ref t1]).flatten) n3
        have e3 : upd H7 t3 (.tup (List.replicate (59 : Int).toNat [V.ref t1]).flatten) t3 = some (.tup (List.replicate (59 : Int).toNat [V.ref t1]).flatten) := upd_same
        have p8 := p7.same g3
        have d3 := Ds.bn (BN.of g3) _ _ d2
        change (_ : Hp → Prop) (upd H7 t3 (.tup (List.replicate (59 : Int).toNat [V.ref t1]).flatten))
        generalize upd H7 t3 (.tup (List.replicate (59 : Int).toNat [V.ref t1]).flatten) = H8 at g3 e3 p8 d3 ⊢
        have tt3 : TT (· = p) H8 t3 (List.replicate (59 : Int).toNat [V.ref t1]).flatten (List.replicate 59 (tossD 59 1)) := ⟨e3, p8.notTup e3, rep_ds d3 59⟩
        refine ⟨_, rfl, p, l, 100, rfl, p8, by decide, by decide +kernel, fun n H9 n0 n100 b9 p9 => ?_⟩
        have tt9 := tt3.bn (BN.but rfl b9)
        refine ⟨by show 2 ≤ sizeLine; decide, fun t4 n4 => ?_⟩
        have g4 := Same.upd (o := .tup [V.str "end", .int n]) n4
        have e4 : upd H9 t4 (.tup [V.str "end", .int n]) t4 = some (.tup [V.str "end", .int n]) := upd_same
        have p10 := p9.same g4
        have tt10 := tt9.same g4
        change (_ : Hp → Prop) (upd H9 t4 (.tup [V.str "end", .int n]))
        generalize upd H9 t4 (.tup [V.str "end", .int n]) = HA at g4 e4 p10 tt10 ⊢
        have dE : Ds (· = p) HA (.ref t4) (endD n) := .tup e4 (p10.notTup e4) (.cons (.str _) (.cons (.int _) .nil))
        refine ⟨by show 1 ≤ sizeLine; decide, fun t5 n5 => ?_⟩
        have g5 := Same.upd (o := .tup [V.ref t4]) n5
        have e5 : upd HA t5 (.tup [V.ref t4]) t5 = some (.tup [V.ref t4]) := upd_same
        have p11 := p10.same g5
        have tt11 := tt10.same g5
        have dE2 := Ds.bn (BN.of g5) _ _ dE
        change (_ : Hp → Prop) (upd HA t5 (.tup [V.ref t4]))
        generalize upd HA t5 (.tup [V.ref t4]) = HB at g5 e5 p11 tt11 dE2 ⊢
        have ttE : TT (· = p) HB t5 [V.ref t4] [endD n] := ⟨e5, p11.notTup e5, .cons dE2 .nil⟩
        refine ⟨t3, t5, _, _, rfl, rfl, tt11.1, e5, by show 60 ≤ sizeLine; omega, fun c HC sC eC fC => ?_⟩
        have ttC := tt11.cat ttE sC eC fC (occ p11)
        have p12 := p11.same sC
        -- it has no error
        refine ⟨_, rfl, .ref c, _, rfl, Ds.tp _ _ (Ds.tup ttC.1 ttC.2.1 ttC.2.2), fun r1 HD sD t1 => ?_⟩
        rw [chain_ok n0 n100] at t1
        cases t1
        refine ⟨rfl, _, rfl, ?_⟩
        rw [decide_eq_true rfl]
        refine iteF ?_
        have ttD := ttC.same sD
        have p13 := p12.same sD
        -- one place too many
        refine ⟨_, rfl, ?_⟩
        dsimp only [tNoPart, tPart]
        refine ⟨_, rfl, 1, rfl, -1, rfl, c, _, rfl, ttD.1, fun r1 HE sE eE fE => ?_⟩
        have ttX := ttD.cut sE eE fE (occ p13)
        rw [cut_last] at ttX
        have p14 := p13.same sE
        refine ⟨c, r1, _, _, rfl, rfl, (ttD.same sE).1, ttX.1, ?_, fun c2 HF sF eF fF => ?_⟩
        · have := ttX.2.2.len
          show 60 + _ ≤ sizeLine
          rw [this]
          show 61 ≤ sizeLine
          omega
        have tt2 := (ttD.same sE).cat ttX sF eF fF (occ p14)
        have p15 := p14.same sF
        refine ⟨.ref c2, _, rfl, Ds.tp _ _ (Ds.tup tt2.1 tt2.2.1 tt2.2.2), fun r2 HG sG t2 => ?_⟩
        rw [errM_long (by rw [List.length_append, List.length_append, List.length_replicate]; show 60 < 59 + 1 + 1; decide)] at t2
        refine ⟨1, rfl, by show 2 ≤ sizeLine; decide, fun z nz => ?_⟩
        have gz := Same.upd (o := .tup [V.int (-1), V.str "form"]) nz
        have tz : Tp K (upd HG z (.tup [V.int (-1), V.str "form"])) (.ref z) (.tuple [.int (-1), .str "form"]) := .tup (SqT.of upd_same) (.cons (.int _) (.cons (.str _) .nil))
        have tr := Tp.same gz _ _ t2
        have ttG := (((ttD.same sE).same sF).same sG).same gz
        have p16 := (p15.same sG).same gz
        generalize upd HG z (.tup [V.int (-1), V.str "form"]) = HI at tz tr ttG p16 ⊢
        refine ⟨_, _, pair_dp tr, pair_dp tz, by decide +kernel, by decide +kernel, _, rfl, ?_⟩
        rw [pair_eqv]
        refine iteF ?_
        clear sC sD sE sF sG g1 g2 g3 g4 g5
        -- an answer too great
        refine ⟨_, rfl, ?_⟩
        dsimp only [tNoPart, tPart]
        refine ⟨1, rfl, -1, rfl, c, _, rfl, ttG.1, fun r3 HJ sJ eJ fJ => ?_⟩
        have ttY := ttG.cut sJ eJ fJ (occ p16)
        rw [cut_but] at ttY
        have p17 := p16.same sJ
        have ttJ := ttG.same sJ
        refine ⟨_, rfl, p, l, 3, rfl, p17, by decide, by decide +kernel, fun k HL k0 k3 bL pL => ?_⟩
        have ttYL := ttY.bn (BN.but rfl bL)
        have ttL := ttJ.bn (BN.but rfl bL)
        refine ⟨_, _, rfl, rfl, by show 2 ≤ sizeLine; decide, fun t6 n6 => ?_⟩
        have g6 := Same.upd (o := .tup [V.str "end", .int (100 + k)]) n6
        have e6 : upd HL t6 (.tup [V.str "end", .int (100 + k)]) t6 = some (.tup [V.str "end", .int (100 + k)]) := upd_same
        have p18 := pL.same g6
        have tt6 := ttL.same g6
        have ttY6 := ttYL.same g6
        change (_ : Hp → Prop) (upd HL t6 (.tup [V.str "end", .int (100 + k)]))
        generalize upd HL t6 (.tup [V.str "end", .int (100 + k)]) = HM at g6 e6 p18 tt6 ttY6 ⊢
        have dE6 : Ds (· = p) HM (.ref t6) (endD (100 + k)) := .tup e6 (p18.notTup e6) (.cons (.str _) (.cons (.int _) .nil))
        refine ⟨by show 1 ≤ sizeLine; decide, fun t7 n7 => ?_⟩
        have g7 := Same.upd (o := .tup [V.ref t6]) n7
        have e7 : upd HM t7 (.tup [V.ref t6]) t7 = some (.tup [V.ref t6]) := upd_same
        have p19 := p18.same g7
        have tt7 := tt6.same g7
        have ttY7 := ttY6.same g7
        have dE7 := Ds.bn (BN.of g7) _ _ dE6
        change (_ : Hp → Prop) (upd HM t7 (.tup [V.ref t6]))
        generalize upd HM t7 (.tup [V.ref t6]) = HN at g7 e7 p19 tt7 ttY7 dE7 ⊢
        have ttE7 : TT (· = p) HN t7 [V.ref t6] [endD (100 + k)] := ⟨e7, p19.notTup e7, .cons dE7 .nil⟩
        refine ⟨r3, t7, _, _, rfl, rfl, ttY7.1, e7, ?_, fun c3 HO' sO eO fO => ?_⟩
        · have := ttY7.2.2.len
          show _ + 1 ≤ sizeLine
          rw [this]
          show 60 ≤ sizeLine
          omega
        have tt3' := ttY7.cat ttE7 sO eO fO (occ p19)
        have p20 := p19.same sO
        refine ⟨.ref c3, _, rfl, Ds.tp _ _ (Ds.tup tt3'.1 tt3'.2.1 tt3'.2.2), fun r4 HP sP t4 => ?_⟩
        rw [chain_answer (by omega)] at t4
        refine ⟨by show 2 ≤ sizeLine; decide, fun z nz => ?_⟩
        have gz := Same.upd (o := .tup [V.int (59), V.str "answer"]) nz
        have tz : Tp K (upd HP z (.tup [V.int (59), V.str "answer"])) (.ref z) (.tuple [.int (59), .str "answer"]) := .tup (SqT.of upd_same) (.cons (.int _) (.cons (.str _) .nil))
        have tr := Tp.same gz _ _ t4
        have tt8 := ((tt7.same sO).same sP).same gz
        have p21 := (p20.same sP).same gz
        generalize upd HP z (.tup [V.int 59, V.str "answer"]) = HQ at tz tr tt8 p21 ⊢
        refine ⟨_, _, pair_dp tr, pair_dp tz, by decide +kernel, by decide +kernel, _, rfl, ?_⟩
        rw [pair_eqv]
        refine iteF ?_
        clear sJ sO sP g6 g7
        -- a place too great
        refine ⟨by show 3 ≤ sizeLine; decide, fun t8 n8 => ?_⟩
        have g8 := Same.upd (o := .tup [V.str "toss", .int 1, .int 0]) n8
        have e8 : upd HQ t8 (.tup [V.str "toss", .int 1, .int 0]) t8 = some (.tup [V.str "toss", .int 1, .int 0]) := upd_same
        have p22 := p21.same g8
        have tt9 := tt8.same g8
        change (_ : Hp → Prop) (upd HQ t8 (.tup [V.str "toss", .int 1, .int 0]))
        generalize upd HQ t8 (.tup [V.str "toss", .int 1, .int 0]) = HR at g8 e8 p22 tt9 ⊢
        have dT8 : Ds (· = p) HR (.ref t8) (tossD 1 0) := .tup e8 (p22.notTup e8) (.cons (.str _) (.cons (.int _) (.cons (.int _) .nil)))
        refine ⟨by show 1 ≤ sizeLine; decide, fun t9 n9 => ?_⟩
        have g9 := Same.upd (o := .tup [V.ref t8]) n9
        have e9 : upd HR t9 (.tup [V.ref t8]) t9 = some (.tup [V.ref t8]) := upd_same
        have p23 := p22.same g9
        have tt10' := tt9.same g9
        have dT9 := Ds.bn (BN.of g9) _ _ dT8
        change (_ : Hp → Prop) (upd HR t9 (.tup [V.ref t8]))
        generalize upd HR t9 (.tup [V.ref t8]) = HS at g9 e9 p23 tt10' dT9 ⊢
        have ttT : TT (· = p) HS t9 [V.ref t8] [tossD 1 0] := ⟨e9, p23.notTup e9, .cons dT9 .nil⟩
        refine ⟨_, rfl, ?_⟩
        dsimp only [tPart]
        refine ⟨_, rfl, 1, rfl, -1, rfl, c, _, rfl, tt10'.1, fun r5 HT' sT eT fT => ?_⟩
        have ttZ := tt10'.cut sT eT fT (occ p23)
        rw [cut_mid] at ttZ
        have p24 := p23.same sT
        refine ⟨t9, r5, _, _, rfl, rfl, (ttT.same sT).1, ttZ.1, ?_, fun c4 HU sU eU fU => ?_⟩
        · have := ttZ.2.2.len
          show 1 + _ ≤ sizeLine
          rw [this]
          show 59 ≤ sizeLine
          omega
        have tt4 := (ttT.same sT).cat ttZ sU eU fU (occ p24)
        refine ⟨.ref c4, _, rfl, Ds.tp _ _ (Ds.tup tt4.1 tt4.2.1 tt4.2.2), fun r6 HW sW t6' => ?_⟩
        rw [chain_place] at t6'
        refine ⟨by show 2 ≤ sizeLine; decide, fun z nz => ?_⟩
        have gz := Same.upd (o := .tup [V.int (1), V.str "place"]) nz
        have tz : Tp K (upd HW z (.tup [V.int (1), V.str "place"])) (.ref z) (.tuple [.int (1), .str "place"]) := .tup (SqT.of upd_same) (.cons (.int _) (.cons (.str _) .nil))
        have tr := Tp.same gz _ _ t6'
        have p25 := (((p24.same sU).same sW).same gz)
        generalize upd HW z (.tup [V.int 1, V.str "place"]) = HX at tz tr p25 ⊢
        refine ⟨_, _, pair_dp tr, pair_dp tz, by decide +kernel, by decide +kernel, _, rfl, ?_⟩
        rw [pair_eqv]
        exact iteF ⟨_, _, _, _, _, rfl, p25⟩
    · rintro σ H5 ⟨v2, v3, v4, v5, v6, rfl, pn⟩
      refine ⟨by show 2 ≤ sizeLine; decide, fun t1 n1 => ?_⟩
      have g1 := Same.upd (o := .tup [V.str "end", .int 100]) n1
      have e1 : upd H5 t1 (.tup [V.str "end", .int 100]) t1 = some (.tup [V.str "end", .int 100]) := upd_same
      have p6 := pn.same g1
      change (_ : Hp → Prop) (upd H5 t1 (.tup [V.str "end", .int 100]))
      generalize upd H5 t1 (.tup [V.str "end", .int 100]) = H6 at g1 e1 p6 ⊢
      have d1 : Ds (· = p) H6 (.ref t1) (endD 100) := .tup e1 (p6.notTup e1) (.cons (.str _) (.cons (.int _) .nil))
      refine ⟨by show 1 ≤ sizeLine; decide, fun t2 n2 => ?_⟩
      have g2 := Same.upd (o := .tup [V.ref t1]) n2
      have e2 : upd H6 t2 (.tup [V.ref t1]) t2 = some (.tup [V.ref t1]) := upd_same
      have p7 := p6.same g2
      have d2 := Ds.bn (BN.of g2) _ _ d1
      change (_ : Hp → Prop) (upd H6 t2 (.tup [V.ref t1]))
      generalize upd H6 t2 (.tup [V.ref t1]) = H7 at g2 e2 p7 d2 ⊢
      refine ⟨t2, 61, _, rfl, rfl, SqT.of e2, List.cons_ne_nil _ _, by decide, by decide, by show 1 ≤ 1000; decide, fun h => absurd h (by decide), fun _ t3 n3 => ?_⟩
      have g3 := Same.upd (o := .tup (List.replicate (61 : Int).toNat [V.ref t1]).flatten) n3
      have e3 : upd H7 t3 (.tup (List.replicate (61 : Int).toNat [V.ref t1]).flatten) t3 = some (.tup (List.replicate (61 : Int).toNat [V.ref t1]).flatten) := upd_same
      have p8 := p7.same g3
      have d3 := Ds.bn (BN.of g3) _ _ d2
      generalize upd H7 t3 (.tup (List.replicate (61 : Int).toNat [V.ref t1]).flatten) = H8 at g3 e3 p8 d3 ⊢
      refine ⟨.ref t3, .tuple (List.replicate 61 (endD 100)), rfl, Ds.tp _ _ (Ds.tup e3 (p8.notTup e3) (rep_ds d3 61)), fun r H9 s9 t9 => ?_⟩
      rw [errM_long (by rw [List.length_replicate]; decide)] at t9
      refine ⟨1, rfl, by show 2 ≤ sizeLine; decide, fun z nz => ?_⟩
      have gz := Same.upd (o := .tup [V.int (-1), V.str "form"]) nz
      refine ⟨_, _, pair_dp (Tp.same gz _ _ t9), pair_dp (.tup (SqT.of upd_same) (.cons (.int _) (.cons (.str _) .nil))), by decide +kernel, by decide +kernel, ?_⟩
      rw [pair_eqv]
      exact q _
end
theorem all_mk {w : World} {K : PySem.W.Frag} {h : Heap} {mg : Str → Option Value} {fa f0 f1 f2 f3 f4 f5 f6 f7 f8 f9 f10 f11 f12 f13 f14 f15 f16 f17 : Addr} (X : K.In h) (G : h.Ns mainGlobals mg) (hfa : mg "law" = some (.ref fa))
    {od0 an0 od1 an1 od2 an2 od3 an3 od4 an4 od5 an5 od6 an6 od7 an7 od8 an8 od9 an9 od10 an10 od11 an11 od12 an12 od13 an13 od14 an14 od15 an15 od16 an16 od17 an17 : Option Addr} {sl0 sl1 sl2 sl3 sl4 sl5 sl6 sl7 sl8 sl9 sl10 sl11 sl12 sl13 sl14 sl15 sl16 sl17 : Array (Option Value)} {oc0 kV0 dc0 pm0 cd0 ct0 oc1 kV1 dc1 pm1 cd1 ct1 oc2 kV2 dc2 pm2 cd2 ct2 oc3 kV3 dc3 pm3 cd3 ct3 oc4 kV4 dc4 pm4 cd4 ct4 oc5 kV5 dc5 pm5 cd5 ct5 oc6 kV6 dc6 pm6 cd6 ct6 oc7 kV7 dc7 pm7 cd7 ct7 oc8 kV8 dc8 pm8 cd8 ct8 oc9 kV9 dc9 pm9 cd9 ct9 oc10 kV10 dc10 pm10 cd10 ct10 oc11 kV11 dc11 pm11 cd11 ct11 oc12 kV12 dc12 pm12 cd12 ct12 oc13 kV13 dc13 pm13 cd13 ct13 oc14 kV14 dc14 pm14 cd14 ct14 oc15 kV15 dc15 pm15 cd15 ct15 oc16 kV16 dc16 pm16 cd16 ct16 oc17 kV17 dc17 pm17 cd17 ct17 : Value}
    {tA tS : Tok}
    (a0 : PySem.W.nsIn K mainGlobals "_law_pen" = some (some (.ref f0))) (l0 : K.lookup f0 = some ⟨oc0, od0, .func (PySem.W.fnOf "_law_pen" "_law_pen" (defArgs sPen) (defBody sPen) (defScope sPen) .none kV0 dc0 pm0 an0 cd0 ct0), sl0⟩) (c0 : PySem.W.codeIn K cd0 "_law_pen" = true) (k0 : PySem.W.keepIn K (.ref f0) = true)
    (a1 : PySem.W.nsIn K mainGlobals "_law_fresh" = some (some (.ref f1))) (l1 : K.lookup f1 = some ⟨oc1, od1, .func (PySem.W.fnOf "_law_fresh" "_law_fresh" (defArgs sFresh) (defBody sFresh) (defScope sFresh) .none kV1 dc1 pm1 an1 cd1 ct1), sl1⟩) (c1 : PySem.W.codeIn K cd1 "_law_fresh" = true) (k1 : PySem.W.keepIn K (.ref f1) = true)
    (a2 : PySem.W.nsIn K mainGlobals "_law_draw" = some (some (.ref f2))) (l2 : K.lookup f2 = some ⟨oc2, od2, .func (PySem.W.fnOf "_law_draw" "_law_draw" (defArgs sDraw) (defBody sDraw) (defScope sDraw) .none kV2 dc2 pm2 an2 cd2 ct2), sl2⟩) (c2 : PySem.W.codeIn K cd2 "_law_draw" = true) (k2 : PySem.W.keepIn K (.ref f2) = true)
    (a3 : PySem.W.nsIn K mainGlobals "_law_ends" = some (some (.ref f3))) (l3 : K.lookup f3 = some ⟨oc3, od3, .func (PySem.W.fnOf "_law_ends" "_law_ends" (defArgs sEnds) (defBody sEnds) (defScope sEnds) .none kV3 dc3 pm3 an3 cd3 ct3), sl3⟩) (c3 : PySem.W.codeIn K cd3 "_law_ends" = true) (k3 : PySem.W.keepIn K (.ref f3) = true)
    (a4 : PySem.W.nsIn K mainGlobals "_law_machine" = some (some (.ref f4))) (l4 : K.lookup f4 = some ⟨oc4, od4, .func (PySem.W.fnOf "_law_machine" "_law_machine" (defArgs sMach) (defBody sMach) (defScope sMach) .none kV4 dc4 pm4 an4 cd4 ct4), sl4⟩) (c4 : PySem.W.codeIn K cd4 "_law_machine" = true) (k4 : PySem.W.keepIn K (.ref f4) = true)
    (a5 : PySem.W.nsIn K mainGlobals "_law_numbered" = some (some (.ref f5))) (l5 : K.lookup f5 = some ⟨oc5, od5, .func (PySem.W.fnOf "_law_numbered" "_law_numbered" (defArgs sNumb) (defBody sNumb) (defScope sNumb) .none kV5 dc5 pm5 an5 cd5 ct5), sl5⟩) (c5 : PySem.W.codeIn K cd5 "_law_numbered" = true) (k5 : PySem.W.keepIn K (.ref f5) = true)
    (a6 : PySem.W.nsIn K mainGlobals "is_integer" = some (some (.ref f6))) (l6 : K.lookup f6 = some ⟨oc6, od6, .func (PySem.W.fnOf "is_integer" "is_integer" (defArgs sII) (defBody sII) (defScope sII) .none kV6 dc6 pm6 an6 cd6 ct6), sl6⟩) (c6 : PySem.W.codeIn K cd6 "is_integer" = true) (k6 : PySem.W.keepIn K (.ref f6) = true)
    (a7 : PySem.W.nsIn K mainGlobals "is_index" = some (some (.ref f7))) (l7 : K.lookup f7 = some ⟨oc7, od7, .func (PySem.W.fnOf "is_index" "is_index" (defArgs sIX) (defBody sIX) (defScope sIX) .none kV7 dc7 pm7 an7 cd7 ct7), sl7⟩) (c7 : PySem.W.codeIn K cd7 "is_index" = true) (k7 : PySem.W.keepIn K (.ref f7) = true)
    (a8 : PySem.W.nsIn K mainGlobals "is_tuple" = some (some (.ref f8))) (l8 : K.lookup f8 = some ⟨oc8, od8, .func (PySem.W.fnOf "is_tuple" "is_tuple" (defArgs sIT) (defBody sIT) (defScope sIT) .none kV8 dc8 pm8 an8 cd8 ct8), sl8⟩) (c8 : PySem.W.codeIn K cd8 "is_tuple" = true) (k8 : PySem.W.keepIn K (.ref f8) = true)
    (a9 : PySem.W.nsIn K mainGlobals "begins_with" = some (some (.ref f9))) (l9 : K.lookup f9 = some ⟨oc9, od9, .func (PySem.W.fnOf "begins_with" "begins_with" (defArgs sBW) (defBody sBW) (defScope sBW) .none kV9 dc9 pm9 an9 cd9 ct9), sl9⟩) (c9 : PySem.W.codeIn K cd9 "begins_with" = true) (k9 : PySem.W.keepIn K (.ref f9) = true)
    (a10 : PySem.W.nsIn K mainGlobals "state_error" = some (some (.ref f10))) (l10 : K.lookup f10 = some ⟨oc10, od10, .func (PySem.W.fnOf "state_error" "state_error" (defArgs sSE) (defBody sSE) (defScope sSE) .none kV10 dc10 pm10 an10 cd10 ct10), sl10⟩) (c10 : PySem.W.codeIn K cd10 "state_error" = true) (k10 : PySem.W.keepIn K (.ref f10) = true)
    (a11 : PySem.W.nsIn K mainGlobals "machine_error" = some (some (.ref f11))) (l11 : K.lookup f11 = some ⟨oc11, od11, .func (PySem.W.fnOf "machine_error" "machine_error" (defArgs sME) (defBody sME) (defScope sME) .none kV11 dc11 pm11 an11 cd11 ct11), sl11⟩) (c11 : PySem.W.codeIn K cd11 "machine_error" = true) (k11 : PySem.W.keepIn K (.ref f11) = true)
    (a12 : PySem.W.nsIn K mainGlobals "_law_is_whole" = some (some (.ref f12))) (l12 : K.lookup f12 = some ⟨oc12, od12, .func (PySem.W.fnOf "_law_is_whole" "_law_is_whole" (defArgs sWh) (defBody sWh) (defScope sWh) .none kV12 dc12 pm12 an12 cd12 ct12), sl12⟩) (c12 : PySem.W.codeIn K cd12 "_law_is_whole" = true) (k12 : PySem.W.keepIn K (.ref f12) = true)
    (a13 : PySem.W.nsIn K mainGlobals "_law_word" = some (some (.ref f13))) (l13 : K.lookup f13 = some ⟨oc13, od13, .func (PySem.W.fnOf "_law_word" "_law_word" (defArgs sWd) (defBody sWd) (defScope sWd) .none kV13 dc13 pm13 an13 cd13 ct13), sl13⟩) (c13 : PySem.W.codeIn K cd13 "_law_word" = true) (k13 : PySem.W.keepIn K (.ref f13) = true)
    (a14 : PySem.W.nsIn K mainGlobals "_law_due" = some (some (.ref f14))) (l14 : K.lookup f14 = some ⟨oc14, od14, .func (PySem.W.fnOf "_law_due" "_law_due" (defArgs sDu) (defBody sDu) (defScope sDu) .none kV14 dc14 pm14 an14 cd14 ct14), sl14⟩) (c14 : PySem.W.codeIn K cd14 "_law_due" = true) (k14 : PySem.W.keepIn K (.ref f14) = true)
    (a15 : PySem.W.nsIn K mainGlobals "_law_odd" = some (some (.ref f15))) (l15 : K.lookup f15 = some ⟨oc15, od15, .func (PySem.W.fnOf "_law_odd" "_law_odd" (defArgs sOdd) (defBody sOdd) (defScope sOdd) .none kV15 dc15 pm15 an15 cd15 ct15), sl15⟩) (c15 : PySem.W.codeIn K cd15 "_law_odd" = true) (k15 : PySem.W.keepIn K (.ref f15) = true)
    (a16 : PySem.W.nsIn K mainGlobals "_law_bent" = some (some (.ref f16))) (l16 : K.lookup f16 = some ⟨oc16, od16, .func (PySem.W.fnOf "_law_bent" "_law_bent" (defArgs sBent) (defBody sBent) (defScope sBent) .none kV16 dc16 pm16 an16 cd16 ct16), sl16⟩) (c16 : PySem.W.codeIn K cd16 "_law_bent" = true) (k16 : PySem.W.keepIn K (.ref f16) = true)
    (a17 : PySem.W.nsIn K mainGlobals "law" = some (some (.ref f17))) (l17 : K.lookup f17 = some ⟨oc17, od17, .func (PySem.W.fnOf "law" "law" (defArgs sLaw) (defBody sLaw) (defScope sLaw) .none kV17 dc17 pm17 an17 cd17 ct17), sl17⟩) (c17 : PySem.W.codeIn K cd17 "law" = true) (k17 : PySem.W.keepIn K (.ref f17) = true)
    (z_list : PySem.W.nsIn K mainGlobals "list" = some none)
    (z_tuple : PySem.W.nsIn K mainGlobals "tuple" = some none)
    (z_len : PySem.W.nsIn K mainGlobals "len" = some none)
    (z_range : PySem.W.nsIn K mainGlobals "range" = some none)
    (z_isinstance : PySem.W.nsIn K mainGlobals "isinstance" = some none)
    (z_int : PySem.W.nsIn K mainGlobals "int" = some none)
    (z_bool : PySem.W.nsIn K mainGlobals "bool" = some none)
    (z_str : PySem.W.nsIn K mainGlobals "str" = some none)
    (z_min : PySem.W.nsIn K mainGlobals "min" = some none)
    (z_max : PySem.W.nsIn K mainGlobals "max" = some none)
    (z_enumerate : PySem.W.nsIn K mainGlobals "enumerate" = some none)
    (z_repr : PySem.W.nsIn K mainGlobals "repr" = some none)
    (x_MAX_ANSWER : PySem.W.nsIn K mainGlobals "MAX_ANSWER" = some (some (.int 99 tA)))
    (x_MAX_STATES : PySem.W.nsIn K mainGlobals "MAX_STATES" = some (some (.int 60 tS)))
    : ∃ fd : FuncData, (∀ (s : Shared) (v : Value), BindsTo s fd ⟨[v], []⟩ [("script", v)]) ∧ ∀ base : Heap, K.In base → base.Ns mainGlobals mg → FnG (PySem.Challenge.rw_bentcoin_k22_why_it_is_no_machine).prog w K mg base 18 fa fd ["script"] (spLaw K) := by
  have e := hfa.symm.trans (PySem.W.mg_of X G a17)
  cases e
  have F0 := fun_mk (st := sPen) l0 c0 k0
  have b0 := F0.binds (ps := ["script"]) fun _ _ _ _ _ _ us hl => match us, hl with | [_], _ => rfl
  have F1 := fun_mk (st := sFresh) l1 c1 k1
  have b1 := F1.binds (ps := ["pen"]) fun _ _ _ _ _ _ us hl => match us, hl with | [_], _ => rfl
  have F2 := fun_mk (st := sDraw) l2 c2 k2
  have b2 := F2.binds (ps := ["pen", "many"]) fun _ _ _ _ _ _ us hl => match us, hl with | [_, _], _ => rfl
  have F3 := fun_mk (st := sEnds) l3 c3 k3
  have b3 := F3.binds (ps := ["pen", "answers"]) fun _ _ _ _ _ _ us hl => match us, hl with | [_, _], _ => rfl
  have F4 := fun_mk (st := sMach) l4 c4 k4
  have b4 := F4.binds (ps := ["pen", "most", "answers"]) fun _ _ _ _ _ _ us hl => match us, hl with | [_, _, _], _ => rfl
  have F5 := fun_mk (st := sNumb) l5 c5 k5
  have b5 := F5.binds (ps := ["machine", "order"]) fun _ _ _ _ _ _ us hl => match us, hl with | [_, _], _ => rfl
  have F6 := fun_mk (st := sII) l6 c6 k6
  have b6 := F6.binds (ps := ["value"]) fun _ _ _ _ _ _ us hl => match us, hl with | [_], _ => rfl
  have F7 := fun_mk (st := sIX) l7 c7 k7
  have b7 := F7.binds (ps := ["value", "size"]) fun _ _ _ _ _ _ us hl => match us, hl with | [_, _], _ => rfl
  have F8 := fun_mk (st := sIT) l8 c8 k8
  have b8 := F8.binds (ps := ["value", "size"]) fun _ _ _ _ _ _ us hl => match us, hl with | [_, _], _ => rfl
  have F9 := fun_mk (st := sBW) l9 c9 k9
  have b9 := F9.binds (ps := ["value", "word", "size"]) fun _ _ _ _ _ _ us hl => match us, hl with | [_, _, _], _ => rfl
  have F10 := fun_mk (st := sSE) l10 c10 k10
  have b10 := F10.binds (ps := ["state", "size"]) fun _ _ _ _ _ _ us hl => match us, hl with | [_, _], _ => rfl
  have F11 := fun_mk (st := sME) l11 c11 k11
  have b11 := F11.binds (ps := ["value"]) fun _ _ _ _ _ _ us hl => match us, hl with | [_], _ => rfl
  have F12 := fun_mk (st := sWh) l12 c12 k12
  have b12 := F12.binds (ps := ["thing"]) fun _ _ _ _ _ _ us hl => match us, hl with | [_], _ => rfl
  have F13 := fun_mk (st := sWd) l13 c13 k13
  have b13 := F13.binds (ps := ["place", "many"]) fun _ _ _ _ _ _ us hl => match us, hl with | [_, _], _ => rfl
  have F14 := fun_mk (st := sDu) l14 c14 k14
  have b14 := F14.binds (ps := ["thing"]) fun _ _ _ _ _ _ us hl => match us, hl with | [_], _ => rfl
  have F15 := fun_mk (st := sOdd) l15 c15 k15
  have b15 := F15.binds (ps := ["pen", "thing"]) fun _ _ _ _ _ _ us hl => match us, hl with | [_, _], _ => rfl
  have F16 := fun_mk (st := sBent) l16 c16 k16
  have b16 := F16.binds (ps := ["pen", "thing"]) fun _ _ _ _ _ _ us hl => match us, hl with | [_, _], _ => rfl
  have F17 := fun_mk (st := sLaw) l17 c17 k17
  refine ⟨PySem.W.fnOf "law" "law" (defArgs sLaw) (defBody sLaw) (defScope sLaw) .none kV17 dc17 pm17 an17 cd17 ct17, fun s v => .of_eq rfl, fun base _ _ => ?_⟩
  have N : Names mg := ⟨PySem.W.mg_none_of X G z_list, PySem.W.mg_none_of X G z_tuple, PySem.W.mg_none_of X G z_len, PySem.W.mg_none_of X G z_range⟩
  have T : NamesM mg := ⟨N, PySem.W.mg_none_of X G z_max, PySem.W.mg_none_of X G z_min⟩
  have NI : NamesI mg := ⟨N, PySem.W.mg_none_of X G z_isinstance⟩
  have zI := PySem.W.mg_none_of X G z_int
  have zB := PySem.W.mg_none_of X G z_bool
  have zE := PySem.W.mg_none_of X G z_enumerate
  have m : ∀ {x : Str} {u : Value}, PySem.W.nsIn K mainGlobals x = some (some u) → mg x = some u := fun e => PySem.W.mg_of X G e
  have G0 := ok_pen (P := PySem.Challenge.pw_bentcoin_k22_why_it_is_no_machine) (w := w) (mg := mg) (base := base) F0 N
  have G1 := ok_fresh (P := PySem.Challenge.pw_bentcoin_k22_why_it_is_no_machine) (w := w) (mg := mg) (base := base) F1 N
  have G2 := ok_draw F2 G1 (m a1) k1 b1
  have G3 := ok_ends F3 N G2 ⟨m a2, k2, b2⟩
  have G5 := ok_numb (P := PySem.Challenge.pw_bentcoin_k22_why_it_is_no_machine) (w := w) (mg := mg) (base := base) F5 N
  have G4 := ok_mach F4 N G2 ⟨m a2, k2, b2⟩ G3 ⟨m a3, k3, b3⟩ G5 ⟨m a5, k5, b5⟩
  have G6 := ok_ii (P := PySem.Challenge.pw_bentcoin_k22_why_it_is_no_machine) (w := w) (mg := mg) (base := base) F6 NI zI zB
  have G7 := ok_ix F7 G6 ⟨m a6, k6, b6⟩
  have G8 := ok_it (P := PySem.Challenge.pw_bentcoin_k22_why_it_is_no_machine) (w := w) (mg := mg) (base := base) F8 NI
  have G9 := ok_bw F9 G8 ⟨m a8, k8, b8⟩
  have G10 := ok_se F10 (m x_MAX_ANSWER) G9 ⟨m a9, k9, b9⟩ G6 ⟨m a6, k6, b6⟩ G7 ⟨m a7, k7, b7⟩
  have G11 := ok_me F11 NI zE (m x_MAX_STATES) G10 ⟨m a10, k10, b10⟩
  have G12 := ok_wh (P := PySem.Challenge.pw_bentcoin_k22_why_it_is_no_machine) (w := w) (mg := mg) (base := base) F12 NI zI zB
  have G13 := ok_wd F13 NI (PySem.W.mg_none_of X G z_str) T.min T.max G12 ⟨m a12, k12, b12⟩
  have G14 := ok_du F14 NI zE G13 ⟨m a13, k13, b13⟩
  have G15 := ok_odd F15 NI zI G2 ⟨m a2, k2, b2⟩
  have G16 := ok_bent F16 NI G2 ⟨m a2, k2, b2⟩ G15 ⟨m a15, k15, b15⟩ ⟨m a16, k16, b16⟩ 13
  exact ok_law F17 T (PySem.W.mg_none_of X G z_repr) G0 ⟨m a0, k0, b0⟩ G2 ⟨m a2, k2, b2⟩ G4 ⟨m a4, k4, b4⟩ G16 ⟨m a16, k16, b16⟩ G11 ⟨m a11, k11, b11⟩ G14 ⟨m a14, k14, b14⟩
end Z
open PySem PySem.W PyProof.Rows
set_option maxRecDepth 100000 in
set_option maxHeartbeats 0 in
theorem PySem.Challenge.cw_bentcoin_k22_why_it_is_no_machine_holds : PySem.Challenge.rw_bentcoin_k22_why_it_is_no_machine.Holds := by
  w_on; o_law; k_head; (case hw => w_witness2)
  k_fill
  refine GG.walkG (l := PySem.Challenge.rw_bentcoin_k22_why_it_is_no_machine) (n := 63) (k := 18) (x := "script") (sp := Z.spLaw) rfl (by decide) rfl ⟨rfl, by decide, by decide⟩ (fun w h Y => PySem.W.kIn_of Y) ?F (fun _ _ a ns hl hS => ⟨a, ns, rfl, hS, hl, fun _ => rfl⟩)
  case F =>
    intro w mg fa h KX G hmg
    refine' Z.all_mk KX G hmg ?a0 ?l0 ?c0 ?k0 ?a1 ?l1 ?c1 ?k1 ?a2 ?l2 ?c2 ?k2 ?a3 ?l3 ?c3 ?k3 ?a4 ?l4 ?c4 ?k4 ?a5 ?l5 ?c5 ?k5 ?a6 ?l6 ?c6 ?k6 ?a7 ?l7 ?c7 ?k7 ?a8 ?l8 ?c8 ?k8 ?a9 ?l9 ?c9 ?k9 ?a10 ?l10 ?c10 ?k10 ?a11 ?l11 ?c11 ?k11 ?a12 ?l12 ?c12 ?k12 ?a13 ?l13 ?c13 ?k13 ?a14 ?l14 ?c14 ?k14 ?a15 ?l15 ?c15 ?k15 ?a16 ?l16 ?c16 ?k16 ?a17 ?l17 ?c17 ?k17 ?z_list ?z_tuple ?z_len ?z_range ?z_isinstance ?z_int ?z_bool ?z_str ?z_min ?z_max ?z_enumerate ?z_repr ?x_MAX_ANSWER ?x_MAX_STATES
    (case a0 => k_is)
    (case l0 => k_is)
    (case c0 => k_is)
    (case k0 => k_is)
    (case a1 => k_is)
    (case l1 => k_is)
    (case c1 => k_is)
    (case k1 => k_is)
    (case a2 => k_is)
    (case l2 => k_is)
    (case c2 => k_is)
    (case k2 => k_is)
    (case a3 => k_is)
    (case l3 => k_is)
    (case c3 => k_is)
    (case k3 => k_is)
    (case a4 => k_is)
    (case l4 => k_is)
    (case c4 => k_is)
    (case k4 => k_is)
    (case a5 => k_is)
    (case l5 => k_is)
    (case c5 => k_is)
    (case k5 => k_is)
    (case a6 => k_is)
    (case l6 => k_is)
    (case c6 => k_is)
    (case k6 => k_is)
    (case a7 => k_is)
    (case l7 => k_is)
    (case c7 => k_is)
    (case k7 => k_is)
    (case a8 => k_is)
    (case l8 => k_is)
    (case c8 => k_is)
    (case k8 => k_is)
    (case a9 => k_is)
    (case l9 => k_is)
    (case c9 => k_is)
    (case k9 => k_is)
    (case a10 => k_is)
    (case l10 => k_is)
    (case c10 => k_is)
    (case k10 => k_is)
    (case a11 => k_is)
    (case l11 => k_is)
    (case c11 => k_is)
    (case k11 => k_is)
    (case a12 => k_is)
    (case l12 => k_is)
    (case c12 => k_is)
    (case k12 => k_is)
    (case a13 => k_is)
    (case l13 => k_is)
    (case c13 => k_is)
    (case k13 => k_is)
    (case a14 => k_is)
    (case l14 => k_is)
    (case c14 => k_is)
    (case k14 => k_is)
    (case a15 => k_is)
    (case l15 => k_is)
    (case c15 => k_is)
    (case k15 => k_is)
    (case a16 => k_is)
    (case l16 => k_is)
    (case c16 => k_is)
    (case k16 => k_is)
    (case a17 => k_is)
    (case l17 => k_is)
    (case c17 => k_is)
    (case k17 => k_is)
    (case z_list => k_is)
    (case z_tuple => k_is)
    (case z_len => k_is)
    (case z_range => k_is)
    (case z_isinstance => k_is)
    (case z_int => k_is)
    (case z_bool => k_is)
    (case z_str => k_is)
    (case z_min => k_is)
    (case z_max => k_is)
    (case z_enumerate => k_is)
    (case z_repr => k_is)
    (case x_MAX_ANSWER => k_is)
    (case x_MAX_STATES => k_is)
