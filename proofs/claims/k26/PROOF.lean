import PyProof.Rows.All
import Wide.All
import OpenK.AllK
import Wide.FinOn
import HandS.ForMost
import HandS.Defaults
import HandS.ExcInit
import HandS.ExcField
import PyProof.ExcBaseAll.ZeroDivisionError
import PyProof.ExcBaseAll.RuntimeError
import PyProof.ExcBaseAll.LookupError
import PyProof.ExcBaseAll.OverflowError
import KE.KExcIs
import HandS.TryMany
import HandS.CallSlots
import HandS.ExcOwn
import HandS.NamedTupGet
import HandS.Flow
import HandS.SlotsOwn
import HandS.List
import PyProof.DelItemList
import HandS.Wide
import HandS.Rev
import HandS.Conv
import HandS.IsInst
import HandS.ForExc
import HandS.Zip
import PySem.Challenge.RW_bentcoin_k26_runners
set_option Elab.async false
set_option maxRecDepth 100000
set_option maxHeartbeats 4000000
/-! Defs that are run where no text of an object is being made: so that repr gives the whole text. -/
namespace GG
open PySem PySem.Spec PyProof.Rows L2
section
variable {P : Program} {w : World} {K : PySem.W.Frag} {mg : Str → Option Value} {base : Heap}
structure FnG (P : Program) (w : World) (K : PySem.W.Frag) (mg : Str → Option Value) (base : Heap) (k : Nat) (f : Addr) (fd : FuncData) (ps : List Str) (sp : Sp) : Prop where
  size : ∀ vs H Q E, sp vs H Q E → vs.length = ps.length
  goes : ∀ (A : Around) (o : List Env) (s : Shared) (H : Hp) (ar : Args) (us : List Value) (vs : List V) (Q : VK) (E : XK),
    A.guards = some [] → Room k A → Env0 P w K mg base A o s H → BindsTo s fd ar (ps.zip us) → Vals vs us → sp vs H Q E →
    codeAny (model P w) A (.call (.ref f) ar) (CR CX0 o P w H s Q E) s

theorem fnG_of {x qual : Str} {st : Stmt} {f : Addr} {fd : FuncData} {N ps : List Str} {k : Nat} {sp : Sp}
    (F : Fun K x qual st f fd) (S : FnScope N ps (defScope st)) (size : ∀ vs H Q E, sp vs H Q E → vs.length = ps.length)
    (body : ∀ (cd : Value) (A : Around) (o : List Env) (s : Shared) (H : Hp) (vs : List V) (Q : VK) (E : XK),
      A.guards = some [] → Room k (A.deeper (envOfC qual (defScope st) s.heap.objs.size f cd)) → sp vs H Q E →
      ∃ t, PSs (cxOf CX0 P w K mg base N qual (defScope st) f cd A o s H E).nox (defBody st) t ∧
        t { nx := fun _ H' => Q .non H', rt := Q } (start N vs) H) :
    FnG P w K mg base (k + 1) f fd ps sp := by
  obtain ⟨oc, od, kV, doc, pm, an, cd, ct, slots, rfl, found, code⟩ := F.ex
  refine ⟨size, ?_⟩
  intro A o s H ar us vs Q E gA room e0 hbind given asked
  have inK : K.In s.heap := e0.mod.kin.keeps fun b u e => (e0.bs b u e).1
  have free : s.heap.NoLimit := e0.mod.nolimit.keeps fun b u e => (e0.bs b u e).1
  have many := size vs H Q E asked
  have kinds : ∀ y ∈ ps.zip us, (defScope st).names.lookup y.1 = some .local ∨ ((defScope st).names.lookup y.1 = some .cell ∧
      ((cellsFrom (s.heap.objs.size + 1) (defScope st).names []).lookup y.1).isSome = true) := by
    rintro ⟨n, v⟩ hy
    cases S.par n (List.of_mem_zip hy).1 with
    | inl q => exact Or.inl q
    | inr q => exact Or.inr ⟨q, PySem.W.cellsFrom_some _ _ _ (Or.inl q)⟩
  apply codeAny_call_function room.depth (inK _ _ found) rfl S.co S.gen rfl (PySem.W.codeRec_of inK code)
  apply hbind
  apply wpAny_newFunctionEnv_cells S.kind kinds
  intro env he s1 ready
  subst he
  refine ⟨free.keeps ready.toInCall.keep, ?_⟩
  apply codeAny_func
  obtain ⟨t, ht, hq⟩ := body cd A o s H vs Q E gA (room.deeper _) asked
  have first := inv_start (E := E) (CX := CX0) S room.hd e0 many given ready
  refine wpAny_mono (ht.nox.run [] s1 (start N vs) H _ first hq) (fun fl s' hs => ?_) (fun e s' hs => hs)
  cases fl with
  | next =>
    obtain ⟨σ', H', J, q⟩ := hs
    exact ⟨V.non, H', J.os, J.bare, J.base, J.hok, rfl, q⟩
  | ret u =>
    obtain ⟨v, σ', H', J, rv, q⟩ := hs
    exact ⟨v, H', J.os, J.bare, J.base, J.hok, rv, q⟩
  | brk => exact hs.elim fun _ z => z.elim fun _ z => z.elim fun _ z => z.elim
  | cont => exact hs.elim fun _ z => z.elim fun _ z => z.elim fun _ z => z.elim

/-- what is left of the heap when the script stands alone in it -/
def one (a : Addr) (o : HO) : Hp := fun b => if b = a then some o else none
theorem one_at {a : Addr} {o : HO} : one a o a = some o := if_pos rfl
theorem one_no {a b : Addr} {o : HO} (h : b ≠ a) : one a o b = none := if_neg h

section
variable {mb : Str → Option Value} {k : Nat} {fa a : Addr} {fd : FuncData} {x : Str} {sp : Sp} {s₁ : Shared} {vs : List Value} {ns : List Int}
abbrev Fine (s₁ : Shared) (r : Result) (s' : Shared) : Prop := r = .ok (.ret (.bool true)) ∧ OldK s₁.heap s'.heap ∧ s'.os = s₁.os ∧ AllBare s'.gens

/-- from a heap in which at most the script is told of -/
theorem from_heap {H : Hp} (inK : K.In (hidT s₁.heap H)) (names : (hidT s₁.heap H).Ns mainGlobals mg) (blt : (hidT s₁.heap H).Ns builtinsNs mb)
    (known : ∀ y : Str, y ≠ "__name__" → mb y = bootBuiltins y) (free : (hidT s₁.heap H).NoLimit) (none_ : s₁.gens = #[])
    (alone : ∀ b, H b = none ∨ ∃ o xs, H b = some (.frz o (.lst xs))) (hok : HOk P w H s₁.heap) (room : Room k callerA)
    (F : FnG P w K mg (hidT s₁.heap H) k fa fd [x] sp) (binds : ∀ (s : Shared) (u : Value), BindsTo s fd ⟨[u], []⟩ [(x, u)])
    (asked : sp [.ref a] H (fun v _ => v = .bl true) fun _ _ _ => False) :
    codeAny (model P w) callerA (.call (.ref fa) ⟨[.ref a], []⟩) (Fine s₁) s₁ := by
  have entry : Env0 P w K mg (hidT s₁.heap H) callerA [] s₁ H :=
    { frames := rfl, mod := ⟨inK, names, ⟨mb, blt, known⟩, free⟩, bs := fun b u e => of_hidT e, bsz := Nat.le_of_eq (hidT_size _ _), funs := trivial,
      frf := fun b hb => absurd (show b ∈ ([] : List Addr) from hb) (by simp), hok := hok, bare := .of_eq none_ }
  have run := F.goes callerA [] s₁ H ⟨[.ref a], []⟩ [.ref a] [.ref a] _ _ rfl room entry (binds s₁ (.ref a)) (.cons rfl .nil) asked
  refine codeAny_mono run fun r s' got => ?_
  cases r with
  | error e => exact False.elim got
  | ok fl =>
    cases fl with
    | ret u =>
      obtain ⟨v, H', os, bare, un, hok', ru, yes⟩ := got
      have yes' : v = .bl true := yes
      subst yes'
      have eu : u = Value.bool true := ru
      subst eu
      refine ⟨rfl, OldK.of_keep ?_, os, bare⟩
      intro b u e
      rcases alone b with q | ⟨ob, xs, q⟩
      · exact un.keep b u e q (fun z => absurd (show b ∈ ([] : List Addr) from z) (by simp)) (by simp)
      · have e1 := (hok b _ q).1
        have e2 := (hok' b _ (un.frzs b ob _ q)).1
        rw [e] at e1
        cases e1
        exact e2
    | next => exact False.elim got
    | brk => exact False.elim got
    | cont => exact False.elim got
/-- the law's call, its promise once -/
theorem lawG (inK : K.In s₁.heap) (names : s₁.heap.Ns mainGlobals mg) (blt : s₁.heap.Ns builtinsNs mb) (known : ∀ y : Str, y ≠ "__name__" → mb y = bootBuiltins y)
    (free : s₁.heap.NoLimit) (none_ : s₁.gens = #[]) (script : s₁.heap.get? a = some { cls := .type "list", data := .seq vs.toArray }) (nums : IntsAre vs ns)
    (few : ns.length ≤ sizeLine) (room : Room k callerA) (F : ∀ base : Heap, K.In base → base.Ns mainGlobals mg → FnG P w K mg base k fa fd [x] sp)
    (binds : ∀ (s : Shared) (u : Value), BindsTo s fd ⟨[u], []⟩ [(x, u)]) (asked : ∀ H : Hp, SqL K H a (ns.map V.int) → sp [.ref a] H (fun v _ => v = .bl true) fun _ _ _ => False) :
    codeAny (model P w) callerA (.call (.ref fa) ⟨[.ref a], []⟩) (Fine s₁) s₁ := by
  have rel := vals_ints nums
  have len := nums.length
  cases look : K.lookup a with
  | some o =>
    have e := inK a o look
    rw [script] at e
    cases e
    have keep : ∀ {b : Addr} {u : Obj}, s₁.heap.get? b = some u → (hidT s₁.heap fun _ => none).get? b = some u := fun e => hidT_get e rfl
    have ns' : ∀ {b : Addr} {m : Str → Option Value}, s₁.heap.Ns b m → (hidT s₁.heap fun _ => none).Ns b m := fun ⟨o, es, ep, e, d, r⟩ => ⟨o, es, ep, keep e, d, r⟩
    have inK' : K.In (hidT s₁.heap fun _ => none) := fun b u e => keep (inK b u e)
    refine from_heap inK' (ns' names) (ns' blt) known (let ⟨mc, h1, h2⟩ := free; ⟨mc, ns' h1, h2⟩) none_ (fun _ => .inl rfl) (fun b u z => nomatch z) room (F _ inK' (ns' names)) binds ?_
    exact asked _ (.inr ⟨_, vs.toArray, _, look, rfl, rfl, rfl, by rw [List.size_toArray, len]; exact few, by simpa using rel⟩)
  | none =>
    have keep : ∀ {b : Addr} {u : Obj}, b ≠ a → s₁.heap.get? b = some u → (hidT s₁.heap (one a (.frz { cls := .type "list", data := .seq vs.toArray } (.lst (ns.map V.int))))).get? b = some u := fun n e => hidT_get e (one_no n)
    have ns' : ∀ {b : Addr} {m : Str → Option Value}, s₁.heap.Ns b m → (hidT s₁.heap (one a (.frz { cls := .type "list", data := .seq vs.toArray } (.lst (ns.map V.int))))).Ns b m := by
      rintro b m ⟨o, es, ep, e, d, r⟩
      refine ⟨o, es, ep, keep (fun z => ?_) e, d, r⟩
      rw [z, script] at e
      cases e
      cases d
    have inK' : K.In (hidT s₁.heap (one a (.frz { cls := .type "list", data := .seq vs.toArray } (.lst (ns.map V.int))))) := fun b u e => keep (fun z => by rw [z, look] at e; cases e) (inK b u e)
    refine from_heap inK' (ns' names) (ns' blt) known (let ⟨mc, h1, h2⟩ := free; ⟨mc, ns' h1, h2⟩) none_ (fun b => ?_) (fun b u z => ?_) room (F _ inK' (ns' names)) binds (asked _ (.inl (.inr ⟨_, one_at⟩)))
    · by_cases e : b = a
      · exact .inr ⟨_, _, by rw [e]; exact one_at⟩
      · exact .inl (one_no e)
    · by_cases e : b = a
      · subst e
        have z' := one_at.symm.trans z
        cases z'
        exact ⟨script, by rw [List.length_map]; exact few, vs, _, rel, script⟩
      · have z' := (one_no e).symm.trans z
        cases z'
end
end
/-- the end of a proof: as the layer's own, for such a promise -/
theorem walkG {l : PySem.W.OpenLaw} {n k : Nat} {q : Program} {loose : List Str} {XP : (Str → Option Value) → Heap → Prop} {YP : World → Heap → Prop} {d : DefRec} {K : Params → PySem.W.Frag}
    {sp : PySem.W.Frag → Sp} {x : Str} (most : l.most = some n) (few : n ≤ sizeLine) (plain : d.params.defaults = []) (room : Room k callerA) (inY : ∀ (w : World) (h : Heap), YP w h → (K w.params).In h)
    (F : ∀ (w : World) (mg : Str → Option Value) (fa : Addr) (h : Heap), (K w.params).In h → h.Ns mainGlobals mg → mg d.name = some (.ref fa) →
      ∃ fd : FuncData, (∀ (s : Shared) (u : Value), BindsTo s fd ⟨[u], []⟩ [(x, u)]) ∧
        ∀ base : Heap, (K w.params).In base → base.Ns mainGlobals mg → FnG l.prog w (K w.params) mg base k fa fd [x] (sp (K w.params)))
    (asked : ∀ (K : PySem.W.Frag) (H : Hp) (a : Addr) (ns : List Int), ns.length ≤ n → SqL K H a (ns.map V.int) → sp K [.ref a] H (fun v _ => v = .bl true) fun _ _ _ => False) :
    PySem.W.WalkO q loose XP YP l.row.toRowW d [] (fun f vs => PySem.call f vs) := by
  apply Att.attach_call most plain
  intro w s₀ s₁ mg mb fa o pm cd doc a vs ns G Y _ _ _ named script nums size none_
  have inK := inY w _ Y
  obtain ⟨fd, binds, hF⟩ := F w mg fa _ inK G.T.g named
  exact lawG inK G.T.g G.T.b G.T.builtins G.T.nolimit none_ script nums (Nat.le_trans size few) room hF binds fun H hs => asked _ H a ns size hs

/-! the text of data -/
/-- data whose text is made: no dict, no int too long, not too deep, not too many -/
structure Shows (d : PyData) (deep many : Nat) : Prop where
  s : d.showable = true
  l : d.leavesShort 1922 = true
  h : d.hasDict = false
  p : d.depth ≤ deep
  b : d.bulk ≤ many
theorem Shows.mono {d : PyData} {a b a' b' : Nat} (x : Shows d a b) (h1 : a ≤ a') (h2 : b ≤ b') : Shows d a' b' := ⟨x.s, x.l, x.h, Nat.le_trans x.p h1, Nat.le_trans x.b h2⟩
theorem Shows.room {d : PyData} (x : Shows d 50 8000) : d.shown.length ≤ sizeLine := by
  have h := PyData.shown_le_bulk 1922 (by decide) d x.l
  have hb := x.b
  have e : sizeLine = 16777216 := by decide
  have := Nat.mul_le_mul_left 1924 hb
  omega
theorem short_int {i : Int} (h : i.natAbs.log2 < 1920) : (PyData.int i).leavesShort 1922 = true := by
  simp only [PyData.leavesShort, decide_eq_true_eq]
  have e := int_text_length_le (k := 1920) (by decide) h
  rw [PyData.shown_int, PySem.ofString_length]
  omega
theorem ints_show : ∀ {ns : List Int}, (∀ n ∈ ns, n.natAbs.log2 < 1920) → PyData.showableAll (ns.map PyData.int) = true ∧ PyData.leavesShortAll 1922 (ns.map PyData.int) = true ∧ PyData.hasDictAll (ns.map PyData.int) = false ∧ PyData.depthAll (ns.map PyData.int) = 0 ∧ PyData.bulkAll (ns.map PyData.int) = ns.length
  | [], _ => ⟨rfl, rfl, rfl, rfl, rfl⟩
  | n :: r, h => by
    obtain ⟨h1, h2, h3, h4, h5⟩ := ints_show (ns := r) fun m hm => h m (List.mem_cons_of_mem _ hm)
    have hn := h n List.mem_cons_self
    have hs := short_int hn
    refine ⟨?_, ?_, ?_, ?_, ?_⟩
    · simp [PyData.showableAll, PyData.showable, h1, hn]
    · simp [PyData.leavesShortAll, h2, hs]
    · simp [PyData.hasDictAll, PyData.hasDict, h3]
    · simp [PyData.depthAll, PyData.depth, h4]
    · simp [PyData.bulkAll, PyData.bulk, h5]; omega
theorem shows_ints {ns : List Int} (h : ∀ n ∈ ns, n.natAbs.log2 < 1920) : Shows (.tuple (ns.map PyData.int)) 1 ns.length := by
  obtain ⟨h1, h2, h3, h4, h5⟩ := ints_show h
  exact ⟨by simp [PyData.showable, h1], by simp [PyData.leavesShort, h2], by simp [PyData.hasDict, h3], by simp [PyData.depth, h4], by simp [PyData.bulk, h5]⟩
section
variable {X : Cx}
def rRepr (K : PySem.W.Frag) : List V → Hp → VK → Prop := fun vs H Q => ∃ (a : Addr) (d : PyData), vs = [.ref a] ∧ Dp K H (.ref a) d ∧ Shows d 50 8000 ∧ Q (.str d.shown) H
theorem call_repr {k : Nat} (hg : X.A.guards = some []) (room : Room k X.A) : CallR X (.builtin "repr") (rRepr X.K) := by
  intro pins s σ H vs us Q I r h
  obtain ⟨a, d, rfl, hd, hs, q⟩ := h
  obtain ⟨u, rfl, ru⟩ := vals1 r
  have eu : u = Value.ref a := ru
  subst eu
  obtain ⟨as, reads⟩ := Dp.reads I d (.ref a) (.ref a) hd rfl
  have hu := room.un
  have hp := hs.p
  refine repr_of_reads' reads hs.s (fun e => by rw [hs.h] at e; cases e) hg (by omega) (fun _ _ e => e) (fun h' u tk hk => ?_) hs.room
  exact ⟨.str d.shown, H, I.kept hk, ⟨u, rfl⟩, q⟩
/-! x *= e of ints -/
theorem ip_mulW : PIp X .Mult (fun x y H Q => ∃ i j : Int, x = .int i ∧ y = .int j ∧ IntMulOk i j ∧ Q (.int (i * j)) H) := by
  intro pins s σ H x y v u Q I rx ry h
  obtain ⟨i, j, ex, ey, ok, q⟩ := h
  subst ex ey
  obtain ⟨t, et⟩ := rx
  obtain ⟨t', et'⟩ := ry
  subst et et'
  exact imul_int ⟨V.int (i * j), H, I.tok _, ⟨_, rfl⟩, q⟩ ok
/-! f(k = v, ..): all by their names -/
variable {CX : CXT} {k : Nat} {f : Addr} {fd : FuncData} {ps ks : List Str} {sp : Sp} {E : XK} {x : Str} {p pos : Pos} {kws : List Keyword} {t tk : TA}
  {g : List Value → List Value → List Value} {gV : List V → List V → List V}
def tNamed (sp : Sp) (gV : List V → List V → List V) (E : XK) (m : Nat) (tk : TA) : TE := fun σ H Q => tk σ H fun zs H1 => zs.length = m ∧ sp (gV [] zs) H1 Q E
theorem pe_named (F : FnOk X.prog X.w X.K X.mg X.base CX k f fd ps sp) (room : Room k X.A) (glob : Gl X x) (is : X.mg x = some (.ref f)) (keep : PySem.W.keepIn X.K (.ref f) = true)
    (bound : KBn X.K fd ps 0 ks g gV) (pass : Passes CX X E) (args : PK X kws tk) (all : (backToKw pos (keywordEach kws X.env)).all (·.1.isSome) = true := by rfl)
    (names : (backToKw pos (keywordEach kws X.env)).filterMap (·.1) = ks := by rfl) (nodebug : (x == ("__debug__" : Str)) = false := by decide)
    (plain : ((backTo pos (starEach [] X.env)).any (·.1) || (backToKw pos (keywordEach kws X.env)).any (·.1.isNone)) = false := by rfl) :
    PE X (.Call (.Name x p) [] kws pos) (tNamed sp gV E ks.length tk) := by
  constructor
  intro pins s σ H Q I h
  apply wpAny_Call_Name_kw
  refine ld_glob I glob is ?_ nodebug
  apply PySem.W.callWith_KW0 I.ok.mod.kin keep all _ plain
  have run := args.run pos pins s σ H _ I h
  refine thn run fun ws s2 done => ?_
  obtain ⟨zs, H2, I2, rz, many, q⟩ := done
  refine ⟨I2.kIn, ?_⟩
  rw [names]
  have few : ws.length = ks.length := by rw [← rz.length]; exact many
  first
  | exact run_fnN (us := []) (vs := []) F room bound pass I2 .nil rz rfl few q
  | exact run_fnN (us := []) (vs := []) F room bound pass I2 .nil rz rfl many q
def turned {α : Type} : List α → List α
  | [u, v] => [v, u]
  | l => l
theorem turned_vals : ∀ {zs : List V} {ws : List Value}, Vals zs ws → Vals (turned zs) (turned ws)
  | _, _, .nil => .nil
  | _, _, .cons a .nil => .cons a .nil
  | _, _, .cons a (.cons b .nil) => .cons b (.cons a .nil)
  | _, _, .cons a (.cons b (.cons c r)) => .cons a (.cons b (.cons c r))
/-- two parameters, both by name, the second ahead -/
theorem named2 {K : PySem.W.Frag} {x qual : Str} {st : Stmt} {a b : Str} (F : Fun K x qual st f fd)
    (h : ∀ (kV doc pm : Value) (an : Option Addr) (cd ct u v : Value), bindArgs (PySem.W.fnOf x qual (defArgs st) (defBody st) (defScope st) .none kV doc pm an cd ct) ⟨[], [(b, u), (a, v)]⟩ = pure [(a, v), (b, u)]) :
    KBn K fd [a, b] 0 [b, a] (fun _ ws => turned ws) (fun _ zs => turned zs) := by
  obtain ⟨oc, od, kV, doc, pm, an, cd, ct, slots, rfl, found, code⟩ := F.ex
  refine ⟨fun s us ws _ l0 l2 => ?_, fun _ r => turned_vals r⟩
  match us, ws, l0, l2 with
  | [], [u, v], _, _ => exact .of_eq (h kV doc pm an cd ct u v)
theorem max_is (calm : X.calm = true) : CallR X (.builtin "max") (fun vs H Q => ∃ i j k : Int, vs = [.int i, .int j] ∧ k = (if j > i then j else i) ∧ Q (.int k) H) := by
  intro pins s σ H vs us Q I r h
  obtain ⟨i, j, k, e, ek, q⟩ := h
  subst ek
  exact call_max2 calm pins s σ H vs us Q I r ⟨i, j, e, q⟩
/-! a def that wants that no text is being made, called -/
theorem pe_callG {F : FuncData} {es : List Expr} {e : Expr} (G : FnG X.prog X.w X.K X.mg X.base k f F ps sp) (quiet : X.A.guards = some []) (room : Room k X.A) (glob : Gl X x) (is : X.mg x = some (.ref f)) (keep : PySem.W.keepIn X.K (.ref f) = true)
    (bound : Binds X.K F ps []) (args : PA X (e :: es) t) (nodebug : (x == ("__debug__" : Str)) = false := by decide) (star : starEach (e :: es) X.env = (false, eval e X.env) :: starEach es X.env := by rfl)
    (plain : (backTo pos (starEach es X.env)).any (·.1) = false := by rfl) : PE X (.Call (.Name x p) (e :: es) [] pos) (tCall sp [] E0 t) := by
  constructor
  intro pins s σ H Q I h
  apply wpAny_Call_Name_kw
  refine ld_glob I glob is ?_ nodebug
  refine PySem.W.callWith_K (h₀ := X.base) I.ok.mod.kin keep (thn (args.run pos pins s σ H _ I h) fun us s1 got => ?_) star plain
  obtain ⟨vs, H1, I1, r, asked⟩ := got
  refine ⟨I1.kIn, ?_⟩
  have asked' : sp vs H1 Q E0 := by simpa using asked
  have many : (us ++ []).length = ps.length := by rw [List.append_nil, ← r.length]; exact G.size _ _ _ _ asked'
  have bind := bound s1 us I1.kIn many
  rw [List.append_nil] at bind
  apply wpAny_call
  refine codeAny_mono (G.goes X.A X.stack s1 H1 ⟨us, []⟩ us vs Q E0 quiet room I1.env0 bind r asked') fun res s' hq => ?_
  cases res with
  | error e => exact False.elim hq
  | ok fl =>
    cases fl with
    | ret u => exact I1.after hq
    | next => exact False.elim hq
    | brk => exact False.elim hq
    | cont => exact False.elim hq
/-! repr of None, or of data -/
def rRepr2 (K : PySem.W.Frag) : List V → Hp → VK → Prop := fun vs H Q => (vs = [.non] ∧ Q (.str "None") H) ∨ rRepr K vs H Q
theorem call_repr2 {k : Nat} (hg : X.A.guards = some []) (room : Room k X.A) : CallR X (.builtin "repr") (rRepr2 X.K) := by
  intro pins s σ H vs us Q I r h
  rcases h with ⟨ev, q⟩ | h
  · subst ev
    obtain ⟨u, eu, ru⟩ := vals1 r
    subst eu
    have e : u = Value.none := ru
    subst e
    exact PySem.P.repr_of_none ⟨.str _, H, I.tok _, ⟨_, rfl⟩, q⟩
  · exact call_repr hg room pins s σ H vs us Q I r h
end
end GG

set_option Elab.async false
set_option linter.all false
set_option maxRecDepth 100000
set_option maxHeartbeats 4000000
/-! own exceptions over any built-in one, as values -/
namespace EX
open PySem PySem.Spec PyProof.Rows L2 PySem.HandSPX PySem.Builtin PySem.Builtin.ObjectAttr
/-- what a store asks of the classes an exception stands on -/
structure Line (mro : List Value) : Prop where
  pass : ∀ self, refuseLoop self "__setattr__" mro = pure ()
  ob : mro.contains (.type "object") = true
  ne : mro.isEmpty = false
abbrev tZero : List Value := [.type "ZeroDivisionError", .type "ArithmeticError", .type "Exception", .type "BaseException", .type "object"]
abbrev tRun : List Value := [.type "RuntimeError", .type "Exception", .type "BaseException", .type "object"]
abbrev tVal : List Value := [.type "ValueError", .type "Exception", .type "BaseException", .type "object"]
abbrev tLook : List Value := [.type "LookupError", .type "Exception", .type "BaseException", .type "object"]
abbrev tKey : List Value := [.type "KeyError", .type "LookupError", .type "Exception", .type "BaseException", .type "object"]
abbrev tOver : List Value := [.type "OverflowError", .type "ArithmeticError", .type "Exception", .type "BaseException", .type "object"]
theorem Line.own {l : List Value} (x : Line l) (C : Addr) : Line (.ref C :: l) where
  pass self := by
    rw [refuseLoop_ref]
    exact x.pass self
  ob := by
    rw [List.contains_cons, x.ob, Bool.or_true]
  ne := rfl
theorem lZero : Line tZero := ⟨fun self => by kernel_rfl, by decide +kernel, rfl⟩
theorem lRun : Line tRun := ⟨fun self => by kernel_rfl, by decide +kernel, rfl⟩
theorem lVal : Line tVal := ⟨fun self => by kernel_rfl, by decide +kernel, rfl⟩
theorem lLook : Line tLook := ⟨fun self => by kernel_rfl, by decide +kernel, rfl⟩
theorem lKey : Line tKey := ⟨fun self => by kernel_rfl, by decide +kernel, rfl⟩
theorem lOver : Line tOver := ⟨fun self => by kernel_rfl, by decide +kernel, rfl⟩
section
variable {P : Program} {w : World} {A : Around} {E : Value → Shared → Prop} {R : Result → Shared → Prop} {h0 : Heap} {g : Array GenState} {d : Drawn} {t : Nat} {os : OsState}
/-- the first field of an exception -/
theorem first_field {K : PySem.W.Frag} {nm : Str} {tk : Tok} {v : Value} {x C : Addr} {fv : Array Value} {cd : ClassData} (inK : K.In h0) (ox : h0.get? x = some { cls := .ref C, data := .fields fv }) (cl : PySem.W.clsIn K C = some cd) (ln : Line cd.mro)
    (dic : cd.hasDict = true) (none_ : PySem.W.findIn K (.ref C) nm = some none)
    (go : ∀ h' tk' dx, (∀ b o, b ≠ x → h0.get? b = some o → h'.get? b = some o) → h0.objs.size ≤ dx → dx ≠ x → h'.get? x = some { cls := .ref C, dict := some dx, data := .fields fv } →
      h'.Ns1 dx (fun y => if y = nm then some v else none) → R (.ok (.ret .none)) ⟨h', g, d, tk', os⟩) :
    codeAny (model P w) A (.call (.builtin "object.__setattr__") ⟨[.ref x, .str nm tk, v], []⟩) R ⟨h0, g, d, t, os⟩ := by
  have at_ : PySem.W.InstAt h0 x { cls := .ref C, data := .fields fv } C none := ⟨ox, rfl, rfl, trivial⟩
  have so := F.store_object
  have apart : x ≠ h0.objs.size := Nat.ne_of_lt (Heap.lt_size ox)
  have isOb : PySem.W.Looks (model P w) h0 (isInstance (.ref x) (.type "object")) true := by
    refine at_.type.andThen (PySem.W.looks_mroIn inK ?_)
    unfold PySem.W.mroIn
    rw [cl, Option.bind_some, if_neg (by rw [ln.ne]; decide), ln.ob]
  refine codeAny_call_builtin so.slot.plain so.entry ?_
  refine @PySem.W.check_slot (model P w) _ _ ⟨h0, g, d, t, os⟩ "object.__setattr__" "object" "__setattr__" (.ref x) [.str nm tk, v] [] _ so.kind so.split isOb (so.args (.ref x) (.str nm tk) v) ?_
  have mros : PySem.W.Looks (model P w) h0 (mroOf (.ref C)) cd.mro := (PySem.W.looks_clsIn inK cl).andThen .now
  have taker : PySem.W.Looks (model P w) h0 (storeTaker? none) none := .now
  have data : PySem.W.Looks (model P w) h0 (classData C) cd := PySem.W.looks_clsIn inK cl
  rw [PySem.W.osa_eq, refuse_eq]
  refine wpAny_bind (wpAny_bind (at_.type.at (wpAny_bind (mros.at ?_))))
  rw [ln.pass]
  refine wpAny_pure (wpAny_bind (at_.type.at (wpAny_bind ((PySem.W.looks_findIn inK none_).at (wpAny_bind (taker.at ?_))))))
  show wpAny _ _ (storeInOwnDict (.ref x) (.ref C) (.str nm tk) nm v false) _ _ _
  obtain ⟨n1, b1, m1, s1, q1, d1, l1, u1, a1, c1, e1⟩ := cd
  dsimp only at dic
  subst dic
  unfold storeInOwnDict ownDictForStores
  repeat (first | with_reducible refine store_in_new ?_ ?_ | with_reducible refine wpAny_loadPart_at ox ?_ | with_reducible refine data.at ?_ | wp_step)
  · refine ⟨_, #[], _, (Heap.get?_update_ne _ _ _ _ apart.symm).trans (Heap.get?_push_at rfl rfl), rfl, fun e he => ?_, fun _ => rfl⟩
    exact absurd he (by simp)
  · intro h' tk' names same
    have ox1 : (h0.push { cls := .type "dict", data := .dict #[] }).get? x = some { cls := .ref C, data := .fields fv } := Heap.get?_push_of_some _ ox
    refine go h' tk' h0.objs.size (fun b o nb ob => ?_) (Nat.le_refl _) apart.symm ?_ names
    · refine (same.2 b (Nat.ne_of_lt (Heap.lt_size ob))).trans ?_
      exact (Heap.get?_update_ne _ _ _ _ nb).trans (Heap.get?_push_of_some _ ob)
    · exact (same.2 x apart).trans (Heap.get?_update_self _ ox1 rfl)
end
/-- what the written part says of an exception's class that stands right on a built-in one -/
structure ExC (K : PySem.W.Frag) (C : Addr) (tail : List Value) (newId : String) : Prop where
  cls : ∃ nm q N bs sn sub ab col dd k0 k1 k2 k3 k5, K.lookup C = some (excClassObj nm q C N bs tail true sn sub ab col dd k0 k1 k2 k3 k5 newId)
  line : Line tail
  sa : PySem.W.findIn K (.ref C) "__setattr__" = some (some (.builtin "object.__setattr__"))
  kC : PySem.W.keepIn K (.ref C) = true
theorem ExC.data {K : PySem.W.Frag} {C : Addr} {tail : List Value} {newId : String} (T : ExC K C tail newId) : ∃ cd, PySem.W.clsIn K C = some cd ∧ Line cd.mro ∧ cd.hasDict = true := by
  obtain ⟨nm, q, N, bs, sn, sub, ab, col, dd, k0, k1, k2, k3, k5, at_⟩ := T.cls
  refine ⟨{ name := nm, bases := bs, mro := .ref C :: tail, ns := N, qualname := q, hasDict := true, slotNames := sn, subclasses := sub, abstract := ab, collection := col, hasDel := false }, ?_, T.line.own C, rfl⟩
  unfold PySem.W.clsIn
  rw [at_] <;> rfl
section
variable {X : Cx} {pins : List (Addr × Obj)} {σ : L2.St} {H : Hp} {s : Shared} {a C : Addr} {f : Str} {y : V} {u : Value} {Q : Unit → Shared → Prop} {E : Value → Shared → Prop} {A : Around} {tail : List Value} {newId : String}
theorem set_first (T : ExC X.K C tail newId) (I : Inv X pins σ H s) (e : H a = some (exo a C none)) (no : PySem.W.findIn X.K (.ref C) f = some none) (ry : RelV y u)
    (go : ∀ dx s', H dx = none → dx ≠ a → Inv X pins σ (upd (upd H dx (exd dx [(f, y)])) a (exo a C (some dx))) s' → Q () s') : wpAny (model X.prog X.w) A (setAttr (.ref a) f u) Q E s := by
  obtain ⟨cd, cl, ln, dic⟩ := T.data
  obtain ⟨t1, ho⟩ := exo_at I.hok e
  obtain ⟨h0, g, d, t, os⟩ := s
  refine PySem.W.set_plain I.kIn (ox := { cls := .ref C, dict := none, data := .fields #[.ref t1, .none, .none, .none, .bool false, .none] }) (od := none) ⟨ho, rfl, rfl, trivial⟩ T.sa ?_
  refine first_field I.kIn ho cl ln dic no fun h' tk' dx k dn dne hx hn => ?_
  have free : H dx = none := I.hok.fresh dn
  have old : ∀ {b : Addr} {o : Obj}, h0.get? b = some o → b ≠ dx := fun {b o} q => Nat.ne_of_lt (Nat.lt_of_lt_of_le (Heap.lt_size q) dn)
  have told : ∀ {b : Addr}, H b = none → b ≠ a := fun {b} n z => by
    rw [z, e] at n
    cases n
  have un : Un X.fs [] H (upd (upd H dx (exd dx [(f, y)])) a (exo a C (some dx))) h0 h' := {
    keep := fun b o q n _ _ => k b o (told n) q
    slot := fun b o q n _ _ => ⟨o.slots, k b o (told n) q⟩
    free := fun b o q n _ => by
      rw [upd_ne (told n), upd_ne (old q)]
      exact n
    there := fun b o q _ => by
      by_cases hb : b = a
      · exact ⟨_, by rw [hb]; exact hx⟩
      · exact ⟨o, k b o hb q⟩
    tups := fun b xs q => by
      rw [upd_ne (at_ne e q exo_tup), upd_ne (ne_of_none q free)]
      exact q
    frzs := fun b o v q => by
      rw [upd_ne (at_ne e q exo_frz), upd_ne (ne_of_none q free)]
      exact q
    tbls := fun b ps q => by
      refine ⟨#[], ?_⟩
      rw [upd_ne (at_ne e q exo_tbl), upd_ne (ne_of_none q free), q]
      simp }
  refine go dx _ free dne (I.un (t' := tk') un fun b o q => ?_)
  by_cases hb : b = a
  · subst hb
    rw [upd_same] at q
    cases q
    exact exo_ok hx
  · rw [upd_ne hb] at q
    by_cases hd : b = dx
    · subst hd
      rw [upd_same] at q
      cases q
      exact exd_ok hn (relO_put (fs := []) ry fun g => True.intro)
    · rw [upd_ne hd] at q
      refine (I.hok b o q).stay (fun c v hc z => ?_) (fun c hc => ?_) fun c xs hc => ?_
      · refine k c v ?_ z
        rcases hc with hc | hc
        · rw [hc]
          exact hb
        · exact at_ne e hc exo_own
      · rw [upd_ne (at_ne e hc exo_own), upd_ne (ne_of_none hc free)]
        exact hc
      · rw [upd_ne (at_ne e hc exo_tup), upd_ne (ne_of_none hc free)]
        exact hc
end
/-- self.f = e, the first field -/
def tFirst (K : PySem.W.Frag) (f : Str) (to te : TE) : TS := fun D σ H => te σ H fun y H1 => to σ H1 fun x H2 => ∃ (a C : Addr) (tail : List Value) (newId : String), x = .ref a ∧ ExC K C tail newId ∧ PySem.W.findIn K (.ref C) f = some none ∧
  H2 a = some (exo a C none) ∧ ∀ dx, H2 dx = none → dx ≠ a → D.nx σ (upd (upd H2 dx (exd dx [(f, y)])) a (exo a C (some dx)))
/-- how an exception of the class at C is made by a call: laid, then its __init__ run -/
def Makes (P : Program) (w : World) (K : PySem.W.Frag) (C fI : Addr) : Prop := ∀ (A : Around) (R : Result → Shared → Prop) (h0 : Heap) (g : Array GenState) (d : Drawn) (t : Nat) (os : OsState) (rest : List Value), K.In h0 → rest.length ≤ sizeLine →
  codeAny (model P w) (A.under (.builtin "type.__call__" ⟨.ref C :: rest, []⟩)) (.call (.ref fI) ⟨.ref (h0.objs.size + 1) :: rest, []⟩) (PySem.W.InitBack (h0.objs.size + 1) R) ⟨(h0.push (PySem.W.kdv_tup rest)).push (PySem.HandSPX.excO C h0.objs.size), g, d, t, os⟩ →
  codeAny (model P w) A (.call (.ref C) ⟨rest, []⟩) R ⟨h0, g, d, t, os⟩
theorem makes_of {P : Program} {w : World} {K : PySem.W.Frag} {C fI : Addr} {B newId initId : String} {tail : List Value} (F : ExcBaseFacts B newId initId tail) (T : ExC K C tail newId) (iC : PySem.W.findIn K (.ref C) "__init__" = some (some (.ref fI)))
    (tI : PySem.W.typeIn K (.ref fI) = some (.type "function")) : Makes P w K C fI := by
  intro A R h0 g d t os rest inK few run
  obtain ⟨nm, q, N, bs, sn, sub, ab, col, dd, k0, k1, k2, k3, k5, at_⟩ := T.cls
  exact PySem.HandSPX.call_own F (fun _ => rfl) (inK _ _ at_) (PySem.W.looks_findIn inK iC) (fun self => PySem.W.bind_fn inK self tI) few run
/-- C(e, ..) as a value, its __init__ keeping sp -/
def tMade (C : Addr) (sp : Sp) (ta : TA) : TE := fun σ H Q => ta σ H fun vs H1 => vs.length ≤ 1000 ∧ ∀ a, H1 a = none → sp (.ref a :: vs) (upd H1 a (exo a C none)) (fun v H2 => v = .non ∧ Q (.ref a) H2) (fun _ _ _ => False)
section
variable {X : Cx} {o e : Expr} {es : List Expr} {to te : TE} {ta : TA} {f : Str} {p p' p1 p2 pos : Pos} {tail : List Value} {newId : String}
theorem ps_first (ho : PE X o to) (he : PE X e te) (hs : swapsWith e (some (.Attribute o f p')) pos.line X.env = pure false := by rfl) : PS X (.Assign [.Attribute o f p'] e pos) (tFirst X.K f to te) := by
  constructor
  intro pins s σ H D I h
  refine plainObj_wpAny_Assign_Attribute (thn (he.run pins s σ H _ I h) fun v s1 got => ?_) hs
  obtain ⟨y, H1, I1, r1, q1⟩ := got
  refine thn (ho.run pins s1 σ H1 _ I1 q1) fun u s2 got => ?_
  obtain ⟨x, H2, I2, r2, a, C, tail, newId, ex, T, no, ea, q⟩ := got
  subst ex
  obtain rfl : u = Value.ref a := r2
  exact set_first T I2 ea no r1 fun dx s' n ne J => ⟨σ, _, J, q dx n ne⟩
theorem pe_made {CX : CXT} {x : Str} {C fI : Addr} {k : Nat} {fd : FuncData} {ps : List Str} {sp : Sp} (M : Makes X.prog X.w X.K C fI) (kC : PySem.W.keepIn X.K (.ref C) = true)
    (F1 : FnOk X.prog X.w X.K X.mg X.base CX k fI fd ps sp) (hr : Room (k + 1) X.A) (hb : Binds X.K fd ps []) (hx : Passes CX X (fun _ _ _ => False)) (hg : Gl X x) (hm : X.mg x = some (.ref C)) (ha : PA X (e :: es) ta)
    (hdb : (x == ("__debug__" : Str)) = false := by decide) (he : starEach (e :: es) X.env = (false, eval e X.env) :: starEach es X.env := by rfl) (hpl : (backTo pos (starEach es X.env)).any (·.1) = false := by rfl) :
    PE X (.Call (.Name x p) (e :: es) [] pos) (tMade C sp ta) := by
  constructor
  intro pins s σ H Q I h
  refine wpAny_Call_Name_kw (ld_glob I hg hm ?_ hdb)
  refine PySem.W.callWith_K (h₀ := X.base) I.ok.mod.kin kC (thn (ha.run pos pins s σ H _ I h) fun us s1 got => ?_) he hpl
  obtain ⟨vs, H1, I1, r1, hz, q1⟩ := got
  refine ⟨I1.kIn, ?_⟩
  show wpAny _ _ (call (.ref C) us) _ _ _
  obtain ⟨h0, g, dr, tk, os⟩ := s1
  have le : h0.objs.size ≤ h0.objs.size + 1 := Nat.le_succ _
  have hn : H1 (h0.objs.size + 1) = none := I1.hok.fresh le
  have hq := q1 (h0.objs.size + 1) hn
  have keep : ∀ b o, h0.get? b = some o → ((h0.push (PySem.W.kdv_tup us)).push (PySem.HandSPX.excO C h0.objs.size)).get? b = some o := fun b o e => Heap.get?_push_of_some _ (Heap.get?_push_of_some _ e)
  have laid : ((h0.push (PySem.W.kdv_tup us)).push (PySem.HandSPX.excO C h0.objs.size)).get? (h0.objs.size + 1) = some (PySem.HandSPX.excO C h0.objs.size) := by heap_get
  have I2 : Inv X pins σ (upd H1 (h0.objs.size + 1) (exo (h0.objs.size + 1) C none)) ⟨(h0.push (PySem.W.kdv_tup us)).push (PySem.HandSPX.excO C h0.objs.size), g, dr, tk, os⟩ := I1.laid (t' := tk) keep le (exo_ok laid)
  have r2 : Vals (V.ref (h0.objs.size + 1) :: vs) (Value.ref (h0.objs.size + 1) :: us) := .cons rfl r1
  have few : (Value.ref (h0.objs.size + 1) :: us).length = ps.length := by
    have e := r2.length
    rw [F1.len _ _ _ _ hq] at e
    exact e.symm
  have small : us.length ≤ sizeLine := by
    rw [← Paired.length r1, sizeLine_eq]
    omega
  have bound := hb _ (Value.ref (h0.objs.size + 1) :: us) I2.kIn (by simpa using few)
  refine wpAny_call (M _ _ h0 g dr tk os us I1.kIn small ?_)
  have run := F1.run _ X.stack _ _ ⟨Value.ref (h0.objs.size + 1) :: us, []⟩ (Value.ref (h0.objs.size + 1) :: us) _ _ (fun _ _ _ => False) (hr.make C us []) (I2.env0.make C us []) (by simpa using bound) r2 hq
  refine codeAny_mono run fun r s' got => ?_
  cases r with
  | error er => exact hx pins σ _ _ er s' I2 got
  | ok fl =>
    cases fl with
    | ret u =>
      obtain ⟨v, H', I3, rv, ev, q3⟩ := I2.after got
      subst ev
      exact ⟨rv, ⟨V.ref (h0.objs.size + 1), H', I3, rfl, q3⟩⟩
    | next => exact False.elim got
    | brk => exact False.elim got
    | cont => exact False.elim got
end
end EX

set_option Elab.async false
set_option linter.all false
set_option maxRecDepth 100000
set_option maxHeartbeats 4000000
namespace EX
open PySem PySem.Spec PyProof.Rows L2 PySem.HandSPX PySem.Builtin PySem.Builtin.ObjectAttr
section
variable {M : Model} {A : Around} {E : Value → Shared → Prop} {h : Heap} {g : Array GenState} {d : Drawn} {t : Nat} {os : OsState}
variable {nm q : Str} {C N : Addr} {bs bm bB : List Value} {hdct : Bool} {sn : List Str} {sub : List Value} {ab : Bool} {col : Option Bool} {dd : Option Addr} {k0 k1 k2 k3 k5 : Option Value} {B newId initId : String}
theorem check_newK (F : ExcBaseFacts B newId initId bB) (has : bm.contains (.type B) = true) {rest : List Value} {k : Str} {v : Value} {Q : Unit → Shared → Prop}
    (hC : h.get? C = some (excClassObj nm q C N bs bm hdct sn sub ab col dd k0 k1 k2 k3 k5 newId)) (hq : Q () ⟨h, g, d, t, os⟩) : wpAny M A (checkBuiltinCall newId ⟨.ref C :: rest, [(k, v)]⟩) Q E ⟨h, g, d, t, os⟩ := by
  have cont : (Value.ref C :: bm).contains (.type B) = true := by rw [List.contains_cons, has, Bool.or_true]
  have star := F.noStar
  simp only [checkBuiltinCall, F.newKind, F.newSplit, F.newRow]
  repeat (first
    | refine wpAny_loadPart_at hC ?_
    | (refine wpAny_isSubtype_exc hC ?_; rw [cont])
    | refine wpAny_staticBase_exc hC ?_
    | refine wpAny_madeBy_exc hC ?_
    | simp only [bne_self_eq_false, Bool.false_eq_true, if_false]
    | wp_step)
  exact hq
theorem check_new0 (F : ExcBaseFacts B newId initId bB) (has : bm.contains (.type B) = true) {rest : List Value} {Q : Unit → Shared → Prop}
    (hC : h.get? C = some (excClassObj nm q C N bs bm hdct sn sub ab col dd k0 k1 k2 k3 k5 newId)) (hq : Q () ⟨h, g, d, t, os⟩) : wpAny M A (checkBuiltinCall newId ⟨.ref C :: rest, []⟩) Q E ⟨h, g, d, t, os⟩ := by
  have cont : (Value.ref C :: bm).contains (.type B) = true := by rw [List.contains_cons, has, Bool.or_true]
  have star := F.noStar
  simp only [checkBuiltinCall, F.newKind, F.newSplit, F.newRow]
  repeat (first
    | refine wpAny_loadPart_at hC ?_
    | (refine wpAny_isSubtype_exc hC ?_; rw [cont])
    | refine wpAny_staticBase_exc hC ?_
    | refine wpAny_madeBy_exc hC ?_
    | simp only [bne_self_eq_false, Bool.false_eq_true, if_false]
    | wp_step)
  exact hq
end
section
variable {prog : Program} {w : World} {A : Around} {E : Value → Shared → Prop} {R : Result → Shared → Prop} {h : Heap} {g : Array GenState} {d : Drawn} {t : Nat} {os : OsState}
variable {nm q : Str} {C N : Addr} {bs bm bB : List Value} {hdct : Bool} {sn : List Str} {sub : List Value} {ab : Bool} {col : Option Bool} {dd : Option Addr} {k0 k1 k2 k3 k5 : Option Value} {B newId initId : String}
theorem newK (F : ExcBaseFacts B newId initId bB) (has : bm.contains (.type B) = true) (noA : bm.contains (.type "AttributeError") = false) (noN : bm.contains (.type "NameError") = false) {rest : List Value} {kw : List (Str × Value)}
    (hC : h.get? C = some (excClassObj nm q C N bs bm hdct sn sub ab col dd k0 k1 k2 k3 k5 newId))
    (hq : R (.ok (.ret (.ref (h.objs.size + 1)))) ⟨(h.push (PySem.W.kdv_tup rest)).push (excO C h.objs.size), g, d, t, os⟩) (few : rest.length ≤ sizeLine) :
    codeAny (model prog w) A (.builtin newId ⟨.ref C :: rest, kw⟩) R ⟨h, g, d, t, os⟩ := by
  have ends := F.ends
  have cB : (Value.ref C :: bm).contains (.type B) = true := by rw [List.contains_cons, has, Bool.or_true]
  have cA : (Value.ref C :: bm).contains (.type "AttributeError") = false := by
    rw [List.contains_cons, noA]
    rfl
  have cN : (Value.ref C :: bm).contains (.type "NameError") = false := by
    rw [List.contains_cons, noN]
    rfl
  refine codeAny_builtinAt F.entry ?_
  unfold Builtin.«BaseException.__new__»
  refine PySem.wpAt_bind ?_
  show PySem.wpAt _ _ _ (stack >>= _) _ _ _
  refine PySem.wpAt_bind (PySem.wpAt_stack fun p below => PySem.wpAt_of_wpAny ?_)
  wp_walk
  refine PySem.wpAt_of_wpAny ?_
  rw [F.owner]
  repeat (first
    | with_reducible refine wpAny_madeHere_exc F.canon hC ?_
    | with_reducible refine wpAny_loadPart_at hC ?_
    | (with_reducible refine wpAny_isSubtype_exc hC ?_; first | rw [cB] | rw [cA] | rw [cN])
    | wp_step)
  show R _ _
  rw [Heap.size_push]
  exact hq
end
end EX

set_option Elab.async false
set_option linter.all false
set_option maxRecDepth 100000
set_option maxHeartbeats 4000000
namespace EX
open PySem PySem.Spec PyProof.Rows L2 PySem.HandSPX PySem.Builtin PySem.Builtin.ObjectAttr
section
variable {prog : Program} {w : World} {A : Around} {E : Value → Shared → Prop} {R : Result → Shared → Prop} {h : Heap} {g : Array GenState} {d : Drawn} {t : Nat} {os : OsState}
variable {nm q : Str} {C N : Addr} {bs bm bB : List Value} {hdct : Bool} {sn : List Str} {sub : List Value} {ab : Bool} {col : Option Bool} {dd : Option Addr} {k0 k1 k2 k3 k5 : Option Value} {B newId initId : String}
theorem type_callK (F : ExcBaseFacts B newId initId bB) (has : bm.contains (.type B) = true) (noA : bm.contains (.type "AttributeError") = false) (noN : bm.contains (.type "NameError") = false) {rest : List Value} {kw : List (Str × Value)} {fI : Addr} {Q : Fin → Shared → Prop}
    (hC : h.get? C = some (excClassObj nm q C N bs bm hdct sn sub ab col dd k0 k1 k2 k3 k5 newId)) (one : kw = [] ∨ ∃ k v, kw = [(k, v)])
    (hi : PySem.W.Looks (model prog w) h (typeLookup (.ref C) "__init__") (some (.ref fI))) (hb : ∀ self, PySem.W.Looks (model prog w) h (bindSpecial (.ref fI) self) (.ref fI, [self])) (few : rest.length ≤ sizeLine)
    (hq : codeAny (model prog w) A (.call (.ref fI) ⟨.ref (h.objs.size + 1) :: rest, kw⟩)
      (fun r s' => match r with | .ok (.ret v) => v = .none ∧ Q (.done (.ret (.ref (h.objs.size + 1)))) s' | .ok _ => False | .error e => E e s')
      ⟨(h.push (PySem.W.kdv_tup rest)).push (excO C h.objs.size), g, d, t, os⟩) :
    wpAny (model prog w) A (Builtin.«type.__call__» ⟨.ref C :: rest, kw⟩) Q E ⟨h, g, d, t, os⟩ := by
  repeat (first | with_reducible refine wpAny_loadPart_at hC ?_ | with_reducible refine wpAny_madeBy_exc hC ?_ | wp_step)
  refine codeAny_call_builtin_code (Code.quiet_builtin _ F.quiet) ?_
  have check : ∀ {Q' : Unit → Shared → Prop} {E' : Value → Shared → Prop}, Q' () ⟨h, g, d, t, os⟩ → wpAny (model prog w) A.in1 (checkBuiltinCall newId ⟨.ref C :: rest, kw⟩) Q' E' ⟨h, g, d, t, os⟩ := fun q => by
    rcases one with rfl | ⟨k, v, rfl⟩
    · exact check_new0 F has hC q
    · exact check_newK F has hC q
  refine check ?_
  refine newK F has noA noN hC ?_ few
  show wpAny _ _ _ _ _ _
  have keep : ∀ b o, h.get? b = some o → ((h.push (PySem.W.kdv_tup rest)).push (excO C h.objs.size)).get? b = some o := fun b o e => Heap.get?_push_of_some _ (Heap.get?_push_of_some _ e)
  have hC1 := keep _ _ hC
  have laid : ((h.push (PySem.W.kdv_tup rest)).push (excO C h.objs.size)).get? (h.objs.size + 1) = some (excO C h.objs.size) := by heap_get
  have cC : (Value.ref C :: bm).contains (.ref C) = true := by simp
  have i1 := hi.keeps keep
  have b1 := (hb (.ref (h.objs.size + 1))).keeps keep
  unfold isInstance
  repeat (first | with_reducible refine wpAny_loadPart_at laid ?_ | (with_reducible refine wpAny_isSubtype_exc hC1 ?_; rw [cC]) | wp_step)
  show wpAny _ _ (typeLookup (.ref C) _) _ _ _
  refine i1.at ?_
  refine wpAny_holding (wpAny_bind (b1.at ?_))
  refine wpAny_bind (wpAny_call (codeAny_mono hq fun r s' z => ?_))
  rcases r with e | (v | _ | _ | _) <;> first | exact z | exact z.elim | skip
  obtain ⟨rfl, z⟩ := z
  first
    | exact wpAny_pure (wpAny_pure z)
    | (wp_walk; exact z)
theorem callK (F : ExcBaseFacts B newId initId bB) (has : bm.contains (.type B) = true) (noA : bm.contains (.type "AttributeError") = false) (noN : bm.contains (.type "NameError") = false) {rest : List Value} {kw : List (Str × Value)} {fI : Addr}
    (hC : h.get? C = some (excClassObj nm q C N bs bm hdct sn sub ab col dd k0 k1 k2 k3 k5 newId)) (one : kw = [] ∨ ∃ k v, kw = [(k, v)])
    (hi : PySem.W.Looks (model prog w) h (typeLookup (.ref C) "__init__") (some (.ref fI))) (hb : ∀ self, PySem.W.Looks (model prog w) h (bindSpecial (.ref fI) self) (.ref fI, [self])) (few : rest.length ≤ sizeLine)
    (hq : codeAny (model prog w) (A.under (.builtin "type.__call__" ⟨.ref C :: rest, kw⟩)) (.call (.ref fI) ⟨.ref (h.objs.size + 1) :: rest, kw⟩) (PySem.W.InitBack (h.objs.size + 1) R)
      ⟨(h.push (PySem.W.kdv_tup rest)).push (excO C h.objs.size), g, d, t, os⟩) :
    codeAny (model prog w) A (.call (.ref C) ⟨rest, kw⟩) R ⟨h, g, d, t, os⟩ := by
  have look := tc_lookup
  have bind := tc_bind (.ref C)
  have ty : (⟨h, g, d, t, os⟩ : Shared).TypeIs (.ref C) "type" := ⟨_, hC, rfl⟩
  refine codeAny_of_tree ?_
  show wpAny _ _ (callAny (.ref C) _) _ _ _
  repeat (any_goals (first | assumption | with_reducible refine wpAny_loadPart_at hC ?_ | wp_step))
  refine ⟨rfl, ?_⟩
  refine codeAny_call_builtin_at (Code.quiet_builtin _ (by decide +kernel)) entry_typeCall ?_
  have check : ∀ {Q' : Unit → Shared → Prop} {E' : Value → Shared → Prop}, Q' () ⟨h, g, d, t, os⟩ → wpAny (model prog w) A.in1 (checkBuiltinCall "type.__call__" ⟨.ref C :: rest, kw⟩) Q' E' ⟨h, g, d, t, os⟩ := fun hq => by
    have sub3 := tc_sub
    rcases one with rfl | ⟨k, v, rfl⟩
    all_goals
      simp only [checkBuiltinCall, tc_kind, tc_split]
      repeat (any_goals (first
        | assumption
        | with_reducible refine wpAny_loadPart_at hC ?_
        | with_reducible refine wpAny_onRaise ?_
        | with_reducible refine wpAny_map ?_
        | wp_step))
  refine check ?_
  refine type_callK F has noA noN hC one hi hb few ?_
  refine codeAny_mono hq fun r s' z => ?_
  rcases r with e | (v | _ | _ | _) <;> exact z
end
end EX

set_option Elab.async false
set_option linter.all false
set_option maxRecDepth 100000
set_option maxHeartbeats 4000000
namespace EX
open PySem PySem.Spec PyProof.Rows L2 GG
/-- an exception as it stands: its class, its fields -/
def IsExc (H : Hp) (a C : Addr) (fs : List (Str × V)) : Prop := (fs = [] ∧ H a = some (exo a C none)) ∨ ∃ dx, H a = some (exo a C (some dx)) ∧ H dx = some (exd dx fs)
structure ExIs (K : PySem.W.Frag) (C : Addr) : Prop where
  cl : (PySem.W.clsIn K C).isSome = true
  ga : PySem.W.findIn K (.ref C) "__getattribute__" = some (some (.builtin "BaseException.__getattribute__"))
  gg : PySem.W.findIn K (.ref C) "__getattr__" = some none
  ex : PySem.W.subIn K (.ref C) (.type "BaseException") = some true
  hd : PySem.W.hasDictIn K C = true
  kl : PySem.W.findIn K (.ref C) "__class__" = some (some (.builtin "object.__class__"))
  gt : PySem.W.specialIn K (.builtin "object.__class__") "__get__" = some (some (.builtin "getset_descriptor.__get__"))
  tk : PySem.W.takesIn K (.builtin "object.__class__") = some true
  ob : PySem.W.mroIn K C (.type "object") = some true
section
variable {X : Cx} {pins : List (Addr × Obj)} {σ : L2.St} {H : Hp} {s : Shared} {a C : Addr} {fs : List (Str × V)}
theorem IsExc.inst (x : IsExc H a C fs) (I : Inv X pins σ H s) : ∃ ox od, PySem.W.InstAt s.heap a ox C od := by
  rcases x with ⟨_, ea⟩ | ⟨dx, ea, ed⟩
  · obtain ⟨t1, ho⟩ := exo_at I.hok ea
    exact ⟨_, none, ho, rfl, rfl, trivial⟩
  · obtain ⟨t1, ho⟩ := exo_at I.hok ea
    obtain ⟨mA, hns, _⟩ := exd_at I.hok ed
    obtain ⟨od, hd, _⟩ := lookIn_ns hns
    exact ⟨_, some od, ho, rfl, rfl, hd⟩
/-- isinstance(e, D), D a class of the program or a built-in one -/
def rIsE (K : PySem.W.Frag) : List V → Hp → VK → Prop := fun vs H Q => ∃ (a C : Addr) (fs : List (Str × V)) (c : V) (cv : Value) (b : Bool), vs = [.ref a, c] ∧ (∀ u, RelV c u → u = cv) ∧ IsExc H a C fs ∧ ExIs K C ∧ PySem.W.kitOne K (.ref C) cv = some b ∧ Q (.bl b) H
theorem call_isE : CallR X (.builtin "isinstance") (rIsE X.K) := by
  intro pins s σ H vs us Q I r h
  obtain ⟨a, C, fs, c, cv, b, rfl, only, hx, T, e, q⟩ := h
  obtain ⟨ox, od, J⟩ := hx.inst I
  cases r with
  | cons ra rr =>
    cases rr with
    | cons rc rr =>
      cases rr
      cases ra
      rw [only _ rc]
      refine PySem.W.kia_one (PySem.W.kitx_exc (ox := ox) (od := od) T.cl T.ga T.gg T.ex T.kl T.gt T.tk T.ob) I.kIn J e (fun z => nomatch z) fun tk => ?_
      exact ⟨.bl b, H, I.kept (t' := tk) fun _ _ z => z, rfl, q⟩
/-- e.f -/
def tExf (K : PySem.W.Frag) (f : Str) (te : TE) : TE := fun σ H Q => te σ H fun x H1 => ∃ (a C : Addr) (fs : List (Str × V)) (v : V), x = .ref a ∧ IsExc H1 a C fs ∧ ExIs K C ∧ PySem.W.findIn K (.ref C) f = some none ∧ fs.lookup f = some v ∧ Q v H1
theorem pe_exf {e : Expr} {te : TE} {pos : Pos} {f : Str} (he : PE X e te) (base : attributeBase e f X.env (eval e X.env) = eval e X.env := by rfl) : PE X (.Attribute e f pos) (tExf X.K f te) := by
  constructor
  intro pins s σ H Q I h
  refine attr_of base (thn (he.run pins s σ H _ I h) fun u s1 got => ?_)
  obtain ⟨x, H1, I1, rx, a, C, fs, v, ex, hx, T, no, lv, q⟩ := got
  subst ex
  obtain rfl : u = Value.ref a := rx
  rcases hx with ⟨rfl, _⟩ | ⟨dx, ea, ed⟩
  · cases lv
  · obtain ⟨t1, ho⟩ := exo_at I1.hok ea
    obtain ⟨mA, hns, rel⟩ := exd_at I1.hok ed
    obtain ⟨od, hd, hl⟩ := lookIn_ns hns
    obtain ⟨u, hu, ru⟩ := RelO.some_of (v := v) (o := mA f) (by rw [← lv]; exact rel f)
    have J : PySem.W.InstAt s1.heap a _ C (some od) := ⟨ho, rfl, rfl, hd⟩
    refine HandSPX.exc_get I1.kIn J T.ga T.gg T.ex (PySem.W.findObj_own T.hd no rfl (by rw [hl, hu])) (handed_of ru) ?_
    exact ⟨v, H1, I1.tok _, ru, q⟩
end
/-- how an exception is made by a call, with at most one keyword -/
def MakesK (P : Program) (w : World) (K : PySem.W.Frag) (C fI : Addr) : Prop := ∀ (A : Around) (R : Result → Shared → Prop) (h0 : Heap) (g : Array GenState) (d : Drawn) (t : Nat) (os : OsState) (rest : List Value) (kw : List (Str × Value)), K.In h0 → rest.length ≤ sizeLine → (kw = [] ∨ ∃ k v, kw = [(k, v)]) →
  codeAny (model P w) (A.under (.builtin "type.__call__" ⟨.ref C :: rest, kw⟩)) (.call (.ref fI) ⟨.ref (h0.objs.size + 1) :: rest, kw⟩) (PySem.W.InitBack (h0.objs.size + 1) R) ⟨(h0.push (PySem.W.kdv_tup rest)).push (PySem.HandSPX.excO C h0.objs.size), g, d, t, os⟩ →
  codeAny (model P w) A (.call (.ref C) ⟨rest, kw⟩) R ⟨h0, g, d, t, os⟩
theorem makesK_of {P : Program} {w : World} {K : PySem.W.Frag} {C fI : Addr} {B newId initId : String} {bB tail : List Value} (F : ExcBaseFacts B newId initId bB) (T : ExC K C tail newId) (has : tail.contains (.type B) = true) (noA : tail.contains (.type "AttributeError") = false)
    (noN : tail.contains (.type "NameError") = false) (iC : PySem.W.findIn K (.ref C) "__init__" = some (some (.ref fI))) (tI : PySem.W.typeIn K (.ref fI) = some (.type "function")) : MakesK P w K C fI := by
  intro A R h0 g d t os rest kw inK few one run
  obtain ⟨nm, q, N, bs, sn, sub, ab, col, dd, k0, k1, k2, k3, k5, at_⟩ := T.cls
  exact callK F has noA noN (inK _ _ at_) one (PySem.W.looks_findIn inK iC) (fun self => PySem.W.bind_fn inK self tI) few run
theorem MakesK.plain {P : Program} {w : World} {K : PySem.W.Frag} {C fI : Addr} (M : MakesK P w K C fI) : Makes P w K C fI := fun A R h0 g d t os rest inK few run => M A R h0 g d t os rest [] inK few (.inl rfl) run
/-- C(k = e) as a value -/
def tMadeK (C : Addr) (sp : Sp) (tk : TA) : TE := fun σ H Q => tk σ H fun zs H1 => zs.length = 1 ∧ ∀ a, H1 a = none → sp (.ref a :: zs) (upd H1 a (exo a C none)) (fun v H2 => v = .non ∧ Q (.ref a) H2) (fun _ _ _ => False)
section
variable {X : Cx} {CX : CXT} {x kn : Str} {C fI : Addr} {k : Nat} {fd : FuncData} {ps : List Str} {sp : Sp} {p pos kp : Pos} {e : Expr} {tk : TA}
theorem pe_madeK (M : MakesK X.prog X.w X.K C fI) (kC : PySem.W.keepIn X.K (.ref C) = true) (F1 : FnOk X.prog X.w X.K X.mg X.base CX k fI fd ps sp) (hr : Room (k + 1) X.A)
    (hb : KBn X.K fd ps 1 [kn] (fun us ws => us ++ ws) (fun vs zs => vs ++ zs)) (hx : Passes CX X (fun _ _ _ => False)) (hg : Gl X x) (hm : X.mg x = some (.ref C)) (ha : PK X [⟨some kn, e, kp⟩] tk)
    (hdb : (x == ("__debug__" : Str)) = false := by decide) (names : (backToKw pos (keywordEach [⟨some kn, e, kp⟩] X.env)).filterMap (·.1) = [kn] := by rfl) (all : (backToKw pos (keywordEach [⟨some kn, e, kp⟩] X.env)).all (·.1.isSome) = true := by rfl)
    (plain : ((backTo pos (starEach [] X.env)).any (·.1) || (backToKw pos (keywordEach [⟨some kn, e, kp⟩] X.env)).any (·.1.isNone)) = false := by rfl) :
    PE X (.Call (.Name x p) [] [⟨some kn, e, kp⟩] pos) (tMadeK C sp tk) := by
  constructor
  intro pins s σ H Q I h
  refine wpAny_Call_Name_kw (ld_glob I hg hm ?_ hdb)
  apply PySem.W.callWith_KW0 I.ok.mod.kin kC all _ plain
  refine thn (ha.run pos pins s σ H _ I h) fun ws s1 got => ?_
  obtain ⟨zs, H1, I1, rz, lz, q1⟩ := got
  refine ⟨I1.kIn, ?_⟩
  rw [names]
  show wpAny _ _ (call (.ref C) [] ([kn].zip ws)) _ _ _
  have lw : ws.length = 1 := by rw [← rz.length]; exact lz
  obtain ⟨h0, g, dr, t0, os⟩ := s1
  have le : h0.objs.size ≤ h0.objs.size + 1 := Nat.le_succ _
  have hn : H1 (h0.objs.size + 1) = none := I1.hok.fresh le
  have hq := q1 (h0.objs.size + 1) hn
  have keep : ∀ b o, h0.get? b = some o → ((h0.push (PySem.W.kdv_tup [])).push (PySem.HandSPX.excO C h0.objs.size)).get? b = some o := fun b o e => Heap.get?_push_of_some _ (Heap.get?_push_of_some _ e)
  have laid : ((h0.push (PySem.W.kdv_tup [])).push (PySem.HandSPX.excO C h0.objs.size)).get? (h0.objs.size + 1) = some (PySem.HandSPX.excO C h0.objs.size) := by heap_get
  have I2 : Inv X pins σ (upd H1 (h0.objs.size + 1) (exo (h0.objs.size + 1) C none)) ⟨(h0.push (PySem.W.kdv_tup [])).push (PySem.HandSPX.excO C h0.objs.size), g, dr, t0, os⟩ := I1.laid (t' := t0) keep le (exo_ok laid)
  have r1 : Vals [V.ref (h0.objs.size + 1)] [Value.ref (h0.objs.size + 1)] := .cons rfl .nil
  have r2 := hb.rel r1 rz
  have one : [kn].zip ws = [] ∨ ∃ k v, [kn].zip ws = [(k, v)] := by
    match ws, lw with
    | [v], _ => exact .inr ⟨kn, v, rfl⟩
  refine wpAny_call (M _ _ h0 g dr t0 os [] ([kn].zip ws) I1.kIn (Nat.zero_le _) one ?_)
  have run := F1.run _ X.stack _ _ ⟨[Value.ref (h0.objs.size + 1)], [kn].zip ws⟩ ([Value.ref (h0.objs.size + 1)] ++ ws) _ _ (fun _ _ _ => False) (hr.make C [] ([kn].zip ws)) (I2.env0.make C [] ([kn].zip ws)) (hb.to _ [Value.ref (h0.objs.size + 1)] ws I2.kIn rfl lw) r2 hq
  refine codeAny_mono run fun r s' got => ?_
  cases r with
  | error er => exact hx pins σ _ _ er s' I2 got
  | ok fl =>
    cases fl with
    | ret u =>
      obtain ⟨v, H', I3, rv, ev, q3⟩ := I2.after got
      subst ev
      exact ⟨rv, ⟨V.ref (h0.objs.size + 1), H', I3, rfl, q3⟩⟩
    | next => exact False.elim got
    | brk => exact False.elim got
    | cont => exact False.elim got
end
end EX

set_option Elab.async false
set_option linter.all false
set_option maxRecDepth 100000
set_option maxHeartbeats 4000000
namespace EX
open PySem PySem.Spec PyProof.Rows L2 GG
/-- C() as a value -/
def tMade0 (C : Addr) (sp : Sp) : TE := fun σ H Q => ∀ a, H a = none → sp [.ref a] (upd H a (exo a C none)) (fun v H2 => v = .non ∧ Q (.ref a) H2) (fun _ _ _ => False)
section
variable {X : Cx} {CX : CXT} {x : Str} {C fI : Addr} {k : Nat} {fd : FuncData} {ps : List Str} {sp : Sp} {p pos : Pos}
theorem pe_made0 (M : Makes X.prog X.w X.K C fI) (kC : PySem.W.keepIn X.K (.ref C) = true) (F1 : FnOk X.prog X.w X.K X.mg X.base CX k fI fd ps sp) (hr : Room (k + 1) X.A) (hb : Binds X.K fd ps []) (hx : Passes CX X (fun _ _ _ => False)) (hg : Gl X x) (hm : X.mg x = some (.ref C))
    (hdb : (x == ("__debug__" : Str)) = false := by decide) : PE X (.Call (.Name x p) [] [] pos) (tMade0 C sp) := by
  constructor
  intro pins s σ H Q I h
  refine wpAny_Call_Name_kw (ld_glob I hg hm ?_ hdb)
  refine PySem.W.callWith_K0 I.kIn kC ?_
  show wpAny _ _ (call (.ref C) []) _ _ _
  obtain ⟨h0, g, dr, t0, os⟩ := s
  have le : h0.objs.size ≤ h0.objs.size + 1 := Nat.le_succ _
  have hq := h (h0.objs.size + 1) (I.hok.fresh le)
  have keep : ∀ b o, h0.get? b = some o → ((h0.push (PySem.W.kdv_tup [])).push (PySem.HandSPX.excO C h0.objs.size)).get? b = some o := fun b o e => Heap.get?_push_of_some _ (Heap.get?_push_of_some _ e)
  have laid : ((h0.push (PySem.W.kdv_tup [])).push (PySem.HandSPX.excO C h0.objs.size)).get? (h0.objs.size + 1) = some (PySem.HandSPX.excO C h0.objs.size) := by heap_get
  have I2 : Inv X pins σ (upd H (h0.objs.size + 1) (exo (h0.objs.size + 1) C none)) ⟨(h0.push (PySem.W.kdv_tup [])).push (PySem.HandSPX.excO C h0.objs.size), g, dr, t0, os⟩ := I.laid (t' := t0) keep le (exo_ok laid)
  have r2 : Vals [V.ref (h0.objs.size + 1)] [Value.ref (h0.objs.size + 1)] := .cons rfl .nil
  have few : [Value.ref (h0.objs.size + 1)].length = ps.length := by
    have e := r2.length
    rw [F1.len _ _ _ _ hq] at e
    exact e.symm
  have bound := hb _ [Value.ref (h0.objs.size + 1)] I2.kIn (by simpa using few)
  refine wpAny_call (M _ _ h0 g dr t0 os [] I.kIn (Nat.zero_le _) ?_)
  have run := F1.run _ X.stack _ _ ⟨[Value.ref (h0.objs.size + 1)], []⟩ [Value.ref (h0.objs.size + 1)] _ _ (fun _ _ _ => False) (hr.make C [] []) (I2.env0.make C [] []) (by simpa using bound) r2 hq
  refine codeAny_mono run fun r s' got => ?_
  cases r with
  | error er => exact hx pins σ _ _ er s' I2 got
  | ok fl =>
    cases fl with
    | ret u =>
      obtain ⟨v, H', I3, rv, ev, q3⟩ := I2.after got
      subst ev
      exact ⟨rv, ⟨V.ref (h0.objs.size + 1), H', I3, rfl, q3⟩⟩
    | next => exact False.elim got
    | brk => exact False.elim got
    | cont => exact False.elim got
end
/-- what __init__(self, x): self.x = x leaves -/
def spInit (K : PySem.W.Frag) (C : Addr) (f : Str) : Sp := fun vs H Q _ => ∃ (a : Addr) (y : V), vs = [.ref a, y] ∧ H a = some (exo a C none) ∧ ∀ dx, H dx = none → dx ≠ a → Q .non (upd (upd H dx (exd dx [(f, y)])) a (exo a C (some dx)))
end EX

set_option Elab.async false
set_option linter.all false
set_option maxRecDepth 100000
set_option maxHeartbeats 4000000
/-! raising own exceptions over any built-in base; several clauses with names; len of an own object; del xs[i:] -/
namespace RX
open PySem PySem.Spec PyProof.Rows L2 GG EX
section
variable {X : Cx} {e : Expr} {es : List Expr} {ta : TA} {p pos : Pos}
theorem pmk_k1 {CX : CXT} {x : Str} {C fI : Addr} {k : Nat} {fd : FuncData} {ps : List Str} {sp : Sp} (M : Makes X.prog X.w X.K C fI) (kC : PySem.W.keepIn X.K (.ref C) = true) (R : Raises X (.ref C))
    (F1 : FnOk X.prog X.w X.K X.mg X.base CX k fI fd ps sp) (hr : Room (k + 1) X.A) (hb : Binds X.K fd ps []) (hx : Passes CX X (fun _ _ _ => False)) (hg : Gl X x) (hm : X.mg x = some (.ref C)) (ha : PA X (e :: es) ta)
    (hdb : (x == ("__debug__" : Str)) = false := by decide) (he : starEach (e :: es) X.env = (false, eval e X.env) :: starEach es X.env := by rfl) (hpl : (backTo pos (starEach es X.env)).any (·.1) = false := by rfl) :
    PMk X (.Call (.Name x p) (e :: es) [] pos) (tMkO C sp [] ta) := by
  intro pins s σ H Q I h
  refine wpAny_Call_Name_kw (ld_glob I hg hm ?_ hdb)
  refine PySem.W.callWith_K (h₀ := X.base) I.ok.mod.kin kC (thn (ha.run pos pins s σ H _ I h) fun us s1 ⟨vs, H1, I1, r1, hz, q1⟩ => ⟨I1.kIn, ?_⟩) he hpl
  show wpAny _ _ (call (.ref C) us) _ _ _
  obtain ⟨hp, g, dr, tk, os⟩ := s1
  have hsz : hp.objs.size ≤ hp.objs.size + 1 := Nat.le_succ _
  have hn : H1 (hp.objs.size + 1) = none := I1.hok.fresh hsz
  have hq := q1 (hp.objs.size + 1) hn
  rw [List.append_nil] at hq
  have kk : ∀ b o, hp.get? b = some o → ((hp.push (PySem.W.kdv_tup us)).push (PySem.HandSPX.excO C hp.objs.size)).get? b = some o := fun b o e => Heap.get?_push_of_some _ (Heap.get?_push_of_some _ e)
  have hget : ((hp.push (PySem.W.kdv_tup us)).push (PySem.HandSPX.excO C hp.objs.size)).get? (hp.objs.size + 1) = some (PySem.HandSPX.excO C hp.objs.size) := by heap_get
  have I2 : Inv X pins σ (upd H1 (hp.objs.size + 1) (exo (hp.objs.size + 1) C none)) ⟨(hp.push (PySem.W.kdv_tup us)).push (PySem.HandSPX.excO C hp.objs.size), g, dr, tk, os⟩ :=
    I1.laid (t' := tk) (a := hp.objs.size + 1) (o := exo (hp.objs.size + 1) C none) (h' := (hp.push (PySem.W.kdv_tup us)).push (PySem.HandSPX.excO C hp.objs.size)) kk hsz (exo_ok hget)
  have r2 : Vals (V.ref (hp.objs.size + 1) :: vs) (Value.ref (hp.objs.size + 1) :: us) := .cons rfl r1
  have hl : (Value.ref (hp.objs.size + 1) :: us).length = ps.length := by
    have e := r2.length
    rw [F1.len _ _ _ _ hq] at e
    exact e.symm
  have hus : us.length ≤ sizeLine := by
    rw [← Paired.length r1, sizeLine_eq]
    omega
  have bound := hb _ (Value.ref (hp.objs.size + 1) :: us) I2.kIn (by simpa using hl)
  refine wpAny_call (M _ _ hp g dr tk os us I1.kIn hus
    (codeAny_mono (F1.run _ X.stack _ _ ⟨Value.ref (hp.objs.size + 1) :: us, []⟩ (Value.ref (hp.objs.size + 1) :: us) _ _ (fun _ _ _ => False) (hr.make C us []) (I2.env0.make C us []) (by simpa using bound) r2 hq) fun r s' hq' => ?_))
  cases r with
  | error er => exact hx pins σ _ _ er s' I2 hq'
  | ok fl =>
    cases fl with
    | ret u =>
      obtain ⟨v, H2, os2, bare2, un2, hok2, rv, ev, d, fs, ea, ed, hd1, q2⟩ := hq'
      subst ev
      obtain ⟨h2, g2, d2, t2, os'⟩ := s'
      exact ⟨rv, mk_end R I1 hsz kk un2 hok2 os2 bare2 ea ed hd1 q2⟩
    | next => exact False.elim hq'
    | brk => exact False.elim hq'
    | cont => exact False.elim hq'
end
/-! ### isinstance of what a clause has caught -/
section
variable {X : Cx} {a C : Addr} {oe : Obj} {d : Option Addr} {pn : List (Addr × Obj)}
/-- the dict of what was caught, as it stands -/
def DOk (H : Hp) (d : Option Addr) : Prop := match d with
  | none => True
  | some dd => ∃ fs, H dd = some (.xd fs)
def rIsX (K : PySem.W.Frag) (cls : Value) (a : Addr) (d : Option Addr) : List V → Hp → VK → Prop := fun vs H Q => ∃ (C : Addr) (c : V) (cv : Value) (b : Bool), vs = [.ref a, c] ∧ cls = .ref C ∧ ExIs K C ∧ (∀ u, RelV c u → u = cv) ∧ DOk H d ∧ PySem.W.kitOne K (.ref C) cv = some b ∧ Q (.bl b) H
theorem call_isX {cls : Value} (hz : Zc cls d oe) (hf : ∃ vs, oe.data = .fields vs) : CallR (X.suite a ((a, oe) :: pn)) (.builtin "isinstance") (rIsX X.K cls a d) := by
  intro pins s σ H vs us Q I r h
  obtain ⟨C, c, cv, b, rfl, rfl, T, only, dok, e, q⟩ := h
  obtain ⟨ha, _⟩ := I.pin (a, oe) (List.mem_append_left _ List.mem_cons_self)
  obtain ⟨fv, hd⟩ := hf
  have J : ∃ od, PySem.W.InstAt s.heap a oe C od := by
    cases d with
    | none => exact ⟨none, ha, hz.1, by unfold PySem.W.notCls; rw [hd] <;> rfl, by rw [hz.2]; trivial⟩
    | some dd =>
      obtain ⟨fs, ea⟩ := dok
      have hx : ObjOk X.prog X.w H s.heap dd (.xd fs) := I.hok dd _ ea
      obtain ⟨mA, hns, _⟩ := hx
      obtain ⟨od, ho, _⟩ := lookIn_ns hns
      exact ⟨some od, ha, hz.1, by unfold PySem.W.notCls; rw [hd] <;> rfl, by rw [hz.2]; exact ho⟩
  obtain ⟨od, J⟩ := J
  cases r with
  | cons ra rr =>
    cases rr with
    | cons rc rr =>
      cases rr
      cases ra
      rw [only _ rc]
      refine PySem.W.kia_one (PySem.W.kitx_exc (ox := oe) (od := od) T.cl T.ga T.gg T.ex T.kl T.gt T.tk T.ob) I.kIn J e (fun z => nomatch z) fun tk => ?_
      exact ⟨.bl b, H, I.kept (t' := tk) fun _ _ z => z, rfl, q⟩
end
/-! ### several clauses with a name each -/
def wManyAs (K : PySem.W.Frag) (i : Nat) (Wout : WX) (D : Ends) : List (Value × (Addr → Value → Option Addr → TS)) → WX
  | [] => Wout
  | (c, ts) :: r => fun cls d σ H => ∃ b, PySem.W.exmOne K cls c = some b ∧ (b = true → ∀ a, H a = none → ts a cls d { nx := fun σ' H' => D.nx (σ'.set i none) H', rt := D.rt, bk := fun σ' H' => D.bk (σ'.set i none) H', ct := fun σ' H' => D.ct (σ'.set i none) H' } (σ.set i (some (.ref a))) H) ∧
      (b = false → wManyAs K i Wout D r cls d σ H)
inductive HdsAs (X : Cx) (n : Str) : List ExceptHandler → List (Value × (Addr → Value → Option Addr → TS)) → Prop
  | nil : HdsAs X n [] []
  | cons {x : Str} {c : Value} {ts : Addr → Value → Option Addr → TS} {b₀ : Stmt} {suite : List Stmt} {np pos' : Pos} {hds : List ExceptHandler} {l : List (Value × (Addr → Value → Option Addr → TS))} (hc : Names X x c)
      (hsu : ∀ (a : Addr) (oe : Obj) (cls : Value) (d : Option Addr) (pn : List (Addr × Obj)), Zc cls d oe → (∃ vs, oe.data = .fields vs) → PSs (X.suite a ((a, oe) :: pn)) (b₀ :: suite) (ts a cls d)) (r : HdsAs X n hds l) :
      HdsAs X n (.ExceptHandler (some (.Name x np)) (some n) (b₀ :: suite) pos' :: hds) ((c, ts) :: l)
section
variable {X : Cx} {n : Str} {i : Nat} {body : List Stmt} {h₀ : ExceptHandler} {hds : List ExceptHandler} {l : List (Value × (Addr → Value → Option Addr → TS))} {pos : Pos} {tb : WX → TS} {Wout : WX}
theorem ps_try_manyAs (hs : X.stack = X.env :: X.outer) (hf : X.env.frame = some X.env.locals) (hN : X.N.Nodup) (hi : X.N[i]? = some n) (hln : X.env.kindOf n = some .local) (tk : Takes X Wout)
    (hb : ∀ (W : WX) (pn : List (Addr × Obj)) (xe : Value → Shared → Prop), Takes (X.tr pn xe) W → PassesOwn (model X.prog X.w) X.A X.env xe → PSs (X.tr pn xe) body (tb W))
    (hh : HdsAs X n (h₀ :: hds) l) : PS X (.Try body (h₀ :: hds) [] [] pos) (fun D σ H => tb (wManyAs X.K i Wout D l) D σ H) := by
  refine ⟨fun pins s σ H D I h => ?_⟩
  have ok := I.ok
  have hfr : X.A.frames = some (X.env :: X.outer) := by rw [ok.frames, hs]
  have hloc : Loc X.env.scope n := .inl hln
  refine wpAny_Try_except ?_
  refine wpAny_mono ((hb (wManyAs X.K i Wout D l) (X.pn ++ pins) (fun e s₁ => wpAny (model X.prog X.w) X.A (noteFrame e X.env) (fun _ s₂ => wpAny (model X.prog X.w) X.A (setFlight e none) (fun _ s₃ =>
    wpAny (model X.prog X.w) X.A (handleBy e X.env (h₀ :: hds)) (SP X pins D) X.xe s₃) X.xe s₂) X.xe s₁) (fun u s' xx => ?_) PassesOwn.looking).run [] s σ H D (I.toTry _) h) (fun f s1 hsp => ?_) (fun e s1 he => he)
  · obtain ⟨a, B, sI, pins', σ', H', cls, d, rfl, J', nb, up, sky, na, os, ag, w⟩ := xx
    have J : Inv X pins σ' H' sI := J'.ofTry ok
    have sky' : Sky B (X.env :: X.outer) a (Zc cls d) X.env.locals s'.heap := by rw [← hs]; exact sky
    show wpAny (model X.prog X.w) X.A (noteFrame (.ref a) X.env) _ _ _
    refine Sky.land Zc.steady hfr hf sky' fun h3 fl3 up3 => ?_
    have J3 : Inv X pins σ' H' { s' with heap := h3 } := J.landed nb fl3.1 (up.trans up3) os ag
    obtain ⟨oe3, vs3, he3, hz3, hd3⟩ := fl3.there
    have notFr : ∀ {h : Heap} {o : Obj} {vs : Array Value}, h.FunFrames B (X.env :: X.outer) → h.get? a = some o → o.data = .fields vs → a ∉ frs (X.env :: X.outer) := fun {h o vs} ff e dd hm => by
      obtain ⟨_, o', e', hnf⟩ := ff.mem hm
      rw [e] at e'; cases e'
      exact hnf _ dd
    have nfr := notFr fl3.2.2.1 he3 hd3
    have nL : a ≠ X.env.locals := fun z => nfr (List.mem_filterMap.mpr ⟨X.env, List.mem_cons_self, by rw [hf, z]⟩)
    have nF : a ∉ X.fs := fun hm => by
      obtain ⟨e, he, q⟩ := List.mem_filterMap.mp hm
      exact nfr (List.mem_filterMap.mpr ⟨e, List.mem_cons_of_mem _ he, q⟩)
    have S3 := J3.suite he3 hd3 na nL nF
    have go : ∀ {hds' : List ExceptHandler} {l' : List (Value × (Addr → Value → Option Addr → TS))}, HdsAs X n hds' l' → wManyAs X.K i Wout D l' cls d σ' H' →
        wpAny (model X.prog X.w) X.A (handleBy (.ref a) X.env hds') (SP X pins D) X.xe { s' with heap := h3 } := by
      intro hds' l' hk
      induction hk with
      | nil =>
        intro w
        refine wpAny_handleBy_nil ?_
        obtain ⟨k1, k2, k3, oe, vs, T, oT, ts', he, hz, hd, h1, hr⟩ := id fl3
        unfold PySem.passOn
        refine wpAny_bind (wpAny_field he hd h1 ?_)
        rw [if_neg (show ¬ ((Value.ref T == Value.none) = true) from by simp)]
        have fin : wpAny (model X.prog X.w) X.A (setFlight (.ref a) X.env.frame) (fun _ s4 => wpAny (model X.prog X.w) X.A (throw (.ref a) : Sem Flow) (SP X pins D) X.xe s4) X.xe { s' with heap := h3 } := by
          rw [hf]
          refine HandSPX.setFlight_upZ fl3 fun h4 hh4 up4 => wpAny_throw (tk _ _ ?_)
          exact ⟨a, B, sI, pins, σ', H', cls, d, rfl, J, nb, (up.trans up3).trans up4, .inr (.inr (by rw [hs]; exact hh4)), na, os, ag, w⟩
        first
          | exact wpAny_bind (wpAny_pure (wpAny_bind fin))
          | exact wpAny_bind fin
      | @cons x c ts b₀ suite np pos' hds2 l2 hc hsu r ih =>
        intro w
        obtain ⟨b, hb1, hyes, hno⟩ := w
        refine wpAny_handleBy_cons (codeAny_handlers_test ?_) (by intro q; cases q)
        have LT : PySem.W.Looks (model X.prog X.w) h3 (typeOf (.ref a)) cls := fun A Q E s k q => wpAny_typeOf_ref (k _ _ he3) (by rw [hz3.1]; exact q)
        have LM := PySem.W.exm_one (M := model X.prog X.w) (J3.kIn) LT hb1
        have test : ∀ {Q : Value → Shared → Prop} {E : Value → Shared → Prop}, Q c { s' with heap := h3 } → wpAny (model X.prog X.w) (X.A.mark (some (.ref a))) (eval (.Name x np) X.env) Q E { s' with heap := h3 } := fun {Q E} q => by
          obtain ⟨hg, hdbg, hm | ⟨hm, hv, hnn⟩⟩ := hc
          · exact ld_glob (X := X.suite a ((a, oe3) :: (X.pn ++ pins))) S3 hg hm q hdbg
          · exact ld_blt (X := X.suite a ((a, oe3) :: (X.pn ++ pins))) S3 hg hm hv q hnn hdbg
        refine test (LM.here ?_)
        cases b with
        | true =>
          refine codeAny_handlers_suite_as ?_
          refine HandSPX.lands_againZ fl3 fun h4 fl4 up4 => ?_
          have J4 : Inv X pins σ' H' { s' with heap := h4 } := J.landed nb fl4.1 ((up.trans up3).trans up4) os ag
          obtain ⟨oe4, vs4, he4, hz4, hd4⟩ := fl4.there
          have S4 := J4.suite he4 hd4 na nL nF
          refine store_ok (X := X.suite a ((a, oe4) :: (X.pn ++ pins))) (v := .ref a) S4 hN hi hloc rfl (fun s5 S5 => ?_) (.inr hln)
          refine wpAny_mono ((hsu a oe4 cls d (X.pn ++ pins) hz4 ⟨_, hd4⟩).run [] s5 _ H' _ S5 (hyes rfl a na)) (fun f s6 hsp => ?_) (fun _ _ z => False.elim z)
          have end_ : ∀ {σ6 : L2.St} {H6 : Hp} {Q : Shared → Prop}, Inv (X.suite a ((a, oe4) :: (X.pn ++ pins))) [] σ6 H6 s6 → (∀ s7, Inv X pins (σ6.set i none) H6 s7 → Q s7) →
              wpAny (model X.prog X.w) X.A (do bindName X.env n .none; unbindBehindTheSuite X.env n pos') (fun _ s7 => Q s7) X.xe s6 := fun {σ6 H6 Q} S6 hq => gone_ok (S6.unsuite ok) hN hi hln hq
          cases f with
          | next =>
            obtain ⟨σ6, H6, S6, q6⟩ := hsp
            exact end_ S6 fun s7 J7 => ⟨_, _, J7, q6⟩
          | brk =>
            obtain ⟨σ6, H6, S6, q6⟩ := hsp
            exact end_ S6 fun s7 J7 => ⟨_, _, J7, q6⟩
          | cont =>
            obtain ⟨σ6, H6, S6, q6⟩ := hsp
            exact end_ S6 fun s7 J7 => ⟨_, _, J7, q6⟩
          | ret u =>
            obtain ⟨v6, σ6, H6, S6, r6, q6⟩ := hsp
            exact end_ S6 fun s7 J7 => ⟨_, _, _, J7, r6, q6⟩
        | false =>
          show wpAny _ X.A (handleBy (.ref a) X.env hds2) _ _ _
          exact ih (hno rfl)
    exact go hh w
  · cases f with
    | next =>
      obtain ⟨σ', H', J', q⟩ := hsp
      exact wpAny_execs_nil ⟨σ', H', J'.ofTry ok, q⟩
    | brk =>
      obtain ⟨σ', H', J', q⟩ := hsp
      exact ⟨σ', H', J'.ofTry ok, q⟩
    | cont =>
      obtain ⟨σ', H', J', q⟩ := hsp
      exact ⟨σ', H', J'.ofTry ok, q⟩
    | ret u =>
      obtain ⟨v, σ', H', J', r, q⟩ := hsp
      exact ⟨v, σ', H', J'.ofTry ok, r, q⟩
end
/-! ### a method that may raise, the wish at the caller's slots -/
section
variable {X : Cx} {CX : CXT} {k : Nat} {f C : Addr} {fd : FuncData} {ps : List Str} {sp : Sp} {E : L2.St → XK} {m : Str} {pos apos : Pos} {e o : Expr} {es : List Expr} {ta : TE} {t : TA}
def tMethE (C : Addr) (m : Str) (sp : Sp) (E : L2.St → XK) (ta : TE) (t : TA) : TE := fun σ H Q => ta σ H fun x H1 => ∃ a dx fs, x = .ref a ∧ H1 a = some (.ins C dx fs) ∧ fs.lookup m = none ∧ t σ H1 fun vs H2 => sp (x :: vs) H2 Q (E σ)
theorem pe_methE {pl : Sem Bool} (he : PE X o ta) (c : Cls X.K C) (hm : Meth X.K C m f) (F : FnOk X.prog X.w X.K X.mg X.base CX k f fd ps sp) (hr : Room k X.A) (hb : Binds X.K fd ps []) (hx : ∀ σ, PassesAt CX X σ (E σ)) (ha : PA X (e :: es) t)
    (hst : starEach (e :: es) X.env = (false, eval e X.env) :: starEach es X.env := by rfl) (hpl : (backTo pos (starEach es X.env)).any (·.1) = false := by rfl)
    (ht : eval (.Call (.Attribute o m apos) (e :: es) [] pos) X.env = (do
      let ov ← eval o X.env
      standAt apos.atName
      let (f, first) ← holding [ov] (getMethod ov m pl)
      callWith pos f first (backTo pos (starEach (e :: es) X.env)) (backToKw pos (keywordEach [] X.env))) := by rfl) :
    PE X (.Call (.Attribute o m apos) (e :: es) [] pos) (tMethE C m sp E ta t) := by
  refine ⟨fun pins s σ H Q I h => ?_⟩
  refine PySem.W.methodCall_KW (pl := pl) (thn (he.run pins s σ H _ I h) fun u s1 ⟨x, H1, I1, rx, a, dx, fs, ex, ea, l, q⟩ => ?_) ht
  subst ex
  obtain rfl : u = Value.ref a := rx
  refine getmeth_ok I1 ea c hm l ?_
  refine PySem.W.callWith_K (first := [.ref a]) (h₀ := X.base) I.ok.mod.kin hm.kp (thn (ha.run pos pins s1 σ H1 _ I1 q) fun us s2 ⟨vs, H2, I2, r, q2⟩ => ⟨I2.kIn, ?_⟩) hst hpl
  exact run_fnS (us := .ref a :: us) (vs := .ref a :: vs) F hr hb (hx σ) I2 (.cons rfl r) q2
end
end RX

set_option Elab.async false
set_option linter.all false
set_option maxRecDepth 100000
set_option maxHeartbeats 4000000
namespace RX
open PySem PySem.Spec PyProof.Rows L2 GG EX
section
variable {X : Cx}
theorem mk_none0 {pins : List (Addr × Obj)} {σ : L2.St} {H1 H2 : Hp} {hp hp2 h2 : Heap} {g1 g2 : Array GenState} {d1 d2 : Drawn} {t1 t2 : Nat} {os1 os2 : OsState} {a C : Addr} (I1 : Inv X pins σ H1 ⟨hp, g1, d1, t1, os1⟩)
    (ha : hp.objs.size ≤ a) (k : ∀ b o, hp.get? b = some o → hp2.get? b = some o) (un : Un (frs X.stack) [] (upd H1 a (exo a C none)) H2 hp2 h2) (hok : HOk X.prog X.w H2 h2) (ho : os2 = os1) (hb : AllBare g2)
    (ea : H2 a = some (exo a C none)) :
    ∃ (t0 : Addr) (G : Heap), Inv X pins σ (del H2 a) ⟨G, g2, d2, t2, os2⟩ ∧ (∀ b o, G.get? b = some o → h2.get? b = some o) ∧ G.get? a = none ∧
      h2.get? a = some ({ cls := .ref C, dict := none, data := .fields #[.ref t0, .none, .none, .none, .bool false, .none] } : Obj) ∧ (del H2 a) a = none := by
  obtain ⟨t0, hoe⟩ := exo_at hok ea
  have hn : H1 a = none := I1.hok.fresh ha
  obtain ⟨G, g1', g2'⟩ := restrict h2 fun b => decide (b ≠ a)
  have gk : ∀ b, b ≠ a → G.get? b = h2.get? b := fun b hb => g1' b (decide_eq_true hb)
  have ge : G.get? a = none := g2' a (by simp)
  have nha : ∀ {b : Addr} {o : Obj}, hp.get? b = some o → b ≠ a := fun {b o} z => Nat.ne_of_lt (Nat.lt_of_lt_of_le (Heap.lt_size z) ha)
  have up : ∀ {b : Addr}, b ≠ a → H1 b = none → upd H1 a (exo a C none) b = none := fun {b} hb n => by rw [upd_ne hb]; exact n
  have U : Un (frs X.stack) [] H1 (del H2 a) hp G := {
    keep := fun b o z n hf hx => by
      rw [gk b (nha z)]
      exact un.keep b o (k b o z) (up (nha z) n) hf hx
    slot := fun b o z n hf hx => by
      rw [gk b (nha z)]
      exact un.slot b o (k b o z) (up (nha z) n) hf hx
    free := fun b o z n hx => by
      rw [del_ne (nha z)]
      exact un.free b o (k b o z) (up (nha z) n) hx
    there := fun b o z hx => by
      rw [gk b (nha z)]
      exact un.there b o (k b o z) hx
    tups := fun b xs z => by
      rw [del_ne (ne_of_none z hn)]
      exact un.tups b xs (by rw [upd_ne (ne_of_none z hn)]; exact z)
    frzs := fun b o v z => by
      rw [del_ne (ne_of_none z hn)]
      exact un.frzs b o v (by rw [upd_ne (ne_of_none z hn)]; exact z)
    tbls := fun b ps z => by
      rw [del_ne (ne_of_none z hn)]
      exact un.tbls b ps (by rw [upd_ne (ne_of_none z hn)]; exact z) }
  have hok3 : HOk X.prog X.w (del H2 a) G := fun b o z => by
    have hba : b ≠ a := fun e => by
      rw [e, del_same] at z
      cases z
    rw [del_ne hba] at z
    have noa : ∀ {c : Addr}, H2 c = some (.own b) → c ≠ a := fun {c} hc => at_ne ea hc exo_own
    exact (hok b o z).stay (fun c v hc y => by
        have hca : c ≠ a := by
          rcases hc with hc | hc
          · rw [hc]
            exact hba
          · exact noa hc
        rw [gk c hca]
        exact y)
      (fun c hc => by rw [del_ne (noa hc)]; exact hc) (fun c xs hc => by rw [del_ne (at_ne ea hc exo_tup)]; exact hc)
  have J : Inv X pins σ (del H2 a) ⟨G, g2, d2, t2, os2⟩ := I1.call' (ch := []) ho U hok3 hb (fun b z => absurd z (by simp))
  refine ⟨t0, G, J, fun b o z => ?_, ge, hoe, del_same⟩
  by_cases hba : b = a
  · rw [hba, ge] at z
    cases z
  · exact (gk b hba).symm.trans z
/-- C() raised, its __init__ keeps nothing -/
def tMkN (C : Addr) (sp : Sp) : L2.St → Hp → XK → Prop := fun σ H Q => ∀ a, H a = none → sp [.ref a] (upd H a (exo a C none)) (fun v H2 => v = .non ∧ H2 a = some (exo a C none) ∧ Q (.ref C) none (del H2 a)) (fun _ _ _ => False)
theorem pmk_k0 {CX : CXT} {x : Str} {C fI : Addr} {k : Nat} {fd : FuncData} {ps : List Str} {sp : Sp} {p pos : Pos} (M : Makes X.prog X.w X.K C fI) (kC : PySem.W.keepIn X.K (.ref C) = true) (R : Raises X (.ref C))
    (F1 : FnOk X.prog X.w X.K X.mg X.base CX k fI fd ps sp) (hr : Room (k + 1) X.A) (hb : Binds X.K fd ps []) (hx : Passes CX X (fun _ _ _ => False)) (hg : Gl X x) (hm : X.mg x = some (.ref C))
    (hdb : (x == ("__debug__" : Str)) = false := by decide) : PMk X (.Call (.Name x p) [] [] pos) (tMkN C sp) := by
  intro pins s σ H Q I h
  refine wpAny_Call_Name_kw (ld_glob I hg hm ?_ hdb)
  refine PySem.W.callWith_K0 I.kIn kC ?_
  show wpAny _ _ (call (.ref C) []) _ _ _
  obtain ⟨hp, g, dr, tk, os⟩ := s
  have hsz : hp.objs.size ≤ hp.objs.size + 1 := Nat.le_succ _
  have hq := h (hp.objs.size + 1) (I.hok.fresh hsz)
  have kk : ∀ b o, hp.get? b = some o → ((hp.push (PySem.W.kdv_tup [])).push (PySem.HandSPX.excO C hp.objs.size)).get? b = some o := fun b o e => Heap.get?_push_of_some _ (Heap.get?_push_of_some _ e)
  have hget : ((hp.push (PySem.W.kdv_tup [])).push (PySem.HandSPX.excO C hp.objs.size)).get? (hp.objs.size + 1) = some (PySem.HandSPX.excO C hp.objs.size) := by heap_get
  have I2 : Inv X pins σ (upd H (hp.objs.size + 1) (exo (hp.objs.size + 1) C none)) ⟨(hp.push (PySem.W.kdv_tup [])).push (PySem.HandSPX.excO C hp.objs.size), g, dr, tk, os⟩ :=
    I.laid (t' := tk) (a := hp.objs.size + 1) (o := exo (hp.objs.size + 1) C none) (h' := (hp.push (PySem.W.kdv_tup [])).push (PySem.HandSPX.excO C hp.objs.size)) kk hsz (exo_ok hget)
  have r2 : Vals [V.ref (hp.objs.size + 1)] [Value.ref (hp.objs.size + 1)] := .cons rfl .nil
  have few : [Value.ref (hp.objs.size + 1)].length = ps.length := by
    have e := r2.length
    rw [F1.len _ _ _ _ hq] at e
    exact e.symm
  have bound := hb _ [Value.ref (hp.objs.size + 1)] I2.kIn (by simpa using few)
  refine wpAny_call (M _ _ hp g dr tk os [] I.kIn (Nat.zero_le _) ?_)
  have run := F1.run _ X.stack _ _ ⟨[Value.ref (hp.objs.size + 1)], []⟩ [Value.ref (hp.objs.size + 1)] _ _ (fun _ _ _ => False) (hr.make C [] []) (I2.env0.make C [] []) (by simpa using bound) r2 hq
  refine codeAny_mono run fun r s' hq' => ?_
  cases r with
  | error er => exact hx pins σ _ _ er s' I2 hq'
  | ok fl =>
    cases fl with
    | ret u =>
      obtain ⟨v, H2, os2, bare2, un2, hok2, rv, ev, ea, q2⟩ := hq'
      subst ev
      obtain ⟨h2, g2, d2, t2, os'⟩ := s'
      obtain ⟨t0, G, J, kG, ge, hoe, na⟩ := mk_none0 (d2 := d2) (t2 := t2) I hsz kk un2 hok2 os2 bare2 ea
      exact ⟨rv, ⟨hp.objs.size + 1, _, _, ⟨G, g2, d2, t2, os'⟩, _, .ref C, none, rfl, J, kG, ge, hoe, ⟨rfl, rfl⟩, rfl, rfl, na, rfl, bare2, R, q2⟩⟩
    | next => exact False.elim hq'
    | brk => exact False.elim hq'
    | cont => exact False.elim hq'
end
/-! ### del xs[a:] -/
section
variable {prog : Program} {w : World} {A : Around} {E : Value → Shared → Prop} {s : Shared}
theorem cut_idx (a : Nat) (f : Nat → Bool) : ∀ (l : List Value) (n : Nat), (∀ k, k < n + l.length → f k = decide (a ≤ k)) → ((l.zipIdx n).filterMap fun x => if f x.2 = true then none else some x.1) = l.take (a - n)
  | [], n, _ => by simp
  | x :: l, n, hf => by
    have hf' : ∀ k, k < n + 1 + l.length → f k = decide (a ≤ k) := fun k hk => hf k (by rw [List.length_cons]; omega)
    have hn := hf n (by rw [List.length_cons]; omega)
    rw [List.zipIdx_cons, List.filterMap_cons]
    by_cases h : a ≤ n
    · have e : f n = true := by rw [hn]; exact decide_eq_true h
      simp only [e, if_true]
      rw [cut_idx a f l (n + 1) hf']
      rw [show a - n = 0 by omega, show a - (n + 1) = 0 by omega]
      simp
    · have e : f n = false := by rw [hn]; exact decide_eq_false h
      simp only [e, Bool.false_eq_true, if_false]
      rw [cut_idx a f l (n + 1) hf', show a - n = (a - (n + 1)) + 1 by omega, List.take_succ_cons]
theorem bounds_end {a n : Nat} (h : a ≤ n) : sliceBounds (some (a : Int)) none none n = ((a : Int), (n : Int), 1) := by
  simp only [sliceBounds, Option.getD_none]
  have h1 : ¬ ((a : Int) < 0) := by omega
  simp only [h1, if_false, show (1 : Int) > 0 by decide, if_true]
  congr 1
  omega
end
end RX

set_option Elab.async false
set_option linter.all false
set_option maxRecDepth 100000
set_option maxHeartbeats 4000000
namespace RX
open PySem PySem.Spec PyProof.Rows L2 GG EX
section
variable {prog : Program} {w : World} {A : Around} {E : Value → Shared → Prop} {s : Shared}
set_option maxRecDepth 100000 in
theorem delItem_end {l sl : Addr} {items : Array Value} {n : Nat} {vl vu : Value} {a : Nat} {Q : Unit → Shared → Prop}
    (e : s.heap.get? l = some { cls := .type "list", data := .seq items n })
    (hs : s.heap.IsSliceOf sl vl vu .none) (pl : IsPart vl (some (a : Int))) (pu : IsPart vu none) (ha : a ≤ items.size)
    (hsz : items.size ≤ sizeLine) (h : ∀ F : Array Value → Array Value, F items = (items.toList.take a).toArray → Q () { s with heap := s.heap.update l (Obj.mapSeq F) }) :
    wpAny (model prog w) A (delItem (.ref l) (.ref sl)) Q E s := by
  have hl : s.heap.IsList l items := PySem.IsL.isList e
  obtain ⟨os, hos, hcs, hds⟩ := id hs
  have hTs : s.TypeIs (.ref sl) "slice" := ⟨os, hos, hcs⟩
  have hstep : ¬ ((rawPart none == rawInt 0) = true) := Bool.false_ne_true
  unfold delItem
  try with_reducible refine wpAny_holding ?_
  first | refine wpAny_bind (wpAny_pure ?_) | skip
  refine wpAny_bind (wpAny_sequenceKey hl.typeIs (by decide) ?_)
  refine wpAny_bind (wpAny_callSpecial?_slot (name := Str.ofString "__delitem__") hl.typeIs F.slot_list_delitem
    (wpAny_call_entry F.slot_list_delitem hl.typeIs F.entry_list_delitem ?_ (F.args_list_delitem_2 _ _)))
  show wpAny _ _ (Builtin.List.listSubscript? (.ref sl) >>= _) _ _ s
  refine wpAny_bind ?_
  unfold Builtin.List.listSubscript?
  refine wpAny_bind (wpAny_specialOf hTs slice_no_index ?_)
  simp only [Option.isNone_none, if_true]
  refine wpAny_pure ?_
  show wpAny _ _ (typeOf (.ref sl) >>= _) _ _ s
  refine wpAny_bind (wpAny_typeOf hTs ?_)
  first
    | rw [if_neg (by decide)]
    | refine PySem.W.KFB.if_not (by decide) ?_
  rw [listSliceParts_eq]
  refine wpAny_bind (wpAny_bind (wpAny_field hos hds (x := .none) rfl (wpAny_bind (wpAny_listPart .none ?_))))
  rw [if_neg hstep]
  refine wpAny_bind (wpAny_field hos hds (x := vl) rfl (wpAny_bind (wpAny_listPart pl ?_)))
  refine wpAny_bind (wpAny_field hos hds (x := vu) rfl (wpAny_bind (wpAny_listPart pu (wpAny_pure ?_))))
  unfold Builtin.List.listItems
  refine wpAny_bind (wpAny_bind (wpAny_seqItems e rfl (wpAny_pure ?_)))
  refine wpAny_bind (wpAny_of_eq ((sliceIndices_raw (some (a : Int)) none none items.size (by simp)).trans (congrArg (pure : Int × Int × Int → Sem (Int × Int × Int)) (bounds_end ha))) ?_)
  refine wpAny_bind (wpAny_rule ?_)
  have key : ∀ f : Nat → Bool, (∀ k, f k = (if (1 : Int) > 0 then (decide ((a : Int) ≤ (k : Int)) && decide ((k : Int) < (items.size : Int)) && ((k : Int) - (a : Int)) % 1 == 0) else (decide ((items.size : Int) < k) && decide ((k : Int) ≤ a) && ((a : Int) - k) % (-1) == 0))) →
      ((items.toList.zipIdx).filterMap fun x => if f x.2 = true then none else some x.1) = items.toList.take a := fun f hf => by
    refine (cut_idx a f items.toList 0 (fun k hk => ?_)).trans (by rw [Nat.sub_zero])
    rw [hf k, if_pos (by decide)]
    have hk' : k < items.size := by simpa using hk
    have e1 : decide ((k : Int) < (items.size : Int)) = true := decide_eq_true (by omega)
    have e2 : (((k : Int) - (a : Int)) % 1 == 0) = true := by
      rw [Int.emod_one]
      rfl
    rw [e1, e2, Bool.and_true, Bool.and_true]
    exact decide_eq_decide.mpr (by omega)
  refine wpAny_bind (wpAny_updateSeq (hz := hsz) (_hz' := ?_) e rfl ?_)
  · refine wpAny_bind (wpAny_letGo ?_)
    first
      | exact wpAny_bind (wpAny_pure (wpAny_pure ⟨.none, rfl, wpAny_pure (h _ (congrArg List.toArray (key _ fun k => rfl)))⟩))
      | exact wpAny_pure ⟨.none, rfl, wpAny_pure (h _ (congrArg List.toArray (key _ fun k => rfl)))⟩
  · refine Nat.le_trans (Nat.le_of_eq (congrArg Array.size (congrArg List.toArray (key _ fun k => rfl)))) ?_
    simp only [List.size_toArray, List.length_take]
    omega
end
section
variable {X : Cx}
theorem del_end {pins : List (Addr × Obj)} {s : Shared} {σ : L2.St} {H : Hp} {l sl : Addr} {xs : List V} {a : Int} {vl vu : Value} {Q : Unit → Shared → Prop} (I : Inv X pins σ H s)
    (hH : H l = some (.lst xs)) (hs : s.heap.IsSliceOf sl vl vu .none) (pl : IsPart vl (some a)) (pu : IsPart vu none) (h0 : 0 ≤ a) (hc : a ≤ xs.length)
    (h : ∀ s', Inv X pins σ (upd H l (.lst (xs.take a.toNat))) s' → Q () s') :
    wpAny (model X.prog X.w) X.A (delItem (.ref l) (.ref sl)) Q X.xe s := by
  obtain ⟨z, its, n, r, hl, e⟩ := I.lstM hH
  obtain ⟨a', rfl⟩ := Int.eq_ofNat_of_zero_le h0
  simp only [Int.toNat_natCast] at h
  refine delItem_end (a := a') e hs pl pu (by rw [List.size_toArray]; omega) (by rw [List.size_toArray]; omega) fun F hF => h _ ?_
  refine I.lset (its' := its.take a') (t' := s.toks) hH e hF (r.take _) ?_
  rw [List.length_take]
  omega
def tDelE (to : TE) (tl th : TO) : TS := fun D σ H => to σ H fun x H1 => tl σ H1 fun lo H2 => th σ H2 fun up H3 => ∃ (l : Addr) (xs : List V) (a : Int), x = .ref l ∧ lo = some a ∧ up = none ∧ H3 l = some (.lst xs) ∧ 0 ≤ a ∧ a ≤ xs.length ∧ D.nx σ (upd H3 l (.lst (xs.take a.toNat)))
theorem ps_delE {o : Expr} {lo hi : Option Expr} {to : TE} {tl th : TO} {p2 tpos pos : Pos} (ho : PE X o to) (hl : PO X lo tl) (hu : PO X hi th) : PS X (.Delete [.Subscript o (.Slice lo hi none p2) tpos] pos) (tDelE to tl th) := by
  refine ⟨fun pins s σ H D I h => ?_⟩
  refine wpAny_Delete (wpAny_deleteEach_cons (wpAny_delete_Subscript (thn (ho.run pins s σ H _ I h) fun u s1 ⟨x, H1, I1, rx, q1⟩ => ?_)))
  refine wpAny_Slice (thn (hl.run pins s1 σ H1 _ I1 q1) fun vl s2 ⟨l, H2, I2, pl, q2⟩ => thn (hu.run pins s2 σ H2 _ I2 q2) fun vu s3 ⟨up, H3, I3, pu, q3⟩ => ?_)
  rw [evalPart_none]
  refine wpAny_pure ?_
  have I4 : Inv X pins σ H3 { s3 with heap := s3.heap.push { cls := .type "slice", data := .fields #[vl, vu, .none] } } := I3.kept (t' := s3.toks) fun b ob q => Heap.get?_push_of_some _ q
  obtain ⟨la, xs, a, ex, el, eu, hH, h0, hc, q⟩ := q3
  subst ex el eu
  obtain rfl : u = Value.ref la := rx
  exact del_end I4 hH (Heap.IsSliceOf.new ..) pl pu h0 hc fun s5 I5 => wpAny_deleteEach_nil ⟨σ, _, I5, q⟩
end
end RX

set_option Elab.async false
set_option linter.all false
set_option maxRecDepth 100000
set_option maxHeartbeats 4000000
namespace RX
open PySem PySem.Spec PyProof.Rows L2 GG EX
section
variable {X : Cx} {CX : CXT} {C g : Addr} {n : Nat} {sp : Sp} {E : XK}
theorem len_own {prog : Program} {w : World} {A : Around} {E : Value → Shared → Prop} {s : Shared} {K : PySem.W.Frag} {x f : Addr} {ox : Obj} {odd : Option Obj} {Q : Value → Shared → Prop} (Y : K.In s.heap) (I : PySem.W.InstAt s.heap x ox C odd)
    (hs : PySem.W.findIn K (.ref C) "__len__" = some (some (.ref f))) (hf : PySem.W.isFn K (.ref f) = true)
    (h : wpAny (model prog w) A.in1 (call (.ref f) [.ref x]) (fun v s' => ∃ (k : Nat) (t : Tok), v = .int k t ∧ (k : Int) < 2 ^ 63 ∧ Q (.int k s'.toks) { s' with toks := s'.toks + 1 }) E s) :
    wpAny (model prog w) A (call (.builtin "len") [.ref x]) Q E s := by
  refine Calls.call_function_entry kind_len plain_len entry_len (args_len1 _) ?_
  unfold Builtin.«len»
  refine wpAny_bind (m := oneArg "len" _) (wpAny_pure ?_)
  refine wpAny_bind (m := callSpecial? (.ref x) (PySem.Str.ofString "__len__")) (PySem.W.special_fn Y I hs (beq_iff_eq.mp hf) (wpAny_mono h (fun r s' hr => ?_) fun _ _ y => y))
  obtain ⟨k, t, rfl, hk, q⟩ := hr
  refine wpAny_bind (wpAny_holding (wpAny_pure ?_))
  refine wpAny_bind (wpAny_letGo ?_)
  show wpAny _ _ (if ((k : Nat) : Int) < 0 then _ else _) _ _ _
  rw [if_neg (by omega)]
  show wpAny _ _ (if ((k : Nat) : Int) ≥ 2 ^ 63 then _ else _) _ _ _
  rw [if_neg (by omega)]
  exact wpAny_bind (wpAny_mkInt (wpAny_pure ⟨_, rfl, q⟩))
/-- len(x) of an instance whose class has its own __len__ -/
def rLenO (C : Addr) (sp : Sp) (E : XK) : List V → Hp → VK → Prop := fun xs H Q => ∃ a dx fs, xs = [V.ref a] ∧ H a = some (.ins C dx fs) ∧ sp [.ref a] H (fun z H' => ∃ k : Nat, z = .int k ∧ (k : Int) < 2 ^ 63 ∧ Q z H') E
theorem call_lenO (hs : PySem.W.findIn X.K (.ref C) "__len__" = some (some (.ref g))) (hf : PySem.W.isFn X.K (.ref g) = true) (F : FnR X.prog X.w X.K X.mg X.base CX n g sp) (hr : Room (n + 1) X.A) (hx : Passes CX X E) : CallR X (.builtin "len") (rLenO C sp E) := by
  intro pins s σ H xs us Q I r h
  obtain ⟨a, dx, fs, rfl, ha, q⟩ := h
  obtain ⟨u, rfl, ru⟩ := r.one
  cases (show u = Value.ref a from ru)
  obtain ⟨mA, J, _⟩ := ins_get I.hok ha
  obtain ⟨od, J, _⟩ := J.look
  refine len_own I.kIn J hs hf (wpAny_mono (wpAny_call (SlX.run_at (us := [.ref a]) (ws := [.ref a]) F hr.in1 I.env0.in1 hx I (.cons rfl .nil) q)) (fun w s' z => ?_) fun _ _ x => x)
  obtain ⟨z', H', I', rz, k, ei, hk, qz⟩ := z
  subst ei
  obtain ⟨t, e⟩ := (show ∃ t, w = Value.int k t from rz)
  cases e
  exact ⟨k, t, rfl, hk, .int k, H', I'.tok _, ⟨_, rfl⟩, qz⟩
end
end RX

set_option Elab.async false
set_option linter.all false
set_option maxRecDepth 100000
set_option maxHeartbeats 4000000
namespace Z
open PySem PySem.Spec PyProof.Rows L2 GG
def top (i : Nat) : Stmt := PySem.Challenge.pw_bentcoin_k26_runners.main.body.getD i (.Pass ⟨0, 0, 0, 0⟩)
abbrev sPen : Stmt := top 13
abbrev sFresh : Stmt := top 14
abbrev sDraw : Stmt := top 15
/-- what follows an if, once for all ways to it -/
theorem if_tail {c : TT} {a b : TS} {D : Ends} {σ : L2.St} {H : Hp} (W : L2.St → Hp → Prop) (tail : ∀ σ H, W σ H → D.nx σ H) (go : (∀ σ H, W σ H → D.nx σ H) → tIfS c a b D σ H) : tIfS c a b D σ H := go tail
theorem on {t u : TS} {D : Ends} {σ : L2.St} {H : Hp} (h : t { D with nx := u D } σ H) : tSeq t u D σ H := h
theorem put_c {v : V} {i : Nat} {D : Ends} {σ : L2.St} {H : Hp} (h : D.nx (σ.set i (some v)) H) : tAsg (tC v) (gName i) D σ H := h
/-! heaps -/
theorem Same.upd {H : Hp} {p : Addr} {o : HO} (h : H p = none) : Same H (L2.upd H p o) := fun b x e => by
  rw [upd_ne (ne_of_none e h)]
  exact e
/-- all that was told of stands, but what is at a -/
def But (a : Addr) (H H' : Hp) : Prop := ∀ b o, H b = some o → b ≠ a → H' b = some o
theorem But.refl (a : Addr) (H : Hp) : But a H H := fun _ _ e _ => e
theorem But.trans {a : Addr} {H H1 H2 : Hp} (x : But a H H1) (y : But a H1 H2) : But a H H2 := fun b o e n => y b o (x b o e n) n
theorem But.of {a : Addr} {H H1 : Hp} (x : Same H H1) : But a H H1 := fun b o e _ => x b o e
theorem But.put {a : Addr} {H : Hp} {o : HO} : But a H (L2.upd H a o) := fun b u e n => by
  rw [upd_ne n]
  exact e
theorem But.free {a : Addr} {H H' : Hp} {l : Addr} (e : But a H H') (n : l ≠ a) (h : H' l = none) : H l = none := by
  cases q : H l with
  | none => rfl
  | some o =>
    rw [e l o q n] at h
    cases h
theorem But.same {a : Addr} {H H0 H' : Hp} (s : Same H0 H) (n : H0 a = none) (b : But a H H') : Same H0 H' := fun c o e => b c o (s c o e) (ne_of_none e n)
theorem But.seq {a c : Addr} {K : PySem.W.Frag} {H H' : Hp} {xs : List V} (e : But a H H') (n : c ≠ a) (h : SqL K H c xs) : SqL K H' c xs := by
  rcases h with (h | ⟨o, h⟩) | h
  · exact .inl (.inl (e _ _ h n))
  · exact .inl (.inr ⟨o, e _ _ h n⟩)
  · exact .inr h
/-- a pen stands at a -/
def Pen (H : Hp) (a l : Addr) : Prop := ∃ (cs : List Int) (pos val : Int), H a = some (.lst [.ref l, .int pos, .int val]) ∧ H l = some (.lst (cs.map V.int)) ∧ 0 ≤ pos
theorem Pen.ne {H : Hp} {a l : Addr} {cs : List Int} {p v : Int} (h : H a = some (.lst [.ref l, .int p, .int v])) (e : H l = some (.lst (cs.map V.int))) : l ≠ a := by
  intro z
  subst z
  rw [h] at e
  cases cs with
  | nil => cases e
  | cons x r => cases e
theorem Pen.put {H : Hp} {a l : Addr} {cs : List Int} {p v q u : Int} (h : H a = some (.lst [.ref l, .int p, .int v])) (e : H l = some (.lst (cs.map V.int))) (hq : 0 ≤ q) : Pen (upd H a (.lst [.ref l, .int q, .int u])) a l :=
  ⟨cs, q, u, upd_same, by rw [upd_ne (Pen.ne h e)]; exact e, hq⟩
theorem Pen.same {H H' : Hp} {a l : Addr} (p : Pen H a l) (s : Same H H') : Pen H' a l := by
  obtain ⟨cs, q, v, h1, h2, h3⟩ := p
  exact ⟨cs, q, v, s _ _ h1, s _ _ h2, h3⟩
theorem dpInts {K : PySem.W.Frag} {H : Hp} : ∀ ns : List Int, DpAll K H (ns.map V.int) (ns.map PyData.int)
  | [] => .nil
  | n :: r => .cons (.int n) (dpInts r)
theorem cut_to {α : Type} (xs : List V) (n : Nat) : ∃ m, cutV xs none (some (n : Int)) = xs.take m := ⟨_, by unfold cutV; rw [HT.sIx_none]; rfl⟩
/-- a row without the zeros at its end -/
def strip (l : List Int) : List Int := (l.reverse.dropWhile (· == 0)).reverse
theorem strip_nil : strip [] = [] := rfl
theorem strip_zero (l : List Int) : strip (l ++ [0]) = strip l := by
  unfold strip
  rw [List.reverse_append]
  rfl
theorem strip_last {l : List Int} {z : Int} (h : z ≠ 0) : strip (l ++ [z]) = l ++ [z] := by
  unfold strip
  rw [List.reverse_append]
  show (List.dropWhile (· == 0) (z :: l.reverse)).reverse = _
  rw [List.dropWhile_cons_of_neg (by simpa using h), List.reverse_cons, List.reverse_reverse]
theorem strip_mem {l : List Int} {c : Int} (h : c ∈ strip l) : c ∈ l := by
  unfold strip at h
  rw [List.mem_reverse] at h
  exact List.mem_reverse.mp ((List.dropWhile_sublist _).subset h)
theorem strip_len (l : List Int) : (strip l).length ≤ l.length := by
  unfold strip
  rw [List.length_reverse]
  have := (List.dropWhile_sublist (· == 0) (l := l.reverse)).length_le
  rwa [List.length_reverse] at this
theorem strip_strip (l : List Int) : strip (strip l) = strip l := by
  rcases List.eq_nil_or_concat (strip l) with e | ⟨r, z, e⟩
  · rw [e]; rfl
  · rw [List.concat_eq_append] at e
    by_cases h : z = 0
    · exfalso
      have e2 : l.reverse.dropWhile (· == 0) = z :: r.reverse := by
        have := congrArg List.reverse e
        unfold strip at this
        rw [List.reverse_reverse, List.reverse_append] at this
        exact this
      have := List.head?_dropWhile_not (p := fun x : Int => x == 0) (l := l.reverse)
      rw [e2] at this
      simp [h] at this
    · rw [e, strip_last h]
theorem eqv_nil : ∀ {xs : List Int}, xs ≠ [] → (!PyData.eqv (.list (xs.map PyData.int)) (.list [])) = true
  | [], h => absurd rfl h
  | _ :: _, _ => rfl
structure Names (mg : Str → Option Value) : Prop where
  list : mg "list" = none
  tuple : mg "tuple" = none
  len : mg "len" = none
  range : mg "range" = none
structure Def (K : PySem.W.Frag) (mg : Str → Option Value) (x : Str) (f : Addr) (fd : FuncData) (ps : List Str) : Prop where
  is : mg x = some (.ref f)
  kp : PySem.W.keepIn K (.ref f) = true
  bi : Binds K fd ps []
theorem Pen.apart {H : Hp} {a l e : Addr} (p : Pen H a l) (h : H e = none) : e ≠ a ∧ e ≠ l := by
  obtain ⟨cs, pos, val, ha, hl, _⟩ := p
  exact ⟨(ne_of_none ha h).symm, (ne_of_none hl h).symm⟩
theorem Pen.notTup {H : Hp} {a l e : Addr} {xs : List V} (p : Pen H a l) (h : H e = some (.tup xs)) : e ≠ a := by
  obtain ⟨cs, pos, val, ha, hl, _⟩ := p
  rintro rfl
  rw [ha] at h
  cases h
theorem But.mem {a p : Addr} {H H' : Hp} {o : HO} (b : But a H H') (n : p ≠ a) (e : H p = some o) : H' p = some o := b p o e n
/-- what follows a value, once for all ways to it -/
theorem asg_tail {te : TE} {g : TG} {D : Ends} {σ : L2.St} {H : Hp} (W : V → Hp → Prop) (tail : ∀ v H', W v H' → g v σ H' D.nx) (go : (∀ v H', W v H' → g v σ H' D.nx) → te σ H fun x H1 => g x σ H1 D.nx) : tAsg te g D σ H := go tail
theorem log_le {b : Int} (h : b.natAbs < 2 ^ 100) : b.natAbs.log2 < 9000 := Nat.lt_of_lt_of_le (PySem.Flt.log2_lt_of (k := 100) (by decide) h) (by decide)
section
variable {P : Program} {w : World} {K : PySem.W.Frag} {mg : Str → Option Value} {base : Heap}
/-! ### the pen -/
def spPen (K : PySem.W.Frag) : Sp := fun vs H Q _ => ∃ (s : Addr) (ns : List Int), vs = [.ref s] ∧ SqL K H s (ns.map V.int) ∧ ns.length ≤ 63 ∧ ∀ p l H', Same H H' → H p = none → H l = none → Pen H' p l → Q (.ref p) H'
theorem scPen : FnScope ["script"] ["script"] (defScope sPen) := ⟨rfl, rfl, rfl, by decide +kernel, rfl, by decide +kernel, by decide +kernel⟩
theorem ok_pen {f : Addr} {fd : FuncData} (F : Fun K "_law_pen" "_law_pen" sPen f fd) (T : Names mg) : FnOk P w K mg base CX0 1 f fd ["script"] (spPen K) := by
  refine F.ok scPen (fun vs H Q E h => ?_) (fun cdv A outer s H vs Q E hr h => ?_)
  · obtain ⟨a, ns, rfl, _⟩ := h
    rfl
  · obtain ⟨a, ns, rfl, hS, hlen, q⟩ := h
    refine ⟨_, pss_one (ps_ret (pe_lst (pa_cons (pe_callTy call_list_of (by rfl) T.list (by decide +kernel) (pa_cons (pe_slice sl_list (pv 0) po_none (po_some pe_int)) pa_nil)) (pa_cons pe_int (pa_cons pe_int pa_nil))))), ?_⟩
    refine ⟨.ref a, rfl, 63, rfl, a, _, rfl, hS, fun c nc => ?_⟩
    refine ⟨c, _, rfl, .inl (.inl (.inl upd_same)), fun l nl => ?_⟩
    refine ⟨by show 3 ≤ sizeLine; decide, fun p np => ?_⟩
    obtain ⟨m, em⟩ := cut_to (α := Int) (ns.map V.int) 63
    have em : cutV (ns.map V.int) none (some 63) = (ns.map V.int).take m := em
    have lp : l ≠ p := ne_of_none upd_same np
    have h1 := (Same.trans (Same.upd (o := .lst (cutV (ns.map V.int) none (some 63))) nc) (Same.trans (Same.upd (o := .lst (cutV (ns.map V.int) none (some 63))) nl) (Same.upd (o := .lst [.ref l, .int 0, .int 0]) np)))
    refine q p l _ h1 (Same.free (Same.trans (Same.upd nc) (Same.upd nl)) np) (Same.free (Same.upd nc) nl) ⟨ns.take m, 0, 0, upd_same, ?_, by decide⟩
    rw [upd_ne lp, upd_same, em, List.map_take]
/-! ### a fresh number -/
def spFresh : Sp := fun vs H Q _ => ∃ (a l : Addr), vs = [.ref a] ∧ Pen H a l ∧ ∀ (v : Int) H', But a H H' → Pen H' a l → Q (.int v) H'
theorem scFresh : FnScope ["pen", "at", "cell", "p", "one", "found", "turn"] ["pen"] (defScope sFresh) := ⟨rfl, rfl, rfl, by decide +kernel, rfl, by decide +kernel, by decide +kernel⟩
theorem ok_fresh {f : Addr} {fd : FuncData} (F : Fun K "_law_fresh" "_law_fresh" sFresh f fd) (T : Names mg) : FnOk P w K mg base CX0 1 f fd ["pen"] spFresh := by
  refine F.ok scFresh (fun vs H Q E h => ?_) (fun cdv A outer s H vs Q E hr h => ?_)
  · obtain ⟨a, l, rfl, _⟩ := h
    rfl
  · obtain ⟨a, l, rfl, ⟨cs, pos, val, ha, hl, hp⟩, q⟩ := h
    have hu : A.units + 3 + 64 < cLine := hr.units
    refine ⟨_, pss_cons (ps_set (i := 1) scFresh.nd rfl (.inl rfl) (pe_ix ix_list (pv 0) pe_int (fun _ _ => rfl)))
      (pss_cons (ps_asg (pe_op op_add (pv 1) pe_int) (pg_sub (pv 0) pe_int set_list))
      (pss_cons (ps_set (i := 2) scFresh.nd rfl (.inl rfl) pe_int)
      (pss_cons (ps_if (pt_cmpR (op_neD hu) (pe_ix ix_list (pv 0) pe_int (fun _ _ => rfl)) (pe_lst pa_nil) (nomark _))
        (pss_one (ps_set (i := 2) scFresh.nd rfl (.inl rfl) (pe_ix ix_list (pe_ix ix_list (pv 0) pe_int (fun _ _ => rfl)) (pe_op op_mod (pv 1) (pe_callB call_len_seq (by rfl) T.len PySem.boot_len (pa_cons (pe_ix ix_list (pv 0) pe_int (fun _ _ => rfl)) pa_nil))) (fun _ _ => rfl)))) pss_nil)
      (pss_cons (ps_if (PW.pt (pw_and (pt_cmpR op_lt (pv 1) (pe_callB call_len_seq (by rfl) T.len PySem.boot_len (pa_cons (pe_ix ix_list (pv 0) pe_int (fun _ _ => rfl)) pa_nil)) (nomark _)) (pw_and1 (pt_cmpR op_ge (pv 2) (pe_op op_pow pe_int pe_int) (nomark _)))))
        (pss_one (ps_ret (pe_op op_sub (pv 2) (pe_op op_pow pe_int pe_int)))) pss_nil)
      (pss_cons (ps_set (i := 3) scFresh.nd rfl (.inl rfl) pe_int)
      (pss_cons (ps_set (i := 4) scFresh.nd rfl (.inl rfl) (pe_op op_mod (pe_op op_add (pe_op op_add (pe_op op_mul (pv 2) pe_int) (pe_op op_mul pe_int (pv 1))) pe_int) (pv 3)))
      (pss_cons (ps_set (i := 5) scFresh.nd rfl (.inl rfl) (pv 4))
      (pss_cons (ps_for PassesOwn.never rfl (pi_range1 rfl T.range (pa_cons pe_int pa_nil)) (pg_name (i := 6) scFresh.nd rfl (.inl rfl))
        (pss_cons (ps_set (i := 4) scFresh.nd rfl (.inl rfl) (pe_op op_mod (pe_op op_add (pe_op op_add (pe_op op_mul (pv 4) (pv 4)) (pe_op op_mul (pe_op op_mul pe_int (pe_op op_add (pv 6) pe_int)) (pe_op op_add (pv 1) pe_int))) (pv 2)) (pv 3)))
        (pss_one (ps_set (i := 5) scFresh.nd rfl (.inl rfl) (pe_op op_add (pe_op op_mul (pv 5) (pv 3)) (pv 4))))))
      (pss_one (ps_ret (pv 5))))))))))), ?_⟩
    -- position = pen[1]; pen[1] = position + 1; cell = 0
    refine ⟨.ref a, rfl, a, _, 1, .int pos, rfl, rfl, SqL.of ha, atI_nat (j := 1) rfl, ?_⟩
    refine ⟨_, rfl, _, _, rfl, rfl, .ref a, rfl, a, _, 1, 1, rfl, rfl, ha, rfl, ?_⟩
    have ha1 : upd H a (.lst [.ref l, .int (pos + 1), .int val]) a = some (.lst [.ref l, .int (pos + 1), .int val]) := upd_same
    have hl1 : upd H a (.lst [.ref l, .int (pos + 1), .int val]) l = some (.lst (cs.map V.int)) := by
      rw [upd_ne (Pen.ne ha hl)]
      exact hl
    have b1 : But a H (upd H a (.lst [.ref l, .int (pos + 1), .int val])) := But.put
    change (_ : Hp → Prop) (upd H a (.lst [.ref l, .int (pos + 1), .int val]))
    generalize upd H a (.lst [.ref l, .int (pos + 1), .int val]) = H1 at ha1 hl1 b1 ⊢
    -- if pen[0] != []
    have ec : cs = [] ∨ ∃ x r, cs = x :: r := by
      cases cs with
      | nil => exact .inl rfl
      | cons x r => exact .inr ⟨x, r, rfl⟩
    dsimp only
    refine on (put_c ?_)
    dsimp only
    refine on (if_tail (fun σ H' => ∃ cell : Int, σ = [some (V.ref a), some (V.int pos), some (V.int cell), none, none, none, none] ∧ Same H1 H') ?_ (fun t => ?_))
    rotate_left
    · refine ⟨.ref a, rfl, a, _, 0, .ref l, rfl, rfl, SqL.of ha1, atI_nat (j := 0) rfl, Nat.zero_le _, fun e0 ne0 => ?_⟩
      have s2 : Same H1 (upd H1 e0 (.lst [])) := Same.upd ne0
      have ha2 := s2 _ _ ha1
      have hl2 := s2 _ _ hl1
      have d0 : Dp K (upd H1 e0 (.lst [])) (.ref e0) (.list []) := .lst (SqL.of upd_same) .nil
      generalize upd H1 e0 (.lst []) = H2 at s2 ha2 hl2 d0 ⊢
      refine ⟨.list (cs.map PyData.int), .list [], .lst (SqL.of hl2) (dpInts cs), d0, PySem.W.ke_shaped_ints cs, rfl, _, rfl, ?_⟩
      rcases ec with rfl | ⟨x, r, rfl⟩
      · exact iteF (t _ _ ⟨0, rfl, s2⟩)
      · refine iteT ?_
        have hpos : pos % (((x :: r).length : Nat) : Int) < ((x :: r).length : Nat) ∧ 0 ≤ pos % (((x :: r).length : Nat) : Int) := by
          have : (0 : Int) < ((x :: r).length : Nat) := by rw [List.length_cons]; omega
          exact ⟨Int.emod_lt_of_pos _ this, Int.emod_nonneg _ (by omega)⟩
        obtain ⟨j, ej⟩ : ∃ j : Nat, pos % (((x :: r).length : Nat) : Int) = (j : Int) := ⟨(pos % (((x :: r).length : Nat) : Int)).toNat, by omega⟩
        have hj : j < (x :: r).length := by omega
        refine ⟨.ref a, rfl, a, _, 0, .ref l, rfl, rfl, SqL.of ha2, atI_nat (j := 0) rfl, .int pos, rfl, .ref a, rfl, a, _, 0, .ref l, rfl, rfl, SqL.of ha2, atI_nat (j := 0) rfl, l, _, rfl, .inl (SqL.of hl2), _, _, rfl, rfl, ?_, ?_⟩
        · show (0 : Int) < _
          rw [List.length_map, List.length_cons]
          omega
        · refine ⟨l, _, _, .int (x :: r)[j], rfl, rfl, SqL.of hl2, ?_, t _ _ ⟨_, rfl, s2⟩⟩
          rw [List.length_map, ej]
          exact atI_nat (by rw [List.getElem?_map, List.getElem?_eq_getElem hj]; rfl)
    · rintro σ H' ⟨cell, rfl, s2⟩
      have ha2 := s2 _ _ ha1
      have hl2 := s2 _ _ hl1
      have b2 : But a H H' := b1.trans (But.of s2)
      have p2 : Pen H' a l := ⟨cs, pos + 1, val, ha2, hl2, by omega⟩
      -- if position < len(pen[0]) and cell >= 10 ** 18: return cell - 10 ** 18
      dsimp only
      refine on (if_tail (fun σ H3 => σ = [some (V.ref a), some (V.int pos), some (V.int cell), none, none, none, none] ∧ H3 = H') ?_ (fun t => ?_))
      rotate_left
      · refine ⟨_, rfl, .ref a, rfl, a, _, 0, .ref l, rfl, rfl, SqL.of ha2, atI_nat (j := 0) rfl, l, _, rfl, .inl (SqL.of hl2), _, _, rfl, rfl, _, rfl, ite2 (fun _ => ?_) (fun _ => iteF (t _ _ ⟨rfl, rfl⟩))⟩
        refine ⟨_, rfl, _, _, rfl, rfl, ⟨by decide, by decide, by decide⟩, _, _, rfl, rfl, _, rfl, ite2 (fun _ => ?_) (fun _ => t _ _ ⟨rfl, rfl⟩)⟩
        exact ⟨_, rfl, _, _, rfl, rfl, ⟨by decide, by decide, by decide⟩, _, _, rfl, rfl, q _ _ b2 p2⟩
      · rintro σ H3 ⟨rfl, rfl⟩
        -- state, mixed, the six turns
        refine ⟨_, rfl, _, _, rfl, rfl, .inr ⟨by decide, by decide⟩, _, rfl, _, _, rfl, rfl, .inl ⟨by decide, by decide⟩, _, _, rfl, rfl, _, _, rfl, rfl, _, rfl, _, _, rfl, rfl, (by show (0 : Int) < 2305843009213693951; decide), _, rfl,
          6, rfl, by decide, by decide, for_range (lo := 0) (n := 6) (fun i σ H4 => ∃ (st mx : Int) (v : Option V), σ = [some (V.ref a), some (V.int pos), some (V.int cell), some (V.int 2305843009213693951), some (V.int st), some (V.int mx), v] ∧ H4 = H3 ∧ 0 ≤ st ∧ st < 2305843009213693951)
            ⟨_, _, none, rfl, rfl, Int.emod_nonneg _ (by decide), Int.emod_lt_of_pos _ (by decide)⟩ ?_ ?_⟩
        · rintro i σ H4 hi ⟨st, mx, v, rfl, rfl, h0, h1⟩
          refine ⟨_, rfl, _, rfl, _, _, rfl, rfl, .inl ⟨by omega, by omega⟩, _, rfl, _, _, rfl, rfl, _, _, rfl, rfl, .inl ⟨by decide, by decide⟩, _, rfl, _, _, rfl, rfl, _, _, rfl, rfl, .inl ⟨by show -(2 ^ 64) < (69621 : Int) * (0 + (i : Int) + 1); omega, by show (69621 : Int) * (0 + (i : Int) + 1) < 2 ^ 64; omega⟩, _, _, rfl, rfl,
            _, rfl, _, _, rfl, rfl, _, rfl, _, _, rfl, rfl, (by show (0 : Int) < 2305843009213693951; decide), _, rfl, _, rfl, _, _, rfl, rfl, .inr ⟨by decide, by decide⟩, _, rfl, _, _, rfl, rfl, ?_⟩
          exact ⟨_, _, _, rfl, rfl, Int.emod_nonneg _ (by decide), Int.emod_lt_of_pos _ (by decide)⟩
        · rintro σ H4 ⟨st, mx, v, rfl, rfl, h0, h1⟩
          exact ⟨_, rfl, q _ _ b2 p2⟩
/-! ### a number below a bound -/
def spDraw : Sp := fun vs H Q _ => ∃ (a l : Addr) (b : Int), vs = [.ref a, .int b] ∧ Pen H a l ∧ 0 < b ∧ b.natAbs.log2 < 9000 ∧ ∀ (d : Int) H', 0 ≤ d → d < b → But a H H' → Pen H' a l → Q (.int d) H'
theorem scDraw : FnScope ["pen", "many", "digit"] ["pen", "many"] (defScope sDraw) := ⟨rfl, rfl, rfl, by decide +kernel, rfl, by decide +kernel, by decide +kernel⟩
theorem ok_draw {f g : Addr} {fd gd : FuncData} (F : Fun K "_law_draw" "_law_draw" sDraw f fd) (GF : FnOk P w K mg base CX0 1 g gd ["pen"] spFresh) (mF : mg "_law_fresh" = some (.ref g)) (kF : PySem.W.keepIn K (.ref g) = true) (bF : Binds K gd ["pen"] []) :
    FnOk P w K mg base CX0 2 f fd ["pen", "many"] spDraw := by
  refine F.ok scDraw (fun vs H Q E h => ?_) (fun cdv A outer s H vs Q E hr h => ?_)
  · obtain ⟨a, l, b, rfl, _⟩ := h
    rfl
  · obtain ⟨a, l, b, rfl, pn, hb, hb2, q⟩ := h
    refine ⟨_, pss_cons (ps_if (pt_cmpR op_lt (pe_ix ix_list (pv 0) pe_int (fun _ _ => rfl)) (pv 1) (nomark _))
        (pss_one (ps_asg (pe_call GF hr (by rfl) mF kF bF .nil pass0 (pa_cons (pv 0) pa_nil)) (pg_sub (pv 0) pe_int set_list))) pss_nil)
      (pss_cons (ps_set (i := 2) scDraw.nd rfl (.inl rfl) (pe_op op_mod (pe_ix ix_list (pv 0) pe_int (fun _ _ => rfl)) (pv 1)))
      (pss_cons (ps_asg (pe_op op_fdivW (pe_ix ix_list (pv 0) pe_int (fun _ _ => rfl)) (pv 1)) (pg_sub (pv 0) pe_int set_list))
      (pss_one (ps_ret (pv 2))))), ?_⟩
    refine on (if_tail (fun σ H' => σ = [some (V.ref a), some (V.int b), none] ∧ Pen H' a l ∧ But a H H') ?_ (fun t => ?_))
    rotate_left
    · obtain ⟨cs, pos, val, ha, hl, hp⟩ := id pn
      refine ⟨.ref a, rfl, a, _, 2, .int val, rfl, rfl, SqL.of ha, atI_nat (j := 2) rfl, _, rfl, _, _, rfl, rfl, _, rfl, ite2 (fun _ => ?_) (fun _ => t _ _ ⟨rfl, pn, But.refl _ _⟩)⟩
      refine ⟨.ref a, rfl, a, l, rfl, pn, fun v H1 b1 p1 => ?_⟩
      obtain ⟨cs, pos, val, ha, hl, hp⟩ := p1
      exact ⟨.ref a, rfl, a, _, 2, 2, rfl, rfl, ha, rfl, t _ _ ⟨rfl, Pen.put ha hl hp, b1.trans But.put⟩⟩
    · rintro σ H1 ⟨rfl, ⟨cs, pos, val, ha, hl, hp⟩, b1⟩
      refine ⟨.ref a, rfl, a, _, 2, .int val, rfl, rfl, SqL.of ha, atI_nat (j := 2) rfl, _, rfl, _, _, rfl, rfl, hb, .ref a, rfl, a, _, 2, .int val, rfl, rfl, SqL.of ha, atI_nat (j := 2) rfl, _, rfl, _, _, rfl, rfl, ⟨hb, hb2⟩, .ref a, rfl, a, _, 2, 2, rfl, rfl, ha, rfl, _, rfl, ?_⟩
      exact q _ _ (Int.emod_nonneg _ (by omega)) (Int.emod_lt_of_pos _ hb) (b1.trans But.put) (Pen.put ha hl hp)
end
end Z

set_option Elab.async false
set_option linter.all false
set_option maxRecDepth 100000
set_option maxHeartbeats 4000000
namespace Z
open PySem PySem.Spec PyProof.Rows L2 GG
abbrev sEnds : Stmt := top 16
abbrev sMach : Stmt := top 17
abbrev sNumb : Stmt := top 18
/-! ### machines -/
inductive Pl where
  | toss (a b : Int)
  | fin (n : Int)
  | never
def Pl.row : Pl → List V
  | .toss a b => [.str "toss", .int a, .int b]
  | .fin n => [.str "end", .int n]
  | .never => [.str "never"]
def Pl.ok (m : Nat) : Pl → Prop
  | .toss a b => 0 ≤ a ∧ a < m ∧ 0 ≤ b ∧ b < m
  | .fin n => 0 ≤ n ∧ n < 100
  | .never => True
def Pl.still (p : Pl) : Prop := p = .never ∨ ∃ n, p = .fin n ∧ 0 ≤ n ∧ n < 100
theorem Pl.still.ok {p : Pl} (h : p.still) (m : Nat) : p.ok m := by
  rcases h with rfl | ⟨n, rfl, h1, h2⟩
  · trivial
  · exact ⟨h1, h2⟩
inductive Pls (H : Hp) : List V → List Pl → Prop where
  | nil : Pls H [] []
  | cons {t : Addr} {p : Pl} {rs : List V} {ps : List Pl} : H t = some (.tup p.row) → Pls H rs ps → Pls H (.ref t :: rs) (p :: ps)
theorem Pls.mono {H H' : Hp} (f : ∀ t xs, H t = some (.tup xs) → H' t = some (.tup xs)) {rs : List V} {ps : List Pl} (h : Pls H rs ps) : Pls H' rs ps := by
  induction h with
  | nil => exact .nil
  | cons e _ ih => exact .cons (f _ _ e) ih
theorem Pls.snoc {H : Hp} {rs : List V} {ps : List Pl} (h : Pls H rs ps) {t : Addr} {p : Pl} (e : H t = some (.tup p.row)) : Pls H (rs ++ [.ref t]) (ps ++ [p]) := by
  induction h with
  | nil => exact .cons e .nil
  | cons e' _ ih => exact .cons e' ih
theorem Pls.len {H : Hp} {rs : List V} {ps : List Pl} (h : Pls H rs ps) : rs.length = ps.length := by
  induction h with
  | nil => rfl
  | cons _ _ ih => simp [ih]
theorem Pls.get {H : Hp} {rs : List V} {ps : List Pl} (h : Pls H rs ps) : ∀ {i : Nat} {p : Pl}, ps[i]? = some p → ∃ t, rs[i]? = some (.ref t) ∧ H t = some (.tup p.row) := by
  induction h with
  | nil => intro i p e; simp at e
  | @cons t q rs ps e' _ ih =>
    intro i p e
    cases i with
    | zero =>
      have : q = p := by simpa using e
      subst this
      exact ⟨t, rfl, e'⟩
    | succ i => exact ih (by simpa using e)
def Mach (H : Hp) (m : Addr) (ps : List Pl) : Prop := ∃ rs, H m = some (.tup rs) ∧ Pls H rs ps
theorem Mach.mono {H H' : Hp} (f : ∀ t xs, H t = some (.tup xs) → H' t = some (.tup xs)) {m : Addr} {ps : List Pl} (h : Mach H m ps) : Mach H' m ps := by
  obtain ⟨rs, e, h⟩ := h
  exact ⟨rs, f _ _ e, h.mono f⟩
theorem Mach.same {H H' : Hp} (s : Same H H') {m : Addr} {ps : List Pl} (h : Mach H m ps) : Mach H' m ps := h.mono fun t xs e => s _ _ e
theorem Mach.but {H H' : Hp} {a l m : Addr} {ps : List Pl} (pn : Pen H a l) (b : But a H H') (h : Mach H m ps) : Mach H' m ps := h.mono fun t xs e => b.mem (pn.notTup e) e
structure WF (ps : List Pl) : Prop where
  ne : 0 < ps.length
  le : ps.length ≤ 30
  ok : ∀ p ∈ ps, p.ok ps.length
theorem WF.get {ps : List Pl} (w : WF ps) {a : Int} (h0 : 0 ≤ a) (h1 : a < ps.length) : ∃ p, ps[a.toNat]? = some p ∧ p.ok ps.length := by
  have lt : a.toNat < ps.length := by omega
  exact ⟨ps[a.toNat], List.getElem?_eq_getElem lt, w.ok _ (List.getElem_mem lt)⟩
theorem str_toss_end : (V.str "end" : V) ≠ V.str "toss" := by intro h; exact absurd (V.str.inj h) (by decide +kernel)
theorem str_toss_never : (V.str "never" : V) ≠ V.str "toss" := by intro h; exact absurd (V.str.inj h) (by decide +kernel)
theorem str_end_toss : (V.str "toss" : V) ≠ V.str "end" := by intro h; exact absurd (V.str.inj h) (by decide +kernel)
theorem str_end_never : (V.str "never" : V) ≠ V.str "end" := by intro h; exact absurd (V.str.inj h) (by decide +kernel)
theorem str_never_toss : (V.str "toss" : V) ≠ V.str "never" := by intro h; exact absurd (V.str.inj h) (by decide +kernel)
theorem str_never_end : (V.str "end" : V) ≠ V.str "never" := by intro h; exact absurd (V.str.inj h) (by decide +kernel)
section
variable {P : Program} {w : World} {K : PySem.W.Frag} {mg : Str → Option Value} {base : Heap}
def spEnds : Sp := fun vs H Q _ => ∃ (a l q : Addr) (ns : List Int), vs = [.ref a, .ref q] ∧ Pen H a l ∧ H q = some (.lst (ns.map V.int)) ∧ 0 < ns.length ∧ ns.length ≤ 60 ∧ (∀ n ∈ ns, 0 ≤ n ∧ n < 100) ∧
  ∀ (t : Addr) (p : Pl) H', But a H H' → H t = none → H' t = some (.tup p.row) → Pen H' a l → p.still → Q (.ref t) H'
theorem Pen.notInts {H : Hp} {a l q : Addr} {ns : List Int} (p : Pen H a l) (h : H q = some (.lst (ns.map V.int))) : q ≠ a := by
  obtain ⟨cs, pos, val, ha, hl, _⟩ := p
  rintro rfl
  rw [ha] at h
  cases ns with
  | nil => cases h
  | cons x r => cases h
theorem scEnds : FnScope ["pen", "answers"] ["pen", "answers"] (defScope sEnds) := ⟨rfl, rfl, rfl, by decide +kernel, rfl, by decide +kernel, by decide +kernel⟩
theorem ok_ends {f g : Addr} {fd gd : FuncData} (F : Fun K "_law_ends" "_law_ends" sEnds f fd) (T : Names mg) (GD : FnOk P w K mg base CX0 2 g gd ["pen", "many"] spDraw) (PD : Def K mg "_law_draw" g gd ["pen", "many"]) :
    FnOk P w K mg base CX0 3 f fd ["pen", "answers"] spEnds := by
  refine F.ok scEnds (fun vs H Q E h => ?_) (fun cdv A outer s H vs Q E hr h => ?_)
  · obtain ⟨a, l, q, ns, rfl, _⟩ := h
    rfl
  · obtain ⟨a, l, r, ns, rfl, pn, hr1, h0, h60, hns, q⟩ := h
    refine ⟨_, (pss_cons (ps_if (pt_cmpR op_eq (pe_call GD (hr.mono (by decide)) (by rfl) PD.is PD.kp PD.bi .nil pass0 (pa_cons (pv 0) (pa_cons pe_int pa_nil))) pe_int (nomark _)) (pss_one (ps_ret (pe_tup (pa_cons pe_str pa_nil)))) pss_nil)
      (pss_one (ps_ret (pe_tup (pa_cons pe_str (pa_cons (pe_ix ix_list (pv 1) (pe_call GD (hr.mono (by decide)) (by rfl) PD.is PD.kp PD.bi .nil pass0 (pa_cons (pv 0) (pa_cons (pe_callB call_len_seq (by rfl) T.len PySem.boot_len (pa_cons (pv 1) pa_nil)) pa_nil))) (fun _ _ => rfl)) pa_nil)))))), ?_⟩
    refine ⟨.ref a, rfl, a, l, 7, rfl, pn, by decide, by decide +kernel, fun d H1 u0 u1 b1 p1 => ⟨rfl, _, rfl, ite2 (fun _ => ?_) (fun _ => ?_)⟩⟩
    · refine ⟨by show 1 ≤ sizeLine; decide, fun t nt => ?_⟩
      exact q t .never _ (b1.trans (But.of (Same.upd nt))) (b1.free (p1.apart nt).1 nt) upd_same (p1.same (Same.upd nt)) (.inl rfl)
    · have hr2 := b1.mem (pn.notInts hr1) hr1
      refine ⟨.ref r, rfl, .ref a, rfl, .ref r, rfl, r, _, rfl, .inl (SqL.of hr2), a, l, _, rfl, p1, ?_, ?_, fun d2 H2 v0 v1 b2 p2 => ?_⟩
      · rw [List.length_map]
        omega
      · rw [List.length_map]
        refine log_le (Nat.lt_of_le_of_lt (show _ ≤ 60 by omega) (by decide))
      · rw [List.length_map] at v1
        obtain ⟨j, rfl⟩ : ∃ j : Nat, d2 = (j : Int) := ⟨d2.toNat, by omega⟩
        have hj : j < ns.length := by omega
        refine ⟨r, _, j, .int ns[j], rfl, rfl, SqL.of (b2.mem (p1.notInts hr2) hr2), atI_nat (by rw [List.getElem?_map, List.getElem?_eq_getElem hj]; rfl), by show 2 ≤ sizeLine; decide, fun t nt => ?_⟩
        have b3 := b1.trans b2
        exact q t (.fin ns[j]) _ (b3.trans (But.of (Same.upd nt))) (b3.free (p2.apart nt).1 nt) upd_same (p2.same (Same.upd nt)) (.inr ⟨_, rfl, hns _ (List.getElem_mem hj)⟩)
/-! ### the numbers of the places changed -/
structure Order (n : Nat) (os : List Int) : Prop where
  len : os.length = n
  all : ∀ k : Int, 0 ≤ k → k < n → k ∈ os
  ok : ∀ k ∈ os, 0 ≤ k ∧ k < n
def spNumb : Sp := fun vs H Q _ => ∃ (m o : Addr) (ps : List Pl) (os : List Int), vs = [.ref m, .ref o] ∧ Mach H m ps ∧ WF ps ∧ H o = some (.lst (os.map V.int)) ∧ Order ps.length os ∧
  ∀ (t : Addr) (qs : List Pl) H', Same H H' → H t = none → Mach H' t qs → WF qs → Q (.ref t) H'
theorem flat_ints : ∀ ns : List Int, (ns.map V.int).all flatV = true
  | [] => rfl
  | _ :: r => flat_ints r
theorem find_int {os : List Int} {k : Int} (h : k ∈ os) : ∃ j : Nat, j < os.length ∧ (os.map V.int)[j]? = some (V.int k) ∧ ∀ (m : Nat) (z : V), m < j → (os.map V.int)[m]? = some z → eqV z (V.int k) = false := by
  induction os with
  | nil => cases h
  | cons x r ih =>
    by_cases e : x = k
    · subst e
      exact ⟨0, by simp, rfl, fun m z hm => absurd hm (Nat.not_lt_zero m)⟩
    · have h' : k ∈ r := by
        rcases List.mem_cons.mp h with z | z
        · exact absurd z.symm e
        · exact z
      obtain ⟨j, h1, h2, h3⟩ := ih h'
      refine ⟨j + 1, by simpa using h1, h2, fun m z hm hz => ?_⟩
      cases m with
      | zero =>
        have : z = V.int x := by simpa using hz.symm
        subst this
        show (x == k) = false
        simpa using e
      | succ m => exact h3 m z (by omega) (by simpa using hz)
theorem scNumb : FnScope ["machine", "order", "found", "old", "place"] ["machine", "order"] (defScope sNumb) := ⟨rfl, rfl, rfl, by decide +kernel, rfl, by decide +kernel, by decide +kernel⟩
theorem ok_numb {f : Addr} {fd : FuncData} (F : Fun K "_law_numbered" "_law_numbered" sNumb f fd) (T : Names mg) : FnOk P w K mg base CX0 1 f fd ["machine", "order"] spNumb := by
  refine F.ok scNumb (fun vs H Q E h => ?_) (fun cdv A outer s H vs Q E hr h => ?_)
  · obtain ⟨m, o, ps, os, rfl, _⟩ := h
    rfl
  · obtain ⟨m, o, ps, os, rfl, hm, hw, ho, hos, q⟩ := h
    refine ⟨_, (pss_cons (ps_set (i := 2) scNumb.nd rfl (.inl rfl) (pe_lst pa_nil))
      (pss_cons (ps_for PassesOwn.never rfl (pi_list (pv 1)) (pg_name (i := 3) scNumb.nd rfl (.inl rfl)) (pss_cons (ps_set (i := 4) scNumb.nd rfl (.inl rfl) (pe_ix ix_tup (pv 0) (pv 3) (fun _ _ => rfl)))
      (pss_cons (ps_if (pt_cmpR op_eq (pe_ix ix_tup (pv 4) pe_int (fun _ _ => rfl)) pe_str (nomark _)) (pss_one (ps_set (i := 4) scNumb.nd rfl (.inl rfl) (pe_tup (pa_cons pe_str (pa_cons (pe_bm PySem.F.plainAttrs_list PySem.F.slot_list_index PySem.F.type_list_index mt_index (pv 1) (pa_cons (pe_ix ix_tup (pv 4) pe_int (fun _ _ => rfl)) pa_nil)) (pa_cons (pe_bm PySem.F.plainAttrs_list PySem.F.slot_list_index PySem.F.type_list_index mt_index (pv 1) (pa_cons (pe_ix ix_tup (pv 4) pe_int (fun _ _ => rfl)) pa_nil)) pa_nil)))))) pss_nil)
      (pss_one (ps_expr (pe_bm PySem.F.plainAttrs_list PySem.F.slot_list_append PySem.F.type_list_append mt_append (pv 2) (pa_cons (pv 4) pa_nil)))))))
      (pss_one (ps_ret (pe_callTy call_tuple_of (by rfl) T.tuple (by decide +kernel) (pa_cons (pv 2) pa_nil)))))), ?_⟩
    refine ⟨Nat.zero_le _, fun L nL => ?_⟩
    have s1 : Same H (upd H L (.lst [])) := Same.upd nL
    have eL : upd H L (.lst []) L = some (.lst []) := upd_same
    change (_ : Hp → Prop) (upd H L (.lst []))
    generalize upd H L (.lst []) = H1 at s1 eL ⊢
    refine ⟨.ref o, rfl, o, rfl, ⟨_, SqL.of (s1 _ _ ho)⟩, for_list (K := K) (a := o) (xs := os.map V.int) (fun i σ H' => ∃ (v3 v4 : Option V) (rs : List V) (qs : List Pl), σ = [some (V.ref m), some (V.ref o), some (V.ref L), v3, v4] ∧ Same H H' ∧ H' L = some (.lst rs) ∧ Pls H' rs qs ∧ qs.length = i ∧ ∀ p ∈ qs, p.ok ps.length)
      ⟨_, _, [], [], rfl, s1, eL, .nil, rfl, by simp⟩ (fun i σ H' _ ⟨_, _, _, _, _, s, _⟩ => SqL.of (s _ _ ho)) ?_ ?_⟩
    · rintro i x σ H2 hx ⟨v3, v4, rs, qs, rfl, s2, e2, pl, len, okq⟩
      have hi : i < os.length := by
        have := (List.getElem?_eq_some_iff.mp hx).1
        rwa [List.length_map] at this
      have ex : x = .int os[i] := by
        rw [List.getElem?_map, List.getElem?_eq_getElem hi] at hx
        exact (Option.some.inj hx).symm
      subst ex
      obtain ⟨k0, k1⟩ := hos.ok _ (List.getElem_mem hi)
      obtain ⟨p, hp, okp⟩ := hw.get k0 k1
      obtain ⟨rs0, em, pls0⟩ := hm.same s2
      obtain ⟨t, ht, et⟩ := pls0.get hp
      obtain ⟨j, ej⟩ : ∃ j : Nat, os[i] = (j : Int) := ⟨os[i].toNat, by omega⟩
      rw [ej, Int.toNat_natCast] at hp ht
      have hlen : rs.length < sizeLine := by
        have := pl.len
        have := hos.len
        have := hw.le
        have e : sizeLine = 16777216 := by decide
        omega
      refine ⟨.ref m, rfl, .int os[i], rfl, m, rs0, _, .ref t, rfl, rfl, SqT.of em, by rw [ej]; exact atI_nat ht, ?_⟩
      dsimp only
      refine on (if_tail (fun σ H3 => ∃ (t' : Addr) (p' : Pl), σ = [some (V.ref m), some (V.ref o), some (V.ref L), some (V.int os[i]), some (V.ref t')] ∧ Same H2 H3 ∧ H3 t' = some (.tup p'.row) ∧ p'.ok ps.length) ?_ (fun tl => ?_))
      rotate_left
      · cases p with
        | toss x y =>
          refine ⟨.ref t, rfl, t, _, 0, .str "toss", rfl, rfl, SqT.of et, atI_nat (j := 0) rfl, rfl, _, rfl, ?_⟩
          rw [decide_eq_true rfl]
          refine iteT ?_
          obtain ⟨x0, x1, y0, y1⟩ := okp
          obtain ⟨jx, jx1, jx2, jx3⟩ := find_int (hos.all x x0 x1)
          obtain ⟨jy, jy1, jy2, jy3⟩ := find_int (hos.all y y0 y1)
          have ho2 := s2 _ _ ho
          refine ⟨.ref o, rfl, .inl ⟨rfl, _, SqL.of ho2⟩, .ref t, rfl, t, _, 1, .int x, rfl, rfl, SqT.of et, atI_nat (j := 1) rfl, o, _, .int x, jx, .int x, rfl, rfl, SqL.of ho2, rfl, flat_ints os, jx2, by show (x == x) = true; simp, jx3, ?_⟩
          refine ⟨.ref o, rfl, .inl ⟨rfl, _, SqL.of ho2⟩, .ref t, rfl, t, _, 2, .int y, rfl, rfl, SqT.of et, atI_nat (j := 2) rfl, o, _, .int y, jy, .int y, rfl, rfl, SqL.of ho2, rfl, flat_ints os, jy2, by show (y == y) = true; simp, jy3, ?_⟩
          refine ⟨by show 3 ≤ sizeLine; decide, fun t' nt => tl _ _ ⟨t', .toss (jx : Nat) (jy : Nat), rfl, Same.upd nt, upd_same, ?_⟩⟩
          have := hos.len
          exact ⟨by omega, by omega, by omega, by omega⟩
        | fin n =>
          refine ⟨.ref t, rfl, t, _, 0, .str "end", rfl, rfl, SqT.of et, atI_nat (j := 0) rfl, rfl, _, rfl, ?_⟩
          rw [decide_eq_false str_toss_end]
          exact iteF (tl _ _ ⟨t, .fin n, rfl, Same.refl _, et, okp⟩)
        | never =>
          refine ⟨.ref t, rfl, t, _, 0, .str "never", rfl, rfl, SqT.of et, atI_nat (j := 0) rfl, rfl, _, rfl, ?_⟩
          rw [decide_eq_false str_toss_never]
          exact iteF (tl _ _ ⟨t, .never, rfl, Same.refl _, et, okp⟩)
      · rintro σ H3 ⟨t', p', rfl, s3, et', okp'⟩
        have e3 := s3 _ _ e2
        refine ⟨.ref L, rfl, .inl ⟨rfl, _, SqL.of e3⟩, .ref t', rfl, L, _, _, rfl, rfl, e3, hlen, ?_⟩
        have ntL : ∀ b xs, H3 b = some (.tup xs) → b ≠ L := by
          rintro b xs e rfl
          rw [e3] at e
          cases e
        refine ⟨_, _, rs ++ [.ref t'], qs ++ [p'], rfl, ?_, upd_same, ?_, by simp [len], ?_⟩
        · intro b u e
          rw [upd_ne (ne_of_none e nL)]
          exact s3 _ _ (s2 _ _ e)
        · exact ((pl.mono fun b xs e => s3 _ _ e).snoc et').mono fun b xs e => by rw [upd_ne (ntL _ _ e)]; exact e
        · intro x hx
          rcases List.mem_append.mp hx with hx | hx
          · exact okq x hx
          · rw [List.mem_singleton.mp hx]
            exact okp'
    · rintro σ H2 ⟨v3, v4, rs, qs, rfl, s2, e2, pl, len, okq⟩
      rw [List.length_map, hos.len] at len
      refine ⟨.ref L, rfl, L, _, rfl, .inl ⟨SqL.of e2, fun t nt => ?_⟩⟩
      have s3 := Same.upd (o := .tup rs) nt
      exact q t qs _ (s2.trans s3) (s2.free nt) ⟨rs, upd_same, pl.mono fun b xs e => s3 _ _ e⟩ ⟨by have := hw.ne; omega, by have := hw.le; omega, by rw [len]; exact okq⟩
/-! ### a machine that is drawn -/
theorem ixN_nat {n j : Nat} (h : j < n) : ixN n (j : Int) = some j := by
  unfold ixN
  rw [if_pos (by omega), if_pos (by omega)]
  simp
theorem order_swap {n z : Nat} (h : z < n) : Order n ((((List.range n).map fun i : Nat => (i : Int)).set 0 (z : Int)).set z 0) := by
  have len : ((List.range n).map fun i : Nat => (i : Int)).length = n := by simp
  refine ⟨by simp, fun k k0 k1 => ?_, fun k hk => ?_⟩
  · obtain ⟨j, rfl⟩ : ∃ j : Nat, k = (j : Int) := ⟨k.toNat, by omega⟩
    have hj : j < n := by omega
    refine List.mem_of_getElem? (i := if j = 0 then z else if j = z then 0 else j) ?_
    rw [List.getElem?_set, List.getElem?_set]
    by_cases e0 : j = 0
    · subst e0
      rw [if_pos rfl, if_pos rfl, List.length_set, len, if_pos h]
      rfl
    · rw [if_neg e0]
      by_cases ez : j = z
      · subst ez
        rw [if_pos rfl, if_neg e0, if_pos rfl, len, if_pos (by omega)]
      · rw [if_neg ez, if_neg (fun q => ez q.symm), if_neg (fun q => e0 q.symm), List.getElem?_map, List.getElem?_range hj]
        rfl
  · rcases List.mem_or_eq_of_mem_set hk with hk | rfl
    · rcases List.mem_or_eq_of_mem_set hk with hk | rfl
      · obtain ⟨i, hi, rfl⟩ := List.mem_map.mp hk
        have := List.mem_range.mp hi
        omega
      · omega
    · omega
theorem first_is {n : Nat} (h : 0 < n) {d : Int} (d0 : 0 ≤ d) (d1 : d < 6) : ∃ z : Nat, z < n ∧ atI [V.int ((n : Int) - 1), V.int 0, V.int 0, V.int 0, V.int 0, V.int 0] d = some (V.int (z : Nat)) := by
  rcases (show d = 0 ∨ d = 1 ∨ d = 2 ∨ d = 3 ∨ d = 4 ∨ d = 5 by omega) with rfl | rfl | rfl | rfl | rfl | rfl
  · refine ⟨n - 1, by omega, ?_⟩
    rw [show ((n - 1 : Nat) : Int) = (n : Int) - 1 by omega]
    rfl
  all_goals exact ⟨0, h, rfl⟩
theorem rg_is (n : Nat) : rgV 0 (n : Int) = ((List.range n).map fun i : Nat => (i : Int)).map V.int := by
  unfold rgV
  rw [List.map_map, show ((n : Int) - 0).toNat = n by omega]
  refine List.map_congr_left fun i _ => ?_
  show V.int (0 + (i : Int)) = V.int (i : Int)
  rw [Int.zero_add]
def spMach : Sp := fun vs H Q _ => ∃ (a l r : Addr) (m : Int) (ns : List Int), vs = [.ref a, .int m, .ref r] ∧ Pen H a l ∧ 0 ≤ m ∧ m ≤ 20 ∧ H r = some (.lst (ns.map V.int)) ∧ 0 < ns.length ∧ ns.length ≤ 60 ∧ (∀ n ∈ ns, 0 ≤ n ∧ n < 100) ∧
  ∀ (t : Addr) (ps : List Pl) H', But a H H' → H t = none → Mach H' t ps → WF ps → Pen H' a l → Q (.ref t) H'
theorem scMach : FnScope ["pen", "most", "answers", "tosses", "others", "many", "first", "places", "at", "order"] ["pen", "most", "answers"] (defScope sMach) := ⟨rfl, rfl, rfl, by decide +kernel, rfl, by decide +kernel, by decide +kernel⟩
theorem ok_mach {f g e n : Addr} {fd gd ed nd : FuncData} (F : Fun K "_law_machine" "_law_machine" sMach f fd) (T : Names mg) (GD : FnOk P w K mg base CX0 2 g gd ["pen", "many"] spDraw) (PD : Def K mg "_law_draw" g gd ["pen", "many"])
    (GE : FnOk P w K mg base CX0 3 e ed ["pen", "answers"] spEnds) (PE_ : Def K mg "_law_ends" e ed ["pen", "answers"]) (GN : FnOk P w K mg base CX0 1 n nd ["machine", "order"] spNumb) (PN : Def K mg "_law_numbered" n nd ["machine", "order"]) :
    FnOk P w K mg base CX0 4 f fd ["pen", "most", "answers"] spMach := by
  refine F.ok scMach (fun vs H Q E h => ?_) (fun cdv A outer s H vs Q E hr h => ?_)
  · obtain ⟨a, l, r, m, ns, rfl, _⟩ := h
    rfl
  · obtain ⟨a, l, r, m, ns, rfl, pn, m0, m20, hr1, h0, h60, hns, q⟩ := h
    refine ⟨_, (pss_cons (ps_par (i := 3) (j := 4) (by rfl) scMach.nd rfl rfl (by decide) rfl rfl (pa_cons (pe_call GD (hr.mono (by decide)) (by rfl) PD.is PD.kp PD.bi .nil pass0 (pa_cons (pv 0) (pa_cons (pe_op op_add (pv 1) pe_int) pa_nil))) (pa_cons (pe_op op_add pe_int (pe_call GD (hr.mono (by decide)) (by rfl) PD.is PD.kp PD.bi .nil pass0 (pa_cons (pv 0) (pa_cons pe_int pa_nil)))) pa_nil)) (by rfl))
      (pss_cons (ps_set (i := 5) scMach.nd rfl (.inl rfl) (pe_op op_add (pv 3) (pv 4)))
      (pss_cons (ps_set (i := 6) scMach.nd rfl (.inl rfl) (pe_ifExp (pt_cmpR op_gt (pv 3) pe_int (nomark _)) (pe_ix ix_list (pe_lst (pa_cons (pe_op op_sub (pv 5) pe_int) (pa_cons pe_int (pa_cons pe_int (pa_cons pe_int (pa_cons pe_int (pa_cons pe_int pa_nil))))))) (pe_call GD (hr.mono (by decide)) (by rfl) PD.is PD.kp PD.bi .nil pass0 (pa_cons (pv 0) (pa_cons pe_int pa_nil))) (fun _ _ => rfl)) pe_int))
      (pss_cons (ps_set (i := 7) scMach.nd rfl (.inl rfl) (pe_lst pa_nil))
      (pss_cons (ps_for PassesOwn.never rfl (pi_range1 rfl T.range (pa_cons (pv 5) pa_nil)) (pg_name (i := 8) scMach.nd rfl (.inl rfl)) (pss_one (ps_if (pt_cmpR op_lt (pv 8) (pv 3) (nomark _)) (pss_one (ps_expr (pe_bm PySem.F.plainAttrs_list PySem.F.slot_list_append PySem.F.type_list_append mt_append (pv 7) (pa_cons (pe_tup (pa_cons pe_str (pa_cons (pe_call GD (hr.mono (by decide)) (by rfl) PD.is PD.kp PD.bi .nil pass0 (pa_cons (pv 0) (pa_cons (pv 5) pa_nil))) (pa_cons (pe_call GD (hr.mono (by decide)) (by rfl) PD.is PD.kp PD.bi .nil pass0 (pa_cons (pv 0) (pa_cons (pv 5) pa_nil))) pa_nil)))) pa_nil)))) (pss_one (ps_expr (pe_bm PySem.F.plainAttrs_list PySem.F.slot_list_append PySem.F.type_list_append mt_append (pv 7) (pa_cons (pe_call GE (hr.mono (by decide)) (by rfl) PE_.is PE_.kp PE_.bi .nil pass0 (pa_cons (pv 0) (pa_cons (pv 2) pa_nil))) pa_nil)))))))
      (pss_cons (ps_set (i := 9) scMach.nd rfl (.inl rfl) (pe_listRg rfl (by rfl) T.list (prg_1 (by rfl) T.range (pv 5))))
      (pss_cons (ps_asg (pe_tup (pa_cons (pe_ix ix_list (pv 9) (pv 6) (fun _ _ => rfl)) (pa_cons (pe_ix ix_list (pv 9) pe_int (fun _ _ => rfl)) pa_nil))) (pg_tup rfl (pgs_cons (pg_sub (pv 9) pe_int set_list) (pgs_cons (pg_sub (pv 9) (pv 6) set_list) pgs_nil))))
      (pss_one (ps_ret (pe_call GN (hr.mono (by decide)) (by rfl) PN.is PN.kp PN.bi .nil pass0 (pa_cons (pe_callTy call_tuple_of (by rfl) T.tuple (by decide +kernel) (pa_cons (pv 7) pa_nil)) (pa_cons (pv 9) pa_nil)))))))))))), ?_⟩
    refine ⟨.ref a, rfl, .int m, rfl, _, _, rfl, rfl, a, l, m + 1, rfl, pn, by omega, log_le (Nat.lt_of_le_of_lt (show _ ≤ 100 by omega) (by decide)), fun d H1 u0 u1 b1 p1 => ?_⟩
    refine ⟨.ref a, rfl, a, l, 3, rfl, p1, by decide, by decide +kernel, fun d2 H2 v0 v1 b2 p2 => ⟨_, _, rfl, rfl, _, _, rfl, ?_⟩⟩
    obtain ⟨n, hn⟩ : ∃ n : Nat, d + (1 + d2) = (n : Int) := ⟨(d + (1 + d2)).toNat, by omega⟩
    refine ⟨_, rfl, _, rfl, _, _, rfl, rfl, ?_⟩
    dsimp only
    rw [hn]
    have n0 : 0 < n := by omega
    have n30 : n ≤ 30 := by omega
    have b12 := b1.trans b2
    refine on (asg_tail (fun v H' => ∃ z : Nat, v = .int (z : Nat) ∧ z < n ∧ But a H H' ∧ Pen H' a l) ?_ (fun t => ?_))
    rotate_left
    · refine ⟨_, rfl, _, _, rfl, rfl, _, rfl, ite2 (fun _ => ?_) (fun _ => t _ _ ⟨0, rfl, n0, b12, p2⟩)⟩
      refine ⟨_, rfl, _, _, rfl, rfl, by show 6 ≤ sizeLine; decide, fun e ne => ?_⟩
      have s3 : Same H2 (upd H2 e (.lst [.int ((n : Int) - 1), .int 0, .int 0, .int 0, .int 0, .int 0])) := Same.upd ne
      have he : upd H2 e (.lst [.int ((n : Int) - 1), .int 0, .int 0, .int 0, .int 0, .int 0]) e = some (.lst [.int ((n : Int) - 1), .int 0, .int 0, .int 0, .int 0, .int 0]) := upd_same
      have p3 := p2.same s3
      have nea := (p2.apart ne).1
      generalize upd H2 e (.lst [.int ((n : Int) - 1), .int 0, .int 0, .int 0, .int 0, .int 0]) = H3 at s3 he p3 ⊢
      refine ⟨.ref a, rfl, a, l, 6, rfl, p3, by decide, by decide +kernel, fun d3 H4 w0 w1 b4 p4 => ?_⟩
      obtain ⟨z, hz, ez⟩ := first_is n0 w0 w1
      exact ⟨e, _, d3, .int (z : Nat), rfl, rfl, SqL.of (b4.mem nea he), ez, t _ _ ⟨z, rfl, hz, (b12.trans (But.of s3)).trans b4, p4⟩⟩
    · rintro v H3 ⟨z, rfl, hz, b3, p3⟩
      refine ⟨Nat.zero_le _, fun L nL => ?_⟩
      have aL := p3.apart nL
      have nLH : H L = none := b3.free aL.1 nL
      have b4 : But a H (upd H3 L (.lst [])) := b3.trans (But.of (Same.upd nL))
      have p4 : Pen (upd H3 L (.lst [])) a l := p3.same (Same.upd nL)
      have eL : upd H3 L (.lst []) L = some (.lst []) := upd_same
      change (_ : Hp → Prop) (upd H3 L (.lst []))
      generalize upd H3 L (.lst []) = H4 at b4 p4 eL ⊢
      clear nL
      refine ⟨_, rfl, _, rfl, by omega, by omega, for_range (lo := 0) (n := n) (fun i σ H' => ∃ (v8 : Option V) (rs : List V) (ps : List Pl), σ = [some (V.ref a), some (V.int m), some (V.ref r), some (V.int d), some (V.int (1 + d2)), some (V.int (n : Nat)), some (V.int (z : Nat)), some (V.ref L), v8, none] ∧ But a H H' ∧ Pen H' a l ∧ H' L = some (.lst rs) ∧ Pls H' rs ps ∧ ps.length = i ∧ ∀ p ∈ ps, p.ok n)
        ⟨_, [], [], rfl, b4, p4, eL, .nil, rfl, by simp⟩ ?_ ?_⟩
      · rintro i σ H5 hi ⟨v8, rs, ps, rfl, b5, p5, e5, pl, len, okp⟩
        have hlen : rs.length < sizeLine := by
          have := pl.len
          have e : sizeLine = 16777216 := by decide
          omega
        have fin : ∀ (t : Addr) (p : Pl) (H7 : Hp), But a H5 H7 → Pen H7 a l → H7 t = some (.tup p.row) → p.ok n → H7 L = some (.lst rs) ∧ ∃ (v8 : Option V) (rs' : List V) (ps' : List Pl), [some (V.ref a), some (V.int m), some (V.ref r), some (V.int d), some (V.int (1 + d2)), some (V.int (n : Nat)), some (V.int (z : Nat)), some (V.ref L), some (V.int (0 + (i : Nat))), none] = [some (V.ref a), some (V.int m), some (V.ref r), some (V.int d), some (V.int (1 + d2)), some (V.int (n : Nat)), some (V.int (z : Nat)), some (V.ref L), v8, none] ∧
            But a H (upd H7 L (.lst (rs ++ [V.ref t]))) ∧ Pen (upd H7 L (.lst (rs ++ [V.ref t]))) a l ∧ upd H7 L (.lst (rs ++ [V.ref t])) L = some (.lst rs') ∧ Pls (upd H7 L (.lst (rs ++ [V.ref t]))) rs' ps' ∧ ps'.length = i + 1 ∧ ∀ p ∈ ps', p.ok n := by
          intro t p H7 b7 p7 et okt
          have e7 := b7.mem aL.1 e5
          refine ⟨e7, _, rs ++ [V.ref t], ps ++ [p], rfl, ?_, ?_, upd_same, ?_, by simp [len], ?_⟩
          · intro b o e nb
            rw [upd_ne (ne_of_none e nLH)]
            exact b7 _ _ (b5 _ _ e nb) nb
          · obtain ⟨cs, pos, val, h1, h2, h3⟩ := p7
            exact ⟨cs, pos, val, by rw [upd_ne aL.1.symm]; exact h1, by rw [upd_ne aL.2.symm]; exact h2, h3⟩
          · have pl7 : Pls H7 rs ps := pl.mono fun b xs e => b7.mem (p5.notTup e) e
            refine (pl7.snoc et).mono fun b xs e => ?_
            rw [upd_ne (by rintro rfl; rw [e7] at e; cases e)]
            exact e
          · intro x hx
            rcases List.mem_append.mp hx with hx | hx
            · exact okp x hx
            · rw [List.mem_singleton.mp hx]
              exact okt
        have hb : (0 : Int) < (n : Nat) := by omega
        have hb2 : ((n : Nat) : Int).natAbs.log2 < 9000 := log_le (Nat.lt_of_le_of_lt (show _ ≤ 100 by omega) (by decide))
        refine ⟨_, rfl, _, rfl, _, _, rfl, rfl, _, rfl, ite2 (fun _ => ?_) (fun _ => ?_)⟩
        · refine ⟨.ref L, rfl, .inl ⟨rfl, _, SqL.of e5⟩, .ref a, rfl, _, rfl, a, l, _, rfl, p5, hb, hb2, fun x H6 x0 x1 b6 p6 => ?_⟩
          refine ⟨.ref a, rfl, _, rfl, a, l, _, rfl, p6, hb, hb2, fun y H7 y0 y1 b7 p7 => ⟨by show 3 ≤ sizeLine; decide, fun t nt => ?_⟩⟩
          obtain ⟨e8, go⟩ := fin t (.toss x y) _ ((b6.trans b7).trans (But.of (Same.upd nt))) (p7.same (Same.upd nt)) upd_same ⟨x0, x1, y0, y1⟩
          exact ⟨L, _, _, rfl, rfl, e8, hlen, go⟩
        · refine ⟨.ref L, rfl, .inl ⟨rfl, _, SqL.of e5⟩, .ref a, rfl, .ref r, rfl, a, l, r, ns, rfl, p5, b5.mem (pn.notInts hr1) hr1, h0, h60, hns, fun t p H6 b6 nt et p6 st => ?_⟩
          obtain ⟨e8, go⟩ := fin t p H6 b6 p6 et (st.ok n)
          exact ⟨L, _, _, rfl, rfl, e8, hlen, go⟩
      · rintro σ H5 ⟨v8, rs, ps, rfl, b5, p5, e5, pl, len, okp⟩
        refine ⟨_, rfl, _, rfl, RgOk.of_le (by decide) (by omega) (by decide) (by omega), fun O nO => ?_⟩
        rw [rg_is]
        have aO := p5.apart nO
        have nOH : H O = none := b5.free aO.1 nO
        have s6 := Same.upd (o := .lst (((List.range n).map fun i : Nat => (i : Int)).map V.int)) nO
        have e6 : upd H5 O (.lst (((List.range n).map fun i : Nat => (i : Int)).map V.int)) O = some (.lst (((List.range n).map fun i : Nat => (i : Int)).map V.int)) := upd_same
        generalize upd H5 O (.lst (((List.range n).map fun i : Nat => (i : Int)).map V.int)) = H6 at s6 e6 ⊢
        have gz : ∀ j : Nat, j < n → (((List.range n).map fun i : Nat => (i : Int)).map V.int)[j]? = some (V.int (j : Nat)) := fun j hj => by
          rw [List.getElem?_map, List.getElem?_map, List.getElem?_range hj]
          rfl
        refine ⟨.ref O, rfl, _, rfl, O, _, _, .int (z : Nat), rfl, rfl, SqL.of e6, atI_nat (gz z hz), .ref O, rfl, O, _, 0, .int 0, rfl, rfl, SqL.of e6, atI_nat (j := 0) (gz 0 n0), by show 2 ≤ sizeLine; decide, fun t nt => ?_⟩
        have s7 := Same.upd (o := .tup [.int (z : Nat), .int 0]) nt
        have e7 := s7 _ _ e6
        have et : upd H6 t (.tup [.int (z : Nat), .int 0]) t = some (.tup [.int (z : Nat), .int 0]) := upd_same
        generalize upd H6 t (.tup [.int (z : Nat), .int 0]) = H7 at s7 e7 et ⊢
        have ln : (((List.range n).map fun i : Nat => (i : Int)).map V.int).length = n := by simp
        refine ⟨t, _, rfl, SqT.of et, rfl, _, _, rfl, .ref O, rfl, O, _, 0, 0, rfl, rfl, e7, by rw [ln]; exact ixN_nat (j := 0) n0, ?_⟩
        refine ⟨_, _, rfl, .ref O, rfl, _, rfl, O, _, _, z, rfl, rfl, upd_same, by rw [List.length_set, ln]; exact ixN_nat hz, rfl, ?_⟩
        have nOO : ∀ b o, H5 b = some o → b ≠ O := fun b o e => ne_of_none e nO
        have s57 := s6.trans s7
        have up : ∀ (x y : HO) b o, H5 b = some o → upd (upd H7 O x) O y b = some o := fun x y b o e => by
          rw [upd_ne (nOO b o e), upd_ne (nOO b o e)]
          exact s57 _ _ e
        have e8 : upd (upd H7 O (.lst ((((List.range n).map fun i : Nat => (i : Int)).map V.int).set 0 (.int (z : Nat))))) O (.lst (((((List.range n).map fun i : Nat => (i : Int)).map V.int).set 0 (.int (z : Nat))).set z (.int 0))) O = some (.lst (((((List.range n).map fun i : Nat => (i : Int)).set 0 (z : Int)).set z 0).map V.int)) := by
          rw [upd_same, List.map_set, List.map_set]
        have up := up (.lst ((((List.range n).map fun i : Nat => (i : Int)).map V.int).set 0 (.int (z : Nat)))) (.lst (((((List.range n).map fun i : Nat => (i : Int)).map V.int).set 0 (.int (z : Nat))).set z (.int 0)))
        change (_ : Hp → Prop) (upd (upd H7 O (.lst ((((List.range n).map fun i : Nat => (i : Int)).map V.int).set 0 (.int (z : Nat))))) O (.lst (((((List.range n).map fun i : Nat => (i : Int)).map V.int).set 0 (.int (z : Nat))).set z (.int 0))))
        generalize upd (upd H7 O (.lst ((((List.range n).map fun i : Nat => (i : Int)).map V.int).set 0 (.int (z : Nat))))) O (.lst (((((List.range n).map fun i : Nat => (i : Int)).map V.int).set 0 (.int (z : Nat))).set z (.int 0))) = H8 at e8 up ⊢
        have s58 : Same H5 H8 := up
        refine ⟨.ref L, rfl, L, _, rfl, .inl ⟨SqL.of (up _ _ e5), fun p np => ?_⟩⟩
        have s9 := Same.upd (o := .tup rs) np
        have s59 := s58.trans s9
        refine ⟨.ref O, rfl, p, O, ps, _, rfl, ⟨rs, upd_same, pl.mono fun b xs e => s59 _ _ e⟩, ⟨by omega, by omega, by rw [len]; exact okp⟩, s9 _ _ e8, by rw [len]; exact order_swap hz, fun t qs H9 s10 nt hm hw => ?_⟩
        have s50 := s59.trans s10
        exact q t qs H9 (b5.trans (But.of s50)) (b5.free ((p5.same s59).apart nt).1 (s59.free nt)) hm hw (p5.same s50)
end
end Z

set_option Elab.async false
set_option linter.all false
set_option maxRecDepth 100000
set_option maxHeartbeats 4000000
namespace Z
open PySem PySem.Spec PyProof.Rows L2 GG
abbrev sToss : Stmt := top 8
abbrev sNext : Stmt := top 9
abbrev sWalk : Stmt := top 19
/-! ### what a machine does on a tape -/
inductive Oc where
  | ended (n : Int) (u : Nat)
  | nev (u : Nat)
  | going (a : Int)
def Oc.row : Oc → List V
  | .ended n u => [.str "ended", .int n, .int (u : Nat)]
  | .nev u => [.str "never", .int (u : Nat)]
  | .going a => [.str "going", .int a]
def place (ps : List Pl) (a : Int) : Pl := ps.getD a.toNat .never
def run (ps : List Pl) : List Bool → Int → Nat → Oc
  | [], a, u => match place ps a with
    | .toss _ _ => .going a
    | .fin n => .ended n u
    | .never => .nev u
  | c :: t, a, u => match place ps a with
    | .toss x y => run ps t (if c then x else y) (u + 1)
    | .fin n => .ended n u
    | .never => .nev u
def tl_ (z : Str) : List Bool := z.cps.toList.map (· == 72)
def Pl.tosses : Pl → Bool
  | .toss _ _ => true
  | _ => false
theorem run_fin {ps : List Pl} {a n : Int} (h : place ps a = .fin n) (t : List Bool) (u : Nat) : run ps t a u = .ended n u := by
  cases t <;> simp [run, h]
theorem run_nev {ps : List Pl} {a : Int} (h : place ps a = .never) (t : List Bool) (u : Nat) : run ps t a u = .nev u := by
  cases t <;> simp [run, h]
theorem run_nil {ps : List Pl} {a x y : Int} (h : place ps a = .toss x y) (u : Nat) : run ps [] a u = .going a := by
  simp [run, h]
theorem run_cons {ps : List Pl} {a x y : Int} (h : place ps a = .toss x y) (c : Bool) (t : List Bool) (u : Nat) : run ps (c :: t) a u = run ps t (if c then x else y) (u + 1) := by
  simp [run, h]
/-- what is behind the end of a run doesn't matter -/
theorem run_cut {ps : List Pl} : ∀ (t : List Bool) (a : Int) (u : Nat), (∃ b, run ps t a u = .going b) ∨ ∃ j, j ≤ t.length ∧ (∀ x, run ps (t.take j ++ x) a u = run ps t a u) ∧ ((∃ n, run ps t a u = .ended n (u + j)) ∨ run ps t a u = .nev (u + j))
  | t, a, u => by
    cases e : place ps a with
    | fin n =>
      right
      exact ⟨0, Nat.zero_le _, fun x => by rw [run_fin e, run_fin e], .inl ⟨n, run_fin e _ _⟩⟩
    | never =>
      right
      exact ⟨0, Nat.zero_le _, fun x => by rw [run_nev e, run_nev e], .inr (run_nev e _ _)⟩
    | toss x y =>
      cases t with
      | nil => exact .inl ⟨a, run_nil e _⟩
      | cons c t =>
        rw [run_cons e]
        rcases run_cut t (if c then x else y) (u + 1) with h | ⟨j, h1, h2, h3⟩
        · exact .inl h
        · right
          refine ⟨j + 1, by simpa using h1, fun z => ?_, ?_⟩
          · rw [List.take_succ_cons, List.cons_append, run_cons e, h2]
          · rw [show u + (j + 1) = u + 1 + j by omega]
            exact h3
theorem place_get {ps : List Pl} {a : Int} {p : Pl} (h : ps[a.toNat]? = some p) : place ps a = p := by
  unfold place
  rw [List.getD_eq_getElem?_getD, h]
  rfl
theorem wf_next {ps : List Pl} (hw : WF ps) {a x y : Int} (h0 : 0 ≤ a) (h1 : a < ps.length) (e : place ps a = .toss x y) (c : Bool) : 0 ≤ (if c then x else y) ∧ (if c then x else y) < ps.length := by
  obtain ⟨p, hp, okp⟩ := hw.get h0 h1
  rw [place_get hp] at e
  subst e
  obtain ⟨a1, a2, a3, a4⟩ := okp
  cases c
  · exact ⟨a3, a4⟩
  · exact ⟨a1, a2⟩
/-- machine[index] -/
theorem Mach.at {H : Hp} {m : Addr} {ps : List Pl} (hm : Mach H m ps) (hw : WF ps) {a : Int} (h0 : 0 ≤ a) (h1 : a < ps.length) : ∃ (rs : List V) (t : Addr), H m = some (.tup rs) ∧ atI rs a = some (.ref t) ∧ H t = some (.tup (place ps a).row) := by
  obtain ⟨rs, em, pl⟩ := hm
  obtain ⟨p, hp, _⟩ := hw.get h0 h1
  obtain ⟨t, ht, et⟩ := pl.get hp
  rw [place_get hp]
  obtain ⟨j, rfl⟩ : ∃ j : Nat, a = (j : Int) := ⟨a.toNat, by omega⟩
  exact ⟨rs, t, em, atI_nat (by rw [Int.toNat_natCast] at ht; exact ht), et⟩
section
variable {P : Program} {w : World} {K : PySem.W.Frag} {mg : Str → Option Value} {base : Heap}
/-! ### the program -/
def spToss : Sp := fun vs H Q _ => ∃ (t : Addr) (p : Pl), vs = [.ref t] ∧ H t = some (.tup p.row) ∧ Q (.bl p.tosses) H
theorem scToss : FnScope ["state"] ["state"] (defScope sToss) := ⟨rfl, rfl, rfl, by decide +kernel, rfl, by decide +kernel, by decide +kernel⟩
theorem ok_toss {f : Addr} {fd : FuncData} (F : Fun K "is_toss" "is_toss" sToss f fd) : FnOk P w K mg base CX0 1 f fd ["state"] spToss := by
  refine F.ok scToss (fun vs H Q E h => ?_) (fun cdv A outer s H vs Q E hr h => ?_)
  · obtain ⟨t, p, rfl, _⟩ := h
    rfl
  · obtain ⟨t, p, rfl, et, q⟩ := h
    refine ⟨_, (pss_one (ps_ret (pe_cmpR op_eq (pe_ix ix_tup (pv 0) pe_int (fun _ _ => rfl)) pe_str (nomark _)))), ?_⟩
    cases p with
    | toss x y =>
      refine ⟨.ref t, rfl, t, _, 0, .str "toss", rfl, rfl, SqT.of et, atI_nat (j := 0) rfl, rfl, ?_⟩
      rw [decide_eq_true rfl]
      exact q
    | fin n =>
      refine ⟨.ref t, rfl, t, _, 0, .str "end", rfl, rfl, SqT.of et, atI_nat (j := 0) rfl, rfl, ?_⟩
      rw [decide_eq_false str_toss_end]
      exact q
    | never =>
      refine ⟨.ref t, rfl, t, _, 0, .str "never", rfl, rfl, SqT.of et, atI_nat (j := 0) rfl, rfl, ?_⟩
      rw [decide_eq_false str_toss_never]
      exact q
theorem sign_H (c : Nat) : decide ((V.str ⟨#[c]⟩ : V) = V.str "H") = (c == 72) := by
  by_cases h : c = 72
  · subst h
    rw [decide_eq_true (by decide +kernel)]
    rfl
  · rw [decide_eq_false]
    · simpa using h
    · intro e
      have e2 : (#[c] : Array Nat) = (PySem.Str.ofString "H").cps := congrArg Str.cps (V.str.inj e)
      have e3 : (PySem.Str.ofString "H").cps = #[72] := by decide +kernel
      rw [e3] at e2
      injection e2 with e4
      injection e4 with e5
      exact h e5
def spNext : Sp := fun vs H Q _ => ∃ (m : Addr) (a : Int) (c : Nat) (ps : List Pl) (x y : Int), vs = [.ref m, .int a, .str ⟨#[c]⟩] ∧ Mach H m ps ∧ WF ps ∧ 0 ≤ a ∧ a < ps.length ∧ place ps a = .toss x y ∧ Q (.int (if c == 72 then x else y)) H
theorem scNext : FnScope ["machine", "index", "side"] ["machine", "index", "side"] (defScope sNext) := ⟨rfl, rfl, rfl, by decide +kernel, rfl, by decide +kernel, by decide +kernel⟩
theorem ok_next {f : Addr} {fd : FuncData} (F : Fun K "next_state" "next_state" sNext f fd) : FnOk P w K mg base CX0 1 f fd ["machine", "index", "side"] spNext := by
  refine F.ok scNext (fun vs H Q E h => ?_) (fun cdv A outer s H vs Q E hr h => ?_)
  · obtain ⟨t, a, c, ps, x, y, rfl, _⟩ := h
    rfl
  · obtain ⟨m, a, c, ps, x, y, rfl, hm, hw, h0, h1, e, q⟩ := h
    refine ⟨_, (pss_one (ps_ret (pe_ifExp (pt_cmpR op_eq (pv 2) pe_str (nomark _)) (pe_ix ix_tup (pe_ix ix_tup (pv 0) (pv 1) (fun _ _ => rfl)) pe_int (fun _ _ => rfl)) (pe_ix ix_tup (pe_ix ix_tup (pv 0) (pv 1) (fun _ _ => rfl)) pe_int (fun _ _ => rfl))))), ?_⟩
    obtain ⟨rs, t, em, er, et⟩ := hm.at hw h0 h1
    rw [e] at et
    refine ⟨_, rfl, rfl, _, rfl, ?_⟩
    rw [sign_H]
    cases ec : (c == 72)
    · rw [ec] at q
      exact iteF ⟨.ref m, rfl, .int a, rfl, m, rs, a, .ref t, rfl, rfl, SqT.of em, er, t, _, 2, .int y, rfl, rfl, SqT.of et, atI_nat (j := 2) rfl, q⟩
    · rw [ec] at q
      exact iteT ⟨.ref m, rfl, .int a, rfl, m, rs, a, .ref t, rfl, rfl, SqT.of em, er, t, _, 1, .int x, rfl, rfl, SqT.of et, atI_nat (j := 1) rfl, q⟩
def spRun : Sp := fun vs H Q _ => ∃ (m : Addr) (z : Str) (ps : List Pl), vs = [.ref m, .str z] ∧ Mach H m ps ∧ WF ps ∧ z.length ≤ 100000 ∧ ∀ t H', Same H H' → H t = none → H' t = some (.tup (run ps (tl_ z) 0 0).row) → Q (.ref t) H'
theorem tl_len (z : Str) : (tl_ z).length = z.length := by
  unfold tl_
  rw [List.length_map, Array.length_toList]
  rfl
theorem tl_drop {z : Str} {i : Nat} (h : i < z.length) : ∃ c, z.cps.toList[i]? = some c ∧ (tl_ z).drop i = (c == 72) :: (tl_ z).drop (i + 1) := by
  have h' : i < z.cps.toList.length := by rw [Array.length_toList]; exact h
  refine ⟨z.cps.toList[i], List.getElem?_eq_getElem h', ?_⟩
  have h2 : i < (tl_ z).length := by rw [tl_len]; exact h
  rw [List.drop_eq_getElem_cons h2]
  congr 1
  exact List.getElem_map (fun x => x == 72)
/-! ### the law's walk -/
theorem scWalk : FnScope ["machine", "tape", "at", "used", "place"] ["machine", "tape"] (defScope sWalk) := ⟨rfl, rfl, rfl, by decide +kernel, rfl, by decide +kernel, by decide +kernel⟩
structure Names4 (mg : Str → Option Value) : Prop extends Names mg where
  int : mg "int" = none
  max : mg "max" = none
  min : mg "min" = none
theorem ok_walk {f : Addr} {fd : FuncData} (F : Fun K "_law_walked" "_law_walked" sWalk f fd) (T : Names4 mg) : FnOk P w K mg base CX0 1 f fd ["machine", "tape"] spRun := by
  refine F.ok scWalk (fun vs H Q E h => ?_) (fun cdv A outer s H vs Q E hr h => ?_)
  · obtain ⟨m, z, ps, rfl, _⟩ := h
    rfl
  · obtain ⟨m, z, ps, rfl, hm, hw, hz, q⟩ := h
    refine ⟨_, (pss_cons (ps_set (i := 2) scWalk.nd rfl (.inl rfl) pe_int)
      (pss_cons (ps_for PassesOwn.never rfl (pi_range1 rfl T.range (pa_cons (pe_op op_add (pe_callB call_len_str (by rfl) T.len PySem.boot_len (pa_cons (pv 1) pa_nil)) pe_int) pa_nil)) (pg_name (i := 3) scWalk.nd rfl (.inl rfl)) (pss_cons (ps_set (i := 4) scWalk.nd rfl (.inl rfl) (pe_ix ix_tup (pv 0) (pv 2) (fun _ _ => rfl)))
      (pss_cons (ps_if (pt_cmpR op_eq (pe_ix ix_tup (pv 4) pe_int (fun _ _ => rfl)) pe_str (nomark _)) (pss_one (ps_ret (pe_tup (pa_cons pe_str (pa_cons (pe_ix ix_tup (pv 4) pe_int (fun _ _ => rfl)) (pa_cons (pv 3) pa_nil)))))) pss_nil)
      (pss_cons (ps_if (pt_cmpR op_eq (pe_ix ix_tup (pv 4) pe_int (fun _ _ => rfl)) pe_str (nomark _)) (pss_one (ps_ret (pe_tup (pa_cons pe_str (pa_cons (pv 3) pa_nil))))) pss_nil)
      (pss_one (ps_if (pt_cmpR op_lt (pv 3) (pe_callB call_len_str (by rfl) T.len PySem.boot_len (pa_cons (pv 1) pa_nil)) (nomark _)) (pss_one (ps_set (i := 2) scWalk.nd rfl (.inl rfl) (pe_ix ix_tup (pv 4) (pe_op op_sub pe_int (pe_callTy call_int1 (by rfl) T.int (by decide +kernel) (pa_cons (pe_cmpR op_eq (pe_ix ix_str (pv 1) (pv 3) (fun _ _ => rfl)) pe_str (nomark _)) pa_nil))) (fun _ _ => rfl)))) pss_nil))))))
      (pss_one (ps_ret (pe_tup (pa_cons pe_str (pa_cons (pv 2) pa_nil))))))), ?_⟩
    have hsz : z.length ≤ sizeLine := by
      have e : sizeLine = 16777216 := by decide
      omega
    refine ⟨_, rfl, z, rfl, hsz, _, _, rfl, rfl, (z.length : Int) + 1, rfl, by omega, by omega, ?_⟩
    have en : ((z.length : Int) + 1).toNat = z.length + 1 := by omega
    rw [en]
    refine for_range (lo := 0) (n := z.length + 1) (fun i σ H' => ∃ (a : Int) (v3 v4 : Option V), σ = [some (V.ref m), some (V.str z), some (V.int a), v3, v4] ∧ H' = H ∧ 0 ≤ a ∧ a < ps.length ∧ (i ≤ z.length → run ps ((tl_ z).drop i) a i = run ps (tl_ z) 0 0) ∧ (i = z.length + 1 → run ps (tl_ z) 0 0 = .going a))
      ⟨0, _, _, rfl, rfl, by decide, by have := hw.ne; omega, fun _ => rfl, fun h => by omega⟩ ?_ ?_
    · rintro i σ H' hi ⟨a, v3, v4, rfl, rfl, a0, a1, er, _⟩
      have er := er (by omega)
      obtain ⟨rs, t, em, ea, et⟩ := hm.at hw a0 a1
      refine ⟨.ref m, rfl, .int a, rfl, m, rs, a, .ref t, rfl, rfl, SqT.of em, ea, ?_⟩
      have e0 : (0 : Int) + (i : Nat) = (i : Nat) := by omega
      rw [e0]
      cases e : place ps a with
      | fin n =>
        rw [e] at et
        refine ⟨.ref t, rfl, t, _, 0, .str "end", rfl, rfl, SqT.of et, atI_nat (j := 0) rfl, rfl, _, rfl, ?_⟩
        rw [decide_eq_true rfl]
        refine iteT ⟨.ref t, rfl, t, _, 1, .int n, rfl, rfl, SqT.of et, atI_nat (j := 1) rfl, _, rfl, by show 3 ≤ sizeLine; decide, fun p np => ?_⟩
        refine q p _ (Same.upd np) np ?_
        rw [upd_same, ← er, run_fin e]
        rfl
      | never =>
        rw [e] at et
        refine ⟨.ref t, rfl, t, _, 0, .str "never", rfl, rfl, SqT.of et, atI_nat (j := 0) rfl, rfl, _, rfl, ?_⟩
        rw [decide_eq_false str_end_never]
        refine iteF ⟨.ref t, rfl, t, _, 0, .str "never", rfl, rfl, SqT.of et, atI_nat (j := 0) rfl, rfl, _, rfl, ?_⟩
        rw [decide_eq_true rfl]
        refine iteT ⟨_, rfl, by show 2 ≤ sizeLine; decide, fun p np => ?_⟩
        refine q p _ (Same.upd np) np ?_
        rw [upd_same, ← er, run_nev e]
        rfl
      | toss x y =>
        rw [e] at et
        refine ⟨.ref t, rfl, t, _, 0, .str "toss", rfl, rfl, SqT.of et, atI_nat (j := 0) rfl, rfl, _, rfl, ?_⟩
        rw [decide_eq_false str_end_toss]
        refine iteF ⟨.ref t, rfl, t, _, 0, .str "toss", rfl, rfl, SqT.of et, atI_nat (j := 0) rfl, rfl, _, rfl, ?_⟩
        rw [decide_eq_false str_never_toss]
        refine iteF ⟨_, rfl, _, rfl, z, rfl, hsz, _, _, rfl, rfl, _, rfl, ?_⟩
        by_cases lt : i < z.length
        · rw [decide_eq_true (by omega)]
          obtain ⟨c, hc, hd⟩ := tl_drop lt
          refine iteT ⟨.ref t, rfl, _, rfl, _, rfl, z, _, c, rfl, rfl, hsz, atI_nat hc, rfl, .inr ⟨_, rfl, ?_⟩⟩
          rw [sign_H]
          obtain ⟨w0, w1⟩ := wf_next hw a0 a1 e (c == 72)
          rw [hd, run_cons e] at er
          refine ⟨_, _, rfl, rfl, t, _, _, .int (if c == 72 then x else y), rfl, rfl, SqT.of et, ?_, _, _, _, rfl, rfl, w0, w1, fun _ => er, fun h => by omega⟩
          cases c == 72
          · exact atI_nat (j := 2) rfl
          · exact atI_nat (j := 1) rfl
        · have ei : i = z.length := by omega
          rw [decide_eq_false (by omega)]
          refine iteF ⟨_, _, _, rfl, rfl, a0, a1, fun h => by omega, fun _ => ?_⟩
          rw [← er, List.drop_eq_nil_of_le (by rw [tl_len]; omega), run_nil e]
    · rintro σ H' ⟨a, v3, v4, rfl, rfl, a0, a1, _, er⟩
      refine ⟨_, rfl, by show 2 ≤ sizeLine; decide, fun p np => ?_⟩
      refine q p _ (Same.upd np) np ?_
      rw [upd_same, er rfl]
      rfl
end
end Z

set_option Elab.async false
set_option linter.all false
set_option maxRecDepth 100000
set_option maxHeartbeats 4000000
namespace Z
open PySem PySem.Spec PyProof.Rows L2 GG EX RX
abbrev rInit : Stmt := inClass (top 11) 0
abbrev rLen : Stmt := inClass (top 11) 1
abbrev rToss : Stmt := inClass (top 11) 2
abbrev rPos : Stmt := inClass (top 11) 3
abbrev rTape : Stmt := inClass (top 11) 4
abbrev rChk : Stmt := inClass (top 11) 5
abbrev rRew : Stmt := inClass (top 11) 6
abbrev sIsInt : Stmt := top 5
abbrev sIsIdx : Stmt := top 6
/-! ### a run -/
def nxt (ps : List Pl) (a : Int) (c : Bool) : Int := match place ps a with
  | .toss x y => if c then x else y
  | _ => a
/-- the places on the way -/
def way (ps : List Pl) : List Bool → Int → List Int
  | [], a => [a]
  | c :: t, a => a :: way ps t (nxt ps a c)
def fin_ (ps : List Pl) : List Bool → Int → Int
  | [], a => a
  | c :: t, a => fin_ ps t (nxt ps a c)
def good (ps : List Pl) : List Bool → Int → Prop
  | [], a => 0 ≤ a ∧ a < ps.length
  | c :: t, a => 0 ≤ a ∧ a < ps.length ∧ (place ps a).tosses = true ∧ good ps t (nxt ps a c)
theorem way_len (ps : List Pl) : ∀ (t : List Bool) (a : Int), (way ps t a).length = t.length + 1
  | [], _ => rfl
  | c :: t, a => by
    show (way ps t _).length + 1 = t.length + 1 + 1
    rw [way_len]
theorem way_snoc (ps : List Pl) (c : Bool) : ∀ (t : List Bool) (a : Int), way ps (t ++ [c]) a = way ps t a ++ [nxt ps (fin_ ps t a) c]
  | [], _ => rfl
  | b :: t, a => by
    show a :: way ps (t ++ [c]) _ = a :: (way ps t _ ++ _)
    rw [way_snoc ps c t]
    rfl
theorem fin_snoc (ps : List Pl) (c : Bool) : ∀ (t : List Bool) (a : Int), fin_ ps (t ++ [c]) a = nxt ps (fin_ ps t a) c
  | [], _ => rfl
  | b :: t, a => fin_snoc ps c t _
theorem way_take (ps : List Pl) : ∀ (t : List Bool) (a : Int) (k : Nat), k ≤ t.length → (way ps t a).take (k + 1) = way ps (t.take k) a
  | [], a, k, h => by
    obtain rfl : k = 0 := by simpa using h
    rfl
  | c :: t, a, 0, _ => rfl
  | c :: t, a, k + 1, h => by
    show a :: (way ps t _).take (k + 1) = a :: way ps (t.take k) _
    rw [way_take ps t _ k (by simpa using h)]
theorem way_last (ps : List Pl) : ∀ (t : List Bool) (a : Int), (way ps t a).getLast? = some (fin_ ps t a)
  | [], _ => rfl
  | c :: t, a => by
    show (a :: way ps t _).getLast? = _
    have h := way_last ps t (nxt ps a c)
    cases e : way ps t (nxt ps a c) with
    | nil => rw [e] at h; cases h
    | cons x r =>
      rw [e] at h
      rw [List.getLast?_cons_cons]
      exact h
theorem good_at {ps : List Pl} : ∀ {t : List Bool} {a : Int}, good ps t a → 0 ≤ fin_ ps t a ∧ fin_ ps t a < ps.length
  | [], _, h => h
  | _ :: t, _, h => good_at (t := t) h.2.2.2
theorem good_take {ps : List Pl} : ∀ {t : List Bool} {a : Int} (k : Nat), good ps t a → good ps (t.take k) a
  | [], _, _, h => by simpa using h
  | c :: t, a, 0, h => ⟨h.1, h.2.1⟩
  | c :: t, a, k + 1, h => ⟨h.1, h.2.1, h.2.2.1, good_take k h.2.2.2⟩
theorem good_snoc {ps : List Pl} (hw : WF ps) (c : Bool) : ∀ {t : List Bool} {a : Int}, good ps t a → (place ps (fin_ ps t a)).tosses = true → good ps (t ++ [c]) a
  | [], a, h, e => by
    refine ⟨h.1, h.2, e, ?_⟩
    have e' : (place ps a).tosses = true := e
    show 0 ≤ nxt ps a c ∧ nxt ps a c < ps.length
    unfold nxt
    cases hp : place ps a with
    | toss x y => exact wf_next hw h.1 h.2 hp c
    | fin n => rw [hp] at e'; cases e'
    | never => rw [hp] at e'; cases e'
  | b :: t, a, h, e => ⟨h.1, h.2.1, h.2.2.1, good_snoc hw c (t := t) h.2.2.2 e⟩
def Pl.stand (a : Int) : Pl → List V
  | .toss _ _ => [.str "going", .int a]
  | .fin n => [.str "ended", .int n]
  | .never => [.str "never"]
def sg (b : Bool) : Str := if b then "H" else "T"
def word (t : List Bool) : Str := ⟨(t.map fun b => if b then 72 else 84).toArray⟩
def fl (m S T : Addr) : List (Str × V) := putF "states" (.ref T) (putF "sides" (.ref S) (putF "machine" (.ref m) []))
theorem f1 : ¬ (("machine" : Str) = "sides") := by decide +kernel
theorem f2 : ¬ (("machine" : Str) = "states") := by decide +kernel
theorem f3 : ¬ (("sides" : Str) = "states") := by decide +kernel
theorem f4 : ¬ (("sides" : Str) = "machine") := by decide +kernel
theorem f5 : ¬ (("states" : Str) = "machine") := by decide +kernel
theorem f6 : ¬ (("states" : Str) = "sides") := by decide +kernel
theorem fl_m (m S T : Addr) : (fl m S T).lookup ("machine" : Str) = some (.ref m) := by
  unfold fl
  rw [lookup_putF, if_neg f2, lookup_putF, if_neg f1, lookup_putF, if_pos rfl]
theorem fl_s (m S T : Addr) : (fl m S T).lookup ("sides" : Str) = some (.ref S) := by
  unfold fl
  rw [lookup_putF, if_neg f3, lookup_putF, if_pos rfl]
theorem fl_t (m S T : Addr) : (fl m S T).lookup ("states" : Str) = some (.ref T) := by
  unfold fl
  rw [lookup_putF, if_pos rfl]
theorem fl_no (m S T : Addr) {x : Str} (h1 : ¬ x = "states") (h2 : ¬ x = "sides") (h3 : ¬ x = "machine") : (fl m S T).lookup x = none := by
  unfold fl
  rw [lookup_putF, if_neg h1, lookup_putF, if_neg h2, lookup_putF, if_neg h3]
  rfl
/-- a runner stands at r -/
structure Run (C : Addr) (H : Hp) (r S T : Addr) (ps : List Pl) (t : List Bool) : Prop where
  wf : WF ps
  go : good ps t 0
  ob : ∃ dx m, H r = some (.ins C dx (fl m S T)) ∧ Mach H m ps
  sd : H S = some (.lst (t.map fun b => V.str (sg b)))
  st : H T = some (.lst ((way ps t 0).map V.int))
theorem Run.apart {C : Addr} {H : Hp} {r S T : Addr} {ps : List Pl} {t : List Bool} (h : Run C H r S T ps t) : r ≠ S ∧ r ≠ T ∧ S ≠ T := by
  obtain ⟨dx, m, e, _⟩ := h.ob
  refine ⟨ne_of e h.sd (by intro z; cases z), ne_of e h.st (by intro z; cases z), ?_⟩
  intro z
  have e1 := h.sd
  rw [z, h.st] at e1
  have e2 := HO.lst.inj (Option.some.inj e1)
  have e3 := congrArg List.length e2
  rw [List.length_map, List.length_map, way_len] at e3
  omega
theorem Run.keep {C : Addr} {H H' : Hp} {r S T : Addr} {ps : List Pl} {t : List Bool} (h : Run C H r S T ps t) (k : ∀ b o, H b = some o → (b = r ∨ b = S ∨ b = T ∨ ∃ xs, o = .tup xs) → H' b = some o) : Run C H' r S T ps t := by
  obtain ⟨dx, m, e, hm⟩ := h.ob
  exact ⟨h.wf, h.go, ⟨dx, m, k _ _ e (.inl rfl), hm.mono fun b xs z => k _ _ z (.inr (.inr (.inr ⟨xs, rfl⟩)))⟩, k _ _ h.sd (.inr (.inl rfl)), k _ _ h.st (.inr (.inr (.inl rfl)))⟩
theorem Run.same {C : Addr} {H H' : Hp} {r S T : Addr} {ps : List Pl} {t : List Bool} (h : Run C H r S T ps t) (s : Same H H') : Run C H' r S T ps t := h.keep fun b o e _ => s _ _ e
/-- all but the runner's two lists stands -/
def ButR (S T : Addr) (H H' : Hp) : Prop := ∀ b o, H b = some o → b ≠ S → b ≠ T → H' b = some o
structure Txt (K : PySem.W.Frag) (C : Addr) : Prop where
  cl : L2.Cls K C
  n1 : NoAttr K C "machine"
  n2 : NoAttr K C "sides"
  n3 : NoAttr K C "states"
section
variable {P : Program} {w : World} {K : PySem.W.Frag} {mg : Str → Option Value} {base : Heap}
def spRInit (C : Addr) : Sp := fun vs H Q _ => ∃ (r dx m : Addr) (ps : List Pl), vs = [.ref r, .ref m] ∧ H r = some (.ins C dx []) ∧ Mach H m ps ∧ WF ps ∧
  ∀ (S T : Addr) H', H S = none → H T = none → Run C H' r S T ps [] → (∀ b o, H b = some o → b ≠ r → H' b = some o) → Q .non H'
theorem scRI : FnScope ["self", "machine"] ["self", "machine"] (defScope rInit) := ⟨rfl, rfl, rfl, by decide +kernel, rfl, by decide +kernel, by decide +kernel⟩
theorem ok_rinit {f C : Addr} {fd : FuncData} (F : Fun K "__init__" "Runner.__init__" rInit f fd) (T : Txt K C) : FnOk P w K mg base CX0 1 f fd ["self", "machine"] (spRInit C) := by
  refine F.ok scRI (fun vs H Q E h => ?_) (fun cdv A outer s H vs Q E hr h => ?_)
  · obtain ⟨r, dx, m, ps, rfl, _⟩ := h
    rfl
  · obtain ⟨r, dx, m, ps, rfl, hp, hm, hw, k⟩ := h
    refine ⟨_, (pss_cons (ps_fld (pv 0) (pv 1) rfl)
      (pss_cons (ps_fld (pv 0) (pe_lst pa_nil) rfl)
      (pss_one (ps_fld (pv 0) (pe_lst (pa_cons pe_int pa_nil)) rfl)))), ?_⟩
    refine ⟨_, rfl, _, rfl, r, C, dx, [], rfl, hp, T.cl, T.n1, (by show 0 < 1000; decide), Nat.zero_le _, fun S nS => ?_⟩
    have rS : r ≠ S := ne_of_none (by rw [upd_same]) nS
    have hS0 : H S = none := by rw [upd_ne rS.symm] at nS; exact nS
    refine ⟨_, rfl, r, C, dx, _, rfl, by rw [upd_ne rS, upd_same], T.cl, T.n2, (by show 1 < 1000; decide), by show 1 ≤ sizeLine; decide, fun T' nT => ?_⟩
    have rT : r ≠ T' := ne_of_none (by rw [upd_same]) nT
    have sT : S ≠ T' := ne_of_none (by rw [upd_ne rS.symm, upd_same]) nT
    have hT0 : H T' = none := by rw [upd_ne rT.symm, upd_ne sT.symm, upd_ne rT.symm] at nT; exact nT
    refine ⟨_, rfl, r, C, dx, _, rfl, by rw [upd_ne rT, upd_same], T.cl, T.n3, (Nat.lt_of_le_of_lt (length_putF _ _ _) (by show 1 + 1 < 1000; decide)), ?_⟩
    refine k S T' _ hS0 hT0 ⟨hw, ⟨by decide, by have := hw.ne; omega⟩, ⟨dx, m, upd_same, ?_⟩, ?_, ?_⟩ fun b o e nb => ?_
    · refine hm.mono fun b xs e => ?_
      have nb : b ≠ r := ne_of e hp (by intro z; cases z)
      rw [upd_ne nb, upd_ne (ne_of_none e hT0), upd_ne nb, upd_ne (ne_of_none e hS0), upd_ne nb]
      exact e
    · rw [upd_ne rS.symm, upd_ne sT, upd_ne rS.symm, upd_same]
      rfl
    · rw [upd_ne rT.symm, upd_same]
      rfl
    · rw [upd_ne nb, upd_ne (ne_of_none e hT0), upd_ne nb, upd_ne (ne_of_none e hS0), upd_ne nb]
      exact e
/-! ### what it is asked -/
def spLen (C : Addr) : Sp := fun vs H Q _ => ∃ (r S T : Addr) (ps : List Pl) (t : List Bool), vs = [.ref r] ∧ Run C H r S T ps t ∧ Q (.int (t.length : Nat)) H
theorem scRL : FnScope ["self"] ["self"] (defScope rLen) := ⟨rfl, rfl, rfl, by decide +kernel, rfl, by decide +kernel, by decide +kernel⟩
structure Names6 (mg : Str → Option Value) : Prop extends Names4 mg where
  isi : mg "isinstance" = none
  bool : mg "bool" = none
theorem ok_len {f C : Addr} {fd : FuncData} (F : Fun K "__len__" "Runner.__len__" rLen f fd) (T : Txt K C) (N : Names6 mg) : FnOk P w K mg base CX0 1 f fd ["self"] (spLen C) := by
  refine F.ok scRL (fun vs H Q E h => ?_) (fun cdv A outer s H vs Q E hr h => ?_)
  · obtain ⟨r, S, T, ps, t, rfl, _⟩ := h
    rfl
  · obtain ⟨r, S, T', ps, t, rfl, R, q⟩ := h
    obtain ⟨dx, m, ob, _⟩ := R.ob
    refine ⟨_, (pss_one (ps_ret (pe_callB call_len_seq (by rfl) N.len PySem.boot_len (pa_cons (pe_fld (pv 0) rfl) pa_nil)))), ?_⟩
    refine ⟨_, rfl, r, C, dx, _, _, rfl, ob, T.cl, T.n2, fl_s m S T', ?_⟩
    refine ⟨S, _, rfl, .inl (SqL.of R.sd), ?_⟩
    rw [List.length_map]
    exact q
theorem scRK : FnScope ["self"] ["self"] (defScope rChk) := ⟨rfl, rfl, rfl, by decide +kernel, rfl, by decide +kernel, by decide +kernel⟩
theorem ok_chk {f C : Addr} {fd : FuncData} (F : Fun K "checkpoint" "Runner.checkpoint" rChk f fd) (T : Txt K C) (N : Names6 mg) : FnOk P w K mg base CX0 1 f fd ["self"] (spLen C) := by
  refine F.ok scRK (fun vs H Q E h => ?_) (fun cdv A outer s H vs Q E hr h => ?_)
  · obtain ⟨r, S, T, ps, t, rfl, _⟩ := h
    rfl
  · obtain ⟨r, S, T', ps, t, rfl, R, q⟩ := h
    obtain ⟨dx, m, ob, _⟩ := R.ob
    refine ⟨_, (pss_one (ps_ret (pe_callB call_len_seq (by rfl) N.len PySem.boot_len (pa_cons (pe_fld (pv 0) rfl) pa_nil)))), ?_⟩
    refine ⟨_, rfl, r, C, dx, _, _, rfl, ob, T.cl, T.n2, fl_s m S T', ?_⟩
    refine ⟨S, _, rfl, .inl (SqL.of R.sd), ?_⟩
    rw [List.length_map]
    exact q
def spPos (C : Addr) : Sp := fun vs H Q _ => ∃ (r S T : Addr) (ps : List Pl) (t : List Bool), vs = [.ref r] ∧ Run C H r S T ps t ∧ ∀ q H', Same H H' → H q = none → H' q = some (.tup ((place ps (fin_ ps t 0)).stand (fin_ ps t 0))) → Q (.ref q) H'
theorem scRP : FnScope ["self", "index", "state"] ["self"] (defScope rPos) := ⟨rfl, rfl, rfl, by decide +kernel, rfl, by decide +kernel, by decide +kernel⟩
theorem ok_pos {f g C : Addr} {fd gd : FuncData} (F : Fun K "position" "Runner.position" rPos f fd) (T : Txt K C) (GT : FnOk P w K mg base CX0 1 g gd ["state"] spToss) (PT_ : Def K mg "is_toss" g gd ["state"]) : FnOk P w K mg base CX0 2 f fd ["self"] (spPos C) := by
  refine F.ok scRP (fun vs H Q E h => ?_) (fun cdv A outer s H vs Q E hr h => ?_)
  · obtain ⟨r, S, T, ps, t, rfl, _⟩ := h
    rfl
  · obtain ⟨r, S, T', ps, t, rfl, R, q⟩ := h
    obtain ⟨dx, m, ob, hm⟩ := R.ob
    refine ⟨_, (pss_cons (ps_set (i := 1) scRP.nd rfl (.inl rfl) (pe_ix ix_list (pe_fld (pv 0) rfl) (pe_un un_neg pe_int) (fun _ _ => rfl)))
      (pss_cons (ps_set (i := 2) scRP.nd rfl (.inl rfl) (pe_ix ix_tup (pe_fld (pv 0) rfl) (pv 1) (fun _ _ => rfl)))
      (pss_cons (ps_if (pt_val (pe_call GT (hr.mono (by decide)) (by rfl) PT_.is PT_.kp PT_.bi .nil pass0 (pa_cons (pv 2) pa_nil))) (pss_one (ps_ret (pe_tup (pa_cons pe_str (pa_cons (pv 1) pa_nil))))) pss_nil)
      (pss_one (ps_ret (pe_ifExp (pt_cmpR op_eq (pe_ix ix_tup (pv 2) pe_int (fun _ _ => rfl)) pe_str (nomark _)) (pe_tup (pa_cons pe_str pa_nil)) (pe_tup (pa_cons pe_str (pa_cons (pe_ix ix_tup (pv 2) pe_int (fun _ _ => rfl)) pa_nil))))))))), ?_⟩
    refine ⟨_, rfl, r, C, dx, _, _, rfl, ob, T.cl, T.n3, fl_t m S T', ?_⟩
    obtain ⟨pre, er⟩ := List.getLast?_eq_some_iff.mp (way_last ps t 0)
    obtain ⟨a0, a1⟩ := good_at R.go
    obtain ⟨rs, g, em, eg, et⟩ := hm.at R.wf a0 a1
    refine ⟨1, rfl, T', _, -1, .int (fin_ ps t 0), rfl, rfl, SqL.of R.st, by rw [er, List.map_append]; exact atI_last _ _, ?_⟩
    generalize fin_ ps t 0 = a at *
    refine ⟨_, rfl, r, C, dx, _, _, rfl, ob, T.cl, T.n1, fl_m m S T', _, rfl, m, rs, a, .ref g, rfl, rfl, SqT.of em, eg, _, rfl, g, _, rfl, et, _, rfl, ?_⟩
    cases e : place ps a with
    | toss x y =>
      rw [e] at q
      refine iteT ⟨_, rfl, by show 2 ≤ sizeLine; decide, fun p np => q p _ (Same.upd np) np upd_same⟩
    | fin n =>
      rw [e] at q et
      refine iteF ⟨.ref g, rfl, g, _, 0, .str "end", rfl, rfl, SqT.of et, atI_nat (j := 0) rfl, rfl, _, rfl, ?_⟩
      rw [decide_eq_false str_never_end]
      refine iteF ⟨.ref g, rfl, g, _, 1, .int n, rfl, rfl, SqT.of et, atI_nat (j := 1) rfl, by show 2 ≤ sizeLine; decide, fun p np => q p _ (Same.upd np) np upd_same⟩
    | never =>
      rw [e] at q et
      refine iteF ⟨.ref g, rfl, g, _, 0, .str "never", rfl, rfl, SqT.of et, atI_nat (j := 0) rfl, rfl, _, rfl, ?_⟩
      rw [decide_eq_true rfl]
      exact iteT ⟨by show 1 ≤ sizeLine; decide, fun p np => q p _ (Same.upd np) np upd_same⟩
theorem sg_len (b : Bool) : (sg b).length = 1 := by cases b <;> decide +kernel
theorem sg_cps (b : Bool) : (sg b).cps.toList = [if b then 72 else 84] := by cases b <;> decide +kernel
theorem joinL_sg : ∀ t : List Bool, TL.joinL [] (t.map fun b => [if b then 72 else 84]) = t.map fun b => if b then 72 else 84
  | [] => rfl
  | [_] => rfl
  | b :: c :: r => by
    have ih := joinL_sg (c :: r)
    rw [List.map_cons, List.map_cons] at ih
    rw [List.map_cons, List.map_cons, List.map_cons (l := c :: r)]
    show [_] ++ ([] ++ TL.joinL [] (_ :: List.map _ r)) = _
    rw [ih]
    rfl
theorem join_word (t : List Bool) : Txt.join "" (t.map sg) = word t := by
  rw [TL.join_eq]
  have h := TL.tl_join "" (t.map sg)
  have e0 : TL.tl (("" : String) : Str) = [] := by decide +kernel
  rw [e0, List.map_map] at h
  have e1 : (TL.tl ∘ sg) = fun b => [if b then 72 else 84] := funext fun b => sg_cps b
  rw [e1, joinL_sg] at h
  unfold word
  generalize Str.join "" (t.map sg) = z at *
  obtain ⟨c⟩ := z
  have h' : c.toList = _ := h
  rw [← h']
def spTp (C : Addr) : Sp := fun vs H Q _ => ∃ (r S T : Addr) (ps : List Pl) (t : List Bool), vs = [.ref r] ∧ Run C H r S T ps t ∧ t.length ≤ 1000 ∧ Q (.str (word t)) H
theorem scRT : FnScope ["self"] ["self"] (defScope rTape) := ⟨rfl, rfl, rfl, by decide +kernel, rfl, by decide +kernel, by decide +kernel⟩
theorem ok_tp {f C : Addr} {fd : FuncData} (F : Fun K "tape" "Runner.tape" rTape f fd) (T : Txt K C) : FnOk P w K mg base CX0 1 f fd ["self"] (spTp C) := by
  refine F.ok scRT (fun vs H Q E h => ?_) (fun cdv A outer s H vs Q E hr h => ?_)
  · obtain ⟨r, S, T, ps, t, rfl, _⟩ := h
    rfl
  · obtain ⟨r, S, T', ps, t, rfl, R, ht, q⟩ := h
    obtain ⟨dx, m, ob, _⟩ := R.ob
    refine ⟨_, (pss_one (ps_ret (pe_join pe_str (pe_fld (pv 0) rfl)))), ?_⟩
    refine ⟨⟨_, rfl⟩, _, rfl, r, C, dx, _, _, rfl, ob, T.cl, T.n2, fl_s m S T', ?_⟩
    refine ⟨_, S, t.map sg, rfl, rfl, .inl ?_, ?_, ?_⟩
    · rw [List.map_map]
      exact SqL.of R.sd
    · have e0 : (PySem.Str.ofString "").length = 0 := by decide +kernel
      have sm : ((t.map sg).map (·.length)).sum = t.length := by
        rw [List.map_map]
        have e1 : ((fun x : Str => x.length) ∘ sg) = fun _ => 1 := funext sg_len
        rw [e1]
        clear R q ht
        induction t with
        | nil => rfl
        | cons b t ih => rw [List.map_cons, List.sum_cons, ih, List.length_cons]; omega
      rw [sm, e0]
      omega
    · rw [join_word]
      exact q
def spIsInt : Sp := fun vs H Q _ => ∃ n : Int, vs = [.int n] ∧ Q (.bl true) H
theorem scII : FnScope ["value"] ["value"] (defScope sIsInt) := ⟨rfl, rfl, rfl, by decide +kernel, rfl, by decide +kernel, by decide +kernel⟩
theorem ok_isint {f : Addr} {fd : FuncData} (F : Fun K "is_integer" "is_integer" sIsInt f fd) (N : Names6 mg) : FnOk P w K mg base CX0 1 f fd ["value"] spIsInt := by
  refine F.ok scII (fun vs H Q E h => ?_) (fun cdv A outer s H vs Q E hr h => ?_)
  · obtain ⟨n, rfl, _⟩ := h
    rfl
  · obtain ⟨n, rfl, q⟩ := h
    refine ⟨_, (pss_one (ps_ret (pe_and (pe_callB call_isi (by rfl) N.isi (by decide +kernel) (pa_cons (pv 0) (pa_cons (pe_bltn (v := .ty "int") (u := .type "int") (by rfl) N.int (by decide +kernel) rfl) pa_nil))) (pe_one (pe_not (pe_callB call_isi (by rfl) N.isi (by decide +kernel) (pa_cons (pv 0) (pa_cons (pe_bltn (v := .ty "bool") (u := .type "bool") (by rfl) N.bool (by decide +kernel) rfl) pa_nil)))))))), ?_⟩
    refine ⟨_, rfl, .int n, .ty "int", _, _, true, rfl, .ty _, .base (.int n), kit_ty (by decide +kernel), _, rfl, ?_⟩
    refine iteT ⟨_, rfl, .int n, .ty "bool", _, _, false, rfl, .ty _, .base (.int n), kit_ty (by decide +kernel), _, rfl, ?_⟩
    exact q
def spIsIdx : Sp := fun vs H Q _ => ∃ n m : Int, vs = [.int n, .int m] ∧ Q (.bl (decide (0 ≤ n ∧ n < m))) H
theorem scIX : FnScope ["value", "size"] ["value", "size"] (defScope sIsIdx) := ⟨rfl, rfl, rfl, by decide +kernel, rfl, by decide +kernel, by decide +kernel⟩
theorem ok_isidx {f g : Addr} {fd gd : FuncData} (F : Fun K "is_index" "is_index" sIsIdx f fd) (GI : FnOk P w K mg base CX0 1 g gd ["value"] spIsInt) (PI : Def K mg "is_integer" g gd ["value"]) : FnOk P w K mg base CX0 2 f fd ["value", "size"] spIsIdx := by
  refine F.ok scIX (fun vs H Q E h => ?_) (fun cdv A outer s H vs Q E hr h => ?_)
  · obtain ⟨n, m, rfl, _⟩ := h
    rfl
  · obtain ⟨n, m, rfl, q⟩ := h
    refine ⟨_, (pss_one (ps_ret (pe_and (pe_call GI (hr.mono (by decide)) (by rfl) PI.is PI.kp PI.bi .nil pass0 (pa_cons (pv 0) pa_nil)) (pe_one (pe_chain op_le op_lt pe_int (pv 0) (pv 1)))))), ?_⟩
    refine ⟨_, rfl, n, rfl, _, rfl, ?_⟩
    refine iteT ?_
    refine ⟨_, rfl, _, _, rfl, rfl, _, rfl, ?_⟩
    by_cases h1 : 0 ≤ n
    · rw [decide_eq_true h1]
      refine iteT ⟨_, rfl, _, _, rfl, rfl, ?_⟩
      have e : decide (n < m) = decide (0 ≤ n ∧ n < m) := decide_eq_decide.mpr ⟨fun h => ⟨h1, h⟩, fun h => h.2⟩
      show Q (V.bl (decide (n < m))) H
      rw [e]
      exact q
    · rw [decide_eq_false h1]
      refine iteF ?_
      rw [decide_eq_false (fun h => h1 h.1)] at q
      exact q
theorem op_notInT {X : Cx} (hu : X.A.units + 65 < cLine) : OpR X (compareOp .NotIn) (fun x y H Q => ∃ d ds, Dp X.K H x d ∧ Dp X.K H y (.tuple ds) ∧ SeqAt.shaped d = true ∧ SeqAt.shaped (.tuple ds) = true ∧ Q (.bl (!ds.any fun z => PyData.eqv z d)) H) := by
  intro pins s σ H x y v u Q I rx ry h
  obtain ⟨d, ds, hd, he, sd, se, q⟩ := h
  obtain ⟨as, r1⟩ := Dp.reads I d x v hd rx
  obtain ⟨bs, r2⟩ := Dp.reads I (.tuple ds) y u he ry
  exact SeqAt.notIn_tuple_reads r2 r1 (SeqAt.canLay_of_shaped se) (SeqAt.canLay_of_shaped sd) (room_in_shaped sd hu) ⟨.bl _, H, I, rfl, q⟩
def spTossR (K : PySem.W.Frag) (C CA CI : Addr) : Sp := fun vs H Q E => ∃ (r S T : Addr) (ps : List Pl) (t : List Bool) (v : V) (d : PyData), vs = [.ref r, v] ∧ Run C H r S T ps t ∧ t.length ≤ 900 ∧ (∀ H', Same H H' → Dp K H' v d) ∧ SeqAt.shaped d = true ∧
  ((∃ b, v = .str (sg b) ∧ d = .str (sg b)) ∨ (PyData.eqv (.str "H") d = false ∧ PyData.eqv (.str "T") d = false)) ∧
  ((place ps (fin_ ps t 0)).tosses = false → ∀ dd H', Same H H' → H' dd = some (.xd [("tosses", .int (t.length : Nat))]) → E (.ref CA) (some dd) H') ∧
  ((place ps (fin_ ps t 0)).tosses = true → (PyData.eqv (.str "H") d = false ∧ PyData.eqv (.str "T") d = false) → ∀ H', Same H H' → E (.ref CI) none H') ∧
  ((place ps (fin_ ps t 0)).tosses = true → ∀ b, v = .str (sg b) → ∀ q H', H q = none → Run C H' r S T ps (t ++ [b]) → ButR S T H H' → H' q = some (.tup ((place ps (fin_ ps (t ++ [b]) 0)).stand (fin_ ps (t ++ [b]) 0))) → Q (.ref q) H')
theorem scRX : FnScope ["self", "side", "index"] ["self", "side"] (defScope rToss) := ⟨rfl, rfl, rfl, by decide +kernel, rfl, by decide +kernel, by decide +kernel⟩
/-- what is asked of the two errors -/
structure Err1 (P : Program) (w : World) (K : PySem.W.Frag) (mg : Str → Option Value) (base : Heap) (x f : Str) (C : Addr) : Prop where
  ex : ∃ (fI : Addr) (fd : FuncData), Makes P w K C fI ∧ FnOk P w K mg base CX0 1 fI fd ["self", f] (spInit K C f) ∧ Binds K fd ["self", f] []
  g : mg x = some (.ref C)
  kC : PySem.W.keepIn K (.ref C) = true
  is : ExIs K C
  ty : PySem.W.typeIn K (.ref C) = some (.type "type")
  nf : PySem.W.findIn K (.ref C) f = some none
structure Err0 (P : Program) (w : World) (K : PySem.W.Frag) (mg : Str → Option Value) (base : Heap) (x : Str) (C : Addr) : Prop where
  ex : ∃ (fI : Addr) (fd : FuncData), Makes P w K C fI ∧ FnOk P w K mg base CX0 1 fI fd ["self"] (fun vs H Q _ => ∃ a : Addr, vs = [.ref a] ∧ Q .non H) ∧ Binds K fd ["self"] []
  g : mg x = some (.ref C)
  kC : PySem.W.keepIn K (.ref C) = true
  is : ExIs K C
  ty : PySem.W.typeIn K (.ref C) = some (.type "type")
theorem raised1 {H : Hp} {K : PySem.W.Frag} {C a : Addr} {f : Str} {y : V} {Q : XK} (na : H a = none) (q : ∀ dd H', Same H H' → H' dd = some (.xd [(f, y)]) → Q (.ref C) (some dd) H') :
    spInit K C f [.ref a, y] (upd H a (exo a C none)) (fun v H2 => v = .non ∧ ∃ (d : Addr) (fs : List (Str × V)), H2 a = some (exo a C (some d)) ∧ H2 d = some (exd d fs) ∧ H d = none ∧ Q (.ref C) (some d) (upd (del H2 a) d (.xd fs))) (fun _ _ _ => False) := by
  refine ⟨a, y, rfl, upd_same, fun dx n ne => ⟨rfl, dx, _, upd_same, by rw [upd_ne ne, upd_same], by rw [upd_ne ne] at n; exact n, ?_⟩⟩
  rw [upd_ne ne] at n
  refine q dx _ (fun b o e => ?_) upd_same
  have nb : b ≠ a := ne_of_none e na
  have nd : b ≠ dx := ne_of_none e n
  rw [upd_ne nd, del_ne nb, upd_ne nb, upd_ne nd, upd_ne nb]
  exact e
theorem ok_tossR {f g n p C CA CI : Addr} {fd gd nd pd : FuncData} (F : Fun K "toss" "Runner.toss" rToss f fd) (T : Txt K C) (N : Names6 mg) (GT : FnOk P w K mg base CX0 1 g gd ["state"] spToss) (PT_ : Def K mg "is_toss" g gd ["state"])
    (GN : FnOk P w K mg base CX0 1 n nd ["machine", "index", "side"] spNext) (PN : Def K mg "next_state" n nd ["machine", "index", "side"]) (GP : FnOk P w K mg base CX0 2 p pd ["self"] (spPos C)) (mP : Meth K C "position" p) (bP : Binds K pd ["self"] [])
    (EA : Err1 P w K mg base "AlreadyEnded" "tosses" CA) (EI : Err0 P w K mg base "InvalidSide" CI) : FnOk P w K mg base (L2.CX P w) 3 f fd ["self", "side"] (spTossR K C CA CI) := by
  obtain ⟨fA, fdA, mA, GA, bA⟩ := EA.ex
  obtain ⟨fI, fdI, mI, GI, bI⟩ := EI.ex
  refine F.okX scRX (fun vs H Q E h => ?_) (fun cdv A outer s H vs Q E hr h => ?_)
  · obtain ⟨r, S, T, ps, t, v, d, rfl, _⟩ := h
    rfl
  · obtain ⟨r, S, T', ps, t, v, d, rfl, R, ht, hd, sd, odd, q1, q2, q3⟩ := h
    obtain ⟨dx, m, ob, hm⟩ := R.ob
    refine ⟨_, (pss_cons (ps_set (i := 2) scRX.nd rfl (.inl rfl) (pe_ix ix_list (pe_fld (pv 0) rfl) (pe_un un_neg pe_int) (fun _ _ => rfl)))
      (pss_cons (ps_if (pt_not (pt_val (pe_call GT (hr.mono (by decide)) (by rfl) PT_.is PT_.kp PT_.bi .nil pass0 (pa_cons (pe_ix ix_tup (pe_fld (pv 0) rfl) (pv 2) (fun _ _ => rfl)) pa_nil)))) (pss_one (ps_raise rfl (takes_of rfl rfl rfl rfl) (pmk_k1 mA EA.kC (raises_own EA.is.ex EA.ty) GA (hr.mono (by decide)) bA pass0 (by rfl) EA.g (pa_cons (pe_callB call_len_seq (by rfl) N.len PySem.boot_len (pa_cons (pe_fld (pv 0) rfl) pa_nil)) pa_nil)))) pss_nil)
      (pss_cons (ps_if (pt_cmpR (op_notInT (show (A.deeper _).units + 65 < cLine by have := hr.un; omega)) (pv 1) (pe_tup (pa_cons pe_str (pa_cons pe_str pa_nil))) (by rfl)) (pss_one (ps_raise rfl (takes_of rfl rfl rfl rfl) (pmk_k0 mI EI.kC (raises_own EI.is.ex EI.ty) GI (hr.mono (by decide)) bI pass0 (by rfl) EI.g))) pss_nil)
      (pss_cons (ps_expr (pe_bm PySem.F.plainAttrs_list PySem.F.slot_list_append PySem.F.type_list_append mt_append (pe_fld (pv 0) rfl) (pa_cons (pv 1) pa_nil)))
      (pss_cons (ps_expr (pe_bm PySem.F.plainAttrs_list PySem.F.slot_list_append PySem.F.type_list_append mt_append (pe_fld (pv 0) rfl) (pa_cons (pe_call GN (hr.mono (by decide)) (by rfl) PN.is PN.kp PN.bi .nil pass0 (pa_cons (pe_fld (pv 0) rfl) (pa_cons (pv 2) (pa_cons (pv 1) pa_nil)))) pa_nil)))
      (pss_one (ps_ret (pe_meth0 (pv 0) T.cl mP GP (hr.mono (by decide)) bP .nil pass0)))))))), ?_⟩
    obtain ⟨pre, er⟩ := List.getLast?_eq_some_iff.mp (way_last ps t 0)
    obtain ⟨a0, a1⟩ := good_at R.go
    obtain ⟨rs, g, em, eg, et⟩ := hm.at R.wf a0 a1
    refine ⟨_, rfl, r, C, dx, _, _, rfl, ob, T.cl, T.n3, fl_t m S T', 1, rfl, T', _, -1, .int (fin_ ps t 0), rfl, rfl, SqL.of R.st, by rw [er, List.map_append]; exact atI_last _ _, ?_⟩
    refine ⟨_, rfl, r, C, dx, _, _, rfl, ob, T.cl, T.n1, fl_m m S T', _, rfl, m, rs, _, .ref g, rfl, rfl, SqT.of em, eg, g, _, rfl, et, _, rfl, ?_⟩
    cases e : (place ps (fin_ ps t 0)).tosses with
    | false =>
      refine iteT ⟨_, rfl, r, C, dx, _, _, rfl, ob, T.cl, T.n2, fl_s m S T', S, _, rfl, .inl (SqL.of R.sd), by show 1 ≤ 1000; decide, fun a na => ?_⟩
      rw [List.length_map]
      exact raised1 na fun dd H' s' e' => q1 e dd H' s' e'
    | true =>
      refine iteF ?_
      refine ⟨_, rfl, by show 2 ≤ sizeLine; decide, fun p np => ?_⟩
      have s1 : Same H (upd H p (.tup [.str "H", .str "T"])) := Same.upd np
      have ep : upd H p (.tup [.str "H", .str "T"]) p = some (.tup [.str "H", .str "T"]) := upd_same
      change (_ : Hp → Prop) (upd H p (.tup [.str "H", .str "T"]))
      generalize upd H p (.tup [.str "H", .str "T"]) = H1 at s1 ep ⊢
      refine ⟨d, [.str "H", .str "T"], hd _ s1, .tup (SqT.of ep) (.cons (.str _) (.cons (.str _) .nil)), sd, by decide +kernel, _, rfl, ?_⟩
      rcases odd with ⟨b, rfl, rfl⟩ | no
      · have y : ([PyData.str "H", PyData.str "T"].any fun z => PyData.eqv z (.str (sg b))) = true := by cases b <;> decide +kernel
        rw [y]
        refine iteF ?_
        obtain ⟨x, y', hp⟩ : ∃ x y, place ps (fin_ ps t 0) = .toss x y := by
          cases hp : place ps (fin_ ps t 0) with
          | toss x y => exact ⟨x, y, rfl⟩
          | fin n => rw [hp] at e; cases e
          | never => rw [hp] at e; cases e
        have R1 := R.same s1
        obtain ⟨rS, rT, sT⟩ := R.apart
        refine ⟨_, rfl, r, C, dx, _, _, rfl, s1 _ _ ob, T.cl, T.n2, fl_s m S T', ?_⟩
        have line : sizeLine = 16777216 := by decide
        have ob1 := s1 _ _ ob
        have sd1 := s1 _ _ R.sd
        have st1 := s1 _ _ R.st
        refine ⟨.inl ⟨rfl, _, SqL.of sd1⟩, _, rfl, S, _, _, rfl, rfl, sd1, by rw [List.length_map]; omega, ?_⟩
        have k2 : ∀ b' o, H b' = some o → b' ≠ S → upd H1 S (.lst (t.map (fun b => V.str (sg b)) ++ [V.str (sg b)])) b' = some o := fun b' o e nb => by
          rw [upd_ne nb]
          exact s1 _ _ e
        have eS : upd H1 S (.lst (t.map (fun b => V.str (sg b)) ++ [V.str (sg b)])) S = some (.lst ((t ++ [b]).map fun b => V.str (sg b))) := by rw [upd_same, List.map_append]; rfl
        change (_ : Hp → Prop) (upd H1 S (.lst (t.map (fun b => V.str (sg b)) ++ [V.str (sg b)])))
        generalize upd H1 S (.lst (t.map (fun b => V.str (sg b)) ++ [V.str (sg b)])) = H2 at k2 eS ⊢
        have ob2 := k2 _ _ ob rS
        have st2 := k2 _ _ R.st sT.symm
        have hm2 : Mach H2 m ps := hm.mono fun b' xs e => k2 _ _ e (fun z => by rw [z, R.sd] at e; cases e)
        refine ⟨_, rfl, r, C, dx, _, _, rfl, ob2, T.cl, T.n3, fl_t m S T', .inl ⟨rfl, _, SqL.of st2⟩, ?_⟩
        have one : ∃ c : Nat, sg b = ⟨#[c]⟩ ∧ (c == 72) = b := by
          cases b
          · exact ⟨84, by decide +kernel, rfl⟩
          · exact ⟨72, by decide +kernel, rfl⟩
        obtain ⟨c, ec, eb⟩ := one
        refine ⟨_, rfl, r, C, dx, _, _, rfl, ob2, T.cl, T.n1, fl_m m S T', _, rfl, _, rfl, m, _, c, ps, x, y', by rw [ec]; rfl, hm2, R.wf, a0, a1, hp, ?_⟩
        refine ⟨T', _, _, rfl, rfl, st2, by rw [List.length_map, way_len]; omega, ?_⟩
        have en : nxt ps (fin_ ps t 0) b = if (c == 72) = true then x else y' := by
          unfold nxt
          rw [hp, eb]
        rw [← en]
        have k3 : ∀ b' o, H b' = some o → b' ≠ S → b' ≠ T' → upd H2 T' (.lst ((way ps t 0).map V.int ++ [V.int (nxt ps (fin_ ps t 0) b)])) b' = some o := fun b' o e nb nc => by
          rw [upd_ne nc]
          exact k2 _ _ e nb
        have eS3 : upd H2 T' (.lst ((way ps t 0).map V.int ++ [V.int (nxt ps (fin_ ps t 0) b)])) S = some (.lst ((t ++ [b]).map fun b => V.str (sg b))) := by rw [upd_ne sT]; exact eS
        have eT3 : upd H2 T' (.lst ((way ps t 0).map V.int ++ [V.int (nxt ps (fin_ ps t 0) b)])) T' = some (.lst ((way ps (t ++ [b]) 0).map V.int)) := by rw [upd_same, way_snoc, List.map_append]; rfl
        change (_ : Hp → Prop) (upd H2 T' (.lst ((way ps t 0).map V.int ++ [V.int (nxt ps (fin_ ps t 0) b)])))
        generalize upd H2 T' (.lst ((way ps t 0).map V.int ++ [V.int (nxt ps (fin_ ps t 0) b)])) = H3 at k3 eS3 eT3 ⊢
        have R3 : Run C H3 r S T' ps (t ++ [b]) := ⟨R.wf, good_snoc R.wf b R.go e, ⟨dx, m, k3 _ _ ob rS rT, hm.mono fun b' xs e => k3 _ _ e (fun z => by rw [z, R.sd] at e; cases e) (fun z => by rw [z, R.st] at e; cases e)⟩, eS3, eT3⟩
        refine ⟨_, rfl, r, dx, _, rfl, k3 _ _ ob rS rT, fl_no m S T' (by decide +kernel) (by decide +kernel) (by decide +kernel), r, S, T', ps, t ++ [b], rfl, R3, fun q H4 s4 nq eq => ?_⟩
        have nq0 : H q = none := by
          cases hq : H q with
          | none => rfl
          | some o =>
            by_cases z1 : q = S
            · rw [z1, eS3] at nq; cases nq
            · by_cases z2 : q = T'
              · rw [z2, eT3] at nq; cases nq
              · rw [k3 _ _ hq z1 z2] at nq; cases nq
        exact q3 e b rfl q H4 nq0 (R3.same s4) (fun b' o e n1 n2 => s4 _ _ (k3 _ _ e n1 n2)) eq
      · have y : ([PyData.str "H", PyData.str "T"].any fun z => PyData.eqv z d) = false := by
          rw [List.any_cons, List.any_cons, no.1, no.2]
          rfl
        rw [y]
        refine iteT fun a na => ⟨a, rfl, rfl, upd_same, q2 e no _ fun b o eb => ?_⟩
        have nb : b ≠ a := ne_of_none (s1 _ _ eb) na
        rw [del_ne nb, upd_ne nb]
        exact s1 _ _ eb
/-! ### back -/
def spRew (C CU : Addr) : Sp := fun vs H Q E => ∃ (r S T : Addr) (ps : List Pl) (t : List Bool) (n : Int), vs = [.ref r, .int n] ∧ Run C H r S T ps t ∧ t.length ≤ 900 ∧
  (¬ (0 ≤ n ∧ n ≤ t.length) → ∀ dd H', Same H H' → H' dd = some (.xd [("number", .int n)]) → E (.ref CU) (some dd) H') ∧
  (0 ≤ n → n ≤ t.length → ∀ H', Run C H' r S T ps (t.take n.toNat) → ButR S T H H' → Q .non H')
theorem scRW : FnScope ["self", "number"] ["self", "number"] (defScope rRew) := ⟨rfl, rfl, rfl, by decide +kernel, rfl, by decide +kernel, by decide +kernel⟩
theorem ok_rew {f g C CU : Addr} {fd gd : FuncData} (F : Fun K "rewind" "Runner.rewind" rRew f fd) (T : Txt K C) (N : Names6 mg) (GX : FnOk P w K mg base CX0 2 g gd ["value", "size"] spIsIdx) (PX : Def K mg "is_index" g gd ["value", "size"])
    (EU : Err1 P w K mg base "UnknownCheckpoint" "number" CU) : FnOk P w K mg base (L2.CX P w) 3 f fd ["self", "number"] (spRew C CU) := by
  obtain ⟨fA, fdA, mA, GA, bA⟩ := EU.ex
  refine F.okX scRW (fun vs H Q E h => ?_) (fun cdv A outer s H vs Q E hr h => ?_)
  · obtain ⟨r, S, T, ps, t, n, rfl, _⟩ := h
    rfl
  · obtain ⟨r, S, T', ps, t, n, rfl, R, ht, q1, q2⟩ := h
    obtain ⟨dx, m, ob, hm⟩ := R.ob
    obtain ⟨rS, rT, sT⟩ := R.apart
    refine ⟨_, (pss_cons (ps_if (pt_not (pt_val (pe_call GX (hr.mono (by decide)) (by rfl) PX.is PX.kp PX.bi .nil pass0 (pa_cons (pv 1) (pa_cons (pe_callB call_len_seq (by rfl) N.len PySem.boot_len (pa_cons (pe_fld (pv 0) rfl) pa_nil)) pa_nil))))) (pss_one (ps_raise rfl (takes_of rfl rfl rfl rfl) (pmk_k1 mA EU.kC (raises_own EU.is.ex EU.ty) GA (hr.mono (by decide)) bA pass0 (by rfl) EU.g (pa_cons (pv 1) pa_nil)))) pss_nil)
      (pss_cons (RX.ps_delE (pe_fld (pv 0) rfl) (po_some (pv 1)) po_none)
      (pss_one (RX.ps_delE (pe_fld (pv 0) rfl) (po_some (pe_op op_add (pv 1) pe_int)) po_none)))), ?_⟩
    refine ⟨_, rfl, _, rfl, r, C, dx, _, _, rfl, ob, T.cl, T.n3, fl_t m S T', T', _, rfl, .inl (SqL.of R.st), n, _, rfl, _, rfl, ?_⟩
    rw [List.length_map, way_len]
    by_cases h : 0 ≤ n ∧ n ≤ t.length
    · rw [decide_eq_true (show 0 ≤ n ∧ n < ((t.length + 1 : Nat) : Int) from ⟨h.1, by have := h.2; omega⟩)]
      refine iteF ?_
      obtain ⟨k, rfl⟩ : ∃ k : Nat, n = (k : Int) := ⟨n.toNat, by omega⟩
      have hk : k ≤ t.length := by omega
      refine ⟨_, rfl, r, C, dx, _, _, rfl, ob, T.cl, T.n2, fl_s m S T', ?_⟩
      dsimp only [tPart, tNoPart]
      refine ⟨_, rfl, (k : Int), rfl, S, _, _, rfl, rfl, rfl, R.sd, h.1, by rw [List.length_map]; exact h.2, ?_⟩
      rw [Int.toNat_natCast, ← List.map_take]
      have k2 : ∀ b' o, H b' = some o → b' ≠ S → upd H S (.lst ((t.take k).map fun b => V.str (sg b))) b' = some o := fun b' o e nb => by
        rw [upd_ne nb]
        exact e
      have eS : upd H S (.lst ((t.take k).map fun b => V.str (sg b))) S = some (.lst ((t.take k).map fun b => V.str (sg b))) := upd_same
      change (_ : Hp → Prop) (upd H S (.lst ((t.take k).map fun b => V.str (sg b))))
      generalize upd H S (.lst ((t.take k).map fun b => V.str (sg b))) = H2 at k2 eS ⊢
      refine ⟨_, rfl, r, C, dx, _, _, rfl, k2 _ _ ob rS, T.cl, T.n3, fl_t m S T', ?_⟩
      dsimp only [tPart, tNoPart]
      refine ⟨_, rfl, _, _, rfl, rfl, (k : Int) + 1, rfl, T', _, _, rfl, rfl, rfl, k2 _ _ R.st sT.symm, by omega, by rw [List.length_map, way_len]; omega, ?_⟩
      rw [show ((k : Int) + 1).toNat = k + 1 by omega, ← List.map_take, way_take _ _ _ _ hk]
      refine q2 (by omega) h.2 _ ⟨R.wf, good_take _ R.go, ⟨dx, m, by rw [upd_ne rT]; exact k2 _ _ ob rS, hm.mono fun b' xs e => ?_⟩, by rw [upd_ne sT]; exact eS, upd_same⟩ fun b' o e n1 n2 => by rw [upd_ne n2]; exact k2 _ _ e n1
      rw [upd_ne (fun z => by rw [z, R.st] at e; cases e)]
      exact k2 _ _ e (fun z => by rw [z, R.sd] at e; cases e)
    · rw [decide_eq_false (show ¬ (0 ≤ n ∧ n < ((t.length + 1 : Nat) : Int)) from fun z => h ⟨z.1, by have := z.2; omega⟩)]
      refine iteT ⟨_, rfl, by show 1 ≤ 1000; decide, fun a na => raised1 na fun dd H' s' e' => q1 h dd H' s' e'⟩
end
end Z

set_option Elab.async false
set_option linter.all false
set_option maxRecDepth 100000
set_option maxHeartbeats 4000000
namespace Z
open PySem PySem.Spec PyProof.Rows L2 GG EX RX
abbrev sStand : Stmt := top 20
abbrev sTossed : Stmt := top 21
abbrev sBack : Stmt := top 22
theorem tl_word (t : List Bool) : tl_ (word t) = t := by
  unfold tl_ word
  show (List.map _ (List.toArray _).toList) = t
  rw [List.toList_toArray, List.map_map]
  have e : ((fun x => x == 72) ∘ fun b : Bool => if b = true then 72 else 84) = id := funext fun b => by cases b <;> rfl
  rw [e, List.map_id]
theorem word_len (t : List Bool) : (word t).length = t.length := by
  have h := tl_len (word t)
  rw [tl_word] at h
  exact h.symm
def Pl.oc (a : Int) (u : Nat) : Pl → Oc
  | .toss _ _ => .going a
  | .fin n => .ended n u
  | .never => .nev u
theorem run_good {ps : List Pl} : ∀ (t : List Bool) (a : Int) (u : Nat), good ps t a → run ps t a u = (place ps (fin_ ps t a)).oc (fin_ ps t a) (u + t.length)
  | [], a, u, _ => by
    show run ps [] a u = (place ps a).oc a u
    cases e : place ps a with
    | toss x y => exact run_nil e u
    | fin n => exact run_fin e _ u
    | never => exact run_nev e _ u
  | c :: t, a, u, h => by
    obtain ⟨_, _, e, g⟩ := h
    cases hp : place ps a with
    | toss x y =>
      rw [run_cons hp]
      have en : nxt ps a c = if c = true then x else y := by
        unfold nxt
        rw [hp]
      rw [en] at g
      rw [run_good t _ _ g]
      show _ = (place ps (fin_ ps t (nxt ps a c))).oc (fin_ ps t (nxt ps a c)) _
      rw [en, List.length_cons, show u + 1 + t.length = u + (t.length + 1) by omega]
    | fin n => rw [hp] at e; cases e
    | never => rw [hp] at e; cases e
section
variable {P : Program} {w : World} {K : PySem.W.Frag} {mg : Str → Option Value} {base : Heap}
def spStand : Sp := fun vs H Q _ => ∃ (m : Addr) (ps : List Pl) (t : List Bool), vs = [.ref m, .str (word t)] ∧ Mach H m ps ∧ WF ps ∧ good ps t 0 ∧ t.length ≤ 1000 ∧
  ∀ q H', Same H H' → H' q = some (.tup ((place ps (fin_ ps t 0)).stand (fin_ ps t 0))) → Q (.ref q) H'
theorem scStand : FnScope ["machine", "tape", "found"] ["machine", "tape"] (defScope sStand) := ⟨rfl, rfl, rfl, by decide +kernel, rfl, by decide +kernel, by decide +kernel⟩
theorem ok_stand {f g : Addr} {fd gd : FuncData} (F : Fun K "_law_stands" "_law_stands" sStand f fd) (GW : FnOk P w K mg base CX0 1 g gd ["machine", "tape"] spRun) (PW_ : Def K mg "_law_walked" g gd ["machine", "tape"]) : FnOk P w K mg base CX0 2 f fd ["machine", "tape"] spStand := by
  refine F.ok scStand (fun vs H Q E h => ?_) (fun cdv A outer s H vs Q E hr h => ?_)
  · obtain ⟨m, ps, t, rfl, _⟩ := h
    rfl
  · obtain ⟨m, ps, t, rfl, hm, hw, hg, ht, q⟩ := h
    refine ⟨_, (pss_cons (ps_set (i := 2) scStand.nd rfl (.inl rfl) (pe_call GW (hr.mono (by decide)) (by rfl) PW_.is PW_.kp PW_.bi .nil pass0 (pa_cons (pv 0) (pa_cons (pv 1) pa_nil))))
      (pss_one (ps_ret (pe_ifExp (pt_cmpR op_eq (pe_ix ix_tup (pv 2) pe_int (fun _ _ => rfl)) pe_str (nomark _)) (pv 2) (pe_slice sl_tup (pv 2) po_none (po_some (pe_un un_neg pe_int))))))), ?_⟩
    refine ⟨_, rfl, _, rfl, m, word t, ps, rfl, hm, hw, by rw [word_len]; omega, fun p H1 s1 np ep => ?_⟩
    rw [tl_word, run_good t 0 0 hg] at ep
    generalize fin_ ps t 0 = a at *
    cases e : place ps a with
    | toss x y =>
      rw [e] at ep q
      refine ⟨_, rfl, p, _, 0, .str "going", rfl, rfl, SqT.of ep, atI_nat (j := 0) rfl, rfl, _, rfl, ?_⟩
      rw [decide_eq_true rfl]
      exact iteT ⟨_, rfl, q p _ s1 ep⟩
    | fin n =>
      rw [e] at ep q
      refine ⟨_, rfl, p, _, 0, .str "ended", rfl, rfl, SqT.of ep, atI_nat (j := 0) rfl, rfl, _, rfl, ?_⟩
      rw [decide_eq_false (by intro h; exact absurd (V.str.inj h) (by decide +kernel))]
      refine iteF ⟨_, rfl, ?_⟩
      dsimp only [tPart, tNoPart]
      refine ⟨1, rfl, -1, rfl, p, _, rfl, SqT.of ep, by show ¬(HT.sIx 3 0 none = 0 ∧ HT.sIx 3 3 (some (-1)) = 3); decide +kernel, fun z nz => q z _ (s1.trans (Same.upd nz)) upd_same⟩
    | never =>
      rw [e] at ep q
      refine ⟨_, rfl, p, _, 0, .str "never", rfl, rfl, SqT.of ep, atI_nat (j := 0) rfl, rfl, _, rfl, ?_⟩
      rw [decide_eq_false (by intro h; exact absurd (V.str.inj h) (by decide +kernel))]
      refine iteF ⟨_, rfl, ?_⟩
      dsimp only [tPart, tNoPart]
      refine ⟨1, rfl, -1, rfl, p, _, rfl, SqT.of ep, by show ¬(HT.sIx 2 0 none = 0 ∧ HT.sIx 2 2 (some (-1)) = 2); decide +kernel, fun z nz => q z _ (s1.trans (Same.upd nz)) upd_same⟩
/-! ### what the clauses ask -/
structure Clauses (K : PySem.W.Frag) (CA CI CU : Addr) : Prop where
  aa : PySem.W.exmOne K (.ref CA) (.ref CA) = some true
  ia : PySem.W.exmOne K (.ref CI) (.ref CA) = some false
  ii : PySem.W.exmOne K (.ref CI) (.ref CI) = some true
  uu : PySem.W.exmOne K (.ref CU) (.ref CU) = some true
  ka : PySem.W.kitOne K (.ref CA) (.type "RuntimeError") = some true
  ki : PySem.W.kitOne K (.ref CI) (.type "ValueError") = some true
  ku : PySem.W.kitOne K (.ref CU) (.type "LookupError") = some true
  kk : PySem.W.kitOne K (.ref CU) (.type "KeyError") = some false
  xA : XfC K CA
  xU : XfC K CU
structure NamesE (mg : Str → Option Value) : Prop extends Names6 mg where
  re : mg "RuntimeError" = none
  ve : mg "ValueError" = none
  le : mg "LookupError" = none
  ke : mg "KeyError" = none
def spTossed (K : PySem.W.Frag) (C : Addr) : Sp := fun vs H Q _ => ∃ (r S T : Addr) (ps : List Pl) (t : List Bool) (v : V) (d : PyData), vs = [.ref r, v] ∧ Run C H r S T ps t ∧ t.length ≤ 900 ∧ (∀ H', Same H H' → Dp K H' v d) ∧ SeqAt.shaped d = true ∧
  ((∃ b, v = .str (sg b) ∧ d = .str (sg b)) ∨ (PyData.eqv (.str "H") d = false ∧ PyData.eqv (.str "T") d = false)) ∧
  ((place ps (fin_ ps t 0)).tosses = false → ∀ q H', Same H H' → H' q = some (.tup [.str "over", .int (t.length : Nat), .bl true]) → Q (.ref q) H') ∧
  ((place ps (fin_ ps t 0)).tosses = true → (PyData.eqv (.str "H") d = false ∧ PyData.eqv (.str "T") d = false) → ∀ q H', Same H H' → H' q = some (.tup [.str "side", .bl true]) → Q (.ref q) H') ∧
  ((place ps (fin_ ps t 0)).tosses = true → ∀ b, v = .str (sg b) → ∀ q H', Run C H' r S T ps (t ++ [b]) → ButR S T H H' → H' q = some (.tup ((place ps (fin_ ps (t ++ [b]) 0)).stand (fin_ ps (t ++ [b]) 0))) → Q (.ref q) H')
theorem scTossed : FnScope ["runner", "side", "e"] ["runner", "side"] (defScope sTossed) := ⟨rfl, rfl, rfl, by decide +kernel, rfl, by decide +kernel, by decide +kernel⟩
def suA (CA : Addr) (K : PySem.W.Frag) : Addr → Value → Option Addr → TS := fun a cls d => tRet (tTup (tCons (tC (.str "over")) (tCons (tXf a cls d CA "tosses" (tVar 2)) (tCons (tCB (rIsX K cls a d) (tCons (tVar 2) (tCons (tC (.ty "RuntimeError")) tNil))) tNil))))
def suI (K : PySem.W.Frag) : Addr → Value → Option Addr → TS := fun a cls d => tRet (tTup (tCons (tC (.str "side")) (tCons (tCB (rIsX K cls a d) (tCons (tVar 2) (tCons (tC (.ty "ValueError")) tNil))) tNil)))
theorem ok_tossed {f g C CA CI CU : Addr} {fd gd : FuncData} (F : Fun K "_law_tossed" "_law_tossed" sTossed f fd) (T : Txt K C) (N : NamesE mg) (GX : FnOk P w K mg base (L2.CX P w) 3 g gd ["self", "side"] (spTossR K C CA CI)) (mX : Meth K C "toss" g) (bX : Binds K gd ["self", "side"] [])
    (EA : Err1 P w K mg base "AlreadyEnded" "tosses" CA) (EI : Err0 P w K mg base "InvalidSide" CI) (L : Clauses K CA CI CU) : FnOk P w K mg base CX0 4 f fd ["runner", "side"] (spTossed K C) := by
  refine F.ok scTossed (fun vs H Q E h => ?_) (fun cdv A outer s H vs Q E hr h => ?_)
  · obtain ⟨r, S, T, ps, t, v, d, rfl, _⟩ := h
    rfl
  · obtain ⟨r, S, T', ps, t, v, d, rfl, R, ht, hd, sd, odd, q1, q2, q3⟩ := h
    obtain ⟨dx, m, ob, hm⟩ := R.ob
    have hr3 : Room 3 _ := hr
    refine ⟨_, pss_one (ps_try_manyAs (i := 2) (tb := fun W => tRet (tMethE C "toss" (spTossR K C CA CI) (WE W) (tVar 0) (tCons (tVar 1) tNil))) (l := [(.ref CA, suA CA K), (.ref CI, suI K)]) (Wout := fun _ _ _ _ => False) rfl rfl scTossed.nd rfl rfl takes0
      (fun W pn xe tk _ => pss_one (ps_ret (by exact (pe_methE (pv 0) T.cl mX GX hr3 bX (fun σ => passAt tk σ) (by exact (pa_cons (pv 1) pa_nil))))))
      (.cons ⟨rfl, by decide, .inl EA.g⟩ (fun a oe cls d pn hz hf => pss_one (ps_ret (by exact (pe_tup (pa_cons pe_str (pa_cons (pe_xf L.xA EA.nf hz hf (pv 2)) (pa_cons (pe_callB (call_isX hz hf) (by rfl) N.isi (by decide +kernel) (by exact (pa_cons (pv 2) (pa_cons (pe_bltn (v := .ty "RuntimeError") (u := .type "RuntimeError") (by rfl) N.re (by decide +kernel) rfl) pa_nil)))) pa_nil)))))))
      (.cons ⟨rfl, by decide, .inl EI.g⟩ (fun a oe cls d pn hz hf => pss_one (ps_ret (by exact (pe_tup (pa_cons pe_str (pa_cons (pe_callB (call_isX hz hf) (by rfl) N.isi (by decide +kernel) (by exact (pa_cons (pv 2) (pa_cons (pe_bltn (v := .ty "ValueError") (u := .type "ValueError") (by rfl) N.ve (by decide +kernel) rfl) pa_nil)))) pa_nil)))))) .nil))), ?_⟩
    refine ⟨_, rfl, r, dx, _, rfl, ob, fl_no m S T' (by decide +kernel) (by decide +kernel) (by decide +kernel), _, rfl, r, S, T', ps, t, v, d, rfl, R, ht, hd, sd, odd, fun e dd H' s' e' => ?_, fun e no H' s' => ?_, fun e b ev q H' nq R' bu eq => q3 e b ev q H' R' bu eq⟩
    · refine ⟨true, L.aa, fun _ a na => ?_, fun z => Bool.noConfusion z⟩
      refine ⟨_, rfl, rfl, rfl, dd, _, _, rfl, e', rfl, _, rfl, CA, _, .type "RuntimeError", true, rfl, rfl, EA.is, fun u hu => hu, ⟨_, e'⟩, L.ka, by show 3 ≤ sizeLine; decide, fun q nq => ?_⟩
      exact q1 e q _ (s'.trans (Same.upd nq)) upd_same
    · refine ⟨false, L.ia, fun z => Bool.noConfusion z, fun _ => ⟨true, L.ii, fun _ a na => ?_, fun z => Bool.noConfusion z⟩⟩
      refine ⟨_, rfl, CI, _, .type "ValueError", true, rfl, rfl, EI.is, fun u hu => hu, trivial, L.ki, by show 2 ≤ sizeLine; decide, fun q nq => ?_⟩
      exact q2 e no q _ (s'.trans (Same.upd nq)) upd_same
/-! ### back -/
def spBack (C : Addr) : Sp := fun vs H Q _ => ∃ (r S T : Addr) (ps : List Pl) (t : List Bool) (n : Int), vs = [.ref r, .int n] ∧ Run C H r S T ps t ∧ t.length ≤ 900 ∧
  (¬ (0 ≤ n ∧ n ≤ t.length) → ∀ q H', Same H H' → H' q = some (.tup [.str "mark", .int n, .bl true]) → Q (.ref q) H') ∧
  (0 ≤ n → n ≤ t.length → ∀ H', Run C H' r S T ps (t.take n.toNat) → ButR S T H H' → Q .non H')
theorem scBack : FnScope ["runner", "number", "e"] ["runner", "number"] (defScope sBack) := ⟨rfl, rfl, rfl, by decide +kernel, rfl, by decide +kernel, by decide +kernel⟩
def suU (CU : Addr) (K : PySem.W.Frag) : Addr → Value → Option Addr → TS := fun a cls d => tRet (tTup (tCons (tC (.str "mark")) (tCons (tXf a cls d CU "number" (tVar 2)) (tCons (tAndV (tCB (rIsX K cls a d) (tCons (tVar 2) (tCons (tC (.ty "LookupError")) tNil))) (tNotV (tCB (rIsX K cls a d) (tCons (tVar 2) (tCons (tC (.ty "KeyError")) tNil))))) tNil))))
theorem ok_back {f g C CA CI CU : Addr} {fd gd : FuncData} (F : Fun K "_law_back" "_law_back" sBack f fd) (T : Txt K C) (N : NamesE mg) (GX : FnOk P w K mg base (L2.CX P w) 3 g gd ["self", "number"] (spRew C CU)) (mX : Meth K C "rewind" g) (bX : Binds K gd ["self", "number"] [])
    (EU : Err1 P w K mg base "UnknownCheckpoint" "number" CU) (L : Clauses K CA CI CU) : FnOk P w K mg base CX0 4 f fd ["runner", "number"] (spBack C) := by
  refine F.ok scBack (fun vs H Q E h => ?_) (fun cdv A outer s H vs Q E hr h => ?_)
  · obtain ⟨r, S, T, ps, t, n, rfl, _⟩ := h
    rfl
  · obtain ⟨r, S, T', ps, t, n, rfl, R, ht, q1, q2⟩ := h
    obtain ⟨dx, m, ob, hm⟩ := R.ob
    have hr3 : Room 3 _ := hr
    refine ⟨_, pss_one (ps_try_manyAs (i := 2) (tb := fun W => tRet (tMethE C "rewind" (spRew C CU) (WE W) (tVar 0) (tCons (tVar 1) tNil))) (l := [(.ref CU, suU CU K)]) (Wout := fun _ _ _ _ => False) rfl rfl scBack.nd rfl rfl takes0
      (fun W pn xe tk _ => pss_one (ps_ret (by exact (pe_methE (pv 0) T.cl mX GX hr3 bX (fun σ => passAt tk σ) (by exact (pa_cons (pv 1) pa_nil))))))
      (.cons ⟨rfl, by decide, .inl EU.g⟩ (fun a oe cls d pn hz hf => pss_one (ps_ret (by exact (pe_tup (pa_cons pe_str (pa_cons (pe_xf L.xU EU.nf hz hf (pv 2)) (pa_cons (pe_and (pe_callB (call_isX hz hf) (by rfl) N.isi (by decide +kernel) (by exact (pa_cons (pv 2) (pa_cons (pe_bltn (v := .ty "LookupError") (u := .type "LookupError") (by rfl) N.le (by decide +kernel) rfl) pa_nil)))) (pe_one (pe_not (pe_callB (call_isX hz hf) (by rfl) N.isi (by decide +kernel) (by exact (pa_cons (pv 2) (pa_cons (pe_bltn (v := .ty "KeyError") (u := .type "KeyError") (by rfl) N.ke (by decide +kernel) rfl) pa_nil))))))) pa_nil))))))) .nil)), ?_⟩
    refine ⟨_, rfl, r, dx, _, rfl, ob, fl_no m S T' (by decide +kernel) (by decide +kernel) (by decide +kernel), _, rfl, r, S, T', ps, t, n, rfl, R, ht, fun h dd H' s' e' => ?_, fun h0 h1 H' R' bu => q2 h0 h1 H' R' bu⟩
    refine ⟨true, L.uu, fun _ a na => ?_, fun z => Bool.noConfusion z⟩
    refine ⟨_, rfl, rfl, rfl, dd, _, _, rfl, e', rfl, ?_⟩
    refine ⟨_, rfl, CU, _, .type "LookupError", true, rfl, rfl, EU.is, fun u hu => hu, ⟨_, e'⟩, L.ku, _, rfl, ?_⟩
    refine iteT ⟨_, rfl, CU, _, .type "KeyError", false, rfl, rfl, EU.is, fun u hu => hu, ⟨_, e'⟩, L.kk, _, rfl, by show 3 ≤ sizeLine; decide, fun q nq => ?_⟩
    exact q1 h q _ (s'.trans (Same.upd nq)) upd_same
end
end Z

set_option Elab.async false
set_option linter.all false
set_option maxRecDepth 100000
set_option maxHeartbeats 4000000
namespace Z
open PySem PySem.Spec PyProof.Rows L2 GG EX RX
abbrev sDeed : Stmt := top 23
/-! ### data -/
theorem int_lay (i : Int) : (PyData.int i).canLay0 = true := rfl
theorem bool_lay (b : Bool) : (PyData.bool b).canLay0 = true := rfl
theorem lay_sib {x : Str} {n : Int} {b : Bool} (h : (PyData.str x).canLay0 = true) : (PyData.tuple [.str x, .int n, .bool b]).canLay0 = true := by
  show PyData.canLayAll0 _ = true
  simp [PyData.canLayAll0, h, int_lay, bool_lay]
theorem lay_si {x : Str} {n : Int} (h : (PyData.str x).canLay0 = true) : (PyData.tuple [.str x, .int n]).canLay0 = true := by
  show PyData.canLayAll0 _ = true
  simp [PyData.canLayAll0, h, int_lay]
theorem shp_sib {x : Str} {n : Int} {b : Bool} (h : (PyData.str x).canLay0 = true) : SeqAt.shaped (.tuple [.str x, .int n, .bool b]) = true := by
  unfold SeqAt.shaped
  rw [lay_sib h, Bool.true_and]
  simp [PyData.depth, PyData.depthAll]
theorem shp_si {x : Str} {n : Int} (h : (PyData.str x).canLay0 = true) : SeqAt.shaped (.tuple [.str x, .int n]) = true := by
  unfold SeqAt.shaped
  rw [lay_si h, Bool.true_and]
  simp [PyData.depth, PyData.depthAll]
def Pl.dat (a : Int) : Pl → PyData
  | .toss _ _ => .tuple [.str "going", .int a]
  | .fin n => .tuple [.str "ended", .int n]
  | .never => .tuple [.str "never"]
theorem dp_stand {K : PySem.W.Frag} {H : Hp} {t : Addr} {a : Int} : ∀ {p : Pl}, H t = some (.tup (p.stand a)) → Dp K H (.ref t) (p.dat a)
  | .toss _ _, h => .tup (SqT.of h) (.cons (.str _) (.cons (.int _) .nil))
  | .fin n, h => .tup (SqT.of h) (.cons (.str _) (.cons (.int _) .nil))
  | .never, h => .tup (SqT.of h) (.cons (.str _) .nil)
theorem shp_stand (a : Int) : ∀ p : Pl, SeqAt.shaped (p.dat a) = true
  | .toss _ _ => shp_si (by decide +kernel)
  | .fin n => shp_si (by decide +kernel)
  | .never => (by decide +kernel : SeqAt.shaped (.tuple [.str "never"]) = true)
theorem eqv_shp {d : PyData} (h : SeqAt.shaped d = true) : PyData.eqv d d = true := SeqAt.eqv_refl _ (SeqAt.canLay_of_shaped h)
def Upto (D : List Addr) (H H' : Hp) : Prop := ∀ b o, H b = some o → b ∉ D → H' b = some o
theorem Pen.notStrs {H : Hp} {a l q : Addr} {ys : List Str} (p : Pen H a l) (h : H q = some (.lst (ys.map V.str))) : q ≠ a := by
  obtain ⟨cs, pos, val, ha, hl, _⟩ := p
  rintro rfl
  rw [ha] at h
  cases ys with
  | nil => cases h
  | cons x r => cases h
theorem Run.pen {C : Addr} {H H' : Hp} {r S T a l : Addr} {ps : List Pl} {t : List Bool} (h : Run C H r S T ps t) (p : Pen H a l) (b : But a H H') : Run C H' r S T ps t := by
  obtain ⟨dx, m, e, hm⟩ := h.ob
  have n1 : r ≠ a := by
    rintro rfl
    obtain ⟨cs, pos, val, ha, _⟩ := p
    rw [ha] at e
    cases e
  have n2 : S ≠ a := p.notStrs (ys := t.map sg) (by rw [List.map_map]; exact h.sd)
  have n3 : T ≠ a := p.notInts h.st
  exact ⟨h.wf, h.go, ⟨dx, m, b.mem n1 e, hm.but p b⟩, b.mem n2 h.sd, b.mem n3 h.st⟩
theorem put1 (k : Key) (x y : V) : putK [(k, x)] k y = [(k, y)] := by simp [putK]
theorem tosses_is : ∀ {p : Pl}, p.tosses = true → ∃ x y, p = .toss x y
  | .toss x y, _ => ⟨x, y, rfl⟩
theorem stand_not {a : Int} : ∀ {p : Pl}, p.tosses = false → ∃ (wd : Str) (r : List V), p.stand a = .str wd :: r ∧ (V.str wd : V) ≠ .str "going"
  | .fin n, _ => ⟨_, _, rfl, by intro h; exact absurd (V.str.inj h) (by decide +kernel)⟩
  | .never, _ => ⟨_, _, rfl, by intro h; exact absurd (V.str.inj h) (by decide +kernel)⟩
theorem eq_odd {K : PySem.W.Frag} {H : Hp} {v : V} {b : Bool} {d : PyData} (e : v = .str (sg b)) (h : Dp K H v d) : d = .str (sg b) := by
  subst e
  cases h
  rfl
theorem sg_inj {b c : Bool} (h : sg b = sg c) : b = c := by
  cases b <;> cases c
  · rfl
  · exact absurd h (by decide +kernel)
  · exact absurd h (by decide +kernel)
  · rfl
theorem no_odd {b : Bool} {d : PyData} (no : PyData.eqv (.str "H") d = false ∧ PyData.eqv (.str "T") d = false) : ¬ d = .str (sg b) := by
  rintro rfl
  cases b
  · exact absurd no.2 (by decide +kernel)
  · exact absurd no.1 (by decide +kernel)
abbrev kt : Key := Sum.inr ("tape" : Str)
theorem Pen.butR {C : Addr} {H H' : Hp} {a l r S T : Addr} {ps : List Pl} {t : List Bool} (p : Pen H a l) (R : Run C H r S T ps t) (b : ButR S T H H') (nSl : l ≠ S) (nTl : l ≠ T) : Pen H' a l := by
  have nSa : S ≠ a := p.notStrs (ys := t.map sg) (by rw [List.map_map]; exact R.sd)
  have nTa : T ≠ a := p.notInts R.st
  obtain ⟨cs, pos, val, ha, hl, h⟩ := p
  exact ⟨cs, pos, val, b _ _ ha nSa.symm nTa.symm, b _ _ hl nSl nTl, h⟩
def Box (H : Hp) (B : Addr) (t : List Bool) : Prop := H B = some (.dK [(kt, .str (word t))])
theorem at_B {H : Hp} {S B : Addr} {xs : List V} {t : List Bool} (h : H S = some (.lst xs)) (hB : Box H B t) : B ≠ S := by
  rintro rfl
  unfold Box at hB
  rw [h] at hB
  cases hB
theorem Pen.box {H : Hp} {a l B : Addr} {t : List Bool} {o : HO} (p : Pen H a l) (hB : Box H B t) : Pen (upd H B o) a l := by
  obtain ⟨cs, pos, val, ha, hl, h⟩ := p
  exact ⟨cs, pos, val, by rw [upd_ne (at_B ha hB).symm]; exact ha, by rw [upd_ne (at_B hl hB).symm]; exact hl, h⟩
theorem Run.box {C : Addr} {H : Hp} {r S T B : Addr} {ps : List Pl} {t t' : List Bool} {o : HO} (h : Run C H r S T ps t) (hB : Box H B t') : Run C (upd H B o) r S T ps t := by
  obtain ⟨dx, m, e, hm⟩ := h.ob
  refine ⟨h.wf, h.go, ⟨dx, m, by rw [upd_ne (ne_of e hB (by intro z; cases z))]; exact e, hm.mono fun b xs eb => by rw [upd_ne (ne_of eb hB (by intro z; cases z))]; exact eb⟩, by rw [upd_ne (at_B h.sd hB).symm]; exact h.sd, by rw [upd_ne (at_B h.st hB).symm]; exact h.st⟩
theorem cut_word {t : List Bool} {k : Nat} (h : k ≤ t.length) : cutS (word t) none (some (k : Int)) = word (t.take k) := by
  have e1 : HT.sIx (word t).length 0 none = 0 := by rw [HT.sIx_none]
  have e2 : HT.sIx (word t).length (word t).length (some (k : Int)) = k := by
    rw [HT.sIx_nat, word_len]
    omega
  unfold cutS
  rw [e1, e2, List.drop_zero, Nat.sub_zero]
  unfold word
  rw [List.toList_toArray, List.map_take]
theorem word_snoc (t : List Bool) (b : Bool) : word t ++ sg b = word (t ++ [b]) := by
  have e : (word t ++ sg b).cps.toList = (word (t ++ [b])).cps.toList := by
    show ((word t).cps ++ (sg b).cps).toList = _
    rw [Array.toList_append, sg_cps]
    unfold word
    rw [List.map_append]
    rfl
  generalize word t ++ sg b = x at *
  generalize word (t ++ [b]) = y at *
  obtain ⟨x⟩ := x
  obtain ⟨y⟩ := y
  exact congrArg Str.mk (Array.toList_inj.mp e)
section
variable {P : Program} {w : World} {K : PySem.W.Frag} {mg : Str → Option Value} {base : Heap}
def spDeed (C : Addr) : Sp := fun vs H Q _ => ∃ (a l r S T m B : Addr) (ps : List Pl) (t : List Bool), vs = [.ref a, .ref r, .ref m, .ref B] ∧ Pen H a l ∧ Run C H r S T ps t ∧ Mach H m ps ∧ Box H B t ∧ t.length ≤ 100 ∧ l ≠ S ∧ l ≠ T ∧
  ∀ (t' : List Bool) H', t'.length ≤ t.length + 1 → Upto [a, S, T, B] H H' → Pen H' a l → Run C H' r S T ps t' → Box H' B t' → Q (.bl true) H'
theorem scDeed : FnScope ["pen", "runner", "machine", "box", "option", "tape", "number", "due", "odd", "side"] ["pen", "runner", "machine", "box"] (defScope sDeed) := ⟨rfl, rfl, rfl, by decide +kernel, rfl, by decide +kernel, by decide +kernel⟩
theorem ok_deed {f g sf tf bf C : Addr} {fd gd sd td bd : FuncData} (F : Fun K "_law_deed_right" "_law_deed_right" sDeed f fd) (T : Names6 mg) (GD : FnOk P w K mg base CX0 2 g gd ["pen", "many"] spDraw) (PD : Def K mg "_law_draw" g gd ["pen", "many"])
    (GS : FnOk P w K mg base CX0 2 sf sd ["machine", "tape"] spStand) (PS_ : Def K mg "_law_stands" sf sd ["machine", "tape"]) (GT : FnOk P w K mg base CX0 4 tf td ["runner", "side"] (spTossed K C)) (PT_ : Def K mg "_law_tossed" tf td ["runner", "side"])
    (GB : FnOk P w K mg base CX0 4 bf bd ["runner", "number"] (spBack C)) (PB : Def K mg "_law_back" bf bd ["runner", "number"]) : FnOk P w K mg base CX0 5 f fd ["pen", "runner", "machine", "box"] (spDeed C) := by
  refine F.ok scDeed (fun vs H Q E h => ?_) (fun cdv A outer s H vs Q E hr h => ?_)
  · obtain ⟨a, l, r, S, T, m, B, ps, t, rfl, _⟩ := h
    rfl
  · obtain ⟨a, l, r, S, T', m, B, ps, t, rfl, pn, R, hm, hB, ht, lS, lT, q⟩ := h
    have hn : A.units + 3 + 64 < cLine := hr.units
    have hu : A.units + 3 + 1 < cLine := by omega
    refine ⟨_, (pss_cons (ps_par (i := 4) (j := 5) (by rfl) scDeed.nd rfl rfl (by decide) rfl rfl (pa_cons (pe_call GD (hr.mono (by decide)) (by rfl) PD.is PD.kp PD.bi .nil pass0 (pa_cons (pv 0) (pa_cons pe_int pa_nil))) (pa_cons (pe_dget hu (pv 3) pe_str (fun _ _ => rfl)) pa_nil)) (by rfl))
      (pss_cons (ps_if (pt_cmpR op_eq (pv 4) pe_int (nomark _)) (pss_cons (ps_set (i := 6) scDeed.nd rfl (.inl rfl) (pe_op op_sub (pe_call GD (hr.mono (by decide)) (by rfl) PD.is PD.kp PD.bi .nil pass0 (pa_cons (pv 0) (pa_cons (pe_op op_add (pe_callB call_len_str (by rfl) T.len PySem.boot_len (pa_cons (pv 5) pa_nil)) pe_int) pa_nil))) pe_int))
      (pss_cons (ps_set (i := 7) scDeed.nd rfl (.inl rfl) (pe_ifExp (pt_chain op_le op_le pe_int (pv 6) (pe_callB call_len_str (by rfl) T.len PySem.boot_len (pa_cons (pv 5) pa_nil))) pe_non (pe_tup (pa_cons pe_str (pa_cons (pv 6) (pa_cons pe_bl pa_nil))))))
      (pss_cons (ps_if (pt_cmpR (op_neD hn) (pe_call GB (hr.mono (by decide)) (by rfl) PB.is PB.kp PB.bi .nil pass0 (pa_cons (pv 1) (pa_cons (pv 6) pa_nil))) (pv 7) (nomark _)) (pss_one (ps_ret pe_bl)) pss_nil)
      (pss_one (ps_dput hu (pv 3) pe_str (pe_ifExp (pt_cmpR op_isN (pv 7) pe_non (nomark _)) (pe_slice sl_str (pv 5) po_none (po_some (pv 6))) (pv 5)) rfl))))) (pss_one (ps_if (pt_cmpR op_eq (pv 4) pe_int (nomark _)) (pss_cons (ps_set (i := 8) scDeed.nd rfl (.inl rfl) (pe_ix ix_list (pe_lst (pa_cons pe_str (pa_cons pe_str (pa_cons pe_str (pa_cons pe_non (pa_cons pe_int (pa_cons pe_bl (pa_cons (pe_tup (pa_cons pe_str pa_nil)) pa_nil)))))))) (pe_call GD (hr.mono (by decide)) (by rfl) PD.is PD.kp PD.bi .nil pass0 (pa_cons (pv 0) (pa_cons pe_int pa_nil))) (fun _ _ => rfl)))
      (pss_cons (ps_set (i := 7) scDeed.nd rfl (.inl rfl) (pe_ifExp (pt_cmpR op_ne (pe_ix ix_tup (pe_call GS (hr.mono (by decide)) (by rfl) PS_.is PS_.kp PS_.bi .nil pass0 (pa_cons (pv 2) (pa_cons (pv 5) pa_nil))) pe_int (fun _ _ => rfl)) pe_str (nomark _)) (pe_tup (pa_cons pe_str (pa_cons (pe_callB call_len_str (by rfl) T.len PySem.boot_len (pa_cons (pv 5) pa_nil)) (pa_cons pe_bl pa_nil)))) (pe_tup (pa_cons pe_str (pa_cons pe_bl pa_nil)))))
      (pss_one (ps_if (pt_cmpR (op_neD hn) (pe_call GT (hr.mono (by decide)) (by rfl) PT_.is PT_.kp PT_.bi .nil pass0 (pa_cons (pv 1) (pa_cons (pv 8) pa_nil))) (pv 7) (nomark _)) (pss_one (ps_ret pe_bl)) pss_nil)))) (pss_cons (ps_set (i := 9) scDeed.nd rfl (.inl rfl) (pe_ix ix_str pe_str (pe_call GD (hr.mono (by decide)) (by rfl) PD.is PD.kp PD.bi .nil pass0 (pa_cons (pv 0) (pa_cons pe_int pa_nil))) (fun _ _ => rfl)))
      (pss_cons (ps_set (i := 7) scDeed.nd rfl (.inl rfl) (pe_tup (pa_cons pe_str (pa_cons (pe_callB call_len_str (by rfl) T.len PySem.boot_len (pa_cons (pv 5) pa_nil)) (pa_cons pe_bl pa_nil)))))
      (pss_cons (ps_if (pt_cmpR op_eq (pe_ix ix_tup (pe_call GS (hr.mono (by decide)) (by rfl) PS_.is PS_.kp PS_.bi .nil pass0 (pa_cons (pv 2) (pa_cons (pv 5) pa_nil))) pe_int (fun _ _ => rfl)) pe_str (nomark _)) (pss_cons (ps_dput hu (pv 3) pe_str (pe_op op_add_str (pv 5) (pv 9)) rfl)
      (pss_one (ps_set (i := 7) scDeed.nd rfl (.inl rfl) (pe_call GS (hr.mono (by decide)) (by rfl) PS_.is PS_.kp PS_.bi .nil pass0 (pa_cons (pv 2) (pa_cons (pe_dget hu (pv 3) pe_str (fun _ _ => rfl)) pa_nil)))))) pss_nil)
      (pss_one (ps_if (pt_cmpR (op_neD hn) (pe_call GT (hr.mono (by decide)) (by rfl) PT_.is PT_.kp PT_.bi .nil pass0 (pa_cons (pv 1) (pa_cons (pv 9) pa_nil))) (pv 7) (nomark _)) (pss_one (ps_ret pe_bl)) pss_nil))))))))
      (pss_one (ps_ret pe_bl)))), ?_⟩
    refine ⟨_, rfl, a, l, 6, rfl, pn, by decide, by decide +kernel, fun d H1 d0 d1 b1 p1 => ?_⟩
    have hB1 := b1.mem (show B ≠ a from fun z => by
      obtain ⟨cs, pos, val, ha, _⟩ := pn
      rw [z] at hB
      unfold Box at hB
      rw [ha] at hB
      cases hB) hB
    have R1 := R.pen pn b1
    have hm1 := hm.but pn b1
    have up1 : Upto [a, S, T', B] H H1 := fun b o e n => b1 _ _ e (fun z => n (by simp [z]))
    have get : ∀ {H' : Hp} {t : List Bool}, Box H' B t → DGet H' B (.str "tape") (some (.str (word t))) := fun {H' t} h => by
      have z := DGet.k (k := kt) h
      rw [show valV [(kt, (V.str (word t)))] kt = some (.str (word t)) by simp [valV]] at z
      exact z
    have line : sizeLine = 16777216 := by decide
    have hsz : (word t).length ≤ sizeLine := by rw [word_len]; omega
    refine ⟨_, rfl, B, _, rfl, get hB1, _, _, rfl, ?_⟩
    have nBa : B ≠ a := fun z => by
      obtain ⟨cs, pos, val, ha, _⟩ := pn
      rw [z] at hB
      unfold Box at hB
      rw [ha] at hB
      cases hB
    refine ⟨_, rfl, rfl, _, rfl, ite2 (fun _ => ?_) (fun _ => ?_)⟩
    · refine ⟨.ref a, rfl, _, rfl, word t, rfl, hsz, _, _, rfl, rfl, a, l, _, rfl, p1, ?_, ?_, fun d2 H2 u0 u1 b2 p2 => ?_⟩
      · rw [word_len]; omega
      · rw [word_len]
        refine log_le (Nat.lt_of_le_of_lt (show _ ≤ 200 by omega) (by decide))
      refine ⟨_, _, rfl, rfl, ?_⟩
      have R2 := R1.pen p1 b2
      have hB2 : Box H2 B t := b2.mem nBa hB1
      have up2 : Upto [a, S, T', B] H H2 := fun b o e n => b2 _ _ (up1 _ _ e n) (fun z => n (by simp [z]))
      dsimp only
      generalize d2 - 1 = n
      refine ⟨_, rfl, _, _, rfl, rfl, _, rfl, ?_⟩
      by_cases h1 : 0 ≤ n
      · rw [decide_eq_true h1]
        refine iteT ⟨_, rfl, word t, rfl, hsz, _, _, rfl, rfl, _, rfl, ?_⟩
        rw [word_len]
        by_cases h2 : n ≤ (t.length : Int)
        · rw [decide_eq_true h2]
          refine iteT ?_
          refine ⟨_, rfl, _, rfl, r, S, T', ps, t, n, rfl, R2, by omega, fun h => absurd ⟨h1, h2⟩ h, fun _ _ H3 R3 bu3 => ?_⟩
          refine ⟨_, rfl, .none, .none, .non, .non, by decide +kernel, by decide +kernel, _, rfl, ?_⟩
          rw [show PyData.eqv .none .none = true by decide +kernel]
          refine iteF ?_
          refine ⟨_, rfl, rfl, _, rfl, ?_⟩
          rw [decide_eq_true rfl]
          refine iteT ⟨_, rfl, ?_⟩
          dsimp only [tPart, tNoPart]
          refine ⟨_, rfl, n, rfl, word t, rfl, hsz, ?_⟩
          have hB3 : Box H3 B t := bu3 _ _ hB2 (at_B R2.sd hB2) (at_B R2.st hB2)
          refine ⟨_, rfl, B, _, rfl, DPut.k (k := kt) hB3 (by show 1 < sizeLine; decide), ?_⟩
          rw [put1]
          obtain ⟨k, rfl⟩ : ∃ k : Nat, n = (k : Int) := ⟨n.toNat, by omega⟩
          rw [cut_word (by omega)]
          rw [Int.toNat_natCast] at R3
          have nSa : S ≠ a := p2.notStrs (ys := t.map sg) (by rw [List.map_map]; exact R2.sd)
          have nTa : T' ≠ a := p2.notInts R2.st
          refine q (t.take k) _ (by rw [List.length_take]; omega) (fun b o e nb => ?_) (Pen.box (p2.butR R2 bu3 lS lT) hB3) (R3.box hB3) upd_same
          have n1 : b ≠ S := fun z => nb (by simp [z])
          have n2 : b ≠ T' := fun z => nb (by simp [z])
          have n3 : b ≠ B := fun z => nb (by simp [z])
          rw [upd_ne n3]
          exact bu3 _ _ (up2 _ _ e nb) n1 n2
        · rw [decide_eq_false h2]
          refine iteF ?_
          have hbad : ¬ (0 ≤ n ∧ n ≤ (t.length : Int)) := by omega
          refine ⟨_, rfl, by show 3 ≤ sizeLine; decide, fun td nd => ?_⟩
          have s3 := Same.upd (o := .tup [.str "mark", .int n, .bl true]) nd
          have e3 : upd H2 td (.tup [.str "mark", .int n, .bl true]) td = some (.tup [.str "mark", .int n, .bl true]) := upd_same
          change (_ : Hp → Prop) (upd H2 td (.tup [.str "mark", .int n, .bl true]))
          generalize upd H2 td (.tup [.str "mark", .int n, .bl true]) = H3 at s3 e3 ⊢
          refine ⟨_, rfl, _, rfl, r, S, T', ps, t, n, rfl, R2.same s3, by omega, fun _ q4 H4 s4 e4 => ?_, fun h0 h4 => absurd ⟨h0, h4⟩ hbad⟩
          refine ⟨_, rfl, .tuple [.str "mark", .int n, .bool true], .tuple [.str "mark", .int n, .bool true], .tup (SqT.of e4) (.cons (.str _) (.cons (.int _) (.cons (.bl _) .nil))), .tup (SqT.of (s4 _ _ e3)) (.cons (.str _) (.cons (.int _) (.cons (.bl _) .nil))), shp_sib (by decide +kernel), shp_sib (by decide +kernel), _, rfl, ?_⟩
          rw [eqv_shp (shp_sib (by decide +kernel))]
          refine iteF ?_
          dsimp only [tNext]
          refine ⟨_, rfl, rfl, _, rfl, ?_⟩
          rw [decide_eq_false (by intro z; cases z)]
          refine iteF ⟨_, rfl, ?_⟩
          have hB4 : Box H4 B t := s4 _ _ (s3 _ _ hB2)
          refine ⟨_, rfl, B, _, rfl, DPut.k (k := kt) hB4 (by show 1 < sizeLine; decide), ?_⟩
          rw [put1]
          have RB := R2.same (s3.trans s4)
          exact q t _ (by omega) (fun b o e nb => by rw [upd_ne (fun z => nb (by simp [z]))]; exact s4 _ _ (s3 _ _ (up2 _ _ e nb))) ((p2.same s3).same s4 |>.box hB4) (RB.box hB4) upd_same
      · rw [decide_eq_false h1]
        refine iteF ⟨_, rfl, iteF ?_⟩
        have hbad : ¬ (0 ≤ n ∧ n ≤ (t.length : Int)) := by omega
        refine ⟨_, rfl, by show 3 ≤ sizeLine; decide, fun td nd => ?_⟩
        have s3 := Same.upd (o := .tup [.str "mark", .int n, .bl true]) nd
        have e3 : upd H2 td (.tup [.str "mark", .int n, .bl true]) td = some (.tup [.str "mark", .int n, .bl true]) := upd_same
        change (_ : Hp → Prop) (upd H2 td (.tup [.str "mark", .int n, .bl true]))
        generalize upd H2 td (.tup [.str "mark", .int n, .bl true]) = H3 at s3 e3 ⊢
        refine ⟨_, rfl, _, rfl, r, S, T', ps, t, n, rfl, R2.same s3, by omega, fun _ q4 H4 s4 e4 => ?_, fun h0 h4 => absurd ⟨h0, h4⟩ hbad⟩
        refine ⟨_, rfl, .tuple [.str "mark", .int n, .bool true], .tuple [.str "mark", .int n, .bool true], .tup (SqT.of e4) (.cons (.str _) (.cons (.int _) (.cons (.bl _) .nil))), .tup (SqT.of (s4 _ _ e3)) (.cons (.str _) (.cons (.int _) (.cons (.bl _) .nil))), shp_sib (by decide +kernel), shp_sib (by decide +kernel), _, rfl, ?_⟩
        rw [eqv_shp (shp_sib (by decide +kernel))]
        refine iteF ?_
        dsimp only [tNext]
        refine ⟨_, rfl, rfl, _, rfl, ?_⟩
        rw [decide_eq_false (by intro z; cases z)]
        refine iteF ⟨_, rfl, ?_⟩
        have hB4 : Box H4 B t := s4 _ _ (s3 _ _ hB2)
        refine ⟨_, rfl, B, _, rfl, DPut.k (k := kt) hB4 (by show 1 < sizeLine; decide), ?_⟩
        rw [put1]
        have RB := R2.same (s3.trans s4)
        exact q t _ (by omega) (fun b o e nb => by rw [upd_ne (fun z => nb (by simp [z]))]; exact s4 _ _ (s3 _ _ (up2 _ _ e nb))) ((p2.same s3).same s4 |>.box hB4) (RB.box hB4) upd_same
    · refine ⟨_, rfl, rfl, _, rfl, ite2 (fun _ => ?_) (fun _ => ?_)⟩
      · refine ⟨by show 1 ≤ sizeLine; decide, fun tH nH => ⟨by show 7 ≤ sizeLine; decide, fun L nL => ?_⟩⟩
        have s2 := Same.upd (o := .tup [.str "H"]) nH
        have eH : upd H1 tH (.tup [.str "H"]) tH = some (.tup [.str "H"]) := upd_same
        generalize upd H1 tH (.tup [.str "H"]) = H2 at nL s2 eH ⊢
        have s3 := Same.upd (o := .lst [.str "", .str "h", .str "HT", .non, .int 1, .bl true, .ref tH]) nL
        have eL : upd H2 L (.lst [.str "", .str "h", .str "HT", .non, .int 1, .bl true, .ref tH]) L = some (.lst [.str "", .str "h", .str "HT", .non, .int 1, .bl true, .ref tH]) := upd_same
        have nLa : L ≠ a := by
          rintro rfl
          obtain ⟨cs, pos, val, ha, _⟩ := p1.same s2
          rw [ha] at nL
          cases nL
        change (_ : Hp → Prop) (upd H2 L (.lst [.str "", .str "h", .str "HT", .non, .int 1, .bl true, .ref tH]))
        generalize upd H2 L (.lst [.str "", .str "h", .str "HT", .non, .int 1, .bl true, .ref tH]) = H3 at s3 eL ⊢
        have p3 := (p1.same s2).same s3
        refine ⟨.ref a, rfl, a, l, 7, rfl, p3, by decide, by decide +kernel, fun d2 H4 u0 u1 b4 p4 => ?_⟩
        have eL4 := b4.mem nLa eL
        have eH4 := b4.mem (p3.notTup (s3 _ _ eH)) (s3 _ _ eH)
        have R4 := ((R1.same s2).same s3).pen p3 b4
        have hm4 := ((hm1.same s2).same s3).but p3 b4
        have hB4 : Box H4 B t := b4.mem nBa (s3 _ _ (s2 _ _ hB1))
        have up4 : Upto [a, S, T', B] H H4 := fun b o e n => b4 _ _ (s3 _ _ (s2 _ _ (up1 _ _ e n))) (fun z => n (by simp [z]))
        obtain ⟨v, dd, hv, hd, sd, no⟩ : ∃ (v : V) (dd : PyData), atI [V.str "", .str "h", .str "HT", .non, .int 1, .bl true, .ref tH] d2 = some v ∧ (∀ H', Same H4 H' → Dp K H' v dd) ∧ SeqAt.shaped dd = true ∧ (PyData.eqv (.str "H") dd = false ∧ PyData.eqv (.str "T") dd = false) := by
          have c : d2 = 0 ∨ d2 = 1 ∨ d2 = 2 ∨ d2 = 3 ∨ d2 = 4 ∨ d2 = 5 ∨ d2 = 6 := by omega
          rcases c with rfl | rfl | rfl | rfl | rfl | rfl | rfl
          · exact ⟨_, .str "", rfl, fun _ _ => .str _, by decide +kernel, by decide +kernel, by decide +kernel⟩
          · exact ⟨_, .str "h", rfl, fun _ _ => .str _, by decide +kernel, by decide +kernel, by decide +kernel⟩
          · exact ⟨_, .str "HT", rfl, fun _ _ => .str _, by decide +kernel, by decide +kernel, by decide +kernel⟩
          · exact ⟨_, .none, rfl, fun _ _ => .non, by decide +kernel, by decide +kernel, by decide +kernel⟩
          · exact ⟨_, .int 1, rfl, fun _ _ => .int _, by decide +kernel, by decide +kernel, by decide +kernel⟩
          · exact ⟨_, .bool true, rfl, fun _ _ => .bl _, by decide +kernel, by decide +kernel, by decide +kernel⟩
          · exact ⟨_, .tuple [.str "H"], rfl, fun _ s => .tup (SqT.of (s _ _ eH4)) (.cons (.str _) .nil), by decide +kernel, by decide +kernel, by decide +kernel⟩
        refine ⟨L, _, d2, v, rfl, rfl, SqL.of eL4, hv, ?_⟩
        refine ⟨_, rfl, _, rfl, m, ps, t, rfl, hm4, R4.wf, R4.go, by omega, fun q5 H5 s5 e5 => ?_⟩
        cases e : (place ps (fin_ ps t 0)).tosses with
        | true =>
          obtain ⟨x, y, hp⟩ := tosses_is e
          rw [hp] at e5
          refine ⟨q5, _, 0, .str "going", rfl, rfl, SqT.of e5, atI_nat (j := 0) rfl, rfl, _, rfl, ?_⟩
          rw [decide_eq_true rfl]
          refine iteF ⟨by show 2 ≤ sizeLine; decide, fun q6 n6 => ?_⟩
          have s6 := Same.upd (o := .tup [.str "side", .bl true]) n6
          have e6 : upd H5 q6 (.tup [.str "side", .bl true]) q6 = some (.tup [.str "side", .bl true]) := upd_same
          change (_ : Hp → Prop) (upd H5 q6 (.tup [.str "side", .bl true]))
          generalize upd H5 q6 (.tup [.str "side", .bl true]) = H6 at s6 e6 ⊢
          refine ⟨_, rfl, _, rfl, r, S, T', ps, t, v, dd, rfl, (R4.same s5).same s6, by omega, fun H' s' => hd _ ((s5.trans s6).trans s'), sd, .inr no, fun z => absurd (z.symm.trans e) (by decide), fun _ _ q7 H7 s7 e7 => ?_, fun _ b ev => absurd (eq_odd ev (hd H4 fun _ _ z => z)) (no_odd no)⟩
          refine ⟨_, rfl, .tuple [.str "side", .bool true], .tuple [.str "side", .bool true], .tup (SqT.of e7) (.cons (.str _) (.cons (.bl _) .nil)), .tup (SqT.of (s7 _ _ e6)) (.cons (.str _) (.cons (.bl _) .nil)), by decide +kernel, by decide +kernel, _, rfl, ?_⟩
          rw [eqv_shp (by decide +kernel)]
          refine iteF ?_
          have s47 := (s5.trans s6).trans s7
          exact q t _ (by omega) (fun b o e nb => s47 _ _ (up4 _ _ e nb)) (p4.same s47) (R4.same s47) (s47 _ _ hB4)
        | false =>
          obtain ⟨wd, rest, er, nw⟩ := stand_not (a := fin_ ps t 0) e
          rw [er] at e5
          refine ⟨q5, _, 0, .str wd, rfl, rfl, SqT.of e5, atI_nat (j := 0) rfl, rfl, _, rfl, ?_⟩
          rw [decide_eq_false nw]
          refine iteT ⟨_, rfl, word t, rfl, hsz, by show 3 ≤ sizeLine; decide, fun q6 n6 => ?_⟩
          rw [word_len]
          have s6 := Same.upd (o := .tup [.str "over", .int (t.length : Nat), .bl true]) n6
          have e6 : upd H5 q6 (.tup [.str "over", .int (t.length : Nat), .bl true]) q6 = some (.tup [.str "over", .int (t.length : Nat), .bl true]) := upd_same
          change (_ : Hp → Prop) (upd H5 q6 (.tup [.str "over", .int (t.length : Nat), .bl true]))
          generalize upd H5 q6 (.tup [.str "over", .int (t.length : Nat), .bl true]) = H6 at s6 e6 ⊢
          refine ⟨_, rfl, _, rfl, r, S, T', ps, t, v, dd, rfl, (R4.same s5).same s6, by omega, fun H' s' => hd _ ((s5.trans s6).trans s'), sd, .inr no, fun _ q7 H7 s7 e7 => ?_, fun z => absurd (z.symm.trans e) (by decide), fun z => absurd (z.symm.trans e) (by decide)⟩
          refine ⟨_, rfl, .tuple [.str "over", .int (t.length : Nat), .bool true], .tuple [.str "over", .int (t.length : Nat), .bool true], .tup (SqT.of e7) (.cons (.str _) (.cons (.int _) (.cons (.bl _) .nil))), .tup (SqT.of (s7 _ _ e6)) (.cons (.str _) (.cons (.int _) (.cons (.bl _) .nil))), shp_sib (by decide +kernel), shp_sib (by decide +kernel), _, rfl, ?_⟩
          rw [eqv_shp (shp_sib (by decide +kernel))]
          refine iteF ?_
          have s47 := (s5.trans s6).trans s7
          exact q t _ (by omega) (fun b o e nb => s47 _ _ (up4 _ _ e nb)) (p4.same s47) (R4.same s47) (s47 _ _ hB4)
      · refine ⟨.ref a, rfl, a, l, 2, rfl, p1, by decide, by decide +kernel, fun d2 H2 u0 u1 b2 p2 => ?_⟩
        have R2 := R1.pen p1 b2
        have hm2 := hm1.but p1 b2
        have hB2 : Box H2 B t := b2.mem nBa hB1
        have up2 : Upto [a, S, T', B] H H2 := fun b o e n => b2 _ _ (up1 _ _ e n) (fun z => n (by simp [z]))
        obtain ⟨b, c, hc, ec⟩ : ∃ (b : Bool) (c : Nat), atI (PySem.Str.ofString "HT").cps.toList d2 = some c ∧ (⟨#[c]⟩ : Str) = sg b := by
          have w : d2 = 0 ∨ d2 = 1 := by omega
          rcases w with rfl | rfl
          · exact ⟨true, 72, by decide +kernel, by decide +kernel⟩
          · exact ⟨false, 84, by decide +kernel, by decide +kernel⟩
        refine ⟨_, d2, c, rfl, rfl, by decide +kernel, hc, ?_⟩
        rw [ec]
        refine ⟨_, rfl, word t, rfl, hsz, by show 3 ≤ sizeLine; decide, fun q3 n3 => ?_⟩
        rw [word_len]
        have s3 := Same.upd (o := .tup [.str "over", .int (t.length : Nat), .bl true]) n3
        have e3 : upd H2 q3 (.tup [.str "over", .int (t.length : Nat), .bl true]) q3 = some (.tup [.str "over", .int (t.length : Nat), .bl true]) := upd_same
        change (_ : Hp → Prop) (upd H2 q3 (.tup [.str "over", .int (t.length : Nat), .bl true]))
        generalize upd H2 q3 (.tup [.str "over", .int (t.length : Nat), .bl true]) = H3 at s3 e3 ⊢
        refine ⟨_, rfl, _, rfl, m, ps, t, rfl, hm2.same s3, R2.wf, R2.go, by omega, fun q5 H5 s5 e5 => ?_⟩
        have s25 := s3.trans s5
        cases e : (place ps (fin_ ps t 0)).tosses with
        | true =>
          obtain ⟨x, y, hp⟩ := tosses_is e
          rw [hp] at e5
          refine ⟨q5, _, 0, .str "going", rfl, rfl, SqT.of e5, atI_nat (j := 0) rfl, rfl, _, rfl, ?_⟩
          rw [decide_eq_true rfl]
          refine iteT ?_
          have ls : (word t).length + (sg b).length ≤ sizeLine := by rw [word_len, sg_len]; omega
          have hB5 : Box H5 B t := s25 _ _ hB2
          refine ⟨_, rfl, _, rfl, _, _, rfl, rfl, ls, _, rfl, B, _, rfl, DPut.k (k := kt) hB5 (by show 1 < sizeLine; decide), ?_⟩
          rw [put1, word_snoc]
          have R6 : Run C (upd H5 B (.dK [(kt, .str (word (t ++ [b])))])) r S T' ps t := (R2.same s25).box hB5
          have p6 : Pen (upd H5 B (.dK [(kt, .str (word (t ++ [b])))])) a l := (p2.same s25).box hB5
          have hB6 : Box (upd H5 B (.dK [(kt, .str (word (t ++ [b])))])) B (t ++ [b]) := upd_same
          have hm6 : Mach (upd H5 B (.dK [(kt, .str (word (t ++ [b])))])) m ps := (hm2.same s25).mono fun u xs eb => by rw [upd_ne (ne_of eb hB5 (by intro z; cases z))]; exact eb
          have up6 : Upto [a, S, T', B] H (upd H5 B (.dK [(kt, .str (word (t ++ [b])))])) := fun u o eb nb => by rw [upd_ne (fun z => nb (by simp [z]))]; exact s25 _ _ (up2 _ _ eb nb)
          change (_ : Hp → Prop) (upd H5 B (.dK [(kt, .str (word (t ++ [b])))]))
          generalize upd H5 B (.dK [(kt, .str (word (t ++ [b])))]) = H6 at R6 p6 hB6 hm6 up6 ⊢
          refine ⟨_, rfl, _, rfl, B, _, rfl, get hB6, m, ps, t ++ [b], rfl, hm6, R6.wf, good_snoc R6.wf b R6.go e, by rw [List.length_append]; show t.length + 1 ≤ 1000; omega, fun q7 H7 s7 e7 => ?_⟩
          refine ⟨_, rfl, _, rfl, r, S, T', ps, t, .str (sg b), .str (sg b), rfl, R6.same s7, by omega, fun _ _ => .str _, by cases b <;> decide +kernel, .inl ⟨b, rfl, rfl⟩, fun z => absurd (z.symm.trans e) (by decide), fun _ z => absurd rfl (no_odd (b := b) z), fun _ b' eb q8 H8 R8 bu8 e8 => ?_⟩
          obtain rfl : b = b' := sg_inj (V.str.inj eb)
          have R7 := R6.same s7
          have e78 : H8 q7 = some (.tup ((place ps (fin_ ps (t ++ [b]) 0)).stand (fin_ ps (t ++ [b]) 0))) := bu8 _ _ e7 (ne_of e7 R7.sd (by intro z; cases z)) (ne_of e7 R7.st (by intro z; cases z))
          refine ⟨_, rfl, _, _, dp_stand e8, dp_stand e78, shp_stand _ _, shp_stand _ _, _, rfl, ?_⟩
          rw [eqv_shp (shp_stand _ _)]
          refine iteF ?_
          refine q (t ++ [b]) _ (by rw [List.length_append]; exact Nat.le_refl _) (fun u o eb nb => ?_) ((p6.same s7).butR R7 bu8 lS lT) R8 (bu8 _ _ (s7 _ _ hB6) (at_B R7.sd (s7 _ _ hB6)) (at_B R7.st (s7 _ _ hB6)))
          exact bu8 _ _ (s7 _ _ (up6 _ _ eb nb)) (fun z => nb (by simp [z])) (fun z => nb (by simp [z]))
        | false =>
          obtain ⟨wd, rest, er, nw⟩ := stand_not (a := fin_ ps t 0) e
          rw [er] at e5
          refine ⟨q5, _, 0, .str wd, rfl, rfl, SqT.of e5, atI_nat (j := 0) rfl, rfl, _, rfl, ?_⟩
          rw [decide_eq_false nw]
          refine iteF ?_
          refine ⟨_, rfl, _, rfl, r, S, T', ps, t, .str (sg b), .str (sg b), rfl, R2.same s25, by omega, fun _ _ => .str _, by cases b <;> decide +kernel, .inl ⟨b, rfl, rfl⟩, fun _ q7 H7 s7 e7 => ?_, fun z => absurd (z.symm.trans e) (by decide), fun z => absurd (z.symm.trans e) (by decide)⟩
          refine ⟨_, rfl, .tuple [.str "over", .int (t.length : Nat), .bool true], .tuple [.str "over", .int (t.length : Nat), .bool true], .tup (SqT.of e7) (.cons (.str _) (.cons (.int _) (.cons (.bl _) .nil))), .tup (SqT.of (s7 _ _ (s5 _ _ e3))) (.cons (.str _) (.cons (.int _) (.cons (.bl _) .nil))), shp_sib (by decide +kernel), shp_sib (by decide +kernel), _, rfl, ?_⟩
          rw [eqv_shp (shp_sib (by decide +kernel))]
          refine iteF ?_
          have s27 := s25.trans s7
          exact q t _ (by omega) (fun b o e nb => s27 _ _ (up2 _ _ e nb)) (p2.same s27) (R2.same s27) (s27 _ _ hB2)
end
end Z

set_option Elab.async false
set_option linter.all false
set_option maxRecDepth 100000
set_option maxHeartbeats 4000000
namespace Z
open PySem PySem.Spec PyProof.Rows L2 GG EX RX
abbrev sLaw : Stmt := top 24
theorem no_pass {X : Cx} {σ : L2.St} : PassesAt (L2.CX X.prog X.w) X σ (fun _ _ _ => False) := fun _ _ _ _ _ _ c => by
  obtain ⟨_, _, _, _, _, _, _, _, _, _, _, _, w⟩ := c
  exact w.elim
theorem lst_ne {H : Hp} {p q : Addr} {xs ys : List V} (h1 : H p = some (.lst xs)) (h2 : H q = some (.lst ys)) (n : xs ≠ ys) : p ≠ q := by
  rintro rfl
  rw [h1] at h2
  exact n (HO.lst.inj (Option.some.inj h2))
structure NamesL (mg : Str → Option Value) : Prop extends Names6 mg where
  zip : mg "zip" = none
/-- both runners with their boxes -/
structure Two (C : Addr) (H : Hp) (a l m r1 S1 T1 B1 r2 S2 T2 B2 LR LB : Addr) (ps : List Pl) (t1 t2 : List Bool) : Prop where
  pn : Pen H a l
  hm : Mach H m ps
  x1 : Run C H r1 S1 T1 ps t1
  x2 : Run C H r2 S2 T2 ps t2
  b1 : Box H B1 t1
  b2 : Box H B2 t2
  lr : H LR = some (.lst [.ref r1, .ref r2])
  lb : H LB = some (.lst [.ref B1, .ref B2])
theorem shp_ii {n k : Int} : SeqAt.shaped (.list [.int n, .int k]) = true := by
  unfold SeqAt.shaped
  have e : (PyData.list [.int n, .int k]).canLay0 = true := by
    show PyData.canLayAll0 _ = true
    simp [PyData.canLayAll0, int_lay]
  rw [e, Bool.true_and]
  simp [PyData.depth, PyData.depthAll]
theorem not4 {a S T B b : Addr} (h1 : b ≠ a) (h2 : b ≠ S) (h3 : b ≠ T) (h4 : b ≠ B) : b ∉ [a, S, T, B] := by
  simp [h1, h2, h3, h4]
theorem strs_ints {t : List Bool} {ps : List Pl} {t' : List Bool} : (t.map fun b => V.str (sg b)) ≠ (way ps t' 0).map V.int := by
  intro h
  cases t with
  | nil =>
    cases t' with
    | nil => cases h
    | cons c t' => cases h
  | cons b t =>
    cases t' with
    | nil => cases h
    | cons c t' => cases h
theorem Two.same {C : Addr} {H H' : Hp} {a l m r1 S1 T1 B1 r2 S2 T2 B2 LR LB : Addr} {ps : List Pl} {t1 t2 : List Bool} (W : Two C H a l m r1 S1 T1 B1 r2 S2 T2 B2 LR LB ps t1 t2) (s : Same H H') : Two C H' a l m r1 S1 T1 B1 r2 S2 T2 B2 LR LB ps t1 t2 :=
  ⟨W.pn.same s, W.hm.same s, W.x1.same s, W.x2.same s, s _ _ W.b1, s _ _ W.b2, s _ _ W.lr, s _ _ W.lb⟩
/-- what stands while one runner does a deed -/
theorem stands {C : Addr} {H H' : Hp} {a l m r1 S1 T1 B1 r2 S2 T2 B2 LR LB : Addr} {ps : List Pl} {t1 t2 : List Bool} {u v u' v' : Addr} (pn : Pen H a l) (hm : Mach H m ps) (x1 : Run C H r1 S1 T1 ps t1) (x2 : Run C H r2 S2 T2 ps t2) (b1 : Box H B1 t1) (b2 : Box H B2 t2)
    (lr : H LR = some (.lst [.ref u, .ref v])) (lb : H LB = some (.lst [.ref u', .ref v'])) (aS : S1 ≠ S2) (aT : T1 ≠ T2) (aB : B1 ≠ B2) (up : Upto [a, S1, T1, B1] H H') :
    Mach H' m ps ∧ Run C H' r2 S2 T2 ps t2 ∧ Box H' B2 t2 ∧ H' LR = some (.lst [.ref u, .ref v]) ∧ H' LB = some (.lst [.ref u', .ref v']) := by
  have tup : ∀ b xs, H b = some (.tup xs) → H' b = some (.tup xs) := fun b xs e => up _ _ e (not4 (pn.notTup e) (ne_of e x1.sd (by intro z; cases z)) (ne_of e x1.st (by intro z; cases z)) (ne_of e b1 (by intro z; cases z)))
  obtain ⟨dx, m', ob, hm'⟩ := x2.ob
  have nS2 : S2 ≠ a := pn.notStrs (ys := t2.map sg) (by rw [List.map_map]; exact x2.sd)
  have nT2 : T2 ≠ a := pn.notInts x2.st
  obtain ⟨cs, pos, val, ha, _⟩ := id pn
  refine ⟨hm.mono tup, ⟨x2.wf, x2.go, ⟨dx, m', up _ _ ob (not4 (ne_of ob ha (by intro z; cases z)) (ne_of ob x1.sd (by intro z; cases z)) (ne_of ob x1.st (by intro z; cases z)) (ne_of ob b1 (by intro z; cases z))), hm'.mono tup⟩, ?_, ?_⟩, ?_, ?_, ?_⟩
  · exact up _ _ x2.sd (not4 nS2 aS.symm (lst_ne x2.sd x1.st strs_ints) (at_B x2.sd b1).symm)
  · exact up _ _ x2.st (not4 nT2 (lst_ne x2.st x1.sd strs_ints.symm) aT.symm (at_B x2.st b1).symm)
  · exact up _ _ b2 (not4 (at_B ha b2) (at_B x1.sd b2) (at_B x1.st b2) aB.symm)
  · refine up _ _ lr (not4 (lst_ne lr ha (by intro z; cases z)) (lst_ne lr x1.sd ?_) (lst_ne lr x1.st ?_) (at_B lr b1).symm)
    · cases t1 <;> intro z <;> cases z
    · cases t1 <;> intro z <;> cases z
  · refine up _ _ lb (not4 (lst_ne lb ha (by intro z; cases z)) (lst_ne lb x1.sd ?_) (lst_ne lb x1.st ?_) (at_B lb b1).symm)
    · cases t1 <;> intro z <;> cases z
    · cases t1 <;> intro z <;> cases z
theorem made {C : Addr} {H : Hp} {m r dx : Addr} {ps : List Pl} {Q : VK} {E : XK} (hm : Mach H m ps) (hw : WF ps) (nr : H r = none) (nd : H dx = none) (ne : dx ≠ r)
    (q : ∀ S T H', H S = none → H T = none → Run C H' r S T ps [] → Same H H' → Q .non H') : spRInit C [.ref r, .ref m] (upd (upd H dx (.own r)) r (.ins C dx [])) Q E := by
  have k0 : ∀ b o, H b = some o → upd (upd H dx (.own r)) r (.ins C dx []) b = some o := fun b o e => by
    rw [upd_ne (ne_of_none e nr), upd_ne (ne_of_none e nd)]
    exact e
  have back : ∀ {S : Addr}, upd (upd H dx (.own r)) r (.ins C dx []) S = none → H S = none := fun {S} n => by
    cases h : H S with
    | none => rfl
    | some o => rw [k0 _ _ h] at n; cases n
  exact ⟨r, dx, m, ps, rfl, upd_same, hm.mono fun b xs e => k0 _ _ e, hw, fun S T H' nS nT R k => q S T H' (back nS) (back nT) R fun b o e => k _ _ (k0 _ _ e) (ne_of_none e nr)⟩
def lp : List Pl := [.toss 1 0, .fin 1]
theorem lp_wf : WF lp := ⟨by decide, by decide, fun p hp => by
  rcases List.mem_cons.mp hp with rfl | hp
  · exact ⟨by decide, by decide, by decide, by decide⟩
  · rw [List.mem_singleton.mp hp]
    exact ⟨by decide, by decide⟩⟩
theorem lp_fin : ∀ k : Nat, fin_ lp (List.replicate k false) 0 = 0
  | 0 => rfl
  | k + 1 => by
    rw [List.replicate_succ]
    exact lp_fin k
section
variable {P : Program} {w : World} {K : PySem.W.Frag} {mg : Str → Option Value} {base : Heap}
def spLaw (K : PySem.W.Frag) : Sp := fun vs H Q _ => ∃ (a : Addr) (ns : List Int), vs = [.ref a] ∧ SqL K H a (ns.map V.int) ∧ ns.length ≤ 63 ∧ ∀ H', Q (.bl true) H'
theorem scLaw : FnScope ["script", "pen", "turn", "machine", "runners", "boxes", "often", "at", "runner", "box", "many", "k"] ["script"] (defScope sLaw) := ⟨rfl, rfl, rfl, by decide +kernel, rfl, by decide +kernel, by decide +kernel⟩
theorem ok_law {f fP fD fM fS fE C fI fO fT fK fX fL CA CI : Addr} {fd dP dD dM dS dE dI dO dT dK dX dL : FuncData} (F : Fun K "law" "law" sLaw f fd) (T : NamesL mg)
    (GP : FnOk P w K mg base CX0 1 fP dP ["script"] (spPen K)) (P1 : Def K mg "_law_pen" fP dP ["script"])
    (GD : FnOk P w K mg base CX0 2 fD dD ["pen", "many"] spDraw) (P2 : Def K mg "_law_draw" fD dD ["pen", "many"])
    (GM : FnOk P w K mg base CX0 4 fM dM ["pen", "most", "answers"] spMach) (P3 : Def K mg "_law_machine" fM dM ["pen", "most", "answers"])
    (GS : FnOk P w K mg base CX0 2 fS dS ["machine", "tape"] spStand) (P4 : Def K mg "_law_stands" fS dS ["machine", "tape"])
    (GE : FnOk P w K mg base CX0 5 fE dE ["pen", "runner", "machine", "box"] (spDeed C)) (P5 : Def K mg "_law_deed_right" fE dE ["pen", "runner", "machine", "box"])
    (Tx : Txt K C) (MK : L2.Mk K C fI) (mgC : mg "Runner" = some (.ref C)) (GI : FnOk P w K mg base CX0 1 fI dI ["self", "machine"] (spRInit C)) (bI : Binds K dI ["self", "machine"] [])
    (GO : FnOk P w K mg base CX0 2 fO dO ["self"] (spPos C)) (mO : Meth K C "position" fO) (bO : Binds K dO ["self"] [])
    (GT : FnOk P w K mg base CX0 1 fT dT ["self"] (spTp C)) (mT : Meth K C "tape" fT) (bT : Binds K dT ["self"] [])
    (GK : FnOk P w K mg base CX0 1 fK dK ["self"] (spLen C)) (mK : Meth K C "checkpoint" fK) (bK : Binds K dK ["self"] [])
    (GX : FnOk P w K mg base (L2.CX P w) 3 fX dX ["self", "side"] (spTossR K C CA CI)) (mX : Meth K C "toss" fX) (bX : Binds K dX ["self", "side"] [])
    (GL : FnOk P w K mg base CX0 1 fL dL ["self"] (spLen C)) (hL : PySem.W.findIn K (.ref C) "__len__" = some (some (.ref fL))) (nL : PySem.W.isFn K (.ref fL) = true) (bL : Binds K dL ["self"] []) :
    FnG P w K mg base 6 f fd ["script"] (spLaw K) := by
  refine fnG_of F scLaw (fun vs H Q E h => ?_) (fun cdv A outer s H vs Q E hg hr h => ?_)
  · obtain ⟨a, ns, rfl, _⟩ := h
    rfl
  · obtain ⟨a, ns, rfl, hS, hlen, q⟩ := h
    have hn : A.units + 3 + 64 < cLine := hr.units
    have hu : A.units + 3 + 1 < cLine := by omega
    refine ⟨_, (pss_cons (ps_set (i := 1) scLaw.nd rfl (.inl rfl) (pe_call GP (hr.mono (by decide)) (by rfl) P1.is P1.kp P1.bi .nil pass0 (pa_cons (pv 0) pa_nil)))
      (pss_cons (ps_for PassesOwn.never rfl (pi_range1 rfl T.range (pa_cons (pe_callB (call_max2 rfl) (by rfl) T.max (by decide +kernel) (pa_cons pe_int (pa_cons (pe_callB (call_min2 rfl) (by rfl) T.min (by decide +kernel) (pa_cons pe_int (pa_cons (pe_callB call_len_seq (by rfl) T.len PySem.boot_len (pa_cons (pv 0) pa_nil)) pa_nil))) pa_nil))) pa_nil)) (pg_name (i := 2) scLaw.nd rfl (.inl rfl)) (pss_cons (ps_set (i := 3) scLaw.nd rfl (.inl rfl) (pe_call GM (hr.mono (by decide)) (by rfl) P3.is P3.kp P3.bi .nil pass0 (pa_cons (pv 1) (pa_cons pe_int (pa_cons (pe_lst (pa_cons pe_int (pa_cons pe_int (pa_cons pe_int pa_nil)))) pa_nil)))))
      (pss_cons (ps_par (i := 4) (j := 5) (by rfl) scLaw.nd rfl rfl (by decide) rfl rfl (pa_cons (pe_lst (pa_cons (pe_make MK GI (hr.mono (by decide)) (by rfl) mgC bI .nil pass0 (pa_cons (pv 3) pa_nil)) (pa_cons (pe_make MK GI (hr.mono (by decide)) (by rfl) mgC bI .nil pass0 (pa_cons (pv 3) pa_nil)) pa_nil))) (pa_cons (pe_lst (pa_cons (pe_disp (pps_cons pe_str pe_str pps_nil) (by rfl) (by rfl) (fun z => by cases z) (by decide)) (pa_cons (pe_disp (pps_cons pe_str pe_str pps_nil) (by rfl) (by rfl) (fun z => by cases z) (by decide)) pa_nil))) pa_nil)) (by rfl))
      (pss_one (ps_for PassesOwn.never rfl (pi_range1 rfl T.range (pa_cons pe_int pa_nil)) (pg_name (i := 6) scLaw.nd rfl (.inl rfl)) (pss_cons (ps_set (i := 7) scLaw.nd rfl (.inl rfl) (pe_call GD (hr.mono (by decide)) (by rfl) P2.is P2.kp P2.bi .nil pass0 (pa_cons (pv 1) (pa_cons pe_int pa_nil))))
      (pss_cons (ps_if (pt_not (pt_val (pe_call GE (hr.mono (by decide)) (by rfl) P5.is P5.kp P5.bi .nil pass0 (pa_cons (pv 1) (pa_cons (pe_ix ix_list (pv 4) (pv 7) (fun _ _ => rfl)) (pa_cons (pv 3) (pa_cons (pe_ix ix_list (pv 5) (pv 7) (fun _ _ => rfl)) pa_nil))))))) (pss_one (ps_ret pe_bl)) pss_nil)
      (pss_one (ps_for PassesOwn.never rfl (pi_zip (by rfl) T.zip (pa_cons (pv 4) (pa_cons (pv 5) pa_nil))) (pg_tup rfl (pgs_cons (pg_name (i := 8) scLaw.nd rfl (.inl rfl)) (pgs_cons (pg_name (i := 9) scLaw.nd rfl (.inl rfl)) pgs_nil))) (pss_cons (ps_if (PW.pt (pw_or (pt_cmpR (op_neD hn) (pe_meth0 (pv 8) Tx.cl mO GO (hr.mono (by decide)) bO .nil pass0) (pe_call GS (hr.mono (by decide)) (by rfl) P4.is P4.kp P4.bi .nil pass0 (pa_cons (pv 3) (pa_cons (pe_dget hu (pv 9) pe_str (fun _ _ => rfl)) pa_nil))) (nomark _)) (pw_or1 (pt_cmpR op_ne (pe_meth0 (pv 8) Tx.cl mT GT (hr.mono (by decide)) bT .nil pass0) (pe_dget hu (pv 9) pe_str (fun _ _ => rfl)) (nomark _))))) (pss_one (ps_ret pe_bl)) pss_nil)
      (pss_one (ps_if (pt_cmpR (op_neD hn) (pe_lst (pa_cons (pe_callB (RX.call_lenO (E := E0) hL nL (GL.raw bL .nil) (hr.mono (by decide)) pass0) (by rfl) T.len PySem.boot_len (pa_cons (pv 8) pa_nil)) (pa_cons (pe_meth0 (pv 8) Tx.cl mK GK (hr.mono (by decide)) bK .nil pass0) pa_nil))) (pe_op op_rep (pe_lst (pa_cons (pe_callB call_len_str (by rfl) T.len PySem.boot_len (pa_cons (pe_dget hu (pv 9) pe_str (fun _ _ => rfl)) pa_nil)) pa_nil)) pe_int) (nomark _)) (pss_one (ps_ret pe_bl)) pss_nil))))))))))))
      (pss_cons (ps_par (i := 8) (j := 10) (by rfl) scLaw.nd rfl rfl (by decide) rfl rfl (pa_cons (pe_make MK GI (hr.mono (by decide)) (by rfl) mgC bI .nil pass0 (pa_cons (pe_tup (pa_cons (pe_tup (pa_cons pe_str (pa_cons pe_int (pa_cons pe_int pa_nil)))) (pa_cons (pe_tup (pa_cons pe_str (pa_cons pe_int pa_nil))) pa_nil))) pa_nil)) (pa_cons (pe_call GD (hr.mono (by decide)) (by rfl) P2.is P2.kp P2.bi .nil pass0 (pa_cons (pv 1) (pa_cons pe_int pa_nil))) pa_nil)) (by rfl))
      (pss_cons (ps_for PassesOwn.never rfl (pi_range1 rfl T.range (pa_cons (pv 10) pa_nil)) (pg_name (i := 11) scLaw.nd rfl (.inl rfl)) (pss_one (ps_if (pt_cmpR (op_neD hn) (RX.pe_methE (E := fun _ _ _ _ => False) (pv 8) Tx.cl mX GX (hr.mono (by decide)) bX (fun σ => no_pass) (pa_cons pe_str pa_nil)) (pe_tup (pa_cons pe_str (pa_cons pe_int pa_nil))) (nomark _)) (pss_one (ps_ret pe_bl)) pss_nil)))
      (pss_one (ps_ret (pe_and (pe_cmpR (op_eqD hn) (RX.pe_methE (E := fun _ _ _ _ => False) (pv 8) Tx.cl mX GX (hr.mono (by decide)) bX (fun σ => no_pass) (pa_cons pe_str pa_nil)) (pe_tup (pa_cons pe_str (pa_cons pe_int pa_nil))) (nomark _)) (pe_one (pe_cmpR op_eq (pe_callB (RX.call_lenO (E := E0) hL nL (GL.raw bL .nil) (hr.mono (by decide)) pass0) (by rfl) T.len PySem.boot_len (pa_cons (pv 8) pa_nil)) (pe_op op_add (pv 10) pe_int) (nomark _)))))))))), ?_⟩
    -- pen = _law_pen(script)
    refine ⟨.ref a, rfl, a, ns, rfl, hS, hlen, fun p l H1 s1 np nl p1 => ?_⟩
    have hS1 := s1.seq hS
    refine ⟨.ref a, rfl, a, _, rfl, .inl hS1, _, _, rfl, _, _, rfl, _, rfl, ?_, ?_, for_range (lo := 0) (fun i σ H' => ∃ v2 v3 v4 v5 v6 v7 v8 v9 : Option V, σ = [some (V.ref a), some (V.ref p), v2, v3, v4, v5, v6, v7, v8, v9, none, none] ∧ Pen H' p l) ⟨none, none, none, none, none, none, none, none, rfl, p1⟩ ?_ ?_⟩
    · show -(2 ^ 62) ≤ _
      repeat' split
      all_goals omega
    · show _ < (2 : Int) ^ 62
      repeat' split
      all_goals omega
    · rintro i₀ σ H' hi ⟨v2, v3, v4, v5, v6, v7, v8, v9, rfl, pn⟩
      refine ⟨.ref p, rfl, by show 3 ≤ sizeLine; decide, fun e ne => ?_⟩
      have eE : upd H' e (.lst [.int 0, .int 1, .int 6]) e = some (.lst (([0, 1, 6] : List Int).map V.int)) := upd_same
      have pn2 := pn.same (Same.upd (o := .lst [.int 0, .int 1, .int 6]) ne)
      generalize upd H' e (.lst [.int 0, .int 1, .int 6]) = H2 at eE pn2 ⊢
      refine ⟨p, l, e, 7, [0, 1, 6], rfl, pn2, by decide, by decide, eE, by decide, by decide, by decide, fun m ps H3 _ nm hm hw p3 => ?_⟩
      -- runners
      refine ⟨_, rfl, fun r1 dx1 nr1 nd1 e1 => made hm hw nr1 nd1 e1 fun S1 T1 H4 fS1 fT1 x1 s4 => ⟨rfl, _, rfl, fun r2 dx2 nr2 nd2 e2 => made (hm.same s4) hw nr2 nd2 e2 fun S2 T2 H5 fS2 fT2 x2 s5 => ⟨rfl, by show 2 ≤ sizeLine; decide, fun LR nLR => ?_⟩⟩⟩
      have y1 := x1.same s5
      have p5 := (p3.same s4).same s5
      have hm5 := (hm.same s4).same s5
      have aS : S1 ≠ S2 := ne_of_none x1.sd fS2
      have aT : T1 ≠ T2 := ne_of_none x1.st fT2
      obtain ⟨cs, pos, val, ha3, hl3, _⟩ := id p3
      have l1 : l ≠ S1 := ne_of_none hl3 fS1
      have l2 : l ≠ T1 := ne_of_none hl3 fT1
      have l3 : l ≠ S2 := ne_of_none (s4 _ _ hl3) fS2
      have l4 : l ≠ T2 := ne_of_none (s4 _ _ hl3) fT2
      clear ha3 hl3
      have s6 := Same.upd (o := .lst [.ref r1, .ref r2]) nLR
      have eLR : upd H5 LR (.lst [.ref r1, .ref r2]) LR = some (.lst [.ref r1, .ref r2]) := upd_same
      change (_ : Hp → Prop) (upd H5 LR (.lst [.ref r1, .ref r2]))
      generalize upd H5 LR (.lst [.ref r1, .ref r2]) = H6 at s6 eLR ⊢
      have z1 := y1.same s6
      have z2 := x2.same s6
      have p6 := p5.same s6
      have hm6 := hm5.same s6
      clear x1 x2 y1 p5 hm5
      have box0 : ∀ {Hx : Hp} {B : Addr}, Hx B = none → Same Hx (upd (upd Hx B (.dK [])) B (.dK (mergeK [] [(kt, .str (word []))]))) ∧ Box (upd (upd Hx B (.dK [])) B (.dK (mergeK [] [(kt, .str (word []))]))) B [] := fun {Hx B} n => by
        refine ⟨fun b o e => ?_, ?_⟩
        · rw [upd_ne (ne_of_none e n), upd_ne (ne_of_none e n)]
          exact e
        · unfold Box
          rw [upd_same]
          rfl
      refine fun B1 nB1 => ⟨upd_same, [(kt, .str (word []))], rfl, by show 1 ≤ 15; decide, fun B2 nB2 => ⟨upd_same, [(kt, .str (word []))], rfl, by show 1 ≤ 15; decide, by show 2 ≤ sizeLine; decide, fun LB nLB => ?_⟩⟩
      obtain ⟨s7, hB1⟩ := box0 nB1
      generalize upd (upd H6 B1 (.dK [])) B1 (.dK (mergeK [] [(kt, .str (word []))])) = H7 at s7 hB1 nB2 nLB ⊢
      have aB : B1 ≠ B2 := ne_of_none hB1 nB2
      obtain ⟨s8, hB2⟩ := box0 nB2
      generalize upd (upd H7 B2 (.dK [])) B2 (.dK (mergeK [] [(kt, .str (word []))])) = H8 at s8 hB2 nLB ⊢
      have s9 := Same.upd (o := .lst [.ref B1, .ref B2]) nLB
      have eLB : upd H8 LB (.lst [.ref B1, .ref B2]) LB = some (.lst [.ref B1, .ref B2]) := upd_same
      generalize upd H8 LB (.lst [.ref B1, .ref B2]) = H9 at s9 eLB ⊢
      have s69 := (s7.trans s8).trans s9
      have W0 : Two C H9 p l m r1 S1 T1 B1 r2 S2 T2 B2 LR LB ps [] [] := ⟨p6.same s69, hm6.same s69, z1.same s69, z2.same s69, s9 _ _ (s8 _ _ hB1), s9 _ _ hB2, s69 _ _ eLR, eLB⟩
      clear z1 z2 p6 hm6 hB1 hB2 eLR eLB
      refine ⟨_, _, rfl, ?_⟩
      refine ⟨30, rfl, by decide, by decide, for_range (lo := 0) (n := 30) (fun i σ Hx => ∃ (t1 t2 : List Bool) (v6 v7 v8 v9 : Option V), σ = [some (V.ref a), some (V.ref p), some (.int (0 + (i₀ : Nat))), some (.ref m), some (.ref LR), some (.ref LB), v6, v7, v8, v9, none, none] ∧ Two C Hx p l m r1 S1 T1 B1 r2 S2 T2 B2 LR LB ps t1 t2 ∧ t1.length ≤ i ∧ t2.length ≤ i) ⟨[], [], _, _, _, _, rfl, W0, Nat.zero_le _, Nat.zero_le _⟩ ?_ ?_⟩
      · rintro i σ Hx hi' ⟨t1, t2, v6, v7, v8, v9, rfl, W, le1, le2⟩
        refine ⟨.ref p, rfl, p, l, 2, rfl, W.pn, by decide, by decide +kernel, fun d Hy d0 d1 bD pD => ?_⟩
        have WD : Two C Hy p l m r1 S1 T1 B1 r2 S2 T2 B2 LR LB ps t1 t2 := by
          obtain ⟨cs, pos, val, ha, _⟩ := id W.pn
          exact ⟨pD, W.hm.but W.pn bD, W.x1.pen W.pn bD, W.x2.pen W.pn bD, bD.mem (at_B ha W.b1) W.b1, bD.mem (at_B ha W.b2) W.b2, bD.mem (lst_ne W.lr ha (by intro z; cases z)) W.lr, bD.mem (lst_ne W.lb ha (by intro z; cases z)) W.lb⟩
        clear W
        dsimp only
        refine on (if_tail (fun σ Hz => ∃ (u1 u2 : List Bool) (v8 v9 : Option V), σ = [some (V.ref a), some (V.ref p), some (.int (0 + (i₀ : Nat))), some (.ref m), some (.ref LR), some (.ref LB), some (.int (0 + (i : Nat))), some (.int d), v8, v9, none, none] ∧ Two C Hz p l m r1 S1 T1 B1 r2 S2 T2 B2 LR LB ps u1 u2 ∧ u1.length ≤ i + 1 ∧ u2.length ≤ i + 1) ?_ (fun tl => ?_))
        rotate_left
        · have w : d = 0 ∨ d = 1 := by omega
          rcases w with rfl | rfl
          · refine ⟨.ref p, rfl, _, rfl, _, rfl, LR, _, 0, .ref r1, rfl, rfl, SqL.of WD.lr, rfl, .ref m, rfl, _, rfl, _, rfl, LB, _, 0, .ref B1, rfl, rfl, SqL.of WD.lb, rfl, ?_⟩
            refine ⟨p, l, r1, S1, T1, m, B1, ps, t1, rfl, WD.pn, WD.x1, WD.hm, WD.b1, by omega, l1, l2, fun t' Hz lt up pz xz bz => ⟨_, rfl, iteF ?_⟩⟩
            obtain ⟨k1, k2, k3, k4, k5⟩ := stands WD.pn WD.hm WD.x1 WD.x2 WD.b1 WD.b2 WD.lr WD.lb aS aT aB up
            exact tl _ _ ⟨t', t2, _, _, rfl, ⟨pz, k1, xz, k2, bz, k3, k4, k5⟩, by omega, by omega⟩
          · refine ⟨.ref p, rfl, _, rfl, _, rfl, LR, _, 1, .ref r2, rfl, rfl, SqL.of WD.lr, rfl, .ref m, rfl, _, rfl, _, rfl, LB, _, 1, .ref B2, rfl, rfl, SqL.of WD.lb, rfl, ?_⟩
            refine ⟨p, l, r2, S2, T2, m, B2, ps, t2, rfl, WD.pn, WD.x2, WD.hm, WD.b2, by omega, l3, l4, fun t' Hz lt up pz xz bz => ⟨_, rfl, iteF ?_⟩⟩
            obtain ⟨k1, k2, k3, k4, k5⟩ := stands WD.pn WD.hm WD.x2 WD.x1 WD.b2 WD.b1 WD.lr WD.lb aS.symm aT.symm aB.symm up
            exact tl _ _ ⟨t1, t', _, _, rfl, ⟨pz, k1, k2, xz, k3, bz, k4, k5⟩, by omega, by omega⟩
        · clear WD pD bD le1 le2
          rintro σ Hz ⟨u1, u2, v8, v9, rfl, W, le1, le2⟩
          refine ⟨_, rfl, _, rfl, LR, LB, _, _, rfl, SqL.of W.lr, SqL.of W.lb, RZ.for_zipL (K := K) (a := LR) (b := LB) (xs := [.ref r1, .ref r2]) (ys := [.ref B1, .ref B2]) rfl (fun k σ Hv => ∃ (v8 v9 : Option V), σ = [some (V.ref a), some (V.ref p), some (.int (0 + (i₀ : Nat))), some (.ref m), some (.ref LR), some (.ref LB), some (.int (0 + (i : Nat))), some (.int d), v8, v9, none, none] ∧ Same Hz Hv) ⟨_, _, rfl, fun _ _ z => z⟩ (fun k σ Hv ⟨_, _, _, s⟩ => ⟨SqL.of (s _ _ W.lr), SqL.of (s _ _ W.lb)⟩) ?_ ?_⟩
          · rintro k x y T0 σ Hv hx hy ⟨v8, v9, rfl, sv⟩ nT
            obtain ⟨r, S, T', B, u, rfl, rfl, lu, R, hB⟩ : ∃ (r S T' B : Addr) (u : List Bool), x = .ref r ∧ y = .ref B ∧ u.length ≤ 100 ∧ Run C Hz r S T' ps u ∧ Box Hz B u := by
              match k, hx, hy with
              | 0, hx, hy => exact ⟨r1, S1, T1, B1, u1, (Option.some.inj hx).symm, (Option.some.inj hy).symm, by omega, W.x1, W.b1⟩
              | 1, hx, hy => exact ⟨r2, S2, T2, B2, u2, (Option.some.inj hx).symm, (Option.some.inj hy).symm, by omega, W.x2, W.b2⟩
              | k + 2, hx, _ => cases hx
            have s0 := sv.trans (Same.upd (o := .tup [.ref r, .ref B]) nT)
            refine ⟨T0, _, rfl, SqT.of upd_same, rfl, ?_⟩
            generalize upd Hv T0 (.tup [.ref r, .ref B]) = Hw at s0 ⊢
            have Rw := R.same s0
            have hmw := W.hm.same s0
            have hBw : Box Hw B u := s0 _ _ hB
            obtain ⟨dx, m', ob, _⟩ := Rw.ob
            have no : ∀ {x : Str}, ¬ x = "states" → ¬ x = "sides" → ¬ x = "machine" → (fl m' S T').lookup x = none := fun h1 h2 h3 => fl_no m' S T' h1 h2 h3
            have get : ∀ {H' : Hp}, Box H' B u → DGet H' B (.str "tape") (some (.str (word u))) := fun {H'} h => by
              have z := DGet.k (k := kt) h
              rw [show valV [(kt, (V.str (word u)))] kt = some (.str (word u)) by simp [valV]] at z
              exact z
            have line : sizeLine = 16777216 := by decide
            have hsz : (word u).length ≤ sizeLine := by rw [word_len]; omega
            refine ⟨_, _, rfl, _, _, rfl, rfl, ?_⟩
            refine ⟨_, rfl, r, dx, _, rfl, ob, no (by decide +kernel) (by decide +kernel) (by decide +kernel), r, S, T', ps, u, rfl, Rw, fun q1 Ha sa na ea => ?_⟩
            refine ⟨_, rfl, _, rfl, B, _, rfl, get (sa _ _ hBw), m, ps, u, rfl, hmw.same sa, Rw.wf, Rw.go, by omega, fun q2 Hb sb eb => ?_⟩
            refine ⟨_, _, dp_stand (sb _ _ ea), dp_stand eb, shp_stand _ _, shp_stand _ _, _, rfl, ?_⟩
            rw [eqv_shp (shp_stand _ _)]
            have sab := sa.trans sb
            refine iteF ?_
            refine ⟨_, rfl, r, dx, _, rfl, sab _ _ ob, no (by decide +kernel) (by decide +kernel) (by decide +kernel), r, S, T', ps, u, rfl, Rw.same sab, by omega, ?_⟩
            refine ⟨_, rfl, B, _, rfl, get (sab _ _ hBw), rfl, _, rfl, ?_⟩
            rw [decide_eq_true rfl]
            refine iteF ?_
            have Rb := Rw.same sab
            refine ⟨_, rfl, r, dx, _, rfl, sab _ _ ob, ⟨r, S, T', ps, u, rfl, Rb, u.length, rfl, by omega, ?_⟩⟩
            refine ⟨_, rfl, r, dx, _, rfl, sab _ _ ob, no (by decide +kernel) (by decide +kernel) (by decide +kernel), r, S, T', ps, u, rfl, Rb, by show 2 ≤ sizeLine; decide, fun M1 nM1 => ?_⟩
            have sc := Same.upd (o := .lst [.int (u.length : Nat), .int (u.length : Nat)]) nM1
            have eM1 : upd Hb M1 (.lst [.int (u.length : Nat), .int (u.length : Nat)]) M1 = some (.lst [.int (u.length : Nat), .int (u.length : Nat)]) := upd_same
            change (_ : Hp → Prop) (upd Hb M1 (.lst [.int (u.length : Nat), .int (u.length : Nat)]))
            generalize upd Hb M1 (.lst [.int (u.length : Nat), .int (u.length : Nat)]) = Hc at sc eM1 ⊢
            refine ⟨_, rfl, B, _, rfl, get (sc _ _ (sab _ _ hBw)), word u, rfl, hsz, by show 1 ≤ sizeLine; decide, fun M2 nM2 => ?_⟩
            rw [word_len]
            have sd := Same.upd (o := .lst [.int (u.length : Nat)]) nM2
            refine ⟨M2, 2, _, rfl, rfl, upd_same, by decide, by decide, by show 1 * 2 ≤ sizeLine; decide, fun M3 nM3 => ?_⟩
            have se := Same.upd (o := .lst [.int (u.length : Nat), .int (u.length : Nat)]) nM3
            refine ⟨.list [.int (u.length : Nat), .int (u.length : Nat)], .list [.int (u.length : Nat), .int (u.length : Nat)], .lst (SqL.of (se _ _ (sd _ _ eM1))) (.cons (.int _) (.cons (.int _) .nil)), .lst (SqL.of upd_same) (.cons (.int _) (.cons (.int _) .nil)), shp_ii, shp_ii, _, rfl, ?_⟩
            rw [eqv_shp shp_ii]
            refine iteF ?_
            exact ⟨_, _, rfl, ((s0.trans sab).trans sc).trans (sd.trans se)⟩
          · rintro σ Hv ⟨v8, v9, rfl, sv⟩
            exact ⟨u1, u2, _, _, _, _, rfl, W.same sv, le1, le2⟩
      · rintro σ Hx ⟨t1, t2, v6, v7, v8, v9, rfl, W, _, _⟩
        exact ⟨_, _, _, _, _, _, _, _, rfl, W.pn⟩
    · rintro σ H' ⟨v2, v3, v4, v5, v6, v7, v8, v9, rfl, pn⟩
      -- many tosses in a loop
      refine ⟨by show 3 ≤ sizeLine; decide, fun t1 n1 => ⟨by show 2 ≤ sizeLine; decide, fun t2 n2 => ⟨by show 2 ≤ sizeLine; decide, fun t3 n3 => ?_⟩⟩⟩
      have s1' := Same.upd (o := .tup [.str "toss", .int 1, .int 0]) n1
      have e1' : upd H' t1 (.tup [.str "toss", .int 1, .int 0]) t1 = some (.tup [.str "toss", .int 1, .int 0]) := upd_same
      generalize upd H' t1 (.tup [.str "toss", .int 1, .int 0]) = H10 at n2 n3 s1' e1' ⊢
      have s2' := Same.upd (o := .tup [.str "end", .int 1]) n2
      have e2' : upd H10 t2 (.tup [.str "end", .int 1]) t2 = some (.tup [.str "end", .int 1]) := upd_same
      replace e1' := s2' _ _ e1'
      generalize upd H10 t2 (.tup [.str "end", .int 1]) = H11 at n3 s2' e1' e2' ⊢
      have s3' := Same.upd (o := .tup [.ref t1, .ref t2]) n3
      have e3' : upd H11 t3 (.tup [.ref t1, .ref t2]) t3 = some (.tup [.ref t1, .ref t2]) := upd_same
      replace e1' := s3' _ _ e1'
      replace e2' := s3' _ _ e2'
      have p12 := ((pn.same s1').same s2').same s3'
      generalize upd H11 t3 (.tup [.ref t1, .ref t2]) = H12 at s3' e1' e2' e3' p12 ⊢
      have hlp : Mach H12 t3 lp := ⟨_, e3', .cons e1' (.cons e2' .nil)⟩
      refine fun r dx nr nd ne => made hlp lp_wf nr nd ne fun S T' H13 fS fT x0 s13 => ⟨rfl, ?_⟩
      have p13 := p12.same s13
      obtain ⟨cs, pos, val, ha3, hl3, _⟩ := id p12
      have l1 : l ≠ S := ne_of_none hl3 fS
      have l2 : l ≠ T' := ne_of_none hl3 fT
      refine ⟨.ref p, rfl, p, l, 200, rfl, p13, by decide, by decide +kernel, fun d H14 d0 d1 b14 p14 => ?_⟩
      have x1 := x0.pen p13 b14
      obtain ⟨k, rfl⟩ : ∃ k : Nat, d = (k : Int) := ⟨d.toNat, by omega⟩
      refine ⟨_, _, rfl, ?_⟩
      refine ⟨_, rfl, _, rfl, by omega, by omega, for_range (lo := 0) (n := k) (fun i σ Hx => ∃ v11 : Option V, σ = [some (V.ref a), some (V.ref p), v2, v3, v4, v5, v6, v7, some (.ref r), v9, some (.int (k : Nat)), v11] ∧ Run C Hx r S T' lp (List.replicate i false)) ⟨_, rfl, x1⟩ ?_ ?_⟩
      · rintro i σ Hx hi ⟨v11, rfl, R⟩
        obtain ⟨dx', m', ob, _⟩ := R.ob
        have pl : place lp (fin_ lp (List.replicate i false) 0) = .toss 1 0 := by rw [lp_fin]; rfl
        have pt : (place lp (fin_ lp (List.replicate i false) 0)).tosses = true := by rw [pl]; rfl
        refine ⟨_, rfl, r, dx', _, rfl, ob, fl_no m' S T' (by decide +kernel) (by decide +kernel) (by decide +kernel), r, S, T', lp, List.replicate i false, .str "T", .str "T", rfl, R, by rw [List.length_replicate]; omega, fun _ _ => .str _, by decide +kernel, .inl ⟨false, rfl, rfl⟩, fun z => absurd (z.symm.trans pt) (by decide), fun _ z => absurd rfl (no_odd (b := false) z), fun _ b ev q1 Ha nq Ra bu ea => ?_⟩
        obtain rfl : false = b := sg_inj (V.str.inj ev)
        rw [← List.replicate_succ'] at Ra ea
        rw [lp_fin] at ea
        refine ⟨by show 2 ≤ sizeLine; decide, fun q2 n2 => ?_⟩
        have sa := Same.upd (o := .tup [.str "going", .int 0]) n2
        refine ⟨.tuple [.str "going", .int 0], .tuple [.str "going", .int 0], .tup (SqT.of (sa _ _ ea)) (.cons (.str _) (.cons (.int _) .nil)), .tup (SqT.of upd_same) (.cons (.str _) (.cons (.int _) .nil)), by decide +kernel, by decide +kernel, _, rfl, ?_⟩
        rw [eqv_shp (by decide +kernel)]
        exact iteF ⟨_, rfl, Ra.same sa⟩
      · rintro σ Hx ⟨v11, rfl, R⟩
        obtain ⟨dx', m', ob, _⟩ := R.ob
        have pl : place lp (fin_ lp (List.replicate k false) 0) = .toss 1 0 := by rw [lp_fin]; rfl
        have pt : (place lp (fin_ lp (List.replicate k false) 0)).tosses = true := by rw [pl]; rfl
        refine ⟨_, rfl, r, dx', _, rfl, ob, fl_no m' S T' (by decide +kernel) (by decide +kernel) (by decide +kernel), r, S, T', lp, List.replicate k false, .str "H", .str "H", rfl, R, by rw [List.length_replicate]; omega, fun _ _ => .str _, by decide +kernel, .inl ⟨true, rfl, rfl⟩, fun z => absurd (z.symm.trans pt) (by decide), fun _ z => absurd rfl (no_odd (b := true) z), fun _ b ev q1 Ha nq Ra bu ea => ?_⟩
        obtain rfl : true = b := sg_inj (V.str.inj ev)
        rw [fin_snoc, lp_fin] at ea
        refine ⟨by show 2 ≤ sizeLine; decide, fun q2 n2 => ?_⟩
        have sa := Same.upd (o := .tup [.str "ended", .int 1]) n2
        have Rb := Ra.same sa
        obtain ⟨dy, m2, ob2, _⟩ := Rb.ob
        refine ⟨.tuple [.str "ended", .int 1], .tuple [.str "ended", .int 1], .tup (SqT.of (sa _ _ ea)) (.cons (.str _) (.cons (.int _) .nil)), .tup (SqT.of upd_same) (.cons (.str _) (.cons (.int _) .nil)), by decide +kernel, by decide +kernel, _, rfl, ?_⟩
        rw [eqv_shp (by decide +kernel)]
        refine iteT ?_
        have el : (List.replicate k false ++ [true]).length = k + 1 := by rw [List.length_append, List.length_replicate]; rfl
        refine ⟨_, rfl, r, dy, _, rfl, ob2, ⟨r, S, T', lp, _, rfl, Rb, k + 1, by rw [el], by omega, ?_⟩⟩
        refine ⟨_, rfl, _, _, rfl, rfl, rfl, ?_⟩
        rw [decide_eq_true (congrArg V.int (by omega))]
        exact q _
end
end Z

set_option Elab.async false
set_option linter.all false
set_option maxRecDepth 100000
set_option maxHeartbeats 8000000
namespace Z
open PySem PySem.Spec PyProof.Rows L2 GG EX RX
abbrev sI2 : Stmt := inClass (top 1) 0
abbrev sI3 : Stmt := inClass (top 2) 0
abbrev sI8 : Stmt := inClass (top 3) 0
theorem cls_some {K : PySem.W.Frag} {C : Addr} {tail : List Value} {nw : String} (T : ExC K C tail nw) : (PySem.W.clsIn K C).isSome = true := by
  obtain ⟨cd, h, _⟩ := T.data
  rw [h]
  rfl
theorem kit_blt {K : PySem.W.Frag} {C : Addr} {tail : List Value} {newId t : String} (T : ExC K C tail newId) (m : PySem.W.kitMeta t = true) : PySem.W.kitOne K (.ref C) (.type t) = some (tail.contains (.type t)) := by
  obtain ⟨nm, q, N, bs, sn, sub, ab, col, dd, k0, k1, k2, k3, k5, at_⟩ := T.cls
  have cl : PySem.W.clsIn K C = some { name := nm, bases := bs, mro := .ref C :: tail, ns := N, qualname := q, hasDict := true, slotNames := sn, subclasses := sub, abstract := ab, collection := col, hasDel := false } := by
    unfold PySem.W.clsIn
    rw [at_] <;> rfl
  unfold PySem.W.kitOne
  have n : ¬ ((Value.ref C == Value.type t) = true) := by simp
  rw [if_neg n]
  show (if PySem.W.kitMeta t = true then PySem.W.subIn K (.ref C) (.type t) else none) = _
  rw [if_pos m]
  show PySem.W.mroIn K C (.type t) = _
  unfold PySem.W.mroIn
  rw [cl]
  show (if (Value.ref C :: tail).isEmpty = true then none else some ((Value.ref C :: tail).contains (.type t))) = _
  have e : (Value.ref C :: tail).contains (.type t) = tail.contains (.type t) := by
    rw [List.contains_cons]
    have : (Value.type t == Value.ref C) = false := by simp
    rw [this, Bool.false_or]
  rw [e]
  rfl
theorem exm_own {K : PySem.W.Frag} {C D : Addr} {tail : List Value} {nw : String} {b : Bool} (T : ExC K C tail nw) (no : ∀ D, tail.contains (.ref D) = false) (eD : PySem.W.subIn K (.ref D) (.type "BaseException") = some true) (cD : (PySem.W.clsIn K D).isSome = true) (tD : PySem.W.typeIn K (.ref D) = some (.type "type"))
    (hb : decide (C = D) = b) : PySem.W.exmOne K (.ref C) (.ref D) = some b := by
  obtain ⟨nm, q, N, bs, sn, sub, ab, col, dd, k0, k1, k2, k3, k5, at_⟩ := T.cls
  have cl : PySem.W.clsIn K C = some { name := nm, bases := bs, mro := .ref C :: tail, ns := N, qualname := q, hasDict := true, slotNames := sn, subclasses := sub, abstract := ab, collection := col, hasDel := false } := by
    unfold PySem.W.clsIn
    rw [at_] <;> rfl
  unfold PySem.W.exmOne
  rw [if_pos (by rw [eD]; rfl)]
  show (if ((PySem.W.clsIn K D).isSome && PySem.W.typeIn K (.ref D) == some (.type "type")) = true then PySem.W.subIn K (.ref C) (.ref D) else none) = some b
  rw [if_pos (by rw [cD, tD]; rfl)]
  show PySem.W.mroIn K C (.ref D) = _
  unfold PySem.W.mroIn
  rw [cl]
  show (if (Value.ref C :: tail).isEmpty = true then none else some ((Value.ref C :: tail).contains (.ref D))) = _
  rw [if_neg (by simp), List.contains_cons, no D, Bool.or_false, ← hb]
  congr 1
  by_cases h : C = D
  · subst h
    simp
  · rw [decide_eq_false h]
    simpa using fun z => h z.symm
section
variable {P : Program} {w : World} {K : PySem.W.Frag} {mg : Str → Option Value} {base : Heap}
theorem scI2 : FnScope ["self", "tosses"] ["self", "tosses"] (defScope sI2) := ⟨rfl, rfl, rfl, by decide +kernel, rfl, by decide +kernel, by decide +kernel⟩
theorem ok_i2 {fI C : Addr} {fd : FuncData} {newId : String} (F : Fun K "__init__" "AlreadyEnded.__init__" sI2 fI fd) (T : ExC K C tRun newId) (nf : PySem.W.findIn K (.ref C) "tosses" = some none) : FnOk P w K mg base CX0 1 fI fd ["self", "tosses"] (spInit K C "tosses") := by
  refine F.ok scI2 (fun vs H Q E h => ?_) (fun cdv A outer s H vs Q E hr h => ?_)
  · obtain ⟨a, y, rfl, _⟩ := h
    rfl
  · obtain ⟨a, y, rfl, ea, q⟩ := h
    exact ⟨_, pss_one (ps_first (pv 0) (pv 1)), _, rfl, _, rfl, a, C, _, _, rfl, T, nf, ea, fun dx n ne => q dx n ne⟩
theorem scI3 : FnScope ["self"] ["self"] (defScope sI3) := ⟨rfl, rfl, rfl, by decide +kernel, rfl, by decide +kernel, by decide +kernel⟩
theorem ok_i3 {fI : Addr} {fd : FuncData} (F : Fun K "__init__" "InvalidSide.__init__" sI3 fI fd) : FnOk P w K mg base CX0 1 fI fd ["self"] (fun vs H Q _ => ∃ a : Addr, vs = [.ref a] ∧ Q .non H) := by
  refine F.ok scI3 (fun vs H Q E h => ?_) (fun cdv A outer s H vs Q E hr h => ?_)
  · obtain ⟨a, rfl, _⟩ := h
    rfl
  · obtain ⟨a, rfl, q⟩ := h
    exact ⟨_, pss_one ps_pass, q⟩
theorem scI8 : FnScope ["self", "number"] ["self", "number"] (defScope sI8) := ⟨rfl, rfl, rfl, by decide +kernel, rfl, by decide +kernel, by decide +kernel⟩
theorem ok_i8 {fI C : Addr} {fd : FuncData} {newId : String} (F : Fun K "__init__" "UnknownCheckpoint.__init__" sI8 fI fd) (T : ExC K C tLook newId) (nf : PySem.W.findIn K (.ref C) "number" = some none) : FnOk P w K mg base CX0 1 fI fd ["self", "number"] (spInit K C "number") := by
  refine F.ok scI8 (fun vs H Q E h => ?_) (fun cdv A outer s H vs Q E hr h => ?_)
  · obtain ⟨a, y, rfl, _⟩ := h
    rfl
  · obtain ⟨a, y, rfl, ea, q⟩ := h
    exact ⟨_, pss_one (ps_first (pv 0) (pv 1)), _, rfl, _, rfl, a, C, _, _, rfl, T, nf, ea, fun dx n ne => q dx n ne⟩
end
theorem all_mk {w : World} {K : PySem.W.Frag} {h : Heap} {mg : Str → Option Value} {fa f0 f1 f2 f3 f4 f5 f6 f7 f8 f9 f10 f11 f12 f13 f14 f15 : Addr} (X : K.In h) (G : h.Ns mainGlobals mg) (hfa : mg "law" = some (.ref fa))
    {od0 an0 od1 an1 od2 an2 od3 an3 od4 an4 od5 an5 od6 an6 od7 an7 od8 an8 od9 an9 od10 an10 od11 an11 od12 an12 od13 an13 od14 an14 od15 an15 : Option Addr} {sl0 sl1 sl2 sl3 sl4 sl5 sl6 sl7 sl8 sl9 sl10 sl11 sl12 sl13 sl14 sl15 : Array (Option Value)} {oc0 kV0 dc0 pm0 cd0 ct0 oc1 kV1 dc1 pm1 cd1 ct1 oc2 kV2 dc2 pm2 cd2 ct2 oc3 kV3 dc3 pm3 cd3 ct3 oc4 kV4 dc4 pm4 cd4 ct4 oc5 kV5 dc5 pm5 cd5 ct5 oc6 kV6 dc6 pm6 cd6 ct6 oc7 kV7 dc7 pm7 cd7 ct7 oc8 kV8 dc8 pm8 cd8 ct8 oc9 kV9 dc9 pm9 cd9 ct9 oc10 kV10 dc10 pm10 cd10 ct10 oc11 kV11 dc11 pm11 cd11 ct11 oc12 kV12 dc12 pm12 cd12 ct12 oc13 kV13 dc13 pm13 cd13 ct13 oc14 kV14 dc14 pm14 cd14 ct14 oc15 kV15 dc15 pm15 cd15 ct15 : Value}
    (a0 : PySem.W.nsIn K mainGlobals "_law_pen" = some (some (.ref f0))) (l0 : K.lookup f0 = some ⟨oc0, od0, .func (PySem.W.fnOf "_law_pen" "_law_pen" (defArgs sPen) (defBody sPen) (defScope sPen) .none kV0 dc0 pm0 an0 cd0 ct0), sl0⟩) (c0 : PySem.W.codeIn K cd0 "_law_pen" = true) (k0 : PySem.W.keepIn K (.ref f0) = true)
    (a1 : PySem.W.nsIn K mainGlobals "_law_fresh" = some (some (.ref f1))) (l1 : K.lookup f1 = some ⟨oc1, od1, .func (PySem.W.fnOf "_law_fresh" "_law_fresh" (defArgs sFresh) (defBody sFresh) (defScope sFresh) .none kV1 dc1 pm1 an1 cd1 ct1), sl1⟩) (c1 : PySem.W.codeIn K cd1 "_law_fresh" = true) (k1 : PySem.W.keepIn K (.ref f1) = true)
    (a2 : PySem.W.nsIn K mainGlobals "_law_draw" = some (some (.ref f2))) (l2 : K.lookup f2 = some ⟨oc2, od2, .func (PySem.W.fnOf "_law_draw" "_law_draw" (defArgs sDraw) (defBody sDraw) (defScope sDraw) .none kV2 dc2 pm2 an2 cd2 ct2), sl2⟩) (c2 : PySem.W.codeIn K cd2 "_law_draw" = true) (k2 : PySem.W.keepIn K (.ref f2) = true)
    (a3 : PySem.W.nsIn K mainGlobals "_law_ends" = some (some (.ref f3))) (l3 : K.lookup f3 = some ⟨oc3, od3, .func (PySem.W.fnOf "_law_ends" "_law_ends" (defArgs sEnds) (defBody sEnds) (defScope sEnds) .none kV3 dc3 pm3 an3 cd3 ct3), sl3⟩) (c3 : PySem.W.codeIn K cd3 "_law_ends" = true) (k3 : PySem.W.keepIn K (.ref f3) = true)
    (a4 : PySem.W.nsIn K mainGlobals "_law_machine" = some (some (.ref f4))) (l4 : K.lookup f4 = some ⟨oc4, od4, .func (PySem.W.fnOf "_law_machine" "_law_machine" (defArgs sMach) (defBody sMach) (defScope sMach) .none kV4 dc4 pm4 an4 cd4 ct4), sl4⟩) (c4 : PySem.W.codeIn K cd4 "_law_machine" = true) (k4 : PySem.W.keepIn K (.ref f4) = true)
    (a5 : PySem.W.nsIn K mainGlobals "_law_numbered" = some (some (.ref f5))) (l5 : K.lookup f5 = some ⟨oc5, od5, .func (PySem.W.fnOf "_law_numbered" "_law_numbered" (defArgs sNumb) (defBody sNumb) (defScope sNumb) .none kV5 dc5 pm5 an5 cd5 ct5), sl5⟩) (c5 : PySem.W.codeIn K cd5 "_law_numbered" = true) (k5 : PySem.W.keepIn K (.ref f5) = true)
    (a6 : PySem.W.nsIn K mainGlobals "is_toss" = some (some (.ref f6))) (l6 : K.lookup f6 = some ⟨oc6, od6, .func (PySem.W.fnOf "is_toss" "is_toss" (defArgs sToss) (defBody sToss) (defScope sToss) .none kV6 dc6 pm6 an6 cd6 ct6), sl6⟩) (c6 : PySem.W.codeIn K cd6 "is_toss" = true) (k6 : PySem.W.keepIn K (.ref f6) = true)
    (a7 : PySem.W.nsIn K mainGlobals "next_state" = some (some (.ref f7))) (l7 : K.lookup f7 = some ⟨oc7, od7, .func (PySem.W.fnOf "next_state" "next_state" (defArgs sNext) (defBody sNext) (defScope sNext) .none kV7 dc7 pm7 an7 cd7 ct7), sl7⟩) (c7 : PySem.W.codeIn K cd7 "next_state" = true) (k7 : PySem.W.keepIn K (.ref f7) = true)
    (a8 : PySem.W.nsIn K mainGlobals "is_integer" = some (some (.ref f8))) (l8 : K.lookup f8 = some ⟨oc8, od8, .func (PySem.W.fnOf "is_integer" "is_integer" (defArgs sIsInt) (defBody sIsInt) (defScope sIsInt) .none kV8 dc8 pm8 an8 cd8 ct8), sl8⟩) (c8 : PySem.W.codeIn K cd8 "is_integer" = true) (k8 : PySem.W.keepIn K (.ref f8) = true)
    (a9 : PySem.W.nsIn K mainGlobals "is_index" = some (some (.ref f9))) (l9 : K.lookup f9 = some ⟨oc9, od9, .func (PySem.W.fnOf "is_index" "is_index" (defArgs sIsIdx) (defBody sIsIdx) (defScope sIsIdx) .none kV9 dc9 pm9 an9 cd9 ct9), sl9⟩) (c9 : PySem.W.codeIn K cd9 "is_index" = true) (k9 : PySem.W.keepIn K (.ref f9) = true)
    (a10 : PySem.W.nsIn K mainGlobals "_law_walked" = some (some (.ref f10))) (l10 : K.lookup f10 = some ⟨oc10, od10, .func (PySem.W.fnOf "_law_walked" "_law_walked" (defArgs sWalk) (defBody sWalk) (defScope sWalk) .none kV10 dc10 pm10 an10 cd10 ct10), sl10⟩) (c10 : PySem.W.codeIn K cd10 "_law_walked" = true) (k10 : PySem.W.keepIn K (.ref f10) = true)
    (a11 : PySem.W.nsIn K mainGlobals "_law_stands" = some (some (.ref f11))) (l11 : K.lookup f11 = some ⟨oc11, od11, .func (PySem.W.fnOf "_law_stands" "_law_stands" (defArgs sStand) (defBody sStand) (defScope sStand) .none kV11 dc11 pm11 an11 cd11 ct11), sl11⟩) (c11 : PySem.W.codeIn K cd11 "_law_stands" = true) (k11 : PySem.W.keepIn K (.ref f11) = true)
    (a12 : PySem.W.nsIn K mainGlobals "_law_tossed" = some (some (.ref f12))) (l12 : K.lookup f12 = some ⟨oc12, od12, .func (PySem.W.fnOf "_law_tossed" "_law_tossed" (defArgs sTossed) (defBody sTossed) (defScope sTossed) .none kV12 dc12 pm12 an12 cd12 ct12), sl12⟩) (c12 : PySem.W.codeIn K cd12 "_law_tossed" = true) (k12 : PySem.W.keepIn K (.ref f12) = true)
    (a13 : PySem.W.nsIn K mainGlobals "_law_back" = some (some (.ref f13))) (l13 : K.lookup f13 = some ⟨oc13, od13, .func (PySem.W.fnOf "_law_back" "_law_back" (defArgs sBack) (defBody sBack) (defScope sBack) .none kV13 dc13 pm13 an13 cd13 ct13), sl13⟩) (c13 : PySem.W.codeIn K cd13 "_law_back" = true) (k13 : PySem.W.keepIn K (.ref f13) = true)
    (a14 : PySem.W.nsIn K mainGlobals "_law_deed_right" = some (some (.ref f14))) (l14 : K.lookup f14 = some ⟨oc14, od14, .func (PySem.W.fnOf "_law_deed_right" "_law_deed_right" (defArgs sDeed) (defBody sDeed) (defScope sDeed) .none kV14 dc14 pm14 an14 cd14 ct14), sl14⟩) (c14 : PySem.W.codeIn K cd14 "_law_deed_right" = true) (k14 : PySem.W.keepIn K (.ref f14) = true)
    (a15 : PySem.W.nsIn K mainGlobals "law" = some (some (.ref f15))) (l15 : K.lookup f15 = some ⟨oc15, od15, .func (PySem.W.fnOf "law" "law" (defArgs sLaw) (defBody sLaw) (defScope sLaw) .none kV15 dc15 pm15 an15 cd15 ct15), sl15⟩) (c15 : PySem.W.codeIn K cd15 "law" = true) (k15 : PySem.W.keepIn K (.ref f15) = true)
    (z_list : PySem.W.nsIn K mainGlobals "list" = some none)
    (z_tuple : PySem.W.nsIn K mainGlobals "tuple" = some none)
    (z_len : PySem.W.nsIn K mainGlobals "len" = some none)
    (z_range : PySem.W.nsIn K mainGlobals "range" = some none)
    (z_max : PySem.W.nsIn K mainGlobals "max" = some none)
    (z_min : PySem.W.nsIn K mainGlobals "min" = some none)
    (z_int : PySem.W.nsIn K mainGlobals "int" = some none)
    (z_isinstance : PySem.W.nsIn K mainGlobals "isinstance" = some none)
    (z_bool : PySem.W.nsIn K mainGlobals "bool" = some none)
    (z_zip : PySem.W.nsIn K mainGlobals "zip" = some none)
    (z_RuntimeError : PySem.W.nsIn K mainGlobals "RuntimeError" = some none)
    (z_ValueError : PySem.W.nsIn K mainGlobals "ValueError" = some none)
    (z_LookupError : PySem.W.nsIn K mainGlobals "LookupError" = some none)
    (z_KeyError : PySem.W.nsIn K mainGlobals "KeyError" = some none)
    {CA CI CU C : Addr}
    {IA NA : Addr} {nmA qnA : Str} {bsA suA : List Value} {snA : List Str} {abA : Bool} {coA : Option Bool} {ddA : Option Addr} {p0A_ p1A_ p2A_ p3A_ p5A_ : Option Value} {ioA ikA idA ipA icA itA : Value} {ieA iaA : Option Addr} {isA : Array (Option Value)}
    (XAg : PySem.W.nsIn K mainGlobals "AlreadyEnded" = some (some (.ref CA)))
    (XAx : K.lookup CA = some (excClassObj nmA qnA CA NA bsA tRun true snA suA abA coA ddA p0A_ p1A_ p2A_ p3A_ p5A_ "RuntimeError.__new__"))
    (XAsa : PySem.W.findIn K (.ref CA) "__setattr__" = some (some (.builtin "object.__setattr__")))
    (XAkC : PySem.W.keepIn K (.ref CA) = true)
    (XAga : PySem.W.findIn K (.ref CA) "__getattribute__" = some (some (.builtin "BaseException.__getattribute__")))
    (XAgg : PySem.W.findIn K (.ref CA) "__getattr__" = some none)
    (XAex : PySem.W.subIn K (.ref CA) (.type "BaseException") = some true)
    (XAhd : PySem.W.hasDictIn K CA = true)
    (XAkl : PySem.W.findIn K (.ref CA) "__class__" = some (some (.builtin "object.__class__")))
    (XAob : PySem.W.mroIn K CA (.type "object") = some true)
    (XAty : PySem.W.typeIn K (.ref CA) = some (.type "type"))
    (XAnf : PySem.W.findIn K (.ref CA) "tosses" = some none)
    (XAiC : PySem.W.findIn K (.ref CA) "__init__" = some (some (.ref IA)))
    (XAtI : PySem.W.typeIn K (.ref IA) = some (.type "function"))
    (XAl : K.lookup IA = some ⟨ioA, ieA, .func (PySem.W.fnOf "__init__" "AlreadyEnded.__init__" (defArgs sI2) (defBody sI2) (defScope sI2) .none ikA idA ipA iaA icA itA), isA⟩)
    (XAc : PySem.W.codeIn K icA "AlreadyEnded.__init__" = true)
    (XAk : PySem.W.keepIn K (.ref IA) = true)
    {II NI : Addr} {nmI qnI : Str} {bsI suI : List Value} {snI : List Str} {abI : Bool} {coI : Option Bool} {ddI : Option Addr} {p0I_ p1I_ p2I_ p3I_ p5I_ : Option Value} {ioI ikI idI ipI icI itI : Value} {ieI iaI : Option Addr} {isI : Array (Option Value)}
    (XIg : PySem.W.nsIn K mainGlobals "InvalidSide" = some (some (.ref CI)))
    (XIx : K.lookup CI = some (excClassObj nmI qnI CI NI bsI tVal true snI suI abI coI ddI p0I_ p1I_ p2I_ p3I_ p5I_ "ValueError.__new__"))
    (XIsa : PySem.W.findIn K (.ref CI) "__setattr__" = some (some (.builtin "object.__setattr__")))
    (XIkC : PySem.W.keepIn K (.ref CI) = true)
    (XIga : PySem.W.findIn K (.ref CI) "__getattribute__" = some (some (.builtin "BaseException.__getattribute__")))
    (XIgg : PySem.W.findIn K (.ref CI) "__getattr__" = some none)
    (XIex : PySem.W.subIn K (.ref CI) (.type "BaseException") = some true)
    (XIhd : PySem.W.hasDictIn K CI = true)
    (XIkl : PySem.W.findIn K (.ref CI) "__class__" = some (some (.builtin "object.__class__")))
    (XIob : PySem.W.mroIn K CI (.type "object") = some true)
    (XIty : PySem.W.typeIn K (.ref CI) = some (.type "type"))
    (XIiC : PySem.W.findIn K (.ref CI) "__init__" = some (some (.ref II)))
    (XItI : PySem.W.typeIn K (.ref II) = some (.type "function"))
    (XIl : K.lookup II = some ⟨ioI, ieI, .func (PySem.W.fnOf "__init__" "InvalidSide.__init__" (defArgs sI3) (defBody sI3) (defScope sI3) .none ikI idI ipI iaI icI itI), isI⟩)
    (XIc : PySem.W.codeIn K icI "InvalidSide.__init__" = true)
    (XIk : PySem.W.keepIn K (.ref II) = true)
    {IU NU : Addr} {nmU qnU : Str} {bsU suU : List Value} {snU : List Str} {abU : Bool} {coU : Option Bool} {ddU : Option Addr} {p0U_ p1U_ p2U_ p3U_ p5U_ : Option Value} {ioU ikU idU ipU icU itU : Value} {ieU iaU : Option Addr} {isU : Array (Option Value)}
    (XUg : PySem.W.nsIn K mainGlobals "UnknownCheckpoint" = some (some (.ref CU)))
    (XUx : K.lookup CU = some (excClassObj nmU qnU CU NU bsU tLook true snU suU abU coU ddU p0U_ p1U_ p2U_ p3U_ p5U_ "LookupError.__new__"))
    (XUsa : PySem.W.findIn K (.ref CU) "__setattr__" = some (some (.builtin "object.__setattr__")))
    (XUkC : PySem.W.keepIn K (.ref CU) = true)
    (XUga : PySem.W.findIn K (.ref CU) "__getattribute__" = some (some (.builtin "BaseException.__getattribute__")))
    (XUgg : PySem.W.findIn K (.ref CU) "__getattr__" = some none)
    (XUex : PySem.W.subIn K (.ref CU) (.type "BaseException") = some true)
    (XUhd : PySem.W.hasDictIn K CU = true)
    (XUkl : PySem.W.findIn K (.ref CU) "__class__" = some (some (.builtin "object.__class__")))
    (XUob : PySem.W.mroIn K CU (.type "object") = some true)
    (XUty : PySem.W.typeIn K (.ref CU) = some (.type "type"))
    (XUnf : PySem.W.findIn K (.ref CU) "number" = some none)
    (XUiC : PySem.W.findIn K (.ref CU) "__init__" = some (some (.ref IU)))
    (XUtI : PySem.W.typeIn K (.ref IU) = some (.type "function"))
    (XUl : K.lookup IU = some ⟨ioU, ieU, .func (PySem.W.fnOf "__init__" "UnknownCheckpoint.__init__" (defArgs sI8) (defBody sI8) (defScope sI8) .none ikU idU ipU iaU icU itU), isU⟩)
    (XUc : PySem.W.codeIn K icU "UnknownCheckpoint.__init__" = true)
    (XUk : PySem.W.keepIn K (.ref IU) = true)
    (gt : PySem.W.specialIn K (.builtin "object.__class__") "__get__" = some (some (.builtin "getset_descriptor.__get__")))
    (tk : PySem.W.takesIn K (.builtin "object.__class__") = some true)
    (aC : PySem.W.nsIn K mainGlobals "Runner" = some (some (.ref C)))
    {g0 : Addr} {me0 ma0 : Option Addr} {ms0 : Array (Option Value)} {mo0 mk0 md0 mp0 mc0 mt0 : Value}
    (ra0 : PySem.W.findIn K (.ref C) "__init__" = some (some (.ref g0)))
    (ri0 : PySem.W.isFn K (.ref g0) = true)
    (rl0 : K.lookup g0 = some ⟨mo0, me0, .func (PySem.W.fnOf "__init__" "Runner.__init__" (defArgs rInit) (defBody rInit) (defScope rInit) .none mk0 md0 mp0 ma0 mc0 mt0), ms0⟩)
    (rc0 : PySem.W.codeIn K mc0 "Runner.__init__" = true)
    (rk0 : PySem.W.keepIn K (.ref g0) = true)
    {g1 : Addr} {me1 ma1 : Option Addr} {ms1 : Array (Option Value)} {mo1 mk1 md1 mp1 mc1 mt1 : Value}
    (ra1 : PySem.W.findIn K (.ref C) "__len__" = some (some (.ref g1)))
    (ri1 : PySem.W.isFn K (.ref g1) = true)
    (rl1 : K.lookup g1 = some ⟨mo1, me1, .func (PySem.W.fnOf "__len__" "Runner.__len__" (defArgs rLen) (defBody rLen) (defScope rLen) .none mk1 md1 mp1 ma1 mc1 mt1), ms1⟩)
    (rc1 : PySem.W.codeIn K mc1 "Runner.__len__" = true)
    (rk1 : PySem.W.keepIn K (.ref g1) = true)
    {g2 : Addr} {me2 ma2 : Option Addr} {ms2 : Array (Option Value)} {mo2 mk2 md2 mp2 mc2 mt2 : Value}
    (ra2 : PySem.W.findIn K (.ref C) "toss" = some (some (.ref g2)))
    (ri2 : PySem.W.isFn K (.ref g2) = true)
    (rl2 : K.lookup g2 = some ⟨mo2, me2, .func (PySem.W.fnOf "toss" "Runner.toss" (defArgs rToss) (defBody rToss) (defScope rToss) .none mk2 md2 mp2 ma2 mc2 mt2), ms2⟩)
    (rc2 : PySem.W.codeIn K mc2 "Runner.toss" = true)
    (rk2 : PySem.W.keepIn K (.ref g2) = true)
    {g3 : Addr} {me3 ma3 : Option Addr} {ms3 : Array (Option Value)} {mo3 mk3 md3 mp3 mc3 mt3 : Value}
    (ra3 : PySem.W.findIn K (.ref C) "position" = some (some (.ref g3)))
    (ri3 : PySem.W.isFn K (.ref g3) = true)
    (rl3 : K.lookup g3 = some ⟨mo3, me3, .func (PySem.W.fnOf "position" "Runner.position" (defArgs rPos) (defBody rPos) (defScope rPos) .none mk3 md3 mp3 ma3 mc3 mt3), ms3⟩)
    (rc3 : PySem.W.codeIn K mc3 "Runner.position" = true)
    (rk3 : PySem.W.keepIn K (.ref g3) = true)
    {g4 : Addr} {me4 ma4 : Option Addr} {ms4 : Array (Option Value)} {mo4 mk4 md4 mp4 mc4 mt4 : Value}
    (ra4 : PySem.W.findIn K (.ref C) "tape" = some (some (.ref g4)))
    (ri4 : PySem.W.isFn K (.ref g4) = true)
    (rl4 : K.lookup g4 = some ⟨mo4, me4, .func (PySem.W.fnOf "tape" "Runner.tape" (defArgs rTape) (defBody rTape) (defScope rTape) .none mk4 md4 mp4 ma4 mc4 mt4), ms4⟩)
    (rc4 : PySem.W.codeIn K mc4 "Runner.tape" = true)
    (rk4 : PySem.W.keepIn K (.ref g4) = true)
    {g5 : Addr} {me5 ma5 : Option Addr} {ms5 : Array (Option Value)} {mo5 mk5 md5 mp5 mc5 mt5 : Value}
    (ra5 : PySem.W.findIn K (.ref C) "checkpoint" = some (some (.ref g5)))
    (ri5 : PySem.W.isFn K (.ref g5) = true)
    (rl5 : K.lookup g5 = some ⟨mo5, me5, .func (PySem.W.fnOf "checkpoint" "Runner.checkpoint" (defArgs rChk) (defBody rChk) (defScope rChk) .none mk5 md5 mp5 ma5 mc5 mt5), ms5⟩)
    (rc5 : PySem.W.codeIn K mc5 "Runner.checkpoint" = true)
    (rk5 : PySem.W.keepIn K (.ref g5) = true)
    {g6 : Addr} {me6 ma6 : Option Addr} {ms6 : Array (Option Value)} {mo6 mk6 md6 mp6 mc6 mt6 : Value}
    (ra6 : PySem.W.findIn K (.ref C) "rewind" = some (some (.ref g6)))
    (ri6 : PySem.W.isFn K (.ref g6) = true)
    (rl6 : K.lookup g6 = some ⟨mo6, me6, .func (PySem.W.fnOf "rewind" "Runner.rewind" (defArgs rRew) (defBody rRew) (defScope rRew) .none mk6 md6 mp6 ma6 mc6 mt6), ms6⟩)
    (rc6 : PySem.W.codeIn K mc6 "Runner.rewind" = true)
    (rk6 : PySem.W.keepIn K (.ref g6) = true)
    (pg : PySem.W.plainGet K C Str.empty = true)
    (hd : PySem.W.hasDictIn K C = true)
    (po : PySem.W.plainOver K C = true)
    (sa : PySem.W.findIn K (.ref C) "__setattr__" = some (some (.builtin "object.__setattr__")))
    (mk : PySem.W.makesIn K C = true)
    (kc : PySem.W.keepIn K (.ref C) = true)
    (n1 : PySem.W.findIn K (.ref C) "machine" = some none)
    (n2 : PySem.W.findIn K (.ref C) "sides" = some none)
    (n3 : PySem.W.findIn K (.ref C) "states" = some none)
    (dist : CI ≠ CA)
    : ∃ fd : FuncData, (∀ (s : Shared) (v : Value), BindsTo s fd ⟨[v], []⟩ [("script", v)]) ∧ ∀ base : Heap, K.In base → base.Ns mainGlobals mg → FnG (PySem.Challenge.rw_bentcoin_k26_runners).prog w K mg base 6 fa fd ["script"] (spLaw K) := by
  have e := hfa.symm.trans (PySem.W.mg_of X G a15)
  cases e
  have F0 := fun_mk (st := sPen) l0 c0 k0
  have b0 := F0.binds (ps := ["script"]) fun _ _ _ _ _ _ us hl => match us, hl with | [_], _ => rfl
  have F1 := fun_mk (st := sFresh) l1 c1 k1
  have b1 := F1.binds (ps := ["pen"]) fun _ _ _ _ _ _ us hl => match us, hl with | [_], _ => rfl
  have F2 := fun_mk (st := sDraw) l2 c2 k2
  have b2 := F2.binds (ps := ["pen", "many"]) fun _ _ _ _ _ _ us hl => match us, hl with | [_, _], _ => rfl
  have F3 := fun_mk (st := sEnds) l3 c3 k3
  have b3 := F3.binds (ps := ["pen", "answers"]) fun _ _ _ _ _ _ us hl => match us, hl with | [_, _], _ => rfl
  have F4 := fun_mk (st := sMach) l4 c4 k4
  have b4 := F4.binds (ps := ["pen", "most", "answers"]) fun _ _ _ _ _ _ us hl => match us, hl with | [_, _, _], _ => rfl
  have F5 := fun_mk (st := sNumb) l5 c5 k5
  have b5 := F5.binds (ps := ["machine", "order"]) fun _ _ _ _ _ _ us hl => match us, hl with | [_, _], _ => rfl
  have F6 := fun_mk (st := sToss) l6 c6 k6
  have b6 := F6.binds (ps := ["state"]) fun _ _ _ _ _ _ us hl => match us, hl with | [_], _ => rfl
  have F7 := fun_mk (st := sNext) l7 c7 k7
  have b7 := F7.binds (ps := ["machine", "index", "side"]) fun _ _ _ _ _ _ us hl => match us, hl with | [_, _, _], _ => rfl
  have F8 := fun_mk (st := sIsInt) l8 c8 k8
  have b8 := F8.binds (ps := ["value"]) fun _ _ _ _ _ _ us hl => match us, hl with | [_], _ => rfl
  have F9 := fun_mk (st := sIsIdx) l9 c9 k9
  have b9 := F9.binds (ps := ["value", "size"]) fun _ _ _ _ _ _ us hl => match us, hl with | [_, _], _ => rfl
  have F10 := fun_mk (st := sWalk) l10 c10 k10
  have b10 := F10.binds (ps := ["machine", "tape"]) fun _ _ _ _ _ _ us hl => match us, hl with | [_, _], _ => rfl
  have F11 := fun_mk (st := sStand) l11 c11 k11
  have b11 := F11.binds (ps := ["machine", "tape"]) fun _ _ _ _ _ _ us hl => match us, hl with | [_, _], _ => rfl
  have F12 := fun_mk (st := sTossed) l12 c12 k12
  have b12 := F12.binds (ps := ["runner", "side"]) fun _ _ _ _ _ _ us hl => match us, hl with | [_, _], _ => rfl
  have F13 := fun_mk (st := sBack) l13 c13 k13
  have b13 := F13.binds (ps := ["runner", "number"]) fun _ _ _ _ _ _ us hl => match us, hl with | [_, _], _ => rfl
  have F14 := fun_mk (st := sDeed) l14 c14 k14
  have b14 := F14.binds (ps := ["pen", "runner", "machine", "box"]) fun _ _ _ _ _ _ us hl => match us, hl with | [_, _, _, _], _ => rfl
  have F15 := fun_mk (st := sLaw) l15 c15 k15
  have R0 := fun_mk (st := rInit) rl0 rc0 rk0
  have rb0 := R0.binds (ps := ["self", "machine"]) fun _ _ _ _ _ _ us hl => match us, hl with | [_, _], _ => rfl
  have R1 := fun_mk (st := rLen) rl1 rc1 rk1
  have rb1 := R1.binds (ps := ["self"]) fun _ _ _ _ _ _ us hl => match us, hl with | [_], _ => rfl
  have R2 := fun_mk (st := rToss) rl2 rc2 rk2
  have rb2 := R2.binds (ps := ["self", "side"]) fun _ _ _ _ _ _ us hl => match us, hl with | [_, _], _ => rfl
  have R3 := fun_mk (st := rPos) rl3 rc3 rk3
  have rb3 := R3.binds (ps := ["self"]) fun _ _ _ _ _ _ us hl => match us, hl with | [_], _ => rfl
  have R4 := fun_mk (st := rTape) rl4 rc4 rk4
  have rb4 := R4.binds (ps := ["self"]) fun _ _ _ _ _ _ us hl => match us, hl with | [_], _ => rfl
  have R5 := fun_mk (st := rChk) rl5 rc5 rk5
  have rb5 := R5.binds (ps := ["self"]) fun _ _ _ _ _ _ us hl => match us, hl with | [_], _ => rfl
  have R6 := fun_mk (st := rRew) rl6 rc6 rk6
  have rb6 := R6.binds (ps := ["self", "number"]) fun _ _ _ _ _ _ us hl => match us, hl with | [_, _], _ => rfl
  refine ⟨PySem.W.fnOf "law" "law" (defArgs sLaw) (defBody sLaw) (defScope sLaw) .none kV15 dc15 pm15 an15 cd15 ct15, fun s v => .of_eq rfl, fun base _ _ => ?_⟩
  have m : ∀ {x : Str} {u : Value}, PySem.W.nsIn K mainGlobals x = some (some u) → mg x = some u := fun e => PySem.W.mg_of X G e
  have T6 : Names6 mg := ⟨⟨⟨PySem.W.mg_none_of X G z_list, PySem.W.mg_none_of X G z_tuple, PySem.W.mg_none_of X G z_len, PySem.W.mg_none_of X G z_range⟩, PySem.W.mg_none_of X G z_int, PySem.W.mg_none_of X G z_max, PySem.W.mg_none_of X G z_min⟩, PySem.W.mg_none_of X G z_isinstance, PySem.W.mg_none_of X G z_bool⟩
  have TL_ : NamesL mg := ⟨T6, PySem.W.mg_none_of X G z_zip⟩
  have TE_ : NamesE mg := ⟨T6, PySem.W.mg_none_of X G z_RuntimeError, PySem.W.mg_none_of X G z_ValueError, PySem.W.mg_none_of X G z_LookupError, PySem.W.mg_none_of X G z_KeyError⟩
  have TA : ExC K CA tRun "RuntimeError.__new__" := ⟨⟨_, _, _, _, _, _, _, _, _, _, _, _, _, _, XAx⟩, lRun, XAsa, XAkC⟩
  have XAcl : (PySem.W.clsIn K CA).isSome = true := cls_some TA
  have EA : ExIs K CA := ⟨XAcl, XAga, XAgg, XAex, XAhd, XAkl, gt, tk, XAob⟩
  have JA := fun_mk (st := sI2) XAl XAc XAk
  have MA : MakesK (PySem.Challenge.rw_bentcoin_k26_runners).prog w K CA IA := makesK_of PySem.F.excBase_RuntimeError TA (by decide +kernel) (by decide +kernel) (by decide +kernel) XAiC XAtI
  have cA_ : Err1 (PySem.Challenge.rw_bentcoin_k26_runners).prog w K mg base "AlreadyEnded" "tosses" CA := ⟨⟨_, _, MA.plain, ok_i2 JA TA XAnf, JA.binds (ps := ["self", "tosses"]) fun _ _ _ _ _ _ us hl => (match us, hl with | [_, _], _ => rfl)⟩, m XAg, XAkC, EA, XAty, XAnf⟩
  have TI : ExC K CI tVal "ValueError.__new__" := ⟨⟨_, _, _, _, _, _, _, _, _, _, _, _, _, _, XIx⟩, lVal, XIsa, XIkC⟩
  have XIcl : (PySem.W.clsIn K CI).isSome = true := cls_some TI
  have EI : ExIs K CI := ⟨XIcl, XIga, XIgg, XIex, XIhd, XIkl, gt, tk, XIob⟩
  have JI := fun_mk (st := sI3) XIl XIc XIk
  have MI : MakesK (PySem.Challenge.rw_bentcoin_k26_runners).prog w K CI II := makesK_of PySem.F.excBase_ValueError TI (by decide +kernel) (by decide +kernel) (by decide +kernel) XIiC XItI
  have cI_ : Err0 (PySem.Challenge.rw_bentcoin_k26_runners).prog w K mg base "InvalidSide" CI := ⟨⟨_, _, MI.plain, ok_i3 JI, JI.binds (ps := ["self"]) fun _ _ _ _ _ _ us hl => (match us, hl with | [_], _ => rfl)⟩, m XIg, XIkC, EI, XIty⟩
  have TU : ExC K CU tLook "LookupError.__new__" := ⟨⟨_, _, _, _, _, _, _, _, _, _, _, _, _, _, XUx⟩, lLook, XUsa, XUkC⟩
  have XUcl : (PySem.W.clsIn K CU).isSome = true := cls_some TU
  have EU : ExIs K CU := ⟨XUcl, XUga, XUgg, XUex, XUhd, XUkl, gt, tk, XUob⟩
  have JU := fun_mk (st := sI8) XUl XUc XUk
  have MU : MakesK (PySem.Challenge.rw_bentcoin_k26_runners).prog w K CU IU := makesK_of PySem.F.excBase_LookupError TU (by decide +kernel) (by decide +kernel) (by decide +kernel) XUiC XUtI
  have cU_ : Err1 (PySem.Challenge.rw_bentcoin_k26_runners).prog w K mg base "UnknownCheckpoint" "number" CU := ⟨⟨_, _, MU.plain, ok_i8 JU TU XUnf, JU.binds (ps := ["self", "number"]) fun _ _ _ _ _ _ us hl => (match us, hl with | [_, _], _ => rfl)⟩, m XUg, XUkC, EU, XUty, XUnf⟩
  have CLS : Clauses K CA CI CU := ⟨exm_own TA (fun _ => rfl) XAex XAcl XAty (decide_eq_true rfl), exm_own TI (fun _ => rfl) XAex XAcl XAty (decide_eq_false dist), exm_own TI (fun _ => rfl) XIex XIcl XIty (decide_eq_true rfl), exm_own TU (fun _ => rfl) XUex XUcl XUty (decide_eq_true rfl), kit_blt TA (by decide +kernel), kit_blt TI (by decide +kernel), kit_blt TU (by decide +kernel), kit_blt TU (by decide +kernel), ⟨XAga, XAgg, XAex, XAhd⟩, ⟨XUga, XUgg, XUex, XUhd⟩⟩
  have TX : Txt K C := ⟨⟨pg, hd, po, sa⟩, n1, n2, n3⟩
  have G0 := ok_pen (P := PySem.Challenge.pw_bentcoin_k26_runners) (w := w) (mg := mg) (base := base) F0 T6.toNames
  have G1 := ok_fresh (P := PySem.Challenge.pw_bentcoin_k26_runners) (w := w) (mg := mg) (base := base) F1 T6.toNames
  have G2 := ok_draw F2 G1 (m a1) k1 b1
  have G3 := ok_ends F3 T6.toNames G2 ⟨m a2, k2, b2⟩
  have G5 := ok_numb (P := PySem.Challenge.pw_bentcoin_k26_runners) (w := w) (mg := mg) (base := base) F5 T6.toNames
  have G4 := ok_mach F4 T6.toNames G2 ⟨m a2, k2, b2⟩ G3 ⟨m a3, k3, b3⟩ G5 ⟨m a5, k5, b5⟩
  have G6 := ok_toss (P := PySem.Challenge.pw_bentcoin_k26_runners) (w := w) (mg := mg) (base := base) F6
  have G7 := ok_next (P := PySem.Challenge.pw_bentcoin_k26_runners) (w := w) (mg := mg) (base := base) F7
  have G8 := ok_isint (P := PySem.Challenge.pw_bentcoin_k26_runners) (w := w) (mg := mg) (base := base) F8 T6
  have G9 := ok_isidx F9 G8 ⟨m a8, k8, b8⟩
  have G10 := ok_walk (P := PySem.Challenge.pw_bentcoin_k26_runners) (w := w) (mg := mg) (base := base) F10 T6.toNames4
  have G11 := ok_stand F11 G10 ⟨m a10, k10, b10⟩
  have r0 := ok_rinit (P := PySem.Challenge.pw_bentcoin_k26_runners) (w := w) (mg := mg) (base := base) R0 TX
  have r1 := ok_len (P := PySem.Challenge.pw_bentcoin_k26_runners) (w := w) (mg := mg) (base := base) R1 TX T6
  have r3 := ok_pos R3 TX G6 ⟨m a6, k6, b6⟩
  have r4 := ok_tp (P := PySem.Challenge.pw_bentcoin_k26_runners) (w := w) (mg := mg) (base := base) R4 TX
  have r5 := ok_chk (P := PySem.Challenge.pw_bentcoin_k26_runners) (w := w) (mg := mg) (base := base) R5 TX T6
  have r2 := ok_tossR R2 TX T6 G6 ⟨m a6, k6, b6⟩ G7 ⟨m a7, k7, b7⟩ r3 ⟨ra3, ri3, rk3⟩ rb3 cA_ cI_
  have r6 := ok_rew R6 TX T6 G9 ⟨m a9, k9, b9⟩ cU_
  have G12 := ok_tossed F12 TX TE_ r2 ⟨ra2, ri2, rk2⟩ rb2 cA_ cI_ CLS
  have G13 := ok_back F13 TX TE_ r6 ⟨ra6, ri6, rk6⟩ rb6 cU_ CLS
  have G14 := ok_deed F14 T6 G2 ⟨m a2, k2, b2⟩ G11 ⟨m a11, k11, b11⟩ G12 ⟨m a12, k12, b12⟩ G13 ⟨m a13, k13, b13⟩
  exact ok_law F15 TL_ G0 ⟨m a0, k0, b0⟩ G2 ⟨m a2, k2, b2⟩ G4 ⟨m a4, k4, b4⟩ G11 ⟨m a11, k11, b11⟩ G14 ⟨m a14, k14, b14⟩ TX ⟨mk, ra0, ri0, kc⟩ (m aC) r0 rb0 r3 ⟨ra3, ri3, rk3⟩ rb3 r4 ⟨ra4, ri4, rk4⟩ rb4 r5 ⟨ra5, ri5, rk5⟩ rb5 r2 ⟨ra2, ri2, rk2⟩ rb2 r1 ra1 ri1 rb1
end Z
open PySem PySem.W PyProof.Rows
set_option maxRecDepth 100000 in
set_option maxHeartbeats 0 in
theorem PySem.Challenge.cw_bentcoin_k26_runners_holds : PySem.Challenge.rw_bentcoin_k26_runners.Holds := by
  w_on; o_law; k_head; (case hw => w_witness2)
  k_fill
  refine GG.walkG (l := PySem.Challenge.rw_bentcoin_k26_runners) (n := 63) (k := 6) (x := "script") (sp := Z.spLaw) rfl (by decide) rfl ⟨rfl, by decide, by decide⟩ (fun w h Y => PySem.W.kIn_of Y) ?F (fun _ _ a ns hl hS => ⟨a, ns, rfl, hS, hl, fun _ => rfl⟩)
  case F =>
    intro w mg fa h KX G hmg
    refine' Z.all_mk KX G hmg ?a0 ?l0 ?c0 ?k0 ?a1 ?l1 ?c1 ?k1 ?a2 ?l2 ?c2 ?k2 ?a3 ?l3 ?c3 ?k3 ?a4 ?l4 ?c4 ?k4 ?a5 ?l5 ?c5 ?k5 ?a6 ?l6 ?c6 ?k6 ?a7 ?l7 ?c7 ?k7 ?a8 ?l8 ?c8 ?k8 ?a9 ?l9 ?c9 ?k9 ?a10 ?l10 ?c10 ?k10 ?a11 ?l11 ?c11 ?k11 ?a12 ?l12 ?c12 ?k12 ?a13 ?l13 ?c13 ?k13 ?a14 ?l14 ?c14 ?k14 ?a15 ?l15 ?c15 ?k15 ?z_list ?z_tuple ?z_len ?z_range ?z_max ?z_min ?z_int ?z_isinstance ?z_bool ?z_zip ?z_RuntimeError ?z_ValueError ?z_LookupError ?z_KeyError ?XAg ?XAx ?XAsa ?XAkC ?XAga ?XAgg ?XAex ?XAhd ?XAkl ?XAob ?XAty ?XAnf ?XAiC ?XAtI ?XAl ?XAc ?XAk ?XIg ?XIx ?XIsa ?XIkC ?XIga ?XIgg ?XIex ?XIhd ?XIkl ?XIob ?XIty ?XIiC ?XItI ?XIl ?XIc ?XIk ?XUg ?XUx ?XUsa ?XUkC ?XUga ?XUgg ?XUex ?XUhd ?XUkl ?XUob ?XUty ?XUnf ?XUiC ?XUtI ?XUl ?XUc ?XUk ?gt ?tk ?aC ?ra0 ?ri0 ?rl0 ?rc0 ?rk0 ?ra1 ?ri1 ?rl1 ?rc1 ?rk1 ?ra2 ?ri2 ?rl2 ?rc2 ?rk2 ?ra3 ?ri3 ?rl3 ?rc3 ?rk3 ?ra4 ?ri4 ?rl4 ?rc4 ?rk4 ?ra5 ?ri5 ?rl5 ?rc5 ?rk5 ?ra6 ?ri6 ?rl6 ?rc6 ?rk6 ?pg ?hd ?po ?sa ?mk ?kc ?n1 ?n2 ?n3 ?dist
    (case a0 => k_is)
    (case l0 => k_is)
    (case c0 => k_is)
    (case k0 => k_is)
    (case a1 => k_is)
    (case l1 => k_is)
    (case c1 => k_is)
    (case k1 => k_is)
    (case a2 => k_is)
    (case l2 => k_is)
    (case c2 => k_is)
    (case k2 => k_is)
    (case a3 => k_is)
    (case l3 => k_is)
    (case c3 => k_is)
    (case k3 => k_is)
    (case a4 => k_is)
    (case l4 => k_is)
    (case c4 => k_is)
    (case k4 => k_is)
    (case a5 => k_is)
    (case l5 => k_is)
    (case c5 => k_is)
    (case k5 => k_is)
    (case a6 => k_is)
    (case l6 => k_is)
    (case c6 => k_is)
    (case k6 => k_is)
    (case a7 => k_is)
    (case l7 => k_is)
    (case c7 => k_is)
    (case k7 => k_is)
    (case a8 => k_is)
    (case l8 => k_is)
    (case c8 => k_is)
    (case k8 => k_is)
    (case a9 => k_is)
    (case l9 => k_is)
    (case c9 => k_is)
    (case k9 => k_is)
    (case a10 => k_is)
    (case l10 => k_is)
    (case c10 => k_is)
    (case k10 => k_is)
    (case a11 => k_is)
    (case l11 => k_is)
    (case c11 => k_is)
    (case k11 => k_is)
    (case a12 => k_is)
    (case l12 => k_is)
    (case c12 => k_is)
    (case k12 => k_is)
    (case a13 => k_is)
    (case l13 => k_is)
    (case c13 => k_is)
    (case k13 => k_is)
    (case a14 => k_is)
    (case l14 => k_is)
    (case c14 => k_is)
    (case k14 => k_is)
    (case a15 => k_is)
    (case l15 => k_is)
    (case c15 => k_is)
    (case k15 => k_is)
    (case z_list => k_is)
    (case z_tuple => k_is)
    (case z_len => k_is)
    (case z_range => k_is)
    (case z_max => k_is)
    (case z_min => k_is)
    (case z_int => k_is)
    (case z_isinstance => k_is)
    (case z_bool => k_is)
    (case z_zip => k_is)
    (case z_RuntimeError => k_is)
    (case z_ValueError => k_is)
    (case z_LookupError => k_is)
    (case z_KeyError => k_is)
    (case XAg => k_is)
    (case XAx => k_is)
    (case XAsa => k_is)
    (case XAkC => k_is)
    (case XAga => k_is)
    (case XAgg => k_is)
    (case XAex => k_is)
    (case XAhd => k_is)
    (case XAkl => k_is)
    (case XAob => k_is)
    (case XAty => k_is)
    (case XAnf => k_is)
    (case XAiC => k_is)
    (case XAtI => k_is)
    (case XAl => k_is)
    (case XAc => k_is)
    (case XAk => k_is)
    (case XIg => k_is)
    (case XIx => k_is)
    (case XIsa => k_is)
    (case XIkC => k_is)
    (case XIga => k_is)
    (case XIgg => k_is)
    (case XIex => k_is)
    (case XIhd => k_is)
    (case XIkl => k_is)
    (case XIob => k_is)
    (case XIty => k_is)
    (case XIiC => k_is)
    (case XItI => k_is)
    (case XIl => k_is)
    (case XIc => k_is)
    (case XIk => k_is)
    (case XUg => k_is)
    (case XUx => k_is)
    (case XUsa => k_is)
    (case XUkC => k_is)
    (case XUga => k_is)
    (case XUgg => k_is)
    (case XUex => k_is)
    (case XUhd => k_is)
    (case XUkl => k_is)
    (case XUob => k_is)
    (case XUty => k_is)
    (case XUnf => k_is)
    (case XUiC => k_is)
    (case XUtI => k_is)
    (case XUl => k_is)
    (case XUc => k_is)
    (case XUk => k_is)
    (case gt => k_is)
    (case tk => k_is)
    (case aC => k_is)
    (case ra0 => k_is)
    (case ri0 => k_is)
    (case rl0 => k_is)
    (case rc0 => k_is)
    (case rk0 => k_is)
    (case ra1 => k_is)
    (case ri1 => k_is)
    (case rl1 => k_is)
    (case rc1 => k_is)
    (case rk1 => k_is)
    (case ra2 => k_is)
    (case ri2 => k_is)
    (case rl2 => k_is)
    (case rc2 => k_is)
    (case rk2 => k_is)
    (case ra3 => k_is)
    (case ri3 => k_is)
    (case rl3 => k_is)
    (case rc3 => k_is)
    (case rk3 => k_is)
    (case ra4 => k_is)
    (case ri4 => k_is)
    (case rl4 => k_is)
    (case rc4 => k_is)
    (case rk4 => k_is)
    (case ra5 => k_is)
    (case ri5 => k_is)
    (case rl5 => k_is)
    (case rc5 => k_is)
    (case rk5 => k_is)
    (case ra6 => k_is)
    (case ri6 => k_is)
    (case rl6 => k_is)
    (case rc6 => k_is)
    (case rk6 => k_is)
    (case pg => k_is)
    (case hd => k_is)
    (case po => k_is)
    (case sa => k_is)
    (case mk => k_is)
    (case kc => k_is)
    (case n1 => k_is)
    (case n2 => k_is)
    (case n3 => k_is)
    (case dist => decide +kernel)
