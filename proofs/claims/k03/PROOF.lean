import PyProof.Rows.All
import Wide.All
import OpenK.AllK
import Wide.FinOn
import HandS.ForMost
import HandS.Defaults
import KE.GoesEnum
import HandS.Wide
import KE.DataAny
import HandS.Gcd
import HandS.Rev
import HandS.Flow
import HandS.TupAny
import HandS.RevRange
import PySem.Challenge.RW_bentcoin_k03_rows_parted
set_option Elab.async false
set_option maxRecDepth 100000
set_option maxHeartbeats 4000000
/-! Defs that are run where no text of an object is being made: so that repr gives the whole text. -/
namespace GG
open PySem PySem.Spec PyProof.Rows L2
section
variable {P : Program} {w : World} {K : PySem.W.Frag} {mg : Str → Option Value} {base : Heap}
structure FnG (P : Program) (w : World) (K : PySem.W.Frag) (mg : Str → Option Value) (base : Heap) (k : Nat) (f : Addr) (fd : FuncData) (ps : List Str) (sp : Sp) : Prop where
  size : ∀ vs H Q E, sp vs H Q E → vs.length = ps.length
  goes : ∀ (A : Around) (o : List Env) (s : Shared) (H : Hp) (ar : Args) (us : List Value) (vs : List V) (Q : VK) (E : XK),
    A.guards = some [] → Room k A → Env0 P w K mg base A o s H → BindsTo s fd ar (ps.zip us) → Vals vs us → sp vs H Q E →
    codeAny (model P w) A (.call (.ref f) ar) (CR CX0 o P w H s Q E) s

theorem fnG_of {x qual : Str} {st : Stmt} {f : Addr} {fd : FuncData} {N ps : List Str} {k : Nat} {sp : Sp}
    (F : Fun K x qual st f fd) (S : FnScope N ps (defScope st)) (size : ∀ vs H Q E, sp vs H Q E → vs.length = ps.length)
    (body : ∀ (cd : Value) (A : Around) (o : List Env) (s : Shared) (H : Hp) (vs : List V) (Q : VK) (E : XK),
      A.guards = some [] → Room k (A.deeper (envOfC qual (defScope st) s.heap.objs.size f cd)) → sp vs H Q E →
      ∃ t, PSs (cxOf CX0 P w K mg base N qual (defScope st) f cd A o s H E).nox (defBody st) t ∧
        t { nx := fun _ H' => Q .non H', rt := Q } (start N vs) H) :
    FnG P w K mg base (k + 1) f fd ps sp := by
  obtain ⟨oc, od, kV, doc, pm, an, cd, ct, slots, rfl, found, code⟩ := F.ex
  refine ⟨size, ?_⟩
  intro A o s H ar us vs Q E gA room e0 hbind given asked
  have inK : K.In s.heap := e0.mod.kin.keeps fun b u e => (e0.bs b u e).1
  have free : s.heap.NoLimit := e0.mod.nolimit.keeps fun b u e => (e0.bs b u e).1
  have many := size vs H Q E asked
  have kinds : ∀ y ∈ ps.zip us, (defScope st).names.lookup y.1 = some .local ∨ ((defScope st).names.lookup y.1 = some .cell ∧
      ((cellsFrom (s.heap.objs.size + 1) (defScope st).names []).lookup y.1).isSome = true) := by
    rintro ⟨n, v⟩ hy
    cases S.par n (List.of_mem_zip hy).1 with
    | inl q => exact Or.inl q
    | inr q => exact Or.inr ⟨q, PySem.W.cellsFrom_some _ _ _ (Or.inl q)⟩
  apply codeAny_call_function room.depth (inK _ _ found) rfl S.co S.gen rfl (PySem.W.codeRec_of inK code)
  apply hbind
  apply wpAny_newFunctionEnv_cells S.kind kinds
  intro env he s1 ready
  subst he
  refine ⟨free.keeps ready.toInCall.keep, ?_⟩
  apply codeAny_func
  obtain ⟨t, ht, hq⟩ := body cd A o s H vs Q E gA (room.deeper _) asked
  have first := inv_start (E := E) (CX := CX0) S room.hd e0 many given ready
  refine wpAny_mono (ht.nox.run [] s1 (start N vs) H _ first hq) (fun fl s' hs => ?_) (fun e s' hs => hs)
  cases fl with
  | next =>
    obtain ⟨σ', H', J, q⟩ := hs
    exact ⟨V.non, H', J.os, J.bare, J.base, J.hok, rfl, q⟩
  | ret u =>
    obtain ⟨v, σ', H', J, rv, q⟩ := hs
    exact ⟨v, H', J.os, J.bare, J.base, J.hok, rv, q⟩
  | brk => exact hs.elim fun _ z => z.elim fun _ z => z.elim fun _ z => z.elim
  | cont => exact hs.elim fun _ z => z.elim fun _ z => z.elim fun _ z => z.elim

/-- what is left of the heap when the script stands alone in it -/
def one (a : Addr) (o : HO) : Hp := fun b => if b = a then some o else none
theorem one_at {a : Addr} {o : HO} : one a o a = some o := if_pos rfl
theorem one_no {a b : Addr} {o : HO} (h : b ≠ a) : one a o b = none := if_neg h

section
variable {mb : Str → Option Value} {k : Nat} {fa a : Addr} {fd : FuncData} {x : Str} {sp : Sp} {s₁ : Shared} {vs : List Value} {ns : List Int}
abbrev Fine (s₁ : Shared) (r : Result) (s' : Shared) : Prop := r = .ok (.ret (.bool true)) ∧ OldK s₁.heap s'.heap ∧ s'.os = s₁.os ∧ AllBare s'.gens

/-- from a heap in which at most the script is told of -/
theorem from_heap {H : Hp} (inK : K.In (hidT s₁.heap H)) (names : (hidT s₁.heap H).Ns mainGlobals mg) (blt : (hidT s₁.heap H).Ns builtinsNs mb)
    (known : ∀ y : Str, y ≠ "__name__" → mb y = bootBuiltins y) (free : (hidT s₁.heap H).NoLimit) (none_ : s₁.gens = #[])
    (alone : ∀ b, H b = none ∨ ∃ o xs, H b = some (.frz o (.lst xs))) (hok : HOk P w H s₁.heap) (room : Room k callerA)
    (F : FnG P w K mg (hidT s₁.heap H) k fa fd [x] sp) (binds : ∀ (s : Shared) (u : Value), BindsTo s fd ⟨[u], []⟩ [(x, u)])
    (asked : sp [.ref a] H (fun v _ => v = .bl true) fun _ _ _ => False) :
    codeAny (model P w) callerA (.call (.ref fa) ⟨[.ref a], []⟩) (Fine s₁) s₁ := by
  have entry : Env0 P w K mg (hidT s₁.heap H) callerA [] s₁ H :=
    { frames := rfl, mod := ⟨inK, names, ⟨mb, blt, known⟩, free⟩, bs := fun b u e => of_hidT e, bsz := Nat.le_of_eq (hidT_size _ _), funs := trivial,
      frf := fun b hb => absurd (show b ∈ ([] : List Addr) from hb) (by simp), hok := hok, bare := .of_eq none_ }
  have run := F.goes callerA [] s₁ H ⟨[.ref a], []⟩ [.ref a] [.ref a] _ _ rfl room entry (binds s₁ (.ref a)) (.cons rfl .nil) asked
  refine codeAny_mono run fun r s' got => ?_
  cases r with
  | error e => exact False.elim got
  | ok fl =>
    cases fl with
    | ret u =>
      obtain ⟨v, H', os, bare, un, hok', ru, yes⟩ := got
      have yes' : v = .bl true := yes
      subst yes'
      have eu : u = Value.bool true := ru
      subst eu
      refine ⟨rfl, OldK.of_keep ?_, os, bare⟩
      intro b u e
      rcases alone b with q | ⟨ob, xs, q⟩
      · exact un.keep b u e q (fun z => absurd (show b ∈ ([] : List Addr) from z) (by simp)) (by simp)
      · have e1 := (hok b _ q).1
        have e2 := (hok' b _ (un.frzs b ob _ q)).1
        rw [e] at e1
        cases e1
        exact e2
    | next => exact False.elim got
    | brk => exact False.elim got
    | cont => exact False.elim got
/-- the law's call, its promise once -/
theorem lawG (inK : K.In s₁.heap) (names : s₁.heap.Ns mainGlobals mg) (blt : s₁.heap.Ns builtinsNs mb) (known : ∀ y : Str, y ≠ "__name__" → mb y = bootBuiltins y)
    (free : s₁.heap.NoLimit) (none_ : s₁.gens = #[]) (script : s₁.heap.get? a = some { cls := .type "list", data := .seq vs.toArray }) (nums : IntsAre vs ns)
    (few : ns.length ≤ sizeLine) (room : Room k callerA) (F : ∀ base : Heap, K.In base → base.Ns mainGlobals mg → FnG P w K mg base k fa fd [x] sp)
    (binds : ∀ (s : Shared) (u : Value), BindsTo s fd ⟨[u], []⟩ [(x, u)]) (asked : ∀ H : Hp, SqL K H a (ns.map V.int) → sp [.ref a] H (fun v _ => v = .bl true) fun _ _ _ => False) :
    codeAny (model P w) callerA (.call (.ref fa) ⟨[.ref a], []⟩) (Fine s₁) s₁ := by
  have rel := vals_ints nums
  have len := nums.length
  cases look : K.lookup a with
  | some o =>
    have e := inK a o look
    rw [script] at e
    cases e
    have keep : ∀ {b : Addr} {u : Obj}, s₁.heap.get? b = some u → (hidT s₁.heap fun _ => none).get? b = some u := fun e => hidT_get e rfl
    have ns' : ∀ {b : Addr} {m : Str → Option Value}, s₁.heap.Ns b m → (hidT s₁.heap fun _ => none).Ns b m := fun ⟨o, es, ep, e, d, r⟩ => ⟨o, es, ep, keep e, d, r⟩
    have inK' : K.In (hidT s₁.heap fun _ => none) := fun b u e => keep (inK b u e)
    refine from_heap inK' (ns' names) (ns' blt) known (let ⟨mc, h1, h2⟩ := free; ⟨mc, ns' h1, h2⟩) none_ (fun _ => .inl rfl) (fun b u z => nomatch z) room (F _ inK' (ns' names)) binds ?_
    exact asked _ (.inr ⟨_, vs.toArray, _, look, rfl, rfl, rfl, by rw [List.size_toArray, len]; exact few, by simpa using rel⟩)
  | none =>
    have keep : ∀ {b : Addr} {u : Obj}, b ≠ a → s₁.heap.get? b = some u → (hidT s₁.heap (one a (.frz { cls := .type "list", data := .seq vs.toArray } (.lst (ns.map V.int))))).get? b = some u := fun n e => hidT_get e (one_no n)
    have ns' : ∀ {b : Addr} {m : Str → Option Value}, s₁.heap.Ns b m → (hidT s₁.heap (one a (.frz { cls := .type "list", data := .seq vs.toArray } (.lst (ns.map V.int))))).Ns b m := by
      rintro b m ⟨o, es, ep, e, d, r⟩
      refine ⟨o, es, ep, keep (fun z => ?_) e, d, r⟩
      rw [z, script] at e
      cases e
      cases d
    have inK' : K.In (hidT s₁.heap (one a (.frz { cls := .type "list", data := .seq vs.toArray } (.lst (ns.map V.int))))) := fun b u e => keep (fun z => by rw [z, look] at e; cases e) (inK b u e)
    refine from_heap inK' (ns' names) (ns' blt) known (let ⟨mc, h1, h2⟩ := free; ⟨mc, ns' h1, h2⟩) none_ (fun b => ?_) (fun b u z => ?_) room (F _ inK' (ns' names)) binds (asked _ (.inl (.inr ⟨_, one_at⟩)))
    · by_cases e : b = a
      · exact .inr ⟨_, _, by rw [e]; exact one_at⟩
      · exact .inl (one_no e)
    · by_cases e : b = a
      · subst e
        have z' := one_at.symm.trans z
        cases z'
        exact ⟨script, by rw [List.length_map]; exact few, vs, _, rel, script⟩
      · have z' := (one_no e).symm.trans z
        cases z'
end
end
/-- the end of a proof: as the layer's own, for such a promise -/
theorem walkG {l : PySem.W.OpenLaw} {n k : Nat} {q : Program} {loose : List Str} {XP : (Str → Option Value) → Heap → Prop} {YP : World → Heap → Prop} {d : DefRec} {K : Params → PySem.W.Frag}
    {sp : PySem.W.Frag → Sp} {x : Str} (most : l.most = some n) (few : n ≤ sizeLine) (plain : d.params.defaults = []) (room : Room k callerA) (inY : ∀ (w : World) (h : Heap), YP w h → (K w.params).In h)
    (F : ∀ (w : World) (mg : Str → Option Value) (fa : Addr) (h : Heap), (K w.params).In h → h.Ns mainGlobals mg → mg d.name = some (.ref fa) →
      ∃ fd : FuncData, (∀ (s : Shared) (u : Value), BindsTo s fd ⟨[u], []⟩ [(x, u)]) ∧
        ∀ base : Heap, (K w.params).In base → base.Ns mainGlobals mg → FnG l.prog w (K w.params) mg base k fa fd [x] (sp (K w.params)))
    (asked : ∀ (K : PySem.W.Frag) (H : Hp) (a : Addr) (ns : List Int), ns.length ≤ n → SqL K H a (ns.map V.int) → sp K [.ref a] H (fun v _ => v = .bl true) fun _ _ _ => False) :
    PySem.W.WalkO q loose XP YP l.row.toRowW d [] (fun f vs => PySem.call f vs) := by
  apply Att.attach_call most plain
  intro w s₀ s₁ mg mb fa o pm cd doc a vs ns G Y _ _ _ named script nums size none_
  have inK := inY w _ Y
  obtain ⟨fd, binds, hF⟩ := F w mg fa _ inK G.T.g named
  exact lawG inK G.T.g G.T.b G.T.builtins G.T.nolimit none_ script nums (Nat.le_trans size few) room hF binds fun H hs => asked _ H a ns size hs

/-! the text of data -/
/-- data whose text is made: no dict, no int too long, not too deep, not too many -/
structure Shows (d : PyData) (deep many : Nat) : Prop where
  s : d.showable = true
  l : d.leavesShort 1922 = true
  h : d.hasDict = false
  p : d.depth ≤ deep
  b : d.bulk ≤ many
theorem Shows.mono {d : PyData} {a b a' b' : Nat} (x : Shows d a b) (h1 : a ≤ a') (h2 : b ≤ b') : Shows d a' b' := ⟨x.s, x.l, x.h, Nat.le_trans x.p h1, Nat.le_trans x.b h2⟩
theorem Shows.room {d : PyData} (x : Shows d 50 8000) : d.shown.length ≤ sizeLine := by
  have h := PyData.shown_le_bulk 1922 (by decide) d x.l
  have hb := x.b
  have e : sizeLine = 16777216 := by decide
  have := Nat.mul_le_mul_left 1924 hb
  omega
theorem short_int {i : Int} (h : i.natAbs.log2 < 1920) : (PyData.int i).leavesShort 1922 = true := by
  simp only [PyData.leavesShort, decide_eq_true_eq]
  have e := int_text_length_le (k := 1920) (by decide) h
  rw [PyData.shown_int, PySem.ofString_length]
  omega
theorem ints_show : ∀ {ns : List Int}, (∀ n ∈ ns, n.natAbs.log2 < 1920) → PyData.showableAll (ns.map PyData.int) = true ∧ PyData.leavesShortAll 1922 (ns.map PyData.int) = true ∧ PyData.hasDictAll (ns.map PyData.int) = false ∧ PyData.depthAll (ns.map PyData.int) = 0 ∧ PyData.bulkAll (ns.map PyData.int) = ns.length
  | [], _ => ⟨rfl, rfl, rfl, rfl, rfl⟩
  | n :: r, h => by
    obtain ⟨h1, h2, h3, h4, h5⟩ := ints_show (ns := r) fun m hm => h m (List.mem_cons_of_mem _ hm)
    have hn := h n List.mem_cons_self
    have hs := short_int hn
    refine ⟨?_, ?_, ?_, ?_, ?_⟩
    · simp [PyData.showableAll, PyData.showable, h1, hn]
    · simp [PyData.leavesShortAll, h2, hs]
    · simp [PyData.hasDictAll, PyData.hasDict, h3]
    · simp [PyData.depthAll, PyData.depth, h4]
    · simp [PyData.bulkAll, PyData.bulk, h5]; omega
theorem shows_ints {ns : List Int} (h : ∀ n ∈ ns, n.natAbs.log2 < 1920) : Shows (.tuple (ns.map PyData.int)) 1 ns.length := by
  obtain ⟨h1, h2, h3, h4, h5⟩ := ints_show h
  exact ⟨by simp [PyData.showable, h1], by simp [PyData.leavesShort, h2], by simp [PyData.hasDict, h3], by simp [PyData.depth, h4], by simp [PyData.bulk, h5]⟩
section
variable {X : Cx}
def rRepr (K : PySem.W.Frag) : List V → Hp → VK → Prop := fun vs H Q => ∃ (a : Addr) (d : PyData), vs = [.ref a] ∧ Dp K H (.ref a) d ∧ Shows d 50 8000 ∧ Q (.str d.shown) H
theorem call_repr {k : Nat} (hg : X.A.guards = some []) (room : Room k X.A) : CallR X (.builtin "repr") (rRepr X.K) := by
  intro pins s σ H vs us Q I r h
  obtain ⟨a, d, rfl, hd, hs, q⟩ := h
  obtain ⟨u, rfl, ru⟩ := vals1 r
  have eu : u = Value.ref a := ru
  subst eu
  obtain ⟨as, reads⟩ := Dp.reads I d (.ref a) (.ref a) hd rfl
  have hu := room.un
  have hp := hs.p
  refine repr_of_reads' reads hs.s (fun e => by rw [hs.h] at e; cases e) hg (by omega) (fun _ _ e => e) (fun h' u tk hk => ?_) hs.room
  exact ⟨.str d.shown, H, I.kept hk, ⟨u, rfl⟩, q⟩
/-! x *= e of ints -/
theorem ip_mulW : PIp X .Mult (fun x y H Q => ∃ i j : Int, x = .int i ∧ y = .int j ∧ IntMulOk i j ∧ Q (.int (i * j)) H) := by
  intro pins s σ H x y v u Q I rx ry h
  obtain ⟨i, j, ex, ey, ok, q⟩ := h
  subst ex ey
  obtain ⟨t, et⟩ := rx
  obtain ⟨t', et'⟩ := ry
  subst et et'
  exact imul_int ⟨V.int (i * j), H, I.tok _, ⟨_, rfl⟩, q⟩ ok
/-! f(k = v, ..): all by their names -/
variable {CX : CXT} {k : Nat} {f : Addr} {fd : FuncData} {ps ks : List Str} {sp : Sp} {E : XK} {x : Str} {p pos : Pos} {kws : List Keyword} {t tk : TA}
  {g : List Value → List Value → List Value} {gV : List V → List V → List V}
def tNamed (sp : Sp) (gV : List V → List V → List V) (E : XK) (m : Nat) (tk : TA) : TE := fun σ H Q => tk σ H fun zs H1 => zs.length = m ∧ sp (gV [] zs) H1 Q E
theorem pe_named (F : FnOk X.prog X.w X.K X.mg X.base CX k f fd ps sp) (room : Room k X.A) (glob : Gl X x) (is : X.mg x = some (.ref f)) (keep : PySem.W.keepIn X.K (.ref f) = true)
    (bound : KBn X.K fd ps 0 ks g gV) (pass : Passes CX X E) (args : PK X kws tk) (all : (backToKw pos (keywordEach kws X.env)).all (·.1.isSome) = true := by rfl)
    (names : (backToKw pos (keywordEach kws X.env)).filterMap (·.1) = ks := by rfl) (nodebug : (x == ("__debug__" : Str)) = false := by decide)
    (plain : ((backTo pos (starEach [] X.env)).any (·.1) || (backToKw pos (keywordEach kws X.env)).any (·.1.isNone)) = false := by rfl) :
    PE X (.Call (.Name x p) [] kws pos) (tNamed sp gV E ks.length tk) := by
  constructor
  intro pins s σ H Q I h
  apply wpAny_Call_Name_kw
  refine ld_glob I glob is ?_ nodebug
  apply PySem.W.callWith_KW0 I.ok.mod.kin keep all _ plain
  have run := args.run pos pins s σ H _ I h
  refine thn run fun ws s2 done => ?_
  obtain ⟨zs, H2, I2, rz, many, q⟩ := done
  refine ⟨I2.kIn, ?_⟩
  rw [names]
  have few : ws.length = ks.length := by rw [← rz.length]; exact many
  first
  | exact run_fnN (us := []) (vs := []) F room bound pass I2 .nil rz rfl few q
  | exact run_fnN (us := []) (vs := []) F room bound pass I2 .nil rz rfl many q
def turned {α : Type} : List α → List α
  | [u, v] => [v, u]
  | l => l
theorem turned_vals : ∀ {zs : List V} {ws : List Value}, Vals zs ws → Vals (turned zs) (turned ws)
  | _, _, .nil => .nil
  | _, _, .cons a .nil => .cons a .nil
  | _, _, .cons a (.cons b .nil) => .cons b (.cons a .nil)
  | _, _, .cons a (.cons b (.cons c r)) => .cons a (.cons b (.cons c r))
/-- two parameters, both by name, the second ahead -/
theorem named2 {K : PySem.W.Frag} {x qual : Str} {st : Stmt} {a b : Str} (F : Fun K x qual st f fd)
    (h : ∀ (kV doc pm : Value) (an : Option Addr) (cd ct u v : Value), bindArgs (PySem.W.fnOf x qual (defArgs st) (defBody st) (defScope st) .none kV doc pm an cd ct) ⟨[], [(b, u), (a, v)]⟩ = pure [(a, v), (b, u)]) :
    KBn K fd [a, b] 0 [b, a] (fun _ ws => turned ws) (fun _ zs => turned zs) := by
  obtain ⟨oc, od, kV, doc, pm, an, cd, ct, slots, rfl, found, code⟩ := F.ex
  refine ⟨fun s us ws _ l0 l2 => ?_, fun _ r => turned_vals r⟩
  match us, ws, l0, l2 with
  | [], [u, v], _, _ => exact .of_eq (h kV doc pm an cd ct u v)
theorem max_is (calm : X.calm = true) : CallR X (.builtin "max") (fun vs H Q => ∃ i j k : Int, vs = [.int i, .int j] ∧ k = (if j > i then j else i) ∧ Q (.int k) H) := by
  intro pins s σ H vs us Q I r h
  obtain ⟨i, j, k, e, ek, q⟩ := h
  subst ek
  exact call_max2 calm pins s σ H vs us Q I r ⟨i, j, e, q⟩
/-! a def that wants that no text is being made, called -/
theorem pe_callG {F : FuncData} {es : List Expr} {e : Expr} (G : FnG X.prog X.w X.K X.mg X.base k f F ps sp) (quiet : X.A.guards = some []) (room : Room k X.A) (glob : Gl X x) (is : X.mg x = some (.ref f)) (keep : PySem.W.keepIn X.K (.ref f) = true)
    (bound : Binds X.K F ps []) (args : PA X (e :: es) t) (nodebug : (x == ("__debug__" : Str)) = false := by decide) (star : starEach (e :: es) X.env = (false, eval e X.env) :: starEach es X.env := by rfl)
    (plain : (backTo pos (starEach es X.env)).any (·.1) = false := by rfl) : PE X (.Call (.Name x p) (e :: es) [] pos) (tCall sp [] E0 t) := by
  constructor
  intro pins s σ H Q I h
  apply wpAny_Call_Name_kw
  refine ld_glob I glob is ?_ nodebug
  refine PySem.W.callWith_K (h₀ := X.base) I.ok.mod.kin keep (thn (args.run pos pins s σ H _ I h) fun us s1 got => ?_) star plain
  obtain ⟨vs, H1, I1, r, asked⟩ := got
  refine ⟨I1.kIn, ?_⟩
  have asked' : sp vs H1 Q E0 := by simpa using asked
  have many : (us ++ []).length = ps.length := by rw [List.append_nil, ← r.length]; exact G.size _ _ _ _ asked'
  have bind := bound s1 us I1.kIn many
  rw [List.append_nil] at bind
  apply wpAny_call
  refine codeAny_mono (G.goes X.A X.stack s1 H1 ⟨us, []⟩ us vs Q E0 quiet room I1.env0 bind r asked') fun res s' hq => ?_
  cases res with
  | error e => exact False.elim hq
  | ok fl =>
    cases fl with
    | ret u => exact I1.after hq
    | next => exact False.elim hq
    | brk => exact False.elim hq
    | cont => exact False.elim hq
/-! repr of None, or of data -/
def rRepr2 (K : PySem.W.Frag) : List V → Hp → VK → Prop := fun vs H Q => (vs = [.non] ∧ Q (.str "None") H) ∨ rRepr K vs H Q
theorem call_repr2 {k : Nat} (hg : X.A.guards = some []) (room : Room k X.A) : CallR X (.builtin "repr") (rRepr2 X.K) := by
  intro pins s σ H vs us Q I r h
  rcases h with ⟨ev, q⟩ | h
  · subst ev
    obtain ⟨u, eu, ru⟩ := vals1 r
    subst eu
    have e : u = Value.none := ru
    subst e
    exact PySem.P.repr_of_none ⟨.str _, H, I.tok _, ⟨_, rfl⟩, q⟩
  · exact call_repr hg room pins s σ H vs us Q I r h
end
end GG

namespace M3
/-! a row less c times another, moved -/
def subs (c : Int) : List Int → Nat → List Int → List Int
  | r, _, [] => r
  | r, a, x :: f => subs c (r.set a (r.getD a 0 - c * x)) (a + 1) f
theorem getD_set (r : List Int) (a : Nat) (v : Int) (t : Nat) (h : a < r.length) : (r.set a v).getD t 0 = if t = a then v else r.getD t 0 := by
  rw [List.getD_eq_getElem?_getD, List.getD_eq_getElem?_getD, List.getElem?_set]
  by_cases e : a = t
  · subst e; simp [h]
  · simp [e, Ne.symm e]
theorem subs_len (c : Int) : ∀ (f r : List Int) (a : Nat), (subs c r a f).length = r.length
  | [], _, _ => rfl
  | x :: f, r, a => by
    show (subs c (r.set a _) (a + 1) f).length = _
    rw [subs_len c f, List.length_set]
theorem subs_get (c : Int) : ∀ (f r : List Int) (a t : Nat), a + f.length ≤ r.length →
    (subs c r a f).getD t 0 = r.getD t 0 - c * (if a ≤ t then f.getD (t - a) 0 else 0)
  | [], r, a, t, _ => by
    show r.getD t 0 = _
    by_cases e : a ≤ t <;> simp [e]
  | x :: f, r, a, t, h => by
    rw [List.length_cons] at h
    show (subs c (r.set a (r.getD a 0 - c * x)) (a + 1) f).getD t 0 = _
    rw [subs_get c f _ _ _ (by rw [List.length_set]; omega), getD_set _ _ _ _ (by omega)]
    by_cases e : t = a
    · subst e
      rw [if_pos rfl, if_neg (by omega), if_pos (Nat.le_refl _), Nat.sub_self]
      simp
    · rw [if_neg e]
      by_cases e2 : a ≤ t
      · rw [if_pos (by omega), if_pos e2, show t - a = (t - (a + 1)) + 1 by omega]
        simp
      · rw [if_neg (by omega), if_neg e2]
theorem ext_getD {l l' : List Int} (h : l.length = l'.length) (g : ∀ t, t < l.length → l.getD t 0 = l'.getD t 0) : l = l' := by
  apply List.ext_getElem h
  intro i h1 h2
  have := g i h1
  rw [List.getD_eq_getElem?_getD, List.getD_eq_getElem?_getD, List.getElem?_eq_getElem h1, List.getElem?_eq_getElem h2] at this
  exact this
theorem subs_snoc (c x : Int) (f r : List Int) (a : Nat) (h : a + f.length + 1 ≤ r.length) :
    subs c r a (f ++ [x]) = (subs c r a f).set (a + f.length) ((subs c r a f).getD (a + f.length) 0 - c * x) := by
  apply ext_getD
  · rw [subs_len, List.length_set, subs_len]
  · intro t ht
    rw [subs_len] at ht
    rw [getD_set _ _ _ _ (by rw [subs_len]; omega), subs_get _ _ _ _ _ (by rw [List.length_append]; simp; omega), subs_get _ _ _ _ _ (by omega), subs_get _ _ _ _ _ (by omega)]
    by_cases e : t = a + f.length
    · subst e
      rw [if_pos (by omega), if_pos rfl, if_pos (by omega), show a + f.length - a = f.length by omega]
      simp [List.getD_eq_getElem?_getD]
    · rw [if_neg e]
      by_cases e2 : a ≤ t
      · rw [if_pos e2, if_pos e2]
        by_cases e3 : t - a < f.length
        · simp [List.getD_eq_getElem?_getD, List.getElem?_append_left e3]
        · have h1 : (f ++ [x]).getD (t - a) 0 = 0 := by
            rw [List.getD_eq_getElem?_getD, List.getElem?_eq_none (by rw [List.length_append]; simp; omega)]; rfl
          have h2 : f.getD (t - a) 0 = 0 := by
            rw [List.getD_eq_getElem?_getD, List.getElem?_eq_none (by omega)]; rfl
          rw [h1, h2]
      · rw [if_neg e2, if_neg e2]
theorem subs_scale (S c : Int) : ∀ (f r : List Int) (a : Nat), a + f.length ≤ r.length → subs (S * c) (r.map (S * ·)) a f = (subs c r a f).map (S * ·)
  | [], _, _, _ => rfl
  | x :: f, r, a, h => by
    rw [List.length_cons] at h
    show subs (S * c) ((r.map (S * ·)).set a ((r.map (S * ·)).getD a 0 - S * c * x)) (a + 1) f = (subs c (r.set a (r.getD a 0 - c * x)) (a + 1) f).map (S * ·)
    rw [← subs_scale S c f _ _ (by rw [List.length_set]; omega), List.map_set]
    have e : (r.map (S * ·)).getD a 0 = S * r.getD a 0 := by
      rw [List.getD_eq_getElem?_getD, List.getD_eq_getElem?_getD, List.getElem?_map, List.getElem?_eq_getElem (by omega)]
      rfl
    rw [e, Int.mul_sub, Int.mul_assoc]
/-! the two divisions -/
def divP (f : List Int) (m : Nat) (l : Int) : Nat → List Int → List Int → Option (List Int × List Int)
  | 0, r, q => some (r, q)
  | n + 1, r, q => if (r.getD (n + m - 1) 0).fmod l ≠ 0 then none else
      divP f m l n (subs ((r.getD (n + m - 1) 0).fdiv l) r n f) (q.set n ((r.getD (n + m - 1) 0).fdiv l))
def divL (f : List Int) (m : Nat) (l : Int) : Nat → List Int → List Int → List Int × List Int
  | 0, r, q => (r, q)
  | n + 1, r, q => divL f m l n (subs ((r.getD (n + m - 1) 0).fdiv l) r n f) (q.set n ((r.getD (n + m - 1) 0).fdiv l))
theorem divL_keep (f : List Int) (m : Nat) (l : Int) : ∀ (n : Nat) (r q : List Int) (t : Nat), n ≤ t → (divL f m l n r q).2.getD t 0 = q.getD t 0
  | 0, _, _, _, _ => rfl
  | n + 1, r, q, t, h => by
    show (divL f m l n _ (q.set n _)).2.getD t 0 = _
    rw [divL_keep f m l n _ _ t (by omega), List.getD_eq_getElem?_getD, List.getElem?_set_ne (by omega), ← List.getD_eq_getElem?_getD]
theorem divL_len (f : List Int) (m : Nat) (l : Int) : ∀ (n : Nat) (r q : List Int), (divL f m l n r q).1.length = r.length ∧ (divL f m l n r q).2.length = q.length
  | 0, _, _ => ⟨rfl, rfl⟩
  | n + 1, r, q => by
    have := divL_len f m l n (subs ((r.getD (n + m - 1) 0).fdiv l) r n f) (q.set n ((r.getD (n + m - 1) 0).fdiv l))
    rw [subs_len, List.length_set] at this
    exact this
theorem getD_scale (S : Int) (r : List Int) (t : Nat) : (r.map (S * ·)).getD t 0 = S * r.getD t 0 := by
  rw [List.getD_eq_getElem?_getD, List.getD_eq_getElem?_getD, List.getElem?_map]
  cases r[t]? with
  | none => simp
  | some v => rfl
theorem sim {f : List Int} {m : Nat} {l S' : Int} (hl : l ≠ 0) (hS : S' ≠ 0) (hm : f.length = m) (h1 : 1 ≤ m) : ∀ (n : Nat) (r q : List Int), n + m ≤ r.length + 1 → n ≤ q.length →
    match divP f m l n r q with
    | some (r', q') => divL f m l n (r.map (l * S' * ·)) (q.map (l * S' * ·)) = (r'.map (l * S' * ·), q'.map (l * S' * ·)) ∧ q'.length = q.length
    | none => ∃ t, t < q.length ∧ ((divL f m l n (r.map (l * S' * ·)) (q.map (l * S' * ·))).2.getD t 0).fmod (l * S') ≠ 0
  | 0, r, q, _, _ => ⟨rfl, rfl⟩
  | n + 1, r, q, hr, hq => by
    unfold divP
    have e1 : ((r.map (l * S' * ·)).getD (n + m - 1) 0).fdiv l = S' * r.getD (n + m - 1) 0 := by
      rw [getD_scale, Int.mul_assoc, Int.mul_fdiv_cancel_left _ hl]
    by_cases hx : (r.getD (n + m - 1) 0).fmod l = 0
    · rw [if_neg (by simpa using hx)]
      have hd : l ∣ r.getD (n + m - 1) 0 := Int.dvd_of_fmod_eq_zero hx
      obtain ⟨c, hc⟩ := hd
      have ec : (r.getD (n + m - 1) 0).fdiv l = c := by rw [hc, Int.mul_fdiv_cancel_left _ hl]
      have e2 : S' * r.getD (n + m - 1) 0 = l * S' * c := by rw [hc]; grind
      have ih := sim hl hS hm h1 n (subs c r n f) (q.set n c) (by rw [subs_len]; omega) (by rw [List.length_set]; omega)
      have eL : divL f m l (n + 1) (r.map (l * S' * ·)) (q.map (l * S' * ·)) = divL f m l n ((subs c r n f).map (l * S' * ·)) ((q.set n c).map (l * S' * ·)) := by
        show divL f m l n (subs (((r.map (l * S' * ·)).getD (n + m - 1) 0).fdiv l) (r.map (l * S' * ·)) n f) ((q.map (l * S' * ·)).set n (((r.map (l * S' * ·)).getD (n + m - 1) 0).fdiv l)) = _
        rw [e1, e2, subs_scale _ _ _ _ _ (by omega), List.map_set]
      rw [ec, eL]
      rw [List.length_set] at ih
      exact ih
    · rw [if_pos hx]
      refine ⟨n, by omega, ?_⟩
      show ((divL f m l n _ ((q.map (l * S' * ·)).set n (((r.map (l * S' * ·)).getD (n + m - 1) 0).fdiv l))).2.getD n 0).fmod (l * S') ≠ 0
      rw [divL_keep f m l n _ _ n (Nat.le_refl _), getD_set _ _ _ _ (by rw [List.length_map]; omega), if_pos rfl, e1]
      intro h0
      obtain ⟨k, hk⟩ := Int.dvd_of_fmod_eq_zero h0
      apply hx
      have : r.getD (n + m - 1) 0 = l * k := by
        apply Int.eq_of_mul_eq_mul_left hS
        rw [hk]
        grind
      rw [this, Int.mul_fmod_right]

def res (x : Option (List Int × List Int)) : Option (List Int) := match x with
  | none => none
  | some (r, q) => if (r.any fun a => a != 0) = true then none else some q
def resL (S : Int) (x : List Int × List Int) : Option (List Int) :=
  if (x.1.filter fun a => a != 0) ≠ [] ∨ (x.2.filter fun a => a.fmod S != 0) ≠ [] then none else some (x.2.map (·.fdiv S))
theorem pow_ne {l : Int} (h : l ≠ 0) : ∀ n : Nat, l ^ n ≠ 0
  | 0 => by simp
  | n + 1 => by rw [Int.pow_succ]; exact Int.mul_ne_zero (pow_ne h n) h
theorem any_filter (r : List Int) : (r.filter fun a => a != 0) ≠ [] ↔ (r.any fun a => a != 0) = true := by
  induction r with
  | nil => simp
  | cons x r ih => by_cases h : x = 0 <;> simp_all
theorem filter_scale {S : Int} (hS : S ≠ 0) (r : List Int) : ((r.map (S * ·)).filter fun a => a != 0) ≠ [] ↔ (r.any fun a => a != 0) = true := by
  rw [any_filter]
  induction r with
  | nil => simp
  | cons x r ih =>
    have : (S * x != 0) = (x != 0) := by
      by_cases h : x = 0
      · simp [h]
      · have h2 : S * x ≠ 0 := Int.mul_ne_zero hS h
        rw [bne_iff_ne.mpr h2, bne_iff_ne.mpr h]
    simp only [List.map_cons, List.any_cons, this, Bool.or_eq_true]
    rw [ih]
theorem res_eq {f : List Int} {m : Nat} {l : Int} (hl : l ≠ 0) (hm : f.length = m) (h1 : 1 ≤ m) (n : Nat) (p q : List Int) (hp : n + m ≤ p.length + 1 ∨ n = 0) (hq : n = q.length) :
    resL (l ^ n) (divL f m l n (p.map (l ^ n * ·)) (q.map (l ^ n * ·))) = res (divP f m l n p q) := by
  cases n with
  | zero =>
    obtain rfl : q = [] := List.eq_nil_of_length_eq_zero hq.symm
    show resL (l ^ 0) (p.map (l ^ 0 * ·), []) = res (some (p, []))
    unfold resL res
    simp only [Int.pow_zero, Int.one_mul, List.map_id', List.filter_nil, ne_eq, not_true_eq_false, or_false, List.map_nil]
    by_cases h : (p.any fun a => a != 0) = true
    · rw [if_pos ((any_filter p).mpr h), if_pos h]
    · rw [if_neg (fun e => h ((any_filter p).mp e)), if_neg h]
  | succ n =>
    have hS' := pow_ne hl n
    have hS := pow_ne hl (n + 1)
    have eS : l ^ (n + 1) = l * l ^ n := by rw [Int.pow_succ, Int.mul_comm]
    have s := sim hl hS' hm h1 (n + 1) p q (by omega) (by omega)
    rw [← eS] at s
    cases hd : divP f m l (n + 1) p q with
    | none =>
      rw [hd] at s
      obtain ⟨t, ht, hne⟩ := s
      unfold resL res
      rw [if_pos]
      right
      intro e
      have lt : t < (divL f m l (n + 1) (p.map (l ^ (n + 1) * ·)) (q.map (l ^ (n + 1) * ·))).2.length := by
        rw [(divL_len f m l _ _ _).2, List.length_map]
        exact ht
      have hx := List.filter_eq_nil_iff.mp e _ (List.getElem_mem lt)
      apply hne
      rw [List.getD_eq_getElem?_getD, List.getElem?_eq_getElem lt]
      simpa using hx
    | some rq =>
      obtain ⟨r', q'⟩ := rq
      rw [hd] at s
      obtain ⟨e, hlq⟩ := s
      rw [e]
      unfold resL res
      have z : ((q'.map (l ^ (n + 1) * ·)).filter fun a => a.fmod (l ^ (n + 1)) != 0) = [] := by
        apply List.filter_eq_nil_iff.mpr
        intro a ha
        obtain ⟨b, _, rfl⟩ := List.mem_map.mp ha
        simp [Int.mul_fmod_right]
      have e3 : (q'.map (l ^ (n + 1) * ·)).map (·.fdiv (l ^ (n + 1))) = q' := by
        rw [List.map_map]
        conv => rhs; rw [← List.map_id q']
        apply List.map_congr_left
        intro a _
        show (l ^ (n + 1) * a).fdiv (l ^ (n + 1)) = a
        exact Int.mul_fdiv_cancel_left _ hS
      dsimp only
      simp only [z, ne_eq, not_true_eq_false, or_false, e3]
      by_cases h : (r'.any fun a => a != 0) = true
      · rw [if_pos ((filter_scale hS r').mpr h), if_pos h]
      · rw [if_neg (fun e => h ((filter_scale hS r').mp e)), if_neg h]
/-! sizes -/
def Bd (M : Nat) (r : List Int) : Prop := ∀ t, (r.getD t 0).natAbs ≤ M
theorem bd_of {M : Nat} {r : List Int} (h : ∀ x ∈ r, x.natAbs ≤ M) : Bd M r := fun t => by
  rw [List.getD_eq_getElem?_getD]
  cases e : r[t]? with
  | none => simp
  | some v => exact h v (List.mem_of_getElem? e)
theorem Bd.mem {M : Nat} {r : List Int} (h : Bd M r) {x : Int} (hx : x ∈ r) : x.natAbs ≤ M := by
  obtain ⟨i, hi, rfl⟩ := List.getElem_of_mem hx
  have := h i
  rwa [List.getD_eq_getElem?_getD, List.getElem?_eq_getElem hi] at this
theorem Bd.mono {M N : Nat} {r : List Int} (h : Bd M r) (hn : M ≤ N) : Bd N r := fun t => Nat.le_trans (h t) hn
theorem Bd.set {M : Nat} {r : List Int} (h : Bd M r) {n : Nat} {c : Int} (hc : c.natAbs ≤ M) : Bd M (r.set n c) := fun t => by
  rw [List.getD_eq_getElem?_getD, List.getElem?_set]
  by_cases e : n = t
  · subst e
    by_cases l : n < r.length
    · simp [l]; exact hc
    · simp [l]
  · simp only [e, if_false]
    exact h t
theorem Bd.take {M : Nat} {r : List Int} (h : Bd M r) (k : Nat) : Bd M (r.take k) := bd_of fun _ hx => h.mem (List.mem_of_mem_take hx)
theorem subs_bd {M B : Nat} {r f : List Int} {c : Int} {a : Nat} (hr : Bd M r) (hc : c.natAbs ≤ M) (hf : Bd B f) (h : a + f.length ≤ r.length) : Bd (M * (B + 1)) (subs c r a f) := fun t => by
  rw [subs_get _ _ _ _ _ h]
  have h1 := hr t
  have h2 : (if a ≤ t then f.getD (t - a) 0 else 0).natAbs ≤ B := by
    split
    · exact hf _
    · simp
  have h3 : (c * (if a ≤ t then f.getD (t - a) 0 else 0)).natAbs ≤ M * B := by
    rw [Int.natAbs_mul]
    exact Nat.mul_le_mul hc h2
  have h4 := Int.natAbs_sub_le (r.getD t 0) (c * (if a ≤ t then f.getD (t - a) 0 else 0))
  rw [Nat.mul_add, Nat.mul_one]
  omega
theorem fdiv_le {x l : Int} (hl : l ≠ 0) : (x.fdiv l).natAbs ≤ x.natAbs := by
  rcases Int.lt_or_gt_of_ne hl with h | h
  · have e : x.fdiv l = (-x).fdiv (-l) := by rw [Int.neg_fdiv_neg]
    rw [e, Int.fdiv_eq_ediv_of_nonneg _ (by omega)]
    have := Int.natAbs_ediv_le_natAbs (-x) (-l)
    rwa [Int.natAbs_neg] at this
  · rw [Int.fdiv_eq_ediv_of_nonneg _ (by omega)]
    exact Int.natAbs_ediv_le_natAbs x l
theorem divP_bd {f : List Int} {m B : Nat} {l : Int} (hl : l ≠ 0) (hm : f.length = m) (hf : Bd B f) : ∀ (n M : Nat) (r q r' q' : List Int), n + m ≤ r.length + 1 ∨ n = 0 → Bd M r → Bd M q → divP f m l n r q = some (r', q') → Bd (M * (B + 1) ^ n) q'
  | 0, M, r, q, r', q', _, _, hq, e => by
    cases e
    simpa using hq
  | n + 1, M, r, q, r', q', h, hr, hq, e => by
    unfold divP at e
    split at e
    · cases e
    · have hc : ((r.getD (n + m - 1) 0).fdiv l).natAbs ≤ M := Nat.le_trans (fdiv_le hl) (hr _)
      have up : M ≤ M * (B + 1) := Nat.le_mul_of_pos_right _ (by omega)
      have := divP_bd hl hm hf n (M * (B + 1)) _ _ r' q' (by rw [subs_len]; omega) (subs_bd hr hc hf (by omega)) ((hq.set hc).mono up) e
      rwa [Nat.mul_assoc, ← Nat.pow_succ'] at this
/-! products -/
def pf : List Int → List Int → Nat → Int
  | [], _, _ => 0
  | x :: f, g, t => x * g.getD t 0 + (match t with | 0 => 0 | t + 1 => pf f g t)
theorem getD_snoc (g : List Int) (y : Int) (t : Nat) : (g ++ [y]).getD t 0 = g.getD t 0 + if t = g.length then y else 0 := by
  rw [List.getD_eq_getElem?_getD, List.getD_eq_getElem?_getD]
  rcases Nat.lt_trichotomy t g.length with h | h | h
  · rw [List.getElem?_append_left h, if_neg (by omega)]; simp
  · subst h; simp
  · rw [List.getElem?_eq_none (by rw [List.length_append]; simp; omega), List.getElem?_eq_none (by omega), if_neg (by omega)]; simp
theorem getD_out {g : List Int} {t : Nat} (h : g.length ≤ t) : g.getD t 0 = 0 := by
  rw [List.getD_eq_getElem?_getD, List.getElem?_eq_none h]; rfl
theorem pf_snoc_f (g : List Int) (x : Int) : ∀ (f : List Int) (t : Nat), pf (f ++ [x]) g t = pf f g t + if f.length ≤ t then x * g.getD (t - f.length) 0 else 0
  | [], t => by cases t <;> simp [pf]
  | z :: f, 0 => by simp [pf]
  | z :: f, t + 1 => by
    show z * g.getD (t + 1) 0 + pf (f ++ [x]) g t = z * g.getD (t + 1) 0 + pf f g t + _
    rw [pf_snoc_f g x f t, List.length_cons, Nat.add_sub_add_right]
    by_cases h : f.length ≤ t
    · rw [if_pos h, if_pos (by omega)]; omega
    · rw [if_neg h, if_neg (by omega)]; omega
theorem pf_snoc_g (g : List Int) (y : Int) : ∀ (f : List Int) (t : Nat), pf f (g ++ [y]) t = pf f g t + if g.length ≤ t then f.getD (t - g.length) 0 * y else 0
  | [], t => by simp [pf]
  | z :: f, 0 => by
    show z * (g ++ [y]).getD 0 0 + 0 = z * g.getD 0 0 + 0 + _
    rw [getD_snoc]
    by_cases h : g.length = 0
    · rw [if_pos h.symm, if_pos (by omega), h]; simp; rw [Int.mul_add]
    · rw [if_neg (Ne.symm h), if_neg (by omega)]; simp
  | z :: f, t + 1 => by
    show z * (g ++ [y]).getD (t + 1) 0 + pf f (g ++ [y]) t = z * g.getD (t + 1) 0 + pf f g t + _
    rw [getD_snoc, pf_snoc_g g y f t]
    by_cases h : t + 1 = g.length
    · rw [if_pos h, if_neg (by omega), if_pos (by omega), h, Nat.sub_self]
      simp
      omega
    · rw [if_neg h]
      by_cases h2 : g.length ≤ t
      · rw [if_pos h2, if_pos (by omega), show t + 1 - g.length = (t - g.length) + 1 by omega]
        simp
        omega
      · rw [if_neg h2, if_neg (by omega)]
        simp
theorem pf_zero (g : List Int) : ∀ (f : List Int) (t : Nat), f.length + g.length ≤ t + 1 → pf f g t = 0
  | [], t, _ => by simp [pf]
  | z :: f, 0, h => by
    rw [List.length_cons] at h
    have : g.length = 0 := by omega
    show z * g.getD 0 0 + 0 = 0
    rw [getD_out (by omega)]; simp
  | z :: f, t + 1, h => by
    rw [List.length_cons] at h
    show z * g.getD (t + 1) 0 + pf f g t = 0
    by_cases hf : f.length = 0
    · obtain rfl := List.eq_nil_of_length_eq_zero hf
      rw [getD_out (by simp at h; omega)]; simp [pf]
    · rw [pf_zero g f t (by omega), getD_out (by omega)]; simp
theorem pf_bd {F G : Nat} {g : List Int} (hg : Bd G g) : ∀ (f : List Int) (t : Nat), Bd F f → (pf f g t).natAbs ≤ f.length * (F * G)
  | [], t, _ => by simp [pf]
  | z :: f, t, h => by
    have hz : z.natAbs ≤ F := h.mem List.mem_cons_self
    have hf : Bd F f := bd_of fun x hx => h.mem (List.mem_cons_of_mem _ hx)
    have h1 : (z * g.getD t 0).natAbs ≤ F * G := by rw [Int.natAbs_mul]; exact Nat.mul_le_mul hz (hg t)
    rw [List.length_cons, Nat.succ_mul]
    cases t with
    | zero =>
      show (z * g.getD 0 0 + 0).natAbs ≤ _
      rw [Int.add_zero]; omega
    | succ t =>
      show (z * g.getD (t + 1) 0 + pf f g t).natAbs ≤ _
      have := pf_bd hg f t hf
      have := Int.natAbs_add_le (z * g.getD (t + 1) 0) (pf f g t)
      omega
/-- what was multiplied comes out again -/
theorem divP_pf {f : List Int} {m : Nat} {l : Int} (hl : l ≠ 0) (hm : f.length = m) (h1 : 1 ≤ m) (hlast : f.getD (m - 1) 0 = l) : ∀ (n : Nat) (g r q : List Int), g.length = n → n + m ≤ r.length + 1 → n ≤ q.length → (∀ t, r.getD t 0 = pf f g t) →
    ∃ r' q', divP f m l n r q = some (r', q') ∧ (∀ t, r'.getD t 0 = 0) ∧ ∀ t, q'.getD t 0 = if t < n then g.getD t 0 else q.getD t 0
  | 0, g, r, q, hg, _, _, hr => by
    obtain rfl := List.eq_nil_of_length_eq_zero hg
    refine ⟨r, q, rfl, fun t => ?_, fun t => by rw [if_neg (by omega)]⟩
    rw [hr t]
    have : ∀ (f : List Int) (t : Nat), pf f [] t = 0 := by
      intro f
      induction f with
      | nil => intro t; rfl
      | cons z f ih =>
        intro t
        cases t with
        | zero => simp [pf]
        | succ t => simp [pf, ih t]
    exact this f t
  | n + 1, g, r, q, hg, hrl, hq, hr => by
    have hne : g ≠ [] := fun e => by rw [e] at hg; simp at hg
    obtain ⟨g0, y, rfl⟩ : ∃ g0 y, g = g0 ++ [y] := ⟨g.dropLast, g.getLast hne, (List.dropLast_concat_getLast hne).symm⟩
    have hg0 : g0.length = n := by simpa using hg
    have top : r.getD (n + m - 1) 0 = l * y := by
      rw [hr, pf_snoc_g, pf_zero _ _ _ (by omega), if_pos (by omega), show n + m - 1 - g0.length = m - 1 by omega, hlast]
      simp
    have e1 : (l * y).fdiv l = y := Int.mul_fdiv_cancel_left _ hl
    have e2 : (l * y).fmod l = 0 := Int.mul_fmod_right ..
    obtain ⟨r', q', ed, z, w⟩ := divP_pf hl hm h1 hlast n g0 (subs y r n f) (q.set n y) hg0 (by rw [subs_len]; omega) (by rw [List.length_set]; omega) fun t => by
      rw [subs_get _ _ _ _ _ (by omega), hr t, pf_snoc_g, hg0]
      by_cases h : n ≤ t
      · rw [if_pos h, if_pos h, Int.mul_comm]; omega
      · rw [if_neg h, if_neg h]; simp
    refine ⟨r', q', ?_, z, fun t => ?_⟩
    · unfold divP
      rw [top, e1, e2, if_neg (by simp)]
      exact ed
    · rw [w t, getD_snoc, hg0, getD_set _ _ _ _ (by omega)]
      rcases Nat.lt_trichotomy t n with h | h | h
      · rw [if_pos h, if_pos (by omega), if_neg (by omega)]; simp
      · subst h
        rw [if_neg (by omega), if_pos rfl, if_pos (by omega), if_pos rfl, getD_out (by omega)]; simp
      · rw [if_neg (by omega), if_neg (by omega), if_neg (by omega)]
end M3

set_option Elab.async false
set_option maxRecDepth 100000
set_option maxHeartbeats 4000000
/-! enumerate(t), t a tuple -/
namespace EN
open PySem PySem.Spec PyProof.Rows L2
open Sem (wp)
theorem new_enum {v : Value} {o : Obj} {G : Heap → Prop} (B : Begins v o G) :
    Meets (Builtin.«enumerate.__new__» ⟨[.type "enumerate", v], []⟩) (fun _ R s => G s.heap ∧
      R (.ok (.ret (.ref (s.heap.push o).objs.size)))
        { s with heap := (s.heap.push o).push { cls := .type "enumerate", data := .fields #[.none, .bool false, .ref s.heap.objs.size, rawInt 0, .none, .none] } }) := by
  refine .of_wp fun prog w A R s h => ?_
  obtain ⟨hp, g, d, tk, os⟩ := s
  obtain ⟨hG, h⟩ := h
  have sub := sub_enumerate
  have begin_ : ∀ {A' : Around} {E : Value → Shared → Prop} {Q : Value → Shared → Prop}, Q (.ref hp.objs.size) ⟨hp.push o, g, d, tk, os⟩ →
      wpAny (model prog w) A' (pyIter v) Q E ⟨hp, g, d, tk, os⟩ := fun q => B.iter prog w _ _ ⟨hp, g, d, tk, os⟩ _ hG q
  wp_walk using begin_
  refine wpAny_stack_any fun st => wpAny_pure ?_
  split
  · rename_i c _ _ _ _ _
    cases (c == Value.type "enumerate")
    all_goals
      wp_walk using begin_
      exact ⟨_, rfl, h⟩
  · wp_walk using begin_
    exact ⟨_, rfl, h⟩
theorem call_enum {prog : Program} {w : World} {A : Around} {E : Value → Shared → Prop} {s : Shared} {v : Value} {o : Obj} {G : Heap → Prop} {Q : Value → Shared → Prop} (B : Begins v o G) (hG : G s.heap)
    (h : ∀ h', IsEnum h' (s.heap.objs.size + 1) s.heap.objs.size 0 .none → h'.get? s.heap.objs.size = some o →
      (∀ b u, s.heap.get? b = some u → h'.get? b = some u) → Q (.ref (s.heap.objs.size + 1)) { s with heap := h' }) :
    wpAny (model prog w) A (call (.type "enumerate") [v]) Q E s := by
  apply callType_new F.called_enumerate (by decide) (F.typeCall_enumerate_1 _) (F.newCall_enumerate_1 _) (fun obj => F.args_object_init_2 obj _) F.entry_enumerate_new (new_enum B)
  refine ⟨hG, ?_⟩
  have size : (s.heap.push o).objs.size = s.heap.objs.size + 1 := Heap.size_push ..
  show _ ∧ _
  rw [size]
  have made : IsEnum ((s.heap.push o).push { cls := .type "enumerate", data := .fields #[.none, .bool false, .ref s.heap.objs.size, rawInt 0, .none, .none] }) (s.heap.objs.size + 1) s.heap.objs.size 0 .none := by
    have e := Heap.get?_push_size (s.heap.push o) (o := { cls := .type "enumerate", data := .fields #[.none, .bool false, .ref s.heap.objs.size, rawInt 0, .none, .none] }) rfl
    rwa [size] at e
  refine ⟨⟨_, made, rfl⟩, h _ made ?_ ?_⟩
  · exact Heap.get?_push_of_some _ (Heap.get?_push_size _ B.free)
  · intro b u e
    exact Heap.get?_push_of_some _ (Heap.get?_push_of_some _ e)

/-- the tuple at a, each item in a new pair with its place -/
def Pairs (K : PySem.W.Frag) (a : Addr) : It where
  go := fun i H => ∃ (xs : List V) (x : V), SqT K H a xs ∧ xs[i]? = some x
  yld := fun i H v H' => ∃ T x, v = .ref T ∧ H T = none ∧ H' = upd H T (.tup [.int (i : Nat), x]) ∧ ∀ xs, SqT K H a xs → xs[i]? = some x
  stop := fun i H => ∃ xs : List V, SqT K H a xs ∧ xs.length ≤ i
theorem turn_pairs {P : Program} {w : World} {K : PySem.W.Frag} {elts : List Expr} {kk : Nat} {tpos : Pos} (a e it : Addr) :
    Turn P w K (.Tuple elts kk tpos) (Pairs K a) [e, it] e (fun i h => (∃ old, IsEnum h e it ((i : Nat) : Int) old) ∧ h.IsTupleIter it a i ∧ e ≠ it) where
  mem := List.mem_cons_self ..
  obj := by
    rintro i h ⟨⟨old, he⟩, ⟨o, ho, hc, hd⟩, _⟩ b hb
    simp only [List.mem_cons, List.not_mem_nil, or_false] at hb
    rcases hb with rfl | rfl
    · exact ⟨_, he, fun v q => nomatch q⟩
    · exact ⟨o, ho, fun v q => by rw [hd] at q; cases q⟩
  keep := by
    rintro i h h' ⟨⟨old, he⟩, hi, hne⟩ k
    exact ⟨⟨old, k e (by simp) _ he⟩, hi.at fun o q => k it (by simp) o q, hne⟩
  item := by
    intro X hP hw hK calm i pins s σ H E I hf st hg
    subst hP hw hK
    obtain ⟨⟨old, he⟩, hit, hne⟩ := st
    obtain ⟨xs, x, hq, hx⟩ := hg
    obtain ⟨its, rv, p, hz⟩ := I.tuple hq
    obtain ⟨u, hu, ru⟩ := rv.get hx
    have le : e < s.heap.objs.size := Heap.lt_size he
    have li : it < s.heap.objs.size := by obtain ⟨_, q, _⟩ := hit; exact Heap.lt_size q
    have tup : s.heap.IsTuple a its.toArray := p
    have nai : a ≠ it := by
      rintro rfl
      obtain ⟨o1, q1, c1, _⟩ := tup
      obtain ⟨o2, q2, c2, _⟩ := hit
      rw [q1] at q2
      cases q2
      rw [c1] at c2
      injection c2 with c3
      exact absurd c3 (by decide)
    have nae : a ≠ e := by
      rintro rfl
      obtain ⟨o1, q1, c1, _⟩ := tup
      have q2 : s.heap.get? a = _ := he
      rw [q1] at q2
      cases q2
      injection c1 with c3
      exact absurd c3 (by decide)
    have lt : i < its.toArray.size := by
      have := (List.getElem?_eq_some_iff.mp hu).1
      simpa using this
    refine wpAny_pyNext_enum_itemD (Draws.tuple (A := X.A.in1) (by exact I.ok.hd calm) it a nai its.toArray) he ⟨hit, tup⟩ lt hne (by simp [hne, Ne.symm nae]) fun y h' tk hy ho st' hT hsz hk => ?_
    have ey : y = u := by
      have : its.toArray[i]? = some u := by simpa using hu
      exact Option.some.inj (hy.symm.trans this)
    subst ey
    refine ⟨_, rfl, wpAny_letOwnedTupleGo_enum (s := { s with heap := h', toks := tk + 1 }) ho fun h2 he2 sb => ?_⟩
    have sb' : Heap.SameBut e h' h2 := sb
    have hT2 : h2.get? s.heap.objs.size = some { cls := .type "tuple", data := .seq #[.int i tk, y] } := (sb'.2 _ (Nat.ne_of_gt le)).trans hT
    have new : ObjOk X.prog X.w (upd H s.heap.objs.size (.tup [.int (i : Nat), x])) h2 s.heap.objs.size (.tup [.int (i : Nat), x]) :=
      ⟨by show 2 ≤ sizeLine; decide, [.int i tk, y], .cons ⟨_, rfl⟩ (.cons ru .nil), ⟨_, hT2, rfl, _, rfl⟩⟩
    have I2 : Inv X pins σ (upd H s.heap.objs.size (.tup [.int (i : Nat), x])) { s with heap := h2, toks := tk + 1 } := by
      refine I.turnedNew (ch := [e, it]) (fun b ob hb q => ?_) hf (Nat.le_refl _) new
      have ne : b ≠ e := fun z => hb (by simp [z])
      have ni : b ≠ it := fun z => hb (by simp [z])
      exact (sb'.2 b ne).trans (hk b ob ne ni q)
    refine ⟨.ref s.heap.objs.size, _, I2, rfl, ⟨_, x, rfl, I.hok.fresh (Nat.le_refl _), rfl, fun ys hy => by rw [I.tuple_inj hy hq]; exact hx⟩, ⟨⟨y, ?_⟩, st'.1.at fun o q => (sb'.2 it (Ne.symm hne)).trans q, hne⟩, fun b hb => ?_⟩
    · have e1 : ((i + 1 : Nat) : Int) = (i : Int) + 1 := by omega
      rw [e1]
      exact he2
    · have lb : b < s.heap.objs.size := by
        simp only [List.mem_cons, List.not_mem_nil, or_false] at hb
        rcases hb with rfl | rfl
        · exact le
        · exact li
      rw [upd_ne (Nat.ne_of_lt lb)]
      exact (hf b hb).1
  done := by
    intro X hP hw hK calm i pins s σ H E I hf st hg
    subst hP hw hK
    obtain ⟨⟨old, he⟩, hit, hne⟩ := st
    obtain ⟨xs, hq, hx⟩ := hg
    obtain ⟨its, rv, p, hz⟩ := I.tuple hq
    have tup : s.heap.IsTuple a its.toArray := p
    have nai : a ≠ it := by
      rintro rfl
      obtain ⟨o1, q1, c1, _⟩ := tup
      obtain ⟨o2, q2, c2, _⟩ := hit
      rw [q1] at q2
      cases q2
      rw [c1] at c2
      injection c2 with c3
      exact absurd c3 (by decide)
    obtain ⟨f0, f1, f2, f3, f4, f5⟩ := hf it (by simp)
    have hl := rv.length
    have none_ : its.toArray[i]? = none := by simp; omega
    have hT : s.TypeIs (.ref e) "enumerate" := ⟨_, he, rfl⟩
    unfold pyNext
    refine wpAny_bind (wpAny_attempt (wpAny_callSpecial?_slot (name := Str.ofString "__next__") hT F.slot_enumerate_next
      (wpAny_call_entry F.slot_enumerate_next hT F.entry_enumerate_next ?_ (F.args_enumerate_next_1 _))))
    show wpAny _ _ (field (.ref e) 2 >>= _) _ _ _
    refine wpAny_bind (wpAny_field he rfl (x := .ref it) rfl ?_)
    refine wpAny_bind (wpAny_nextOf_tuple_end (I.ok.hd calm) hit tup none_ fun h' x he' hx' => ?_)
    obtain ⟨o, ho, hc⟩ := hx'
    refine wpAny_bind (wpAny_isInstance (T := "StopIteration") (b := true) ⟨o, ho, hc⟩ isSubtype_stop ?_)
    refine wpAny_pure ⟨rfl, ?_⟩
    exact I.turned (t' := s.toks) (fun b o hb q => he' b o hb q) f0 f1 f3 f4 f5
  self := by
    rintro A i s Q E ⟨⟨old, he⟩, _⟩ h
    exact wpAny_pyIter_enum he h
section
variable {X : Cx}
def tPairs (K : PySem.W.Frag) (ta : TA) : TI := fun σ H R => ta σ H fun vs H1 => ∃ a xs, vs = [.ref a] ∧ SqT K H1 a xs ∧ R (Pairs K a) H1
theorem pi_pairs {e : Expr} {ta : TA} {p pos tpos : Pos} {elts : List Expr} {kk : Nat} (glob : Gl X "enumerate") (none_ : X.mg "enumerate" = none) (args : PA X [e] ta)
    (star : starEach [e] X.env = [(false, eval e X.env)] := by rfl) : PI X (.Tuple elts kk tpos) (.Call (.Name "enumerate" p) [e] [] pos) (tPairs X.K ta) := by
  constructor
  intro pins s σ H R I h
  refine Call_ (ld_blt I glob none_ boot_enumerate ?_)
  refine PyProof.Rows.callWith_type1 (thn (args.run pos pins s σ H _ I h) fun us s1 got => ?_) star rfl
  obtain ⟨vs, H1, I1, r1, a, xs, ex, hq, q⟩ := got
  subst ex
  obtain ⟨u, eu, ru⟩ := vals1 r1
  subst eu
  have eu : u = Value.ref a := ru
  subst eu
  obtain ⟨its, rv, p', hz⟩ := I1.tuple hq
  refine call_enum (begins_tuple a its.toArray) p' fun h' he hit hk => wpAny_pyIter_enum he ?_
  have I2 : Inv X pins σ H1 { s1 with heap := h' } := I1.kept (t' := s1.toks) hk
  refine ⟨s1.heap.objs.size + 1, [s1.heap.objs.size + 1, s1.heap.objs.size], _, _, H1, rfl, I2, turn_pairs a (s1.heap.objs.size + 1) s1.heap.objs.size, ⟨⟨.none, he⟩, ⟨_, hit, rfl, rfl⟩, Nat.succ_ne_self _⟩, fun b hb => ?_, q⟩
  have above : s1.heap.objs.size ≤ b := by
    simp only [List.mem_cons, List.not_mem_nil, or_false] at hb
    rcases hb with rfl | rfl
    · exact Nat.le_add_right _ _
    · exact Nat.le_refl _
  exact I1.fpOk above (I1.hok.fresh above)
/-- the loop over the pairs -/
theorem for_pairs {K : PySem.W.Frag} {a : Addr} {xs : List V} {g : TG} {tb : TS} {D : Ends} {σ : L2.St} {H : Hp} (Pv : Nat → L2.St → Hp → Prop) (h0 : Pv 0 σ H) (hl : ∀ i σ H, i ≤ xs.length → Pv i σ H → SqT K H a xs)
    (turn : ∀ i x σ H T, xs[i]? = some x → Pv i σ H → H T = none → g (.ref T) σ (upd H T (.tup [.int (i : Nat), x])) fun σ2 H2 => tb { D with nx := Pv (i + 1), ct := Pv (i + 1), bk := D.nx } σ2 H2) (done : ∀ σ H, Pv xs.length σ H → D.nx σ H) :
    ∃ W : Nat → Nat → L2.St → Hp → Prop, (∃ m, W 0 m σ H) ∧ ∀ i m σ H, W i m σ H →
      ((Pairs K a).stop i H ∧ D.nx σ H) ∨ ((Pairs K a).go i H ∧ ∃ N : L2.St → Hp → Prop, (∀ σ' H', N σ' H' → ∃ m', m' < m ∧ W (i + 1) m' σ' H') ∧ ∀ x H', (Pairs K a).yld i H x H' → g x σ H' fun σ2 H2 => tb { D with nx := N, ct := N, bk := D.nx } σ2 H2) := by
  refine ⟨fun i m σ H => m = xs.length - i ∧ i ≤ xs.length ∧ Pv i σ H, ⟨xs.length, by simp, Nat.zero_le _, h0⟩, ?_⟩
  rintro i m σ H ⟨rfl, le, pv⟩
  have here := hl i σ H le pv
  rcases Nat.lt_or_ge i xs.length with lt | ge
  · refine .inr ⟨⟨xs, xs[i], here, List.getElem?_eq_getElem lt⟩, Pv (i + 1), fun σ' H' n => ⟨xs.length - (i + 1), by omega, rfl, lt, n⟩, ?_⟩
    rintro v H' ⟨T, x, rfl, nT, rfl, hx⟩
    exact turn i x σ H T (hx xs here) pv nT
  · have e : i = xs.length := by omega
    subst e
    exact .inl ⟨⟨xs, here, Nat.le_refl _⟩, done σ H pv⟩
end
end EN

set_option Elab.async false
set_option linter.all false
set_option maxRecDepth 100000
set_option maxHeartbeats 4000000
/-! operators and calls that the layer has for fewer numbers -/
namespace OPS
open PySem PySem.Spec PyProof.Rows L2
section
variable {X : Cx}
/-- a divisor of either sign -/
def CDivZ (_ j : Int) : Prop := j ≠ 0 ∧ j.natAbs.log2 < 9000
theorem op_fdivZ : OpR X (binaryOp .FloorDiv) (rI CDivZ fun i j => .int (i.fdiv j)) := opI fun _ _ _ _ _ _ _ c q => floordiv_int c.1 q (.inl (PyProof.noPylong_of_log2 c.2))
theorem call_divmodZ : CallR X (.builtin "divmod") (fun vs H Q => ∃ i j : Int, vs = [.int i, .int j] ∧ CDivZ i j ∧ ∀ p, H p = none → Q (.ref p) (upd H p (.tup [.int (i.fdiv j), .int (i.fmod j)]))) := by
  intro pins s σ H vs us Q I r h
  obtain ⟨i, j, ev, c, q⟩ := h
  subst ev
  obtain ⟨u, v, eu, ⟨t, et⟩, ⟨t', et'⟩⟩ := vals2 r
  subst eu et et'
  apply divmod_int c.1 _ (.inl (PyProof.noPylong_of_log2 c.2))
  have free : H s.heap.objs.size = none := I.hok.fresh (Nat.le_refl _)
  refine ⟨.ref s.heap.objs.size, _, I.laid (fun b o e => Heap.get?_push_of_some _ e) (Nat.le_refl _) ?_, rfl, q _ free⟩
  exact ⟨by show 2 ≤ sizeLine; decide, [.int (i.fdiv j) s.toks, .int (i.fmod j) (s.toks + 1)], .cons ⟨_, rfl⟩ (.cons ⟨_, rfl⟩ .nil), ⟨_, Heap.get?_push_size s.heap rfl, rfl, 0, rfl⟩⟩
/-- xs[i] as read ahead of xs[i] op= .. -/
theorem get_list : PGet X (fun o i H Q => ∃ (p : Addr) (xs : List V) (k : Nat) (v : V), o = .ref p ∧ i = .int (k : Int) ∧ SqL X.K H p xs ∧ xs[k]? = some v ∧ Q v H) := by
  intro pins s σ H o i ov iv Q I ro ri h
  obtain ⟨p, xs, k, v, eo, ei, hq, hv, q⟩ := h
  subst eo ei
  have eov : ov = Value.ref p := ro
  subst eov
  obtain ⟨t, et⟩ := ri
  subst et
  obtain ⟨its, r, pl, hz⟩ := I.list hq
  obtain ⟨u, hu, ru⟩ := r.get hv
  have lt : k < its.length := (List.getElem?_eq_some_iff.mp hu).1
  have hl := r.length
  have hn := line63
  refine wpAny_getItem_list pl.isList (by omega) (by omega) (x := u) (by simpa using hu) ⟨v, H, I, ru, q⟩
/-- any(xs), xs a list of ints -/
def rAnyI (K : PySem.W.Frag) : List V → Hp → VK → Prop := fun vs H Q => ∃ (a : Addr) (ns : List Int), vs = [.ref a] ∧ SqL K H a (ns.map V.int) ∧ Q (.bl (ns.any fun n => n != 0)) H
theorem dpI {K : PySem.W.Frag} {H : Hp} : ∀ ns : List Int, DpAll K H (ns.map V.int) (ns.map PyData.int)
  | [] => .nil
  | n :: r => .cons (.int n) (dpI r)
theorem plain_ints : ∀ ns : List Int, PyData.plainAll (ns.map PyData.int) = true
  | [] => rfl
  | _ :: r => by simp [PyData.plainAll, PyData.plain, plain_ints r]
theorem any_truthy : ∀ ns : List Int, (ns.map PyData.int).any PyData.truthy = ns.any fun n => n != 0
  | [] => rfl
  | n :: r => by simp [PyData.truthy, List.any_map]; rfl
theorem call_anyI (calm : X.calm = true) : CallR X (.builtin "any") (rAnyI X.K) := by
  intro pins s σ H vs us Q I r h
  obtain ⟨a, ns, ev, hs, q⟩ := h
  subst ev
  rw [Vals.ref1 r]
  obtain ⟨as, reads⟩ := Dp.reads I (.list (ns.map PyData.int)) (.ref a) (.ref a) (.lst hs (dpI ns)) rfl
  obtain ⟨its, rv, hl, _⟩ := I.list hs
  cases reads with
  | list hg hc hd hr =>
    rename_i o vs n bs
    refine PySem.W.any_list_data (vs := vs) (I.ok.hd calm) ⟨_, hg, hc, _, hd⟩ hr (plain_ints ns) (fun x hx => ?_) fun h' tk hk => ?_
    · obtain ⟨n, _, rfl⟩ := List.mem_map.mp hx
      trivial
    · exact ⟨.bl _, H, I.kept hk, by rw [any_truthy]; rfl, q⟩
end
end OPS

set_option Elab.async false
set_option linter.all false
set_option maxRecDepth 100000
set_option maxHeartbeats 4000000
namespace Z
open PySem PySem.Spec PyProof.Rows L2 GG
def top (i : Nat) : Stmt := PySem.Challenge.pw_bentcoin_k03_rows_parted.main.body.getD i (.Pass ⟨0, 0, 0, 0⟩)
abbrev sPen : Stmt := top 4
abbrev sFresh : Stmt := top 5
abbrev sDraw : Stmt := top 6
abbrev sStrip : Stmt := top 7
abbrev sCoef : Stmt := top 8
abbrev sPoly : Stmt := top 9
/-- what follows an if, once for all ways to it -/
theorem if_tail {c : TT} {a b : TS} {D : Ends} {σ : L2.St} {H : Hp} (W : L2.St → Hp → Prop) (tail : ∀ σ H, W σ H → D.nx σ H) (go : (∀ σ H, W σ H → D.nx σ H) → tIfS c a b D σ H) : tIfS c a b D σ H := go tail
theorem on {t u : TS} {D : Ends} {σ : L2.St} {H : Hp} (h : t { D with nx := u D } σ H) : tSeq t u D σ H := h
theorem put_c {v : V} {i : Nat} {D : Ends} {σ : L2.St} {H : Hp} (h : D.nx (σ.set i (some v)) H) : tAsg (tC v) (gName i) D σ H := h
/-! heaps -/
theorem Same.upd {H : Hp} {p : Addr} {o : HO} (h : H p = none) : Same H (L2.upd H p o) := fun b x e => by
  rw [upd_ne (ne_of_none e h)]
  exact e
/-- all that was told of stands, but what is at a -/
def But (a : Addr) (H H' : Hp) : Prop := ∀ b o, H b = some o → b ≠ a → H' b = some o
theorem But.refl (a : Addr) (H : Hp) : But a H H := fun _ _ e _ => e
theorem But.trans {a : Addr} {H H1 H2 : Hp} (x : But a H H1) (y : But a H1 H2) : But a H H2 := fun b o e n => y b o (x b o e n) n
theorem But.of {a : Addr} {H H1 : Hp} (x : Same H H1) : But a H H1 := fun b o e _ => x b o e
theorem But.put {a : Addr} {H : Hp} {o : HO} : But a H (L2.upd H a o) := fun b u e n => by
  rw [upd_ne n]
  exact e
theorem But.free {a : Addr} {H H' : Hp} {l : Addr} (e : But a H H') (n : l ≠ a) (h : H' l = none) : H l = none := by
  cases q : H l with
  | none => rfl
  | some o =>
    rw [e l o q n] at h
    cases h
theorem But.same {a : Addr} {H H0 H' : Hp} (s : Same H0 H) (n : H0 a = none) (b : But a H H') : Same H0 H' := fun c o e => b c o (s c o e) (ne_of_none e n)
theorem But.seq {a c : Addr} {K : PySem.W.Frag} {H H' : Hp} {xs : List V} (e : But a H H') (n : c ≠ a) (h : SqL K H c xs) : SqL K H' c xs := by
  rcases h with (h | ⟨o, h⟩) | h
  · exact .inl (.inl (e _ _ h n))
  · exact .inl (.inr ⟨o, e _ _ h n⟩)
  · exact .inr h
/-- a pen stands at a -/
def Pen (H : Hp) (a l : Addr) : Prop := ∃ (cs : List Int) (pos val : Int), H a = some (.lst [.ref l, .int pos, .int val]) ∧ H l = some (.lst (cs.map V.int)) ∧ 0 ≤ pos
theorem Pen.ne {H : Hp} {a l : Addr} {cs : List Int} {p v : Int} (h : H a = some (.lst [.ref l, .int p, .int v])) (e : H l = some (.lst (cs.map V.int))) : l ≠ a := by
  intro z
  subst z
  rw [h] at e
  cases cs with
  | nil => cases e
  | cons x r => cases e
theorem Pen.put {H : Hp} {a l : Addr} {cs : List Int} {p v q u : Int} (h : H a = some (.lst [.ref l, .int p, .int v])) (e : H l = some (.lst (cs.map V.int))) (hq : 0 ≤ q) : Pen (upd H a (.lst [.ref l, .int q, .int u])) a l :=
  ⟨cs, q, u, upd_same, by rw [upd_ne (Pen.ne h e)]; exact e, hq⟩
theorem Pen.same {H H' : Hp} {a l : Addr} (p : Pen H a l) (s : Same H H') : Pen H' a l := by
  obtain ⟨cs, q, v, h1, h2, h3⟩ := p
  exact ⟨cs, q, v, s _ _ h1, s _ _ h2, h3⟩
theorem dpInts {K : PySem.W.Frag} {H : Hp} : ∀ ns : List Int, DpAll K H (ns.map V.int) (ns.map PyData.int)
  | [] => .nil
  | n :: r => .cons (.int n) (dpInts r)
theorem cut_to {α : Type} (xs : List V) (n : Nat) : ∃ m, cutV xs none (some (n : Int)) = xs.take m := ⟨_, by unfold cutV; rw [HT.sIx_none]; rfl⟩
/-- a row without the zeros at its end -/
def strip (l : List Int) : List Int := (l.reverse.dropWhile (· == 0)).reverse
theorem strip_nil : strip [] = [] := rfl
theorem strip_zero (l : List Int) : strip (l ++ [0]) = strip l := by
  unfold strip
  rw [List.reverse_append]
  rfl
theorem strip_last {l : List Int} {z : Int} (h : z ≠ 0) : strip (l ++ [z]) = l ++ [z] := by
  unfold strip
  rw [List.reverse_append]
  show (List.dropWhile (· == 0) (z :: l.reverse)).reverse = _
  rw [List.dropWhile_cons_of_neg (by simpa using h), List.reverse_cons, List.reverse_reverse]
theorem strip_mem {l : List Int} {c : Int} (h : c ∈ strip l) : c ∈ l := by
  unfold strip at h
  rw [List.mem_reverse] at h
  exact List.mem_reverse.mp ((List.dropWhile_sublist _).subset h)
theorem strip_len (l : List Int) : (strip l).length ≤ l.length := by
  unfold strip
  rw [List.length_reverse]
  have := (List.dropWhile_sublist (· == 0) (l := l.reverse)).length_le
  rwa [List.length_reverse] at this
theorem strip_strip (l : List Int) : strip (strip l) = strip l := by
  rcases List.eq_nil_or_concat (strip l) with e | ⟨r, z, e⟩
  · rw [e]; rfl
  · rw [List.concat_eq_append] at e
    by_cases h : z = 0
    · exfalso
      have e2 : l.reverse.dropWhile (· == 0) = z :: r.reverse := by
        have := congrArg List.reverse e
        unfold strip at this
        rw [List.reverse_reverse, List.reverse_append] at this
        exact this
      have := List.head?_dropWhile_not (p := fun x : Int => x == 0) (l := l.reverse)
      rw [e2] at this
      simp [h] at this
    · rw [e, strip_last h]
theorem eqv_nil : ∀ {xs : List Int}, xs ≠ [] → (!PyData.eqv (.list (xs.map PyData.int)) (.list [])) = true
  | [], h => absurd rfl h
  | _ :: _, _ => rfl
structure Names (mg : Str → Option Value) : Prop where
  list : mg "list" = none
  tuple : mg "tuple" = none
  len : mg "len" = none
  range : mg "range" = none
section
variable {P : Program} {w : World} {K : PySem.W.Frag} {mg : Str → Option Value} {base : Heap}
/-! ### the pen -/
def spPen (K : PySem.W.Frag) : Sp := fun vs H Q _ => ∃ (s : Addr) (ns : List Int), vs = [.ref s] ∧ SqL K H s (ns.map V.int) ∧ ns.length ≤ 63 ∧ ∀ p l H', Same H H' → H p = none → H l = none → Pen H' p l → Q (.ref p) H'
theorem scPen : FnScope ["script"] ["script"] (defScope sPen) := ⟨rfl, rfl, rfl, by decide +kernel, rfl, by decide +kernel, by decide +kernel⟩
theorem ok_pen {f : Addr} {fd : FuncData} (F : Fun K "_law_pen" "_law_pen" sPen f fd) (T : Names mg) : FnOk P w K mg base CX0 1 f fd ["script"] (spPen K) := by
  refine F.ok scPen (fun vs H Q E h => ?_) (fun cdv A outer s H vs Q E hr h => ?_)
  · obtain ⟨a, ns, rfl, _⟩ := h
    rfl
  · obtain ⟨a, ns, rfl, hS, hlen, q⟩ := h
    refine ⟨_, pss_one (ps_ret (pe_lst (pa_cons (pe_callTy call_list_of (by rfl) T.list (by decide +kernel) (pa_cons (pe_slice sl_list (pv 0) po_none (po_some pe_int)) pa_nil)) (pa_cons pe_int (pa_cons pe_int pa_nil))))), ?_⟩
    refine ⟨.ref a, rfl, 63, rfl, a, _, rfl, hS, fun c nc => ?_⟩
    refine ⟨c, _, rfl, .inl (.inl (.inl upd_same)), fun l nl => ?_⟩
    refine ⟨by show 3 ≤ sizeLine; decide, fun p np => ?_⟩
    obtain ⟨m, em⟩ := cut_to (α := Int) (ns.map V.int) 63
    have em : cutV (ns.map V.int) none (some 63) = (ns.map V.int).take m := em
    have lp : l ≠ p := ne_of_none upd_same np
    have h1 := (Same.trans (Same.upd (o := .lst (cutV (ns.map V.int) none (some 63))) nc) (Same.trans (Same.upd (o := .lst (cutV (ns.map V.int) none (some 63))) nl) (Same.upd (o := .lst [.ref l, .int 0, .int 0]) np)))
    refine q p l _ h1 (Same.free (Same.trans (Same.upd nc) (Same.upd nl)) np) (Same.free (Same.upd nc) nl) ⟨ns.take m, 0, 0, upd_same, ?_, by decide⟩
    rw [upd_ne lp, upd_same, em, List.map_take]
/-! ### a fresh number -/
def spFresh : Sp := fun vs H Q _ => ∃ (a l : Addr), vs = [.ref a] ∧ Pen H a l ∧ ∀ (v : Int) H', But a H H' → Pen H' a l → Q (.int v) H'
theorem scFresh : FnScope ["pen", "position", "cell", "modulus", "state", "mixed", "step"] ["pen"] (defScope sFresh) := ⟨rfl, rfl, rfl, by decide +kernel, rfl, by decide +kernel, by decide +kernel⟩
theorem ok_fresh {f : Addr} {fd : FuncData} (F : Fun K "_law_fresh" "_law_fresh" sFresh f fd) (T : Names mg) : FnOk P w K mg base CX0 1 f fd ["pen"] spFresh := by
  refine F.ok scFresh (fun vs H Q E h => ?_) (fun cdv A outer s H vs Q E hr h => ?_)
  · obtain ⟨a, l, rfl, _⟩ := h
    rfl
  · obtain ⟨a, l, rfl, ⟨cs, pos, val, ha, hl, hp⟩, q⟩ := h
    have hu : A.units + 3 + 64 < cLine := hr.units
    refine ⟨_, pss_cons (ps_set (i := 1) scFresh.nd rfl (.inl rfl) (pe_ix ix_list (pv 0) pe_int (fun _ _ => rfl)))
      (pss_cons (ps_asg (pe_op op_add (pv 1) pe_int) (pg_sub (pv 0) pe_int set_list))
      (pss_cons (ps_set (i := 2) scFresh.nd rfl (.inl rfl) pe_int)
      (pss_cons (ps_if (pt_cmpR (op_neD hu) (pe_ix ix_list (pv 0) pe_int (fun _ _ => rfl)) (pe_lst pa_nil) (nomark _))
        (pss_one (ps_set (i := 2) scFresh.nd rfl (.inl rfl) (pe_ix ix_list (pe_ix ix_list (pv 0) pe_int (fun _ _ => rfl)) (pe_op op_mod (pv 1) (pe_callB call_len_seq (by rfl) T.len PySem.boot_len (pa_cons (pe_ix ix_list (pv 0) pe_int (fun _ _ => rfl)) pa_nil))) (fun _ _ => rfl)))) pss_nil)
      (pss_cons (ps_if (PW.pt (pw_and (pt_cmpR op_lt (pv 1) (pe_callB call_len_seq (by rfl) T.len PySem.boot_len (pa_cons (pe_ix ix_list (pv 0) pe_int (fun _ _ => rfl)) pa_nil)) (nomark _)) (pw_and1 (pt_cmpR op_ge (pv 2) (pe_op op_pow pe_int pe_int) (nomark _)))))
        (pss_one (ps_ret (pe_op op_sub (pv 2) (pe_op op_pow pe_int pe_int)))) pss_nil)
      (pss_cons (ps_set (i := 3) scFresh.nd rfl (.inl rfl) pe_int)
      (pss_cons (ps_set (i := 4) scFresh.nd rfl (.inl rfl) (pe_op op_mod (pe_op op_add (pe_op op_add (pe_op op_mul (pv 2) pe_int) (pe_op op_mul pe_int (pv 1))) pe_int) (pv 3)))
      (pss_cons (ps_set (i := 5) scFresh.nd rfl (.inl rfl) (pv 4))
      (pss_cons (ps_for PassesOwn.never rfl (pi_range1 rfl T.range (pa_cons pe_int pa_nil)) (pg_name (i := 6) scFresh.nd rfl (.inl rfl))
        (pss_cons (ps_set (i := 4) scFresh.nd rfl (.inl rfl) (pe_op op_add (pe_op op_mul (pv 4) (pv 4)) (pe_op op_mul (pe_op op_mul pe_int (pe_op op_add (pv 6) pe_int)) (pe_op op_add (pv 1) pe_int))))
        (pss_cons (ps_set (i := 4) scFresh.nd rfl (.inl rfl) (pe_op op_mod (pe_op op_add (pv 4) (pv 2)) (pv 3)))
        (pss_one (ps_set (i := 5) scFresh.nd rfl (.inl rfl) (pe_op op_add (pe_op op_mul (pv 5) (pv 3)) (pv 4)))))))
      (pss_one (ps_ret (pv 5))))))))))), ?_⟩
    -- position = pen[1]; pen[1] = position + 1; cell = 0
    refine ⟨.ref a, rfl, a, _, 1, .int pos, rfl, rfl, SqL.of ha, atI_nat (j := 1) rfl, ?_⟩
    refine ⟨_, rfl, _, _, rfl, rfl, .ref a, rfl, a, _, 1, 1, rfl, rfl, ha, rfl, ?_⟩
    have ha1 : upd H a (.lst [.ref l, .int (pos + 1), .int val]) a = some (.lst [.ref l, .int (pos + 1), .int val]) := upd_same
    have hl1 : upd H a (.lst [.ref l, .int (pos + 1), .int val]) l = some (.lst (cs.map V.int)) := by
      rw [upd_ne (Pen.ne ha hl)]
      exact hl
    have b1 : But a H (upd H a (.lst [.ref l, .int (pos + 1), .int val])) := But.put
    change (_ : Hp → Prop) (upd H a (.lst [.ref l, .int (pos + 1), .int val]))
    generalize upd H a (.lst [.ref l, .int (pos + 1), .int val]) = H1 at ha1 hl1 b1 ⊢
    -- if pen[0] != []
    have ec : cs = [] ∨ ∃ x r, cs = x :: r := by
      cases cs with
      | nil => exact .inl rfl
      | cons x r => exact .inr ⟨x, r, rfl⟩
    dsimp only
    refine on (put_c ?_)
    dsimp only
    refine on (if_tail (fun σ H' => ∃ cell : Int, σ = [some (V.ref a), some (V.int pos), some (V.int cell), none, none, none, none] ∧ Same H1 H') ?_ (fun t => ?_))
    rotate_left
    · refine ⟨.ref a, rfl, a, _, 0, .ref l, rfl, rfl, SqL.of ha1, atI_nat (j := 0) rfl, Nat.zero_le _, fun e0 ne0 => ?_⟩
      have s2 : Same H1 (upd H1 e0 (.lst [])) := Same.upd ne0
      have ha2 := s2 _ _ ha1
      have hl2 := s2 _ _ hl1
      have d0 : Dp K (upd H1 e0 (.lst [])) (.ref e0) (.list []) := .lst (SqL.of upd_same) .nil
      generalize upd H1 e0 (.lst []) = H2 at s2 ha2 hl2 d0 ⊢
      refine ⟨.list (cs.map PyData.int), .list [], .lst (SqL.of hl2) (dpInts cs), d0, PySem.W.ke_shaped_ints cs, rfl, _, rfl, ?_⟩
      rcases ec with rfl | ⟨x, r, rfl⟩
      · exact iteF (t _ _ ⟨0, rfl, s2⟩)
      · refine iteT ?_
        have hpos : pos % (((x :: r).length : Nat) : Int) < ((x :: r).length : Nat) ∧ 0 ≤ pos % (((x :: r).length : Nat) : Int) := by
          have : (0 : Int) < ((x :: r).length : Nat) := by rw [List.length_cons]; omega
          exact ⟨Int.emod_lt_of_pos _ this, Int.emod_nonneg _ (by omega)⟩
        obtain ⟨j, ej⟩ : ∃ j : Nat, pos % (((x :: r).length : Nat) : Int) = (j : Int) := ⟨(pos % (((x :: r).length : Nat) : Int)).toNat, by omega⟩
        have hj : j < (x :: r).length := by omega
        refine ⟨.ref a, rfl, a, _, 0, .ref l, rfl, rfl, SqL.of ha2, atI_nat (j := 0) rfl, .int pos, rfl, .ref a, rfl, a, _, 0, .ref l, rfl, rfl, SqL.of ha2, atI_nat (j := 0) rfl, l, _, rfl, .inl (SqL.of hl2), _, _, rfl, rfl, ?_, ?_⟩
        · show (0 : Int) < _
          rw [List.length_map, List.length_cons]
          omega
        · refine ⟨l, _, _, .int (x :: r)[j], rfl, rfl, SqL.of hl2, ?_, t _ _ ⟨_, rfl, s2⟩⟩
          rw [List.length_map, ej]
          exact atI_nat (by rw [List.getElem?_map, List.getElem?_eq_getElem hj]; rfl)
    · rintro σ H' ⟨cell, rfl, s2⟩
      have ha2 := s2 _ _ ha1
      have hl2 := s2 _ _ hl1
      have b2 : But a H H' := b1.trans (But.of s2)
      have p2 : Pen H' a l := ⟨cs, pos + 1, val, ha2, hl2, by omega⟩
      -- if position < len(pen[0]) and cell >= 10 ** 18: return cell - 10 ** 18
      dsimp only
      refine on (if_tail (fun σ H3 => σ = [some (V.ref a), some (V.int pos), some (V.int cell), none, none, none, none] ∧ H3 = H') ?_ (fun t => ?_))
      rotate_left
      · refine ⟨_, rfl, .ref a, rfl, a, _, 0, .ref l, rfl, rfl, SqL.of ha2, atI_nat (j := 0) rfl, l, _, rfl, .inl (SqL.of hl2), _, _, rfl, rfl, _, rfl, ite2 (fun _ => ?_) (fun _ => iteF (t _ _ ⟨rfl, rfl⟩))⟩
        refine ⟨_, rfl, _, _, rfl, rfl, ⟨by decide, by decide, by decide⟩, _, _, rfl, rfl, _, rfl, ite2 (fun _ => ?_) (fun _ => t _ _ ⟨rfl, rfl⟩)⟩
        exact ⟨_, rfl, _, _, rfl, rfl, ⟨by decide, by decide, by decide⟩, _, _, rfl, rfl, q _ _ b2 p2⟩
      · rintro σ H3 ⟨rfl, rfl⟩
        -- state, mixed, the six turns
        refine ⟨_, rfl, _, _, rfl, rfl, .inr ⟨by decide, by decide⟩, _, rfl, _, _, rfl, rfl, .inl ⟨by decide, by decide⟩, _, _, rfl, rfl, _, _, rfl, rfl, _, rfl, _, _, rfl, rfl, (by show (0 : Int) < 2305843009213693951; decide), _, rfl,
          6, rfl, by decide, by decide, for_range (lo := 0) (n := 6) (fun i σ H4 => ∃ (st mx : Int) (v : Option V), σ = [some (V.ref a), some (V.int pos), some (V.int cell), some (V.int 2305843009213693951), some (V.int st), some (V.int mx), v] ∧ H4 = H3 ∧ 0 ≤ st ∧ st < 2305843009213693951)
            ⟨_, _, none, rfl, rfl, Int.emod_nonneg _ (by decide), Int.emod_lt_of_pos _ (by decide)⟩ ?_ ?_⟩
        · rintro i σ H4 hi ⟨st, mx, v, rfl, rfl, h0, h1⟩
          refine ⟨_, rfl, _, rfl, _, _, rfl, rfl, .inl ⟨by omega, by omega⟩, _, rfl, _, _, rfl, rfl, _, _, rfl, rfl, .inl ⟨by decide, by decide⟩, _, rfl, _, _, rfl, rfl, _, _, rfl, rfl, .inl ⟨by show -(2 ^ 64) < (69621 : Int) * (0 + (i : Int) + 1); omega, by show (69621 : Int) * (0 + (i : Int) + 1) < 2 ^ 64; omega⟩, _, _, rfl, rfl,
            _, rfl, _, rfl, _, _, rfl, rfl, _, rfl, _, _, rfl, rfl, (by show (0 : Int) < 2305843009213693951; decide), _, rfl, _, rfl, _, _, rfl, rfl, .inr ⟨by decide, by decide⟩, _, rfl, _, _, rfl, rfl, ?_⟩
          exact ⟨_, _, _, rfl, rfl, Int.emod_nonneg _ (by decide), Int.emod_lt_of_pos _ (by decide)⟩
        · rintro σ H4 ⟨st, mx, v, rfl, rfl, h0, h1⟩
          exact ⟨_, rfl, q _ _ b2 p2⟩
/-! ### a number below a bound -/
def spDraw : Sp := fun vs H Q _ => ∃ (a l : Addr) (b : Int), vs = [.ref a, .int b] ∧ Pen H a l ∧ 0 < b ∧ b.natAbs.log2 < 9000 ∧ ∀ (d : Int) H', 0 ≤ d → d < b → But a H H' → Pen H' a l → Q (.int d) H'
theorem scDraw : FnScope ["pen", "bound", "digit"] ["pen", "bound"] (defScope sDraw) := ⟨rfl, rfl, rfl, by decide +kernel, rfl, by decide +kernel, by decide +kernel⟩
theorem ok_draw {f g : Addr} {fd gd : FuncData} (F : Fun K "_law_draw" "_law_draw" sDraw f fd) (GF : FnOk P w K mg base CX0 1 g gd ["pen"] spFresh) (mF : mg "_law_fresh" = some (.ref g)) (kF : PySem.W.keepIn K (.ref g) = true) (bF : Binds K gd ["pen"] []) :
    FnOk P w K mg base CX0 2 f fd ["pen", "bound"] spDraw := by
  refine F.ok scDraw (fun vs H Q E h => ?_) (fun cdv A outer s H vs Q E hr h => ?_)
  · obtain ⟨a, l, b, rfl, _⟩ := h
    rfl
  · obtain ⟨a, l, b, rfl, pn, hb, hb2, q⟩ := h
    refine ⟨_, pss_cons (ps_if (pt_cmpR op_lt (pe_ix ix_list (pv 0) pe_int (fun _ _ => rfl)) (pv 1) (nomark _))
        (pss_one (ps_asg (pe_call GF hr (by rfl) mF kF bF .nil pass0 (pa_cons (pv 0) pa_nil)) (pg_sub (pv 0) pe_int set_list))) pss_nil)
      (pss_cons (ps_set (i := 2) scDraw.nd rfl (.inl rfl) (pe_op op_mod (pe_ix ix_list (pv 0) pe_int (fun _ _ => rfl)) (pv 1)))
      (pss_cons (ps_asg (pe_op op_fdivW (pe_ix ix_list (pv 0) pe_int (fun _ _ => rfl)) (pv 1)) (pg_sub (pv 0) pe_int set_list))
      (pss_one (ps_ret (pv 2))))), ?_⟩
    refine on (if_tail (fun σ H' => σ = [some (V.ref a), some (V.int b), none] ∧ Pen H' a l ∧ But a H H') ?_ (fun t => ?_))
    rotate_left
    · obtain ⟨cs, pos, val, ha, hl, hp⟩ := id pn
      refine ⟨.ref a, rfl, a, _, 2, .int val, rfl, rfl, SqL.of ha, atI_nat (j := 2) rfl, _, rfl, _, _, rfl, rfl, _, rfl, ite2 (fun _ => ?_) (fun _ => t _ _ ⟨rfl, pn, But.refl _ _⟩)⟩
      refine ⟨.ref a, rfl, a, l, rfl, pn, fun v H1 b1 p1 => ?_⟩
      obtain ⟨cs, pos, val, ha, hl, hp⟩ := p1
      exact ⟨.ref a, rfl, a, _, 2, 2, rfl, rfl, ha, rfl, t _ _ ⟨rfl, Pen.put ha hl hp, b1.trans But.put⟩⟩
    · rintro σ H1 ⟨rfl, ⟨cs, pos, val, ha, hl, hp⟩, b1⟩
      refine ⟨.ref a, rfl, a, _, 2, .int val, rfl, rfl, SqL.of ha, atI_nat (j := 2) rfl, _, rfl, _, _, rfl, rfl, hb, .ref a, rfl, a, _, 2, .int val, rfl, rfl, SqL.of ha, atI_nat (j := 2) rfl, _, rfl, _, _, rfl, rfl, ⟨hb, hb2⟩, .ref a, rfl, a, _, 2, 2, rfl, rfl, ha, rfl, _, rfl, ?_⟩
      exact q _ _ (Int.emod_nonneg _ (by omega)) (Int.emod_lt_of_pos _ hb) (b1.trans But.put) (Pen.put ha hl hp)
/-! ### zeros at the end -/
def spStrip (K : PySem.W.Frag) : Sp := fun vs H Q _ => ∃ (a : Addr) (ns : List Int), vs = [.ref a] ∧ (SqL K H a (ns.map V.int) ∨ SqT K H a (ns.map V.int)) ∧ ∀ p H', Same H H' → H p = none → H' p = some (.tup ((strip ns).map V.int)) → Q (.ref p) H'
theorem scStrip : FnScope ["numbers", "result"] ["numbers"] (defScope sStrip) := ⟨rfl, rfl, rfl, by decide +kernel, rfl, by decide +kernel, by decide +kernel⟩
theorem ok_strip {f : Addr} {fd : FuncData} (F : Fun K "_law_strip" "_law_strip" sStrip f fd) (T : Names mg) : FnOk P w K mg base CX0 1 f fd ["numbers"] (spStrip K) := by
  refine F.ok scStrip (fun vs H Q E h => ?_) (fun cdv A outer s H vs Q E hr h => ?_)
  · obtain ⟨a, ns, rfl, _⟩ := h
    rfl
  · obtain ⟨a, ns, rfl, hS, q⟩ := h
    have hu : A.units + 3 + 64 < cLine := hr.units
    refine ⟨_, pss_cons (ps_set (i := 1) scStrip.nd rfl (.inl rfl) (pe_callTy call_list_of (by rfl) T.list (by decide +kernel) (pa_cons (pv 0) pa_nil)))
      (pss_cons (ps_while PassesOwn.never (PW.pt (pw_and (pt_cmpR (op_neD hu) (pv 1) (pe_lst pa_nil) (nomark _)) (pw_and1 (pt_cmpR op_eq (pe_ix ix_list (pv 1) (pe_un un_neg pe_int) (fun _ _ => rfl)) pe_int (nomark _)))))
        (pss_one (ps_expr (pe_bm0 PySem.F.plainAttrs_list PySem.F.slot_list_pop PySem.F.type_list_pop mt_pop (pv 1)))))
      (pss_one (ps_ret (pe_callTy call_tuple_of (by rfl) T.tuple (by decide +kernel) (pa_cons (pv 1) pa_nil))))), ?_⟩
    refine ⟨.ref a, rfl, a, _, rfl, hS, fun l nl => ?_⟩
    have s1 : Same H (upd H l (.lst (ns.map V.int))) := Same.upd nl
    refine ⟨fun n σ H' => ∃ xs : List Int, n = xs.length ∧ σ = [some (V.ref a), some (V.ref l)] ∧ Same H H' ∧ H' l = some (.lst (xs.map V.int)) ∧ strip xs = strip ns, ⟨ns.length, ns, rfl, rfl, s1, upd_same, rfl⟩, ?_⟩
    rintro n σ H' ⟨xs, rfl, rfl, s2, hl, ex⟩
    refine ⟨.ref l, rfl, Nat.zero_le _, fun e ne => ?_⟩
    have s3 : Same H' (upd H' e (.lst [])) := Same.upd ne
    have hl3 := s3 _ _ hl
    have de : Dp K (upd H' e (.lst [])) (.ref e) (.list []) := .lst (SqL.of upd_same) .nil
    generalize upd H' e (.lst []) = H3 at s3 hl3 de ⊢
    refine ⟨.list (xs.map PyData.int), .list [], .lst (SqL.of hl3) (dpInts xs), de, PySem.W.ke_shaped_ints xs, rfl, _, rfl, ?_⟩
    have fin : ∀ ys : List Int, H3 l = some (.lst (ys.map V.int)) → strip ns = ys → ∀ p, H3 p = none → Q (.ref p) (upd H3 p (.tup (ys.map V.int))) := fun ys hy e1 p np =>
      q p _ ((s2.trans s3).trans (Same.upd np)) ((s2.trans s3).free np) (by rw [upd_same, e1])
    rcases List.eq_nil_or_concat xs with rfl | ⟨ys, z, rfl⟩
    · exact iteF (iteF ⟨.ref l, rfl, l, _, rfl, .inl ⟨SqL.of hl3, fin [] hl3 (by rw [← ex]; rfl)⟩⟩)
    · rw [List.concat_eq_append] at *
      rw [eqv_nil (by simp)]
      refine iteT ?_
      have em : ((ys ++ [z]).map V.int) = ys.map V.int ++ [V.int z] := by rw [List.map_append]; rfl
      refine ⟨.ref l, rfl, 1, rfl, l, _, -1, .int z, rfl, rfl, SqL.of hl3, by rw [em]; exact atI_last _ _, rfl, _, rfl, ?_⟩
      by_cases hz : z = 0
      · subst hz
        rw [decide_eq_true rfl]
        refine iteT ⟨fun σ H4 => ∃ xs : List Int, xs.length < (ys ++ [(0 : Int)]).length ∧ σ = [some (V.ref a), some (V.ref l)] ∧ Same H H4 ∧ H4 l = some (.lst (xs.map V.int)) ∧ strip xs = strip ns, ?_, ?_⟩
        · rintro σ H4 ⟨xs, lt, e1, e2, e3, e4⟩
          exact ⟨xs.length, lt, xs, rfl, e1, e2, e3, e4⟩
        · refine ⟨.ref l, rfl, .inl ⟨rfl, _, SqL.of hl3⟩, l, _, .int 0, rfl, rfl, hl3, ?_, ys, by simp, rfl, ?_, ?_, by rw [← ex, strip_zero]⟩
          · rw [em]
            simp
          · exact fun b o e => by rw [upd_ne (ne_of_none e nl)]; exact s3 _ _ (s2 _ _ e)
          · rw [upd_same, em, List.dropLast_concat]
      · rw [decide_eq_false (by intro e; exact hz (V.int.inj e))]
        exact iteF ⟨.ref l, rfl, l, _, rfl, .inl ⟨SqL.of hl3, fin _ hl3 (by rw [← ex, strip_last hz])⟩⟩
/-! ### a coefficient, a row of them -/
theorem But.mem {a p : Addr} {H H' : Hp} {o : HO} (b : But a H H') (n : p ≠ a) (e : H p = some o) : H' p = some o := b p o e n
/-- picking one of some ints by a number that is drawn -/
theorem pick {M : Nat} {zs : List Int} (h : ∀ z ∈ zs, z.natAbs < M) {d : Int} (h0 : 0 ≤ d) (h1 : d < zs.length) : ∃ z : Int, atI (zs.map V.int) d = some (.int z) ∧ z ∈ zs ∧ z.natAbs < M := by
  obtain ⟨j, rfl⟩ : ∃ j : Nat, d = (j : Int) := ⟨d.toNat, by omega⟩
  have hj : j < zs.length := by omega
  refine ⟨zs[j], atI_nat (by rw [List.getElem?_map, List.getElem?_eq_getElem hj]; rfl), List.getElem_mem hj, h _ (List.getElem_mem hj)⟩
def spCoef : Sp := fun vs H Q _ => ∃ (a l : Addr), vs = [.ref a] ∧ Pen H a l ∧ ∀ (c : Int) H', c.natAbs < 200 → But a H H' → Pen H' a l → Q (.int c) H'
theorem scCoef : FnScope ["pen", "size"] ["pen"] (defScope sCoef) := ⟨rfl, rfl, rfl, by decide +kernel, rfl, by decide +kernel, by decide +kernel⟩
theorem ok_coef {f g : Addr} {fd gd : FuncData} (F : Fun K "_law_coefficient" "_law_coefficient" sCoef f fd) (GD : FnOk P w K mg base CX0 2 g gd ["pen", "bound"] spDraw) (mD : mg "_law_draw" = some (.ref g)) (kD : PySem.W.keepIn K (.ref g) = true) (bD : Binds K gd ["pen", "bound"] []) :
    FnOk P w K mg base CX0 3 f fd ["pen"] spCoef := by
  refine F.ok scCoef (fun vs H Q E h => ?_) (fun cdv A outer s H vs Q E hr h => ?_)
  · obtain ⟨a, l, rfl, _⟩ := h
    rfl
  · obtain ⟨a, l, rfl, pn, q⟩ := h
    refine ⟨_, pss_cons (ps_set (i := 1) scCoef.nd rfl (.inl rfl) (pe_ix ix_list (pe_lst
        (pa_cons (pe_call GD hr (by rfl) mD kD bD .nil pass0 (pa_cons (pv 0) (pa_cons pe_int pa_nil)))
        (pa_cons (pe_call GD hr (by rfl) mD kD bD .nil pass0 (pa_cons (pv 0) (pa_cons pe_int pa_nil)))
        (pa_cons (pe_call GD hr (by rfl) mD kD bD .nil pass0 (pa_cons (pv 0) (pa_cons pe_int pa_nil)))
        (pa_cons (pe_call GD hr (by rfl) mD kD bD .nil pass0 (pa_cons (pv 0) (pa_cons pe_int pa_nil)))
        (pa_cons pe_int pa_nil)))))) (pe_call GD hr (by rfl) mD kD bD .nil pass0 (pa_cons (pv 0) (pa_cons pe_int pa_nil))) (fun _ _ => rfl)))
      (pss_one (ps_ret (pe_op op_mul (pv 1) (pe_ix ix_list (pe_lst (pa_cons pe_int (pa_cons (pe_un un_neg pe_int) pa_nil))) (pe_call GD hr (by rfl) mD kD bD .nil pass0 (pa_cons (pv 0) (pa_cons pe_int pa_nil))) (fun _ _ => rfl))))), ?_⟩
    refine ⟨.ref a, rfl, a, l, 4, rfl, pn, by decide, by decide +kernel, fun d1 H1 l1 u1 b1 p1 => ?_⟩
    refine ⟨.ref a, rfl, a, l, 3, rfl, p1, by decide, by decide +kernel, fun d2 H2 l2 u2 b2 p2 => ?_⟩
    refine ⟨.ref a, rfl, a, l, 12, rfl, p2, by decide, by decide +kernel, fun d3 H3 l3 u3 b3 p3 => ?_⟩
    refine ⟨.ref a, rfl, a, l, 200, rfl, p3, by decide, by decide +kernel, fun d4 H4 l4 u4 b4 p4 => ?_⟩
    refine ⟨by show 5 ≤ sizeLine; decide, fun e ne => ?_⟩
    have s5 : Same H4 (upd H4 e (.lst [.int d1, .int d2, .int d3, .int d4, .int 0])) := Same.upd ne
    have b5 : But a H (upd H4 e (.lst [.int d1, .int d2, .int d3, .int d4, .int 0])) := (((b1.trans b2).trans b3).trans b4).trans (But.of s5)
    have p5 := p4.same s5
    have nea : e ≠ a := by
      obtain ⟨cs, pos, val, ha, _⟩ := p4
      exact (ne_of_none ha ne).symm
    have he : upd H4 e (.lst [.int d1, .int d2, .int d3, .int d4, .int 0]) e = some (.lst ([d1, d2, d3, d4, 0].map V.int)) := upd_same
    generalize upd H4 e (.lst [.int d1, .int d2, .int d3, .int d4, .int 0]) = H5 at b5 p5 he ⊢
    refine ⟨.ref a, rfl, a, l, 5, rfl, p5, by decide, by decide +kernel, fun d5 H6 l5 u5 b6 p6 => ?_⟩
    obtain ⟨z, hz, _, hz2⟩ := pick (M := 200) (zs := [d1, d2, d3, d4, 0]) (d := d5) (by
      intro z hz
      simp only [List.mem_cons, List.not_mem_nil, or_false] at hz
      omega) l5 (by show d5 < 5; omega)
    refine ⟨e, _, _, .int z, rfl, rfl, SqL.of (b6.mem nea he), hz, ?_⟩
    refine ⟨_, rfl, 1, rfl, by show 2 ≤ sizeLine; decide, fun e2 ne2 => ?_⟩
    have s7 : Same H6 (upd H6 e2 (.lst [.int 1, .int (-1)])) := Same.upd ne2
    have p7 := p6.same s7
    have nea2 : e2 ≠ a := by
      obtain ⟨cs, pos, val, ha, _⟩ := p6
      exact (ne_of_none ha ne2).symm
    have he2 : upd H6 e2 (.lst [.int 1, .int (-1)]) e2 = some (.lst ([1, -1].map V.int)) := upd_same
    generalize hH7 : upd H6 e2 (.lst [.int 1, .int (-1)]) = H7 at s7 p7 he2 ⊢
    refine ⟨.ref a, rfl, a, l, 2, rfl, p7, by decide, by decide +kernel, fun d6 H8 l6 u6 b8 p8 => ?_⟩
    obtain ⟨y, hy, hy1, _⟩ := pick (M := 2) (zs := [1, -1]) (d := d6) (by decide) l6 (by show d6 < 2; omega)
    refine ⟨e2, _, _, .int y, rfl, rfl, SqL.of (b8.mem nea2 he2), hy, _, _, rfl, rfl, .inl ⟨by omega, by omega⟩, ?_⟩
    refine q _ _ ?_ (((b5.trans b6).trans (But.of s7)).trans b8) p8
    simp only [List.mem_cons, List.not_mem_nil, or_false] at hy1
    rcases hy1 with rfl | rfl <;> omega
def spPoly : Sp := fun vs H Q _ => ∃ (a l : Addr) (m : Int), vs = [.ref a, .int m] ∧ Pen H a l ∧ 0 ≤ m ∧ m ≤ 100 ∧
  ∀ (p : Addr) (ns : List Int) H', (ns.length : Int) ≤ m → (∀ c ∈ ns, c.natAbs < 200) → strip ns = ns → But a H H' → H p = none → H' p = some (.tup (ns.map V.int)) → Pen H' a l → Q (.ref p) H'
theorem scPoly : FnScope ["pen", "most", "k"] ["pen", "most"] (defScope sPoly) := ⟨rfl, rfl, rfl, by decide +kernel, rfl, by decide +kernel, by decide +kernel⟩
theorem ok_poly {f g c t : Addr} {fd gd cd td : FuncData} (F : Fun K "_law_polynomial" "_law_polynomial" sPoly f fd) (T : Names mg) (GD : FnOk P w K mg base CX0 2 g gd ["pen", "bound"] spDraw) (mD : mg "_law_draw" = some (.ref g)) (kD : PySem.W.keepIn K (.ref g) = true) (bD : Binds K gd ["pen", "bound"] [])
    (GC : FnOk P w K mg base CX0 3 c cd ["pen"] spCoef) (mC : mg "_law_coefficient" = some (.ref c)) (kC : PySem.W.keepIn K (.ref c) = true) (bC : Binds K cd ["pen"] [])
    (GS : FnOk P w K mg base CX0 1 t td ["numbers"] (spStrip K)) (mS : mg "_law_strip" = some (.ref t)) (kS : PySem.W.keepIn K (.ref t) = true) (bS : Binds K td ["numbers"] []) :
    FnOk P w K mg base CX0 4 f fd ["pen", "most"] spPoly := by
  refine F.ok scPoly (fun vs H Q E h => ?_) (fun cdv A outer s H vs Q E hr h => ?_)
  · obtain ⟨a, l, m, rfl, _⟩ := h
    rfl
  · obtain ⟨a, l, m, rfl, pn, hm0, hm1, q⟩ := h
    refine ⟨_, pss_one (ps_ret (pe_call GS (hr.mono (by decide)) (by rfl) mS kS bS .nil pass0 (pa_cons (pe_lc (own := [("k", 2)]) (g := gName 2) (tt := tYes) rfl scPoly.nd
        (pi_range1 rfl T.range (pa_cons (pe_call GD (hr.mono (by decide)) (by rfl) mD kD bD .nil pass0 (pa_cons (pv 0) (pa_cons (pe_op op_add (pv 1) pe_int) pa_nil))) pa_nil))
        (blkOk_by (N := ["pen", "most", "k"]) (sc := defScope sPoly) (own := [("k", 2)]) (by decide +kernel)) (fun _ _ _ _ _ => pg_name (i := 2) scPoly.nd rfl (Or.inl rfl)) (fun _ _ _ _ _ => pts_nil)
        (fun _ _ _ _ _ => pe_call GC (hr.mono (by decide)) (by rfl) mC kC bC .nil pass0 (pa_cons (pv 0) pa_nil))) pa_nil))), ?_⟩
    refine ⟨.ref a, rfl, _, rfl, _, _, rfl, rfl, a, l, m + 1, rfl, pn, by omega, ?_, fun d H1 h0 h1 b1 p1 => ?_⟩
    · have : (m + 1).natAbs.log2 < 7 ∨ (m + 1).natAbs = 0 := by
        by_cases z : (m + 1).natAbs = 0
        · exact .inr z
        · exact .inl ((Nat.log2_lt z).mpr (by omega))
      rcases this with h | h
      · omega
      · omega
    · refine ⟨d, rfl, by omega, by omega, fun D nD => ?_⟩
      have nDa : D ≠ a := by
        obtain ⟨cs, pos, val, ha, _⟩ := p1
        exact (ne_of_none ha nD).symm
      have lD : l ≠ D := by
        obtain ⟨_, _, _, _, hl, _⟩ := p1
        exact ne_of_none hl nD
      refine lc_range (lo := 0) (n := d.toNat) (fun i H' => ∃ ns : List Int, H' D = some (.lst (ns.map V.int)) ∧ ns.length = i ∧ (∀ c ∈ ns, c.natAbs < 200) ∧ But a H H' ∧ Pen H' a l)
        ⟨[], upd_same, rfl, by simp, b1.trans (But.of (Same.upd nD)), p1.same (Same.upd nD)⟩ ?_ ?_
      · rintro i H2 hi ⟨ns, hD, hn, hc, b2, p2⟩
        refine ⟨rfl, ?_⟩
        dsimp only [tYes]
        refine iteT ?_
        refine ⟨.ref a, rfl, a, l, rfl, p2, fun c H3 hc3 b3 p3 => ⟨ns.map V.int, b3.mem nDa hD, by rw [List.length_map]; exact small1000 (by omega), ns ++ [c], ?_, by simp [hn], ?_, ?_, ?_⟩⟩
        · rw [upd_same, List.map_append]
          rfl
        · intro x hx
          rcases List.mem_append.mp hx with hx | hx
          · exact hc x hx
          · rw [List.mem_singleton.mp hx]
            exact hc3
        · intro b o e n
          have nb : b ≠ D := ne_of_none e (by
            cases q : H D with
            | none => rfl
            | some u => rw [b1 D u q nDa] at nD; cases nD)
          rw [upd_ne nb]
          exact b3 _ _ (b2 _ _ e n) n
        · obtain ⟨cs, pos, val, h1, h2, h3⟩ := p3
          exact ⟨cs, pos, val, by rw [upd_ne (Ne.symm nDa)]; exact h1, by rw [upd_ne lD]; exact h2, h3⟩
      · rintro H2 ⟨ns, hD, hn, hc, b2, p2⟩
        refine ⟨D, ns, rfl, .inl (SqL.of hD), fun p H3 s3 np e3 => ?_⟩
        exact q p (strip ns) H3 (by have := strip_len ns; omega) (fun c hx => hc c (strip_mem hx)) (strip_strip ns) (b2.trans (But.of s3)) (b2.free ((show a ≠ p from by obtain ⟨_, _, _, ha, _⟩ := p2; exact ne_of_none ha np).symm) np) e3 (p2.same s3)
end
end Z

set_option Elab.async false
set_option linter.all false
set_option maxRecDepth 100000
set_option maxHeartbeats 4000000
set_option exponentiation.threshold 20000
namespace Z
open PySem PySem.Spec PyProof.Rows L2 GG M3
abbrev sTrim : Stmt := top 1
abbrev sDiv : Stmt := top 2
abbrev sProd : Stmt := top 10
abbrev sExp : Stmt := top 11
abbrev sCor : Stmt := top 12
abbrev sLaw : Stmt := top 13
theorem Same.tup {K : PySem.W.Frag} {H H' : Hp} {a : Addr} {xs : List V} (e : Same H H') (h : SqT K H a xs) : SqT K H' a xs := by
  rcases h with (h | ⟨o, h⟩) | h
  · exact .inl (.inl (e _ _ h))
  · exact .inl (.inr ⟨o, e _ _ h⟩)
  · exact .inr h
theorem tup_of {K : PySem.W.Frag} {H : Hp} {a : Addr} {xs : List V} (h : H a = some (.tup xs)) : SqT K H a xs := .inl (.inl h)
theorem ixN_of {n j : Nat} {z : Int} (e : z = (j : Int)) (h : j < n) : ixN n z = some j := by
  subst e
  unfold ixN
  rw [if_pos (by omega), if_pos (by omega)]
  simp
theorem get_int {ns : List Int} {k : Nat} (h : k < ns.length) : (ns.map V.int)[k]? = some (.int (ns.getD k 0)) := by
  rw [List.getElem?_map, List.getElem?_eq_getElem h, List.getD_eq_getElem?_getD, List.getElem?_eq_getElem h]
  rfl
theorem cut_len {xs : List V} (j : Nat) : cutV xs none (some (j : Int)) = xs.take (min j xs.length) := by
  unfold cutV
  rw [HT.sIx_none, HT.sIx_nat]
  rfl
theorem many_zeros (n : Nat) : (List.replicate n [V.int 0]).flatten = (List.replicate n (0 : Int)).map V.int := by
  induction n with
  | zero => rfl
  | succ n ih => rw [List.replicate_succ, List.flatten_cons, ih, List.replicate_succ]; rfl
structure Names3 (mg : Str → Option Value) : Prop extends Names mg where
  max : mg "max" = none
  min : mg "min" = none
  reversed : mg "reversed" = none
  divmod : mg "divmod" = none
  enumerate : mg "enumerate" = none
  any : mg "any" = none
  all : mg "all" = none
  repr : mg "repr" = none
structure Def (K : PySem.W.Frag) (mg : Str → Option Value) (x : Str) (f : Addr) (fd : FuncData) (ps : List Str) : Prop where
  is : mg x = some (.ref f)
  kp : PySem.W.keepIn K (.ref f) = true
  bi : Binds K fd ps []
section
variable {P : Program} {w : World} {K : PySem.W.Frag} {mg : Str → Option Value} {base : Heap}
/-! ### the program -/
def spTrim (K : PySem.W.Frag) : Sp := fun vs H Q _ => ∃ (a : Addr) (ns : List Int), vs = [.ref a] ∧ SqL K H a (ns.map V.int) ∧ ∀ p H', Same H H' → H p = none → H' p = some (.tup ((strip ns).map V.int)) → Q (.ref p) H'
theorem scTrim : FnScope ["coefficients", "size"] ["coefficients"] (defScope sTrim) := ⟨rfl, rfl, rfl, by decide +kernel, rfl, by decide +kernel, by decide +kernel⟩
theorem ok_trim {f : Addr} {fd : FuncData} (F : Fun K "trim_zeros" "trim_zeros" sTrim f fd) (T : Names mg) : FnOk P w K mg base CX0 1 f fd ["coefficients"] (spTrim K) := by
  refine F.ok scTrim (fun vs H Q E h => ?_) (fun cdv A outer s H vs Q E hr h => ?_)
  · obtain ⟨a, ns, rfl, _⟩ := h
    rfl
  · obtain ⟨a, ns, rfl, hS, q⟩ := h
    refine ⟨_, (pss_cons (ps_set (i := 1) scTrim.nd rfl (.inl rfl) (pe_callB call_len_seq (by rfl) T.len PySem.boot_len (pa_cons (pv 0) pa_nil)))
      (pss_cons (ps_while PassesOwn.never (PW.pt (pw_and (pt_cmpR op_gt (pv 1) pe_int (nomark _)) (pw_and1 (pt_cmpR op_eq (pe_ix ix_list (pv 0) (pe_op op_sub (pv 1) pe_int) (fun _ _ => rfl)) pe_int (nomark _))))) (pss_one (ps_aug (i := 1) scTrim.nd rfl (.inl rfl) pe_int ip_sub)))
      (pss_one (ps_ret (pe_callTy call_tuple_of (by rfl) T.tuple (by decide +kernel) (pa_cons (pe_slice sl_list (pv 0) po_none (po_some (pv 1))) pa_nil)))))), ?_⟩
    refine ⟨.ref a, rfl, a, _, rfl, .inl hS, ?_⟩
    refine ⟨fun n σ H' => ∃ j : Nat, n = j ∧ j ≤ ns.length ∧ σ = [some (V.ref a), some (V.int (j : Int))] ∧ H' = H ∧ strip (ns.take j) = strip ns, ⟨ns.length, ns.length, rfl, Nat.le_refl _, by rw [List.length_map]; rfl, rfl, by rw [List.take_length]⟩, ?_⟩
    rintro j σ H' ⟨_, rfl, hj, rfl, rfl, ej⟩
    have fin : ∀ j : Nat, j ≤ ns.length → strip ns = ns.take j → ∀ c, H' c = none → ∀ p, upd H' c (.lst (cutV (ns.map V.int) none (some (j : Int)))) p = none → Q (.ref p) (upd (upd H' c (.lst (cutV (ns.map V.int) none (some (j : Int))))) p (.tup (cutV (ns.map V.int) none (some (j : Int))))) := fun j hj e c nc p np => by
      have s2 := (Same.upd (o := .lst (cutV (ns.map V.int) none (some (j : Int)))) nc).trans (Same.upd (o := .tup (cutV (ns.map V.int) none (some (j : Int)))) np)
      refine q p _ s2 ((Same.upd nc).free np) ?_
      rw [upd_same, cut_len, e, List.length_map, Nat.min_eq_left hj, List.map_take]
    refine ⟨_, rfl, _, _, rfl, rfl, _, rfl, ?_⟩
    cases j with
    | zero =>
      rw [decide_eq_false (by omega)]
      refine iteF (iteF ⟨.ref a, rfl, _, rfl, ((0 : Nat) : Int), rfl, a, _, rfl, hS, fun c nc => ⟨c, _, rfl, .inl ⟨SqL.of upd_same, fin 0 (Nat.zero_le _) (by rw [← ej]; rfl) c nc⟩⟩⟩)
    | succ j =>
      rw [decide_eq_true (by omega)]
      refine iteT ⟨.ref a, rfl, _, rfl, _, _, rfl, rfl, a, _, _, .int (ns.getD j 0), rfl, rfl, hS, at_of (j := j) (by omega) (get_int (by omega)), rfl, _, rfl, ?_⟩
      have et : ns.take (j + 1) = ns.take j ++ [ns.getD j 0] := by
        rw [List.take_succ_eq_append_getElem (by omega), List.getD_eq_getElem?_getD, List.getElem?_eq_getElem (by omega)]
        rfl
      by_cases hz : ns.getD j 0 = 0
      · rw [hz, decide_eq_true rfl]
        refine iteT ⟨fun σ H4 => ∃ j' : Nat, j' < j + 1 ∧ j' ≤ ns.length ∧ σ = [some (V.ref a), some (V.int (j' : Int))] ∧ H4 = H' ∧ strip (ns.take j') = strip ns, ?_, ?_⟩
        · rintro σ H4 ⟨j', lt, h1, h2, h3, h4⟩
          exact ⟨j', lt, j', rfl, h1, h2, h3, h4⟩
        · refine ⟨_, rfl, _, _, rfl, rfl, j, by omega, by omega, ?_, rfl, by rw [← ej, et, hz, strip_zero]⟩
          show [some (V.ref a), some (V.int (((j + 1 : Nat) : Int) - 1))] = _
          rw [show ((j + 1 : Nat) : Int) - 1 = (j : Int) by omega]
      · rw [decide_eq_false (by intro e; exact hz (V.int.inj e))]
        exact iteF ⟨.ref a, rfl, _, rfl, ((j + 1 : Nat) : Int), rfl, a, _, rfl, hS, fun c nc => ⟨c, _, rfl, .inl ⟨SqL.of upd_same, fin (j + 1) hj (by rw [← ej, et, strip_last hz]) c nc⟩⟩⟩
/-- a row, and what it is divided by, whose last coefficient is l -/
structure Dv (ps f : List Int) (l : Int) : Prop where
  last : f.getD (f.length - 1) 0 = l
  one : 1 ≤ f.length
  nz : l ≠ 0
  lp : ps.length ≤ 60
  lf : f.length ≤ 60
  bp : Bd (2 ^ 400) ps
  bf : Bd (2 ^ 100) f
def quo (ps f : List Int) (l : Int) : Option (List Int) := res (divP f f.length l (ps.length + 1 - f.length) ps (List.replicate (ps.length + 1 - f.length) 0))
theorem Dv.last_at {ps f : List Int} {l : Int} (d : Dv ps f l) : atI (f.map V.int) (-1) = some (.int l) := by
  have h := d.one
  have hne : f ≠ [] := fun e => by rw [e] at h; simp at h
  have e := List.dropLast_concat_getLast hne
  have el : f.getLast hne = l := by
    rw [← d.last, List.getD_eq_getElem?_getD, List.getElem?_eq_getElem (by omega), List.getLast_eq_getElem]
    rfl
  rw [← e, List.map_append, el]
  exact atI_last _ _
theorem Dv.lead {ps f : List Int} {l : Int} (d : Dv ps f l) : l.natAbs ≤ 2 ^ 100 := by
  have := d.bf (f.length - 1)
  rwa [d.last] at this
theorem Dv.div {ps f : List Int} {l : Int} (d : Dv ps f l) (x : Int) : OPS.CDivZ x l :=
  ⟨d.nz, Nat.lt_of_lt_of_le (PySem.Flt.log2_lt_of (k := 101) (by decide) (Nat.lt_of_le_of_lt d.lead (Nat.pow_lt_pow_right (by decide) (by decide)))) (by decide)⟩
/-- how large the numbers are after i turns -/
theorem grow {A : Nat} (i : Nat) : 2 ^ A * (2 ^ 100 + 1) ^ i ≤ 2 ^ (A + 101 * i) := by
  rw [Nat.pow_add, Nat.pow_mul]
  exact Nat.mul_le_mul_left _ (Nat.pow_le_pow_left (by decide) _)
theorem wide_le2 {x y : Int} {a b : Nat} (hx : x.natAbs ≤ 2 ^ a) (hy : y.natAbs ≤ 2 ^ b) (h : a + b + 2 ≤ 1000000) : CMulW x y :=
  wide_mul (a := a + 1) (b := b + 1) (Nat.lt_of_le_of_lt hx (Nat.pow_lt_pow_right (by decide) (by omega))) (Nat.lt_of_le_of_lt hy (Nat.pow_lt_pow_right (by decide) (by omega))) (by omega) (by omega) (by omega)
def spDiv (K : PySem.W.Frag) : Sp := fun vs H Q _ => ∃ (p o : Addr) (ps f : List Int) (l : Int), vs = [.ref p, .ref o] ∧ SqT K H p (ps.map V.int) ∧ SqT K H o (f.map V.int) ∧ Dv ps f l ∧
  (quo ps f l = none → ∀ H', Same H H' → Q .non H') ∧ ∀ q, quo ps f l = some q → ∀ t H', Same H H' → H t = none → H' t = some (.tup ((strip q).map V.int)) → Q (.ref t) H'
theorem scDiv : FnScope ["polynomial", "other", "size", "rest", "quotient", "at", "factor", "left", "k", "c"] ["polynomial", "other"] (defScope sDiv) := ⟨rfl, rfl, rfl, by decide +kernel, rfl, by decide +kernel, by decide +kernel⟩
theorem ok_div {f0 g : Addr} {fd gd : FuncData} (F : Fun K "divide_exactly" "divide_exactly" sDiv f0 fd) (T : Names3 mg) (GT : FnOk P w K mg base CX0 1 g gd ["coefficients"] (spTrim K)) (PT_ : Def K mg "trim_zeros" g gd ["coefficients"]) :
    FnOk P w K mg base CX0 2 f0 fd ["polynomial", "other"] (spDiv K) := by
  refine F.ok scDiv (fun vs H Q E h => ?_) (fun cdv A outer s H vs Q E hr h => ?_)
  · obtain ⟨p, o, ps, f, l, rfl, _⟩ := h
    rfl
  · obtain ⟨p, o, ps, f, l, rfl, hP, hO, D, qn, qs⟩ := h
    refine ⟨_, (pss_cons (ps_set (i := 2) scDiv.nd rfl (.inl rfl) (pe_callB (max_is rfl) (by rfl) T.max (by decide +kernel) (pa_cons pe_int (pa_cons (pe_op op_add (pe_op op_sub (pe_callB call_len_seq (by rfl) T.len PySem.boot_len (pa_cons (pv 0) pa_nil)) (pe_callB call_len_seq (by rfl) T.len PySem.boot_len (pa_cons (pv 1) pa_nil))) pe_int) pa_nil))))
      (pss_cons (ps_set (i := 3) scDiv.nd rfl (.inl rfl) (pe_callTy call_list_of (by rfl) T.list (by decide +kernel) (pa_cons (pv 0) pa_nil)))
      (pss_cons (ps_set (i := 4) scDiv.nd rfl (.inl rfl) (pe_op op_rep (pe_lst (pa_cons pe_int pa_nil)) (pv 2)))
      (pss_cons (ps_for PassesOwn.never rfl (pi_revR (by rfl) T.reversed (prg_1 (by rfl) T.range (pv 2))) (pg_name (i := 5) scDiv.nd rfl (.inl rfl)) (pss_cons (ps_asg (pe_callB OPS.call_divmodZ (by rfl) T.divmod (by decide +kernel) (pa_cons (pe_ix ix_list (pv 3) (pe_op op_sub (pe_op op_add (pv 5) (pe_callB call_len_seq (by rfl) T.len PySem.boot_len (pa_cons (pv 1) pa_nil))) pe_int) (fun _ _ => rfl)) (pa_cons (pe_ix ix_tup (pv 1) (pe_un un_neg pe_int) (fun _ _ => rfl)) pa_nil))) (pg_tup rfl (pgs_cons (pg_name (i := 6) scDiv.nd rfl (.inl rfl)) (pgs_cons (pg_name (i := 7) scDiv.nd rfl (.inl rfl)) pgs_nil))))
      (pss_cons (ps_if (pt_cmpR op_ne (pv 7) pe_int (nomark _)) (pss_one (ps_ret pe_non)) pss_nil)
      (pss_cons (ps_asg (pv 6) (pg_sub (pv 4) (pv 5) set_list))
      (pss_one (ps_for PassesOwn.never rfl (EN.pi_pairs (by rfl) T.enumerate (pa_cons (pv 1) pa_nil)) (pg_tup rfl (pgs_cons (pg_name (i := 8) scDiv.nd rfl (.inl rfl)) (pgs_cons (pg_name (i := 9) scDiv.nd rfl (.inl rfl)) pgs_nil))) (pss_one (ps_augS (pv 3) (pe_op op_add (pv 5) (pv 8)) OPS.get_list (pe_op op_mulW (pv 6) (pv 9)) ip_sub set_list))))))))
      (pss_cons (ps_if (pt_val (pe_callB (OPS.call_anyI rfl) (by rfl) T.any (by decide +kernel) (pa_cons (pv 3) pa_nil))) (pss_one (ps_ret pe_non)) pss_nil)
      (pss_one (ps_ret (pe_call GT (hr.mono (by decide)) (by rfl) PT_.is PT_.kp PT_.bi .nil pass0 (pa_cons (pv 4) pa_nil))))))))), ?_⟩
    have h1 := D.one
    have hlp := D.lp
    have hlf := D.lf
    obtain ⟨n, hn⟩ : ∃ n : Nat, n = ps.length + 1 - f.length := ⟨_, rfl⟩
    refine ⟨.ref p, rfl, p, _, rfl, .inr hP, .ref o, rfl, o, _, rfl, .inr hO, _, _, rfl, rfl, _, _, rfl, rfl, _, _, (n : Int), rfl, ?_, ?_⟩
    · rw [List.length_map, List.length_map]
      split <;> omega
    refine ⟨.ref p, rfl, p, _, rfl, .inr hP, fun R nR => ?_⟩
    refine ⟨by show 1 ≤ sizeLine; decide, fun z nz => ⟨_, rfl, z, (n : Int), _, rfl, rfl, upd_same, by omega, by omega, ?_, fun Qt nQ => ?_⟩⟩
    · show 1 * (n : Int).toNat ≤ sizeLine
      rw [Int.toNat_natCast, Nat.one_mul]
      exact Nat.le_of_lt (small1000 (by omega))
    have s1 : Same H (upd H R (.lst (ps.map V.int))) := Same.upd nR
    have s2 := Same.upd (o := .lst [.int 0]) nz
    have s3 := Same.upd (o := .lst (List.replicate (n : Int).toNat [V.int 0]).flatten) nQ
    have eR := s3 _ _ (s2 _ _ (upd_same (H := H) (a := R) (o := .lst (ps.map V.int))))
    have nQR : Qt ≠ R := (ne_of_none (s2 _ _ (upd_same (H := H) (a := R) (o := .lst (ps.map V.int)))) nQ).symm
    have nQH : H Qt = none := (s1.trans s2).free nQ
    have eQ : upd (upd (upd H R (.lst (ps.map V.int))) z (.lst [.int 0])) Qt (.lst (List.replicate (n : Int).toNat [V.int 0]).flatten) Qt = some (.lst ((List.replicate n (0 : Int)).map V.int)) := by
      rw [upd_same, Int.toNat_natCast, many_zeros]
    have sH : Same H (upd (upd (upd H R (.lst (ps.map V.int))) z (.lst [.int 0])) Qt (.lst (List.replicate (n : Int).toNat [V.int 0]).flatten)) := (s1.trans s2).trans s3
    change (_ : Hp → Prop) (upd (upd (upd H R (.lst (ps.map V.int))) z (.lst [.int 0])) Qt (.lst (List.replicate (n : Int).toNat [V.int 0]).flatten))
    generalize upd (upd (upd H R (.lst (ps.map V.int))) z (.lst [.int 0])) Qt (.lst (List.replicate (n : Int).toNat [V.int 0]).flatten) = H0 at eR eQ sH ⊢
    clear s1 s2 s3
    have hq0 : quo ps f l = res (divP f f.length l n ps (List.replicate n 0)) := by rw [hn]; rfl
    refine ⟨_, rfl, (n : Int), rfl, by omega, by omega, by omega, by omega, ?_⟩
    refine for_rangeC (fun i σ H' => ∃ (r q : List Int) (v5 v6 v7 v8 v9 : Option V), σ = [some (V.ref p), some (V.ref o), some (V.int (n : Int)), some (V.ref R), some (V.ref Qt), v5, v6, v7, v8, v9] ∧ Same H H' ∧
        H' R = some (.lst (r.map V.int)) ∧ H' Qt = some (.lst (q.map V.int)) ∧ r.length = ps.length ∧ q.length = n ∧ Bd (2 ^ 400 * (2 ^ 100 + 1) ^ i) r ∧ divP f f.length l (n - i) r q = divP f f.length l n ps (List.replicate n 0))
      ⟨ps, List.replicate n 0, none, none, none, none, none, rfl, sH, eR, eQ, rfl, by simp, by simpa using D.bp, rfl⟩ ?_ ?_
    · rintro i σ H' hi ⟨r, q, v5, v6, v7, v8, v9, rfl, sH', eR', eQ', hrl, hql, hbr, hd⟩
      have hin : i < n := by simpa using hi
      obtain ⟨a, ha⟩ : ∃ a : Nat, a = n - 1 - i := ⟨_, rfl⟩
      have hP' := Same.tup sH' hP
      have hO' := Same.tup sH' hO
      have hai : n - i = a + 1 := by omega
      rw [hai] at hd
      have hfit : a + f.length ≤ r.length := by omega
      have bx : (r.getD (a + f.length - 1) 0).natAbs ≤ 2 ^ (400 + 101 * i) := Nat.le_trans (hbr _) (grow i)
      have hlen : ((f.map V.int).length : Int) = (f.length : Int) := by rw [List.length_map]
      refine ⟨.ref R, rfl, _, rfl, .ref o, rfl, o, _, rfl, .inr hO', _, _, rfl, rfl, _, _, rfl, rfl, R, _, _, .int (r.getD (a + f.length - 1) 0), rfl, rfl, SqL.of eR', at_of (j := a + f.length - 1) (by rw [hlen]; simp; omega) (get_int (by omega)),
        .ref o, rfl, 1, rfl, o, _, -1, .int l, rfl, rfl, hO', D.last_at, _, _, rfl, D.div _, fun t nt => ?_⟩
      refine ⟨t, _, rfl, tup_of upd_same, rfl, _, _, rfl, _, _, rfl, rfl, ?_⟩
      have st := Same.upd (o := .tup [.int ((r.getD (a + f.length - 1) 0).fdiv l), .int ((r.getD (a + f.length - 1) 0).fmod l)]) nt
      have eR1 := st _ _ eR'
      have eQ1 := st _ _ eQ'
      have hO1 := Same.tup st hO'
      have sH1 := sH'.trans st
      generalize upd H' t (.tup [.int ((r.getD (a + f.length - 1) 0).fdiv l), .int ((r.getD (a + f.length - 1) 0).fmod l)]) = H1 at eR1 eQ1 hO1 sH1 ⊢
      refine ⟨_, rfl, rfl, _, rfl, ?_⟩
      by_cases hz : (r.getD (a + f.length - 1) 0).fmod l = 0
      · rw [hz, decide_eq_true rfl]
        refine iteF ?_
        have hd2 : divP f f.length l a (subs ((r.getD (a + f.length - 1) 0).fdiv l) r a f) (q.set a ((r.getD (a + f.length - 1) 0).fdiv l)) = divP f f.length l n ps (List.replicate n 0) := by
          rw [← hd]
          show _ = (if (r.getD (a + f.length - 1) 0).fmod l ≠ 0 then none else _)
          rw [if_neg (by simpa using hz)]
        -- quotient[at] = factor
        refine ⟨_, rfl, .ref Qt, rfl, _, rfl, Qt, _, _, a, rfl, rfl, eQ1, ixN_of (by simp; omega) (by rw [List.length_map]; omega), ?_⟩
        have eQ2 : upd H1 Qt (.lst ((q.map V.int).set a (V.int ((r.getD (a + f.length - 1) 0).fdiv l)))) Qt = some (.lst ((q.set a ((r.getD (a + f.length - 1) 0).fdiv l)).map V.int)) := by
          rw [upd_same, List.map_set]
        have eR2 : upd H1 Qt (.lst ((q.map V.int).set a (V.int ((r.getD (a + f.length - 1) 0).fdiv l)))) R = some (.lst (r.map V.int)) := by
          rw [upd_ne (Ne.symm nQR)]
          exact eR1
        have sH2 : Same H (upd H1 Qt (.lst ((q.map V.int).set a (V.int ((r.getD (a + f.length - 1) 0).fdiv l))))) := fun b o e => by
          rw [upd_ne (ne_of_none e nQH)]
          exact sH1 _ _ e
        change (_ : Hp → Prop) (upd H1 Qt (.lst ((q.map V.int).set a (V.int ((r.getD (a + f.length - 1) 0).fdiv l)))))
        generalize upd H1 Qt (.lst ((q.map V.int).set a (V.int ((r.getD (a + f.length - 1) 0).fdiv l)))) = H2 at eR2 eQ2 sH2 ⊢
        have bc : ((r.getD (a + f.length - 1) 0).fdiv l).natAbs ≤ 2 ^ (400 + 101 * i) := Nat.le_trans (fdiv_le D.nz) bx
        have bc2 : ((r.getD (a + f.length - 1) 0).fdiv l).natAbs ≤ 2 ^ 400 * (2 ^ 100 + 1) ^ i := Nat.le_trans (fdiv_le D.nz) (hbr _)
        generalize (r.getD (a + f.length - 1) 0).fdiv l = c at hd2 eQ2 bc bc2 ⊢
        -- for k, c in enumerate(other)
        refine ⟨.ref o, rfl, o, _, rfl, Same.tup sH2 hO, ?_⟩
        refine EN.for_pairs (K := K) (xs := f.map V.int) (fun j σ H' => ∃ (v8 v9 : Option V), σ = [some (V.ref p), some (V.ref o), some (V.int (n : Int)), some (V.ref R), some (V.ref Qt), some (V.int ((0 : Int) + (((n : Int) - 0).toNat : Nat) - 1 + (i : Nat) * (-1))), some (V.int c), some (V.int 0), v8, v9] ∧ Same H H' ∧
            H' R = some (.lst ((subs c r a (f.take j)).map V.int)) ∧ H' Qt = some (.lst ((q.set a c).map V.int)))
          ⟨_, _, rfl, sH2, eR2, eQ2⟩ (fun j σ H' _ ⟨_, _, _, s, _⟩ => Same.tup s hO) ?_ ?_
        · rintro j x σ H' T hx ⟨v8, v9, rfl, s5, eR5, eQ5⟩ nT
          have hj : j < f.length := by
            have := (List.getElem?_eq_some_iff.mp hx).1
            rwa [List.length_map] at this
          have ex : x = .int (f.getD j 0) := by
            rw [get_int hj] at hx
            exact (Option.some.inj hx).symm
          subst ex
          have s6 := Same.upd (o := .tup [.int (j : Nat), .int (f.getD j 0)]) nT
          have eR6 := s6 _ _ eR5
          have eQ6 := s6 _ _ eQ5
          have sH6 := s5.trans s6
          refine ⟨T, _, rfl, tup_of upd_same, rfl, _, _, rfl, _, _, rfl, rfl, ?_⟩
          generalize upd H' T (.tup [.int (j : Nat), .int (f.getD j 0)]) = H6 at eR6 eQ6 sH6 ⊢
          have hsl := subs_len c (f.take j) r a
          refine ⟨.ref R, rfl, _, rfl, _, rfl, _, _, rfl, rfl, R, _, a + j, _, rfl, congrArg V.int (by simp; omega), SqL.of eR6, get_int (by omega), _, rfl, _, rfl, _, _, rfl, rfl, wide_le2 bc (D.bf j) (by omega), _, _, rfl, rfl, R, _, _, a + j, rfl, rfl, eR6, ixN_of (by simp; omega) (by rw [List.length_map]; omega), ?_⟩
          refine ⟨_, _, rfl, ?_, ?_, ?_⟩
          · intro b o e
            rw [upd_ne (ne_of_none e nR)]
            exact sH6 _ _ e
          · rw [upd_same, List.take_succ_eq_append_getElem hj, subs_snoc _ _ _ _ _ (by rw [List.length_take]; omega), List.length_take, Nat.min_eq_left (by omega), List.map_set]
            have ef : f.getD j 0 = f[j] := by
              rw [List.getD_eq_getElem?_getD, List.getElem?_eq_getElem hj]
              rfl
            rw [ef]
          · rw [upd_ne nQR]
            exact eQ6
        · rintro σ H' ⟨v8, v9, rfl, s5, eR5, eQ5⟩
          rw [List.length_map, List.take_length] at eR5
          refine ⟨subs c r a f, q.set a c, _, _, _, _, _, rfl, s5, eR5, eQ5, by rw [subs_len]; exact hrl, by rw [List.length_set]; exact hql, ?_, by rw [show n - (i + 1) = a by omega]; exact hd2⟩
          rw [show 2 ^ 400 * (2 ^ 100 + 1) ^ (i + 1) = (2 ^ 400 * (2 ^ 100 + 1) ^ i) * (2 ^ 100 + 1) from by rw [Nat.pow_succ (2 ^ 100 + 1) i, Nat.mul_assoc]]
          exact subs_bd hbr bc2 D.bf hfit
      · rw [decide_eq_false (by intro e; exact hz (V.int.inj e))]
        refine iteT (qn ?_ _ sH1)
        rw [hq0, ← hd]
        show res (if (r.getD (a + f.length - 1) 0).fmod l ≠ 0 then none else _) = none
        rw [if_pos hz]
        rfl
    · rintro σ H' ⟨r, q, v5, v6, v7, v8, v9, rfl, sH', eR', eQ', hrl, hql, hbr, hd⟩
      have en : (((n : Int) - 0).toNat : Nat) = n := by simp
      rw [en, Nat.sub_self] at hd
      have hq1 : quo ps f l = if (r.any fun a => a != 0) = true then none else some q := by rw [hq0, ← hd]; rfl
      refine ⟨.ref R, rfl, R, r, rfl, SqL.of eR', _, rfl, ?_⟩
      by_cases h : (r.any fun a => a != 0) = true
      · rw [h]
        exact iteT (qn (by rw [hq1, if_pos h]) _ sH')
      · rw [Bool.eq_false_iff.mpr h]
        exact iteF ⟨.ref Qt, rfl, Qt, q, rfl, SqL.of eQ', fun t H2 s2 nt et => qs q (by rw [hq1, if_neg h]) t H2 (sH'.trans s2) (sH'.free nt) et⟩
/-! ### products by a dict -/
def prod (f g : List Int) : List Int := (List.range (f.length + g.length)).map (pf f g)
def Ag (kvs : List (Key × V)) (S : Nat → Int) : Prop := ∀ t : Nat, match valV kvs (Sum.inl ((t : Nat) : Int)) with
  | some v => v = .int (S t)
  | none => S t = 0
theorem Ag.get {kvs : List (Key × V)} {S : Nat → Int} (h : Ag kvs S) (t : Nat) {z : Int} (e : z = (t : Int)) : (valV kvs (Sum.inl z)).getD (.int 0) = .int (S t) := by
  subst e
  have q := h t
  cases hv : valV kvs (Sum.inl ((t : Nat) : Int)) with
  | none =>
    rw [hv] at q
    have q' : S t = 0 := q
    rw [q']
    rfl
  | some v =>
    rw [hv] at q
    have q' : v = .int (S t) := q
    rw [q']
    rfl
theorem Ag.put {kvs : List (Key × V)} {S S' : Nat → Int} (h : Ag kvs S) (k : Nat) {z : Int} (e : z = (k : Int)) (hk : ∀ t, t ≠ k → S' t = S t) : Ag (putK kvs (Sum.inl z) (.int (S' k))) S' := by
  subst e
  intro t
  rw [valV_put]
  by_cases ht : t = k
  · subst ht
    rw [if_pos rfl]
  · rw [if_neg (by intro e; injection e with e2; exact ht (by omega)), hk t ht]
    exact h t
theorem Ag.congr {kvs : List (Key × V)} {S S' : Nat → Int} (h : Ag kvs S) (e : ∀ t, S' t = S t) : Ag kvs S' := by
  have : S' = S := funext e
  rw [this]
  exact h
def spProd (K : PySem.W.Frag) : Sp := fun vs H Q _ => ∃ (x y : Addr) (f g : List Int), vs = [.ref x, .ref y] ∧ SqT K H x (f.map V.int) ∧ SqT K H y (g.map V.int) ∧ f.length ≤ 60 ∧ g.length ≤ 60 ∧ Bd (2 ^ 100) f ∧ Bd (2 ^ 100) g ∧
  ∀ p H', Same H H' → H p = none → H' p = some (.tup ((strip (prod f g)).map V.int)) → Q (.ref p) H'
theorem scProd : FnScope ["first", "second", "powers", "i", "a", "j", "b", "k"] ["first", "second"] (defScope sProd) := ⟨rfl, rfl, rfl, by decide +kernel, rfl, by decide +kernel, by decide +kernel⟩
theorem ok_prod {f0 t : Addr} {fd td : FuncData} (F : Fun K "_law_product" "_law_product" sProd f0 fd) (T : Names3 mg) (GS : FnOk P w K mg base CX0 1 t td ["numbers"] (spStrip K)) (PS_ : Def K mg "_law_strip" t td ["numbers"]) :
    FnOk P w K mg base CX0 2 f0 fd ["first", "second"] (spProd K) := by
  refine F.ok scProd (fun vs H Q E h => ?_) (fun cdv A outer s H vs Q E hr h => ?_)
  · obtain ⟨x, y, f, g, rfl, _⟩ := h
    rfl
  · obtain ⟨x, y, f, g, rfl, hX, hY, hlf, hlg, bf, bg, q⟩ := h
    have hu : A.units + 3 + 1 < cLine := by have := hr.units; exact Nat.lt_of_le_of_lt (Nat.add_le_add_left (by decide : 1 ≤ 64) _) this
    refine ⟨_, (pss_cons (ps_set (i := 2) scProd.nd rfl (.inr rfl) pe_dnewK)
      (pss_cons (ps_for PassesOwn.never rfl (EN.pi_pairs (by rfl) T.enumerate (pa_cons (pv 0) pa_nil)) (pg_tup rfl (pgs_cons (pg_name (i := 3) scProd.nd rfl (.inl rfl)) (pgs_cons (pg_name (i := 4) scProd.nd rfl (.inl rfl)) pgs_nil))) (pss_one (ps_for PassesOwn.never rfl (EN.pi_pairs (by rfl) T.enumerate (pa_cons (pv 1) pa_nil)) (pg_tup rfl (pgs_cons (pg_name (i := 5) scProd.nd rfl (.inl rfl)) (pgs_cons (pg_name (i := 6) scProd.nd rfl (.inl rfl)) pgs_nil))) (pss_one (ps_dput hu (pv 2) (pe_op op_add (pv 3) (pv 5)) (pe_op op_add (pe_dget2 hu (pv 2) (pe_op op_add (pv 3) (pv 5)) pe_int ⟨rfl, rfl, rfl, rfl⟩) (pe_op op_mulW (pv 4) (pv 6))) rfl)))))
      (pss_one (ps_ret (pe_call GS (hr.mono (by decide)) (by rfl) PS_.is PS_.kp PS_.bi .nil pass0 (pa_cons (pe_lc (own := [("k", 7)]) (g := gName 7) (tt := tYes) rfl scProd.nd (pi_range1 rfl T.range (pa_cons (pe_op op_add (pe_callB call_len_seq (by rfl) T.len PySem.boot_len (pa_cons (pv 0) pa_nil)) (pe_callB call_len_seq (by rfl) T.len PySem.boot_len (pa_cons (pv 1) pa_nil))) pa_nil)) (blkOk_by (N := ["first", "second", "powers", "i", "a", "j", "b", "k"]) (sc := defScope sProd) (own := [("k", 7)]) (by decide +kernel)) (fun _ _ _ _ _ => (pg_name (i := 7) scProd.nd rfl (.inl rfl))) (fun _ _ _ _ _ => pts_nil) (fun _ _ _ _ _ => (pe_dget2 hu (pv 2) (pv 7) pe_int ⟨rfl, rfl, rfl, rfl⟩))) pa_nil)))))), ?_⟩
    intro d nd
    have s1 : Same H (upd H d (.dK [])) := Same.upd nd
    refine ⟨.ref x, rfl, x, _, rfl, Same.tup s1 hX, ?_⟩
    refine EN.for_pairs (K := K) (xs := f.map V.int) (fun i σ H' => ∃ (kvs : List (Key × V)) (v3 v4 v5 v6 : Option V), σ = [some (V.ref x), some (V.ref y), some (V.ref d), v3, v4, v5, v6, none] ∧ Same H H' ∧ H' d = some (.dK kvs) ∧
        Ag kvs (pf (f.take i) g) ∧ kvs.length ≤ i * 60)
      ⟨[], _, _, _, _, rfl, s1, upd_same, fun t => rfl, by simp⟩ (fun i σ H' _ ⟨_, _, _, _, _, _, s, _⟩ => Same.tup s hX) ?_ ?_
    · rintro i v σ H' T hv ⟨kvs, v3, v4, v5, v6, rfl, s2, ed, ag, hk⟩ nT
      have hi : i < f.length := by
        have := (List.getElem?_eq_some_iff.mp hv).1
        rwa [List.length_map] at this
      have ev : v = .int (f.getD i 0) := by
        rw [get_int hi] at hv
        exact (Option.some.inj hv).symm
      subst ev
      have s3 := Same.upd (o := .tup [.int (i : Nat), .int (f.getD i 0)]) nT
      refine ⟨T, _, rfl, tup_of upd_same, rfl, _, _, rfl, _, _, rfl, rfl, ?_⟩
      refine ⟨.ref y, rfl, y, _, rfl, Same.tup (s2.trans s3) hY, ?_⟩
      refine EN.for_pairs (K := K) (xs := g.map V.int) (fun j σ H' => ∃ (kvs : List (Key × V)) (v5 v6 : Option V), σ = [some (V.ref x), some (V.ref y), some (V.ref d), some (V.int (i : Int)), some (V.int (f.getD i 0)), v5, v6, none] ∧ Same H H' ∧ H' d = some (.dK kvs) ∧
          Ag kvs (fun t => pf (f.take i) g t + if i ≤ t then f.getD i 0 * (g.take j).getD (t - i) 0 else 0) ∧ kvs.length ≤ i * 60 + j)
        ⟨kvs, _, _, rfl, s2.trans s3, s3 _ _ ed, ag.congr (by intro t; simp), by omega⟩ (fun i σ H' _ ⟨_, _, _, _, s, _⟩ => Same.tup s hY) ?_ ?_
      · rintro j v σ H1 T1 hv ⟨kvs, v5, v6, rfl, s4, ed4, ag4, hk4⟩ nT1
        have hj : j < g.length := by
          have := (List.getElem?_eq_some_iff.mp hv).1
          rwa [List.length_map] at this
        have ev : v = .int (g.getD j 0) := by
          rw [get_int hj] at hv
          exact (Option.some.inj hv).symm
        subst ev
        have s5 := Same.upd (o := .tup [.int (j : Nat), .int (g.getD j 0)]) nT1
        have ed5 := s5 _ _ ed4
        have s6 := s4.trans s5
        refine ⟨T1, _, rfl, tup_of upd_same, rfl, _, _, rfl, _, _, rfl, rfl, ?_⟩
        generalize upd H1 T1 (.tup [.int (j : Nat), .int (g.getD j 0)]) = H2 at ed5 s6 ⊢
        have hget := ag4.get (i + j) (z := (i : Int) + (j : Int)) (by omega)
        refine ⟨.ref d, rfl, d, rfl, .inl ⟨kvs, .inl ed5⟩, _, rfl, _, rfl, _, _, rfl, rfl, _, DGet.k (k := Sum.inl ((i : Int) + (j : Int))) ed5, _, rfl, _, rfl, _, _, rfl, rfl, wide_le2 (bf i) (bg j) (by decide), _, _, hget, rfl, .ref d, rfl, _, rfl, _, rfl, _, _, rfl, rfl, d, _, rfl, DPut.k (k := Sum.inl ((i : Int) + (j : Int))) ed5 (Nat.lt_of_le_of_lt hk4 (by have : i * 60 + j ≤ 60 * 60 + 60 := by { have := Nat.mul_le_mul_right 60 (Nat.le_of_lt (Nat.lt_of_lt_of_le hi hlf)); omega }; exact Nat.lt_of_le_of_lt this (by decide))), ?_⟩
        have hS : ∀ t, t ≠ i + j → (fun t => pf (f.take i) g t + if i ≤ t then f.getD i 0 * (g.take (j + 1)).getD (t - i) 0 else 0) t = (fun t => pf (f.take i) g t + if i ≤ t then f.getD i 0 * (g.take j).getD (t - i) 0 else 0) t := by
          intro t ht
          have : (g.take (j + 1)).getD (t - i) 0 = (g.take j).getD (t - i) 0 ∨ ¬ i ≤ t := by
            by_cases h : i ≤ t
            · left
              rw [List.take_succ_eq_append_getElem hj, getD_snoc, List.length_take, Nat.min_eq_left (by omega), if_neg (by omega)]
              simp
            · exact .inr h
          rcases this with e | e
          · simp only [e]
          · simp only [if_neg e]
        have hnew := ag4.put (i + j) (z := (i : Int) + (j : Int)) (by omega) hS
        have hval : (fun t => pf (f.take i) g t + if i ≤ t then f.getD i 0 * (g.take (j + 1)).getD (t - i) 0 else 0) (i + j) = (fun t => pf (f.take i) g t + if i ≤ t then f.getD i 0 * (g.take j).getD (t - i) 0 else 0) (i + j) + f.getD i 0 * g.getD j 0 := by
          simp only [Nat.le_add_right, if_true, Nat.add_sub_cancel_left]
          rw [List.take_succ_eq_append_getElem hj, getD_snoc, List.length_take, Nat.min_eq_left (by omega), if_pos rfl, getD_out (g := g.take j) (t := j) (by rw [List.length_take]; omega)]
          have e : g.getD j 0 = g[j] := by
            rw [List.getD_eq_getElem?_getD, List.getElem?_eq_getElem hj]
            rfl
          rw [e]
          simp
        dsimp only at hval hnew
        rw [hval] at hnew
        refine ⟨_, _, _, rfl, ?_, upd_same, hnew, Nat.le_trans (length_putK _ _ _) (by omega)⟩
        intro b o e
        rw [upd_ne (ne_of_none e nd)]
        exact s6 _ _ e
      · rintro σ H1 ⟨kvs, v5, v6, rfl, s4, ed4, ag4, hk4⟩
        rw [List.length_map] at hk4
        refine ⟨kvs, _, _, _, _, rfl, s4, ed4, ag4.congr (fun t => ?_), by omega⟩
        rw [List.take_succ_eq_append_getElem hi, pf_snoc_f, List.length_take, Nat.min_eq_left (by omega), List.length_map, List.take_length]
        have e : f.getD i 0 = f[i] := by
          rw [List.getD_eq_getElem?_getD, List.getElem?_eq_getElem hi]
          rfl
        rw [e]
    · rintro σ H' ⟨kvs, v3, v4, v5, v6, rfl, s2, ed, ag, hk⟩
      rw [List.length_map, List.take_length] at ag
      refine ⟨.ref x, rfl, x, _, rfl, .inr (Same.tup s2 hX), .ref y, rfl, y, _, rfl, .inr (Same.tup s2 hY), _, _, rfl, rfl, _, rfl, by rw [List.length_map, List.length_map]; omega, by rw [List.length_map, List.length_map]; omega, fun D nD => ?_⟩
      have nDH : H D = none := s2.free nD
      refine lc_range (lo := 0) (n := (((f.map V.int).length : Int) + ((g.map V.int).length : Int)).toNat) (fun i H' => H' D = some (.lst (((List.range i).map (pf f g)).map V.int)) ∧ Same H H' ∧ H' d = some (.dK kvs)) ⟨upd_same, s2.trans (Same.upd nD), Same.upd nD _ _ ed⟩ ?_ ?_
      · rintro i H3 hi ⟨e3, s3, ed3⟩
        refine ⟨rfl, ?_⟩
        dsimp only [tYes]
        refine iteT ?_
        have hi2 : i < f.length + g.length := by
          rw [List.length_map, List.length_map] at hi
          omega
        have hget := ag.get i (z := (0 : Int) + (i : Int)) (by omega)
        refine ⟨.ref d, rfl, d, rfl, .inl ⟨kvs, .inl ed3⟩, _, rfl, _, DGet.k (k := Sum.inl ((0 : Int) + (i : Int))) ed3, _, e3, by rw [List.length_map, List.length_map, List.length_range]; exact small1000 (by omega), ?_, ?_, ?_⟩
        · rw [upd_same, hget, List.range_succ, List.map_append, List.map_append]
          rfl
        · intro b o e
          rw [upd_ne (ne_of_none e nDH)]
          exact s3 _ _ e
        · rw [upd_ne (ne_of_none ed nD)]
          exact ed3
      · rintro H3 ⟨e3, s3, ed3⟩
        have en : (((f.map V.int).length : Int) + ((g.map V.int).length : Int)).toNat = f.length + g.length := by
          rw [List.length_map, List.length_map]
          omega
        rw [en] at e3
        exact ⟨D, prod f g, rfl, .inl (SqL.of e3), fun p H4 s4 np e4 => q p H4 (s3.trans s4) (s3.free np) e4⟩
/-! ### the law's own division -/
theorem pow_bd {l : Int} (h : l.natAbs ≤ 2 ^ 100) (j : Nat) : (l ^ j).natAbs ≤ 2 ^ (100 * j) := by
  rw [Int.natAbs_pow, Nat.pow_mul]
  exact Nat.pow_le_pow_left h _
theorem zeros_scale (S : Int) (n : Nat) : (List.replicate n (0 : Int)).map (S * ·) = List.replicate n 0 := by
  rw [List.map_replicate, Int.mul_zero]
theorem scale_bd {S : Int} {r : List Int} {A B : Nat} (hr : Bd (2 ^ A) r) (hS : S.natAbs ≤ 2 ^ B) : Bd (2 ^ (A + B)) (r.map (S * ·)) := fun t => by
  rw [getD_scale, Int.natAbs_mul, Nat.mul_comm, Nat.pow_add]
  exact Nat.mul_le_mul (hr t) hS
theorem neD_ints {H : Hp} {a b : Addr} {xs : List Int} (ha : H a = some (.lst (xs.map V.int))) (hb : H b = some (.lst [])) : ∃ d e, Dp K H (.ref a) d ∧ Dp K H (.ref b) e ∧ SeqAt.shaped d = true ∧ SeqAt.shaped e = true ∧ (!PyData.eqv d e) = decide (xs ≠ []) := by
  refine ⟨.list (xs.map PyData.int), .list [], .lst (SqL.of ha) (dpInts xs), .lst (SqL.of hb) .nil, PySem.W.ke_shaped_ints xs, rfl, ?_⟩
  cases xs with
  | nil => rfl
  | cons x r => rfl
theorem quo_law {ps f : List Int} {l : Int} (D : Dv ps f l) (n : Nat) (hn : n = ps.length + 1 - f.length) : resL (l ^ n) (divL f f.length l n (ps.map (l ^ n * ·)) (List.replicate n 0)) = quo ps f l := by
  have h := res_eq D.nz rfl D.one n ps (List.replicate n 0) (by omega) (by simp)
  rw [zeros_scale] at h
  rw [h, hn]
  rfl
def spExp (K : PySem.W.Frag) : Sp := fun vs H Q _ => ∃ (p o : Addr) (ps f : List Int) (l : Int), vs = [.ref p, .ref o] ∧ SqT K H p (ps.map V.int) ∧ SqT K H o (f.map V.int) ∧ Dv ps f l ∧
  (quo ps f l = none → ∀ H', Same H H' → Q .non H') ∧ ∀ q, quo ps f l = some q → ∀ t H', Same H H' → H t = none → H' t = some (.tup ((strip q).map V.int)) → Q (.ref t) H'
theorem scExp : FnScope ["row", "divisor", "steps", "scale", "k", "rest", "result", "i", "b", "a"] ["row", "divisor"] (defScope sExp) := ⟨rfl, rfl, rfl, by decide +kernel, rfl, by decide +kernel, by decide +kernel⟩
theorem ok_exp {f0 g : Addr} {fd gd : FuncData} (F : Fun K "_law_expected" "_law_expected" sExp f0 fd) (T : Names3 mg) (GS : FnOk P w K mg base CX0 1 g gd ["numbers"] (spStrip K)) (PS_ : Def K mg "_law_strip" g gd ["numbers"]) :
    FnOk P w K mg base CX0 2 f0 fd ["row", "divisor"] (spExp K) := by
  refine F.ok scExp (fun vs H Q E h => ?_) (fun cdv A outer s H vs Q E hr h => ?_)
  · obtain ⟨p, o, ps, f, l, rfl, _⟩ := h
    rfl
  · obtain ⟨p, o, ps, f, l, rfl, hP, hO, D, qn, qs⟩ := h
    have hu : A.units + 3 + 64 < cLine := hr.units
    refine ⟨_, (pss_cons (ps_set (i := 2) scExp.nd rfl (.inl rfl) (pe_callB (max_is rfl) (by rfl) T.max (by decide +kernel) (pa_cons pe_int (pa_cons (pe_op op_add (pe_op op_sub (pe_callB call_len_seq (by rfl) T.len PySem.boot_len (pa_cons (pv 0) pa_nil)) (pe_callB call_len_seq (by rfl) T.len PySem.boot_len (pa_cons (pv 1) pa_nil))) pe_int) pa_nil))))
      (pss_cons (ps_set (i := 3) scExp.nd rfl (.inr rfl) pe_int)
      (pss_cons (ps_for PassesOwn.never rfl (pi_range1 rfl T.range (pa_cons (pv 2) pa_nil)) (pg_name (i := 4) scExp.nd rfl (.inl rfl)) (pss_one (ps_set (i := 3) scExp.nd rfl (.inr rfl) (pe_op op_mulW (pv 3) (pe_ix ix_tup (pv 1) (pe_un un_neg pe_int) (fun _ _ => rfl))))))
      (pss_cons (ps_par (i := 5) (j := 6) (by rfl) scExp.nd rfl rfl (by decide) rfl rfl (pa_cons (pe_lc (own := [("a", 9)]) (g := gName 9) (tt := tYes) rfl scExp.nd (pi_tup (pv 0)) (blkOk_by (N := ["row", "divisor", "steps", "scale", "k", "rest", "result", "i", "b", "a"]) (sc := defScope sExp) (own := [("a", 9)]) (by decide +kernel)) (fun _ _ _ _ _ => (pg_name (i := 9) scExp.nd rfl (.inl rfl))) (fun _ _ _ _ _ => pts_nil) (fun _ _ _ _ _ => (pe_op op_mulW (pv 9) (pv 3)))) (pa_cons (pe_op op_rep (pe_lst (pa_cons pe_int pa_nil)) (pv 2)) pa_nil)) (by rfl))
      (pss_cons (ps_for PassesOwn.never rfl (pi_range3 rfl T.range (pa_cons (pe_op op_sub (pv 2) pe_int) (pa_cons (pe_un un_neg pe_int) (pa_cons (pe_un un_neg pe_int) pa_nil)))) (pg_name (i := 7) scExp.nd rfl (.inl rfl)) (pss_cons (ps_asg (pe_op OPS.op_fdivZ (pe_ix ix_list (pv 5) (pe_op op_sub (pe_op op_add (pv 7) (pe_callB call_len_seq (by rfl) T.len PySem.boot_len (pa_cons (pv 1) pa_nil))) pe_int) (fun _ _ => rfl)) (pe_ix ix_tup (pv 1) (pe_un un_neg pe_int) (fun _ _ => rfl))) (pg_sub (pv 6) (pv 7) set_list))
      (pss_one (ps_for PassesOwn.never rfl (EN.pi_pairs (by rfl) T.enumerate (pa_cons (pv 1) pa_nil)) (pg_tup rfl (pgs_cons (pg_name (i := 4) scExp.nd rfl (.inl rfl)) (pgs_cons (pg_name (i := 8) scExp.nd rfl (.inl rfl)) pgs_nil))) (pss_one (ps_asg (pe_op op_sub (pe_ix ix_list (pv 5) (pe_op op_add (pv 7) (pv 4)) (fun _ _ => rfl)) (pe_op op_mulW (pe_ix ix_list (pv 6) (pv 7) (fun _ _ => rfl)) (pv 8))) (pg_sub (pv 5) (pe_op op_add (pv 7) (pv 4)) set_list)))))))
      (pss_cons (ps_if (PW.pt (pw_or (pt_cmpR (op_neD hu) (pe_lc (own := [("a", 9)]) (g := gName 9) rfl scExp.nd (pi_list (pv 5)) (blkOk_by (N := ["row", "divisor", "steps", "scale", "k", "rest", "result", "i", "b", "a"]) (sc := defScope sExp) (own := [("a", 9)]) (by decide +kernel)) (fun _ _ _ _ _ => (pg_name (i := 9) scExp.nd rfl (.inl rfl))) (fun _ _ _ _ _ => (pts_one (pt_cmpR op_ne (pv 9) pe_int (nomark _)))) (fun _ _ _ _ _ => (pv 9))) (pe_lst pa_nil) (nomark _)) (pw_or1 (pt_cmpR (op_neD hu) (pe_lc (own := [("a", 9)]) (g := gName 9) rfl scExp.nd (pi_list (pv 6)) (blkOk_by (N := ["row", "divisor", "steps", "scale", "k", "rest", "result", "i", "b", "a"]) (sc := defScope sExp) (own := [("a", 9)]) (by decide +kernel)) (fun _ _ _ _ _ => (pg_name (i := 9) scExp.nd rfl (.inl rfl))) (fun _ _ _ _ _ => (pts_one (pt_cmpR op_ne (pe_op op_modN (pv 9) (pv 3)) pe_int (nomark _)))) (fun _ _ _ _ _ => (pv 9))) (pe_lst pa_nil) (nomark _))))) (pss_one (ps_ret pe_non)) pss_nil)
      (pss_one (ps_ret (pe_call GS (hr.mono (by decide)) (by rfl) PS_.is PS_.kp PS_.bi .nil pass0 (pa_cons (pe_lc (own := [("a", 9)]) (g := gName 9) (tt := tYes) rfl scExp.nd (pi_list (pv 6)) (blkOk_by (N := ["row", "divisor", "steps", "scale", "k", "rest", "result", "i", "b", "a"]) (sc := defScope sExp) (own := [("a", 9)]) (by decide +kernel)) (fun _ _ _ _ _ => (pg_name (i := 9) scExp.nd rfl (.inl rfl))) (fun _ _ _ _ _ => pts_nil) (fun _ _ _ _ _ => (pe_op OPS.op_fdivZ (pv 9) (pv 3)))) pa_nil)))))))))), ?_⟩
    have h1 := D.one
    have hlp := D.lp
    have hlf := D.lf
    obtain ⟨n, hn⟩ : ∃ n : Nat, n = ps.length + 1 - f.length := ⟨_, rfl⟩
    refine ⟨.ref p, rfl, p, _, rfl, .inr hP, .ref o, rfl, o, _, rfl, .inr hO, _, _, rfl, rfl, _, _, rfl, rfl, _, _, (n : Int), rfl, ?_, ?_⟩
    · rw [List.length_map, List.length_map]
      split <;> omega
    -- scale
    refine ⟨_, rfl, (n : Int), rfl, by omega, by omega, for_range (lo := 0) (n := (n : Int).toNat) (fun i σ H' => ∃ v4 : Option V, σ = [some (V.ref p), some (V.ref o), some (V.int (n : Int)), some (V.int (l ^ i)), v4, none, none, none, none, none] ∧ H' = H) ⟨none, by rw [Int.pow_zero]; rfl, rfl⟩ ?_ ?_⟩
    · rintro i σ H' hi ⟨v4, rfl, rfl⟩
      refine ⟨_, rfl, .ref o, rfl, 1, rfl, o, _, -1, .int l, rfl, rfl, hO, D.last_at, _, _, rfl, rfl, wide_le2 (pow_bd D.lead i) D.lead (by omega), some (V.int ((0 : Int) + (i : Nat))), ?_, rfl⟩
      rw [Int.pow_succ]
      rfl
    rintro σ H' ⟨v4, rfl, rfl⟩
    rw [Int.toNat_natCast]
    have bS : (l ^ n).natAbs ≤ 2 ^ 6100 := Nat.le_trans (pow_bd D.lead n) (Nat.pow_le_pow_right (by decide) (by omega))
    have hS0 : l ^ n ≠ 0 := pow_ne D.nz n
    have qL := quo_law D n hn
    generalize hSdef : l ^ n = S at bS hS0 qL ⊢
    have dS : ∀ x : Int, OPS.CDivZ x S := fun x => ⟨hS0, Nat.lt_of_lt_of_le (PySem.Flt.log2_lt_of (k := 6101) (by decide) (Nat.lt_of_le_of_lt bS (Nat.pow_lt_pow_right (by decide) (by decide)))) (by decide)⟩
    -- rest = [a * scale for a in row]
    refine ⟨.ref p, rfl, p, rfl, ⟨_, hP⟩, fun R nR => ?_⟩
    refine lc_tup (K := K) (a := p) (xs := ps.map V.int) (fun i H2 => Same H' H2 ∧ H2 R = some (.lst (((ps.take i).map (S * ·)).map V.int))) ⟨Same.upd nR, upd_same⟩ (fun i H _ h => Same.tup h.1 hP) ?_ ?_
    · rintro i x H2 hx ⟨s2, e2⟩
      have hi : i < ps.length := by
        have := (List.getElem?_eq_some_iff.mp hx).1
        rwa [List.length_map] at this
      have ex : x = .int ps[i] := by
        rw [List.getElem?_map, List.getElem?_eq_getElem hi] at hx
        exact (Option.some.inj hx).symm
      subst ex
      refine ⟨rfl, ?_⟩
      dsimp only [tYes]
      refine iteT ?_
      refine ⟨_, rfl, _, rfl, _, _, rfl, rfl, wide_le2 (D.bp.mem (List.getElem_mem hi)) bS (by decide), _, e2, by simp only [List.length_map, List.length_take]; exact small1000 (by omega), ?_, ?_⟩
      · intro b o e
        rw [upd_ne (ne_of_none e nR)]
        exact s2 _ _ e
      · rw [upd_same, List.take_succ_eq_append_getElem hi, List.map_append, List.map_append]
        show _ = some (HO.lst (_ ++ [V.int (S * ps[i])]))
        rw [Int.mul_comm S]
    rintro H2 ⟨s2, e2⟩
    rw [List.length_map, List.take_length] at e2
    -- result = [0] * steps
    refine ⟨by show 1 ≤ sizeLine; decide, fun z nz => ⟨_, rfl, z, (n : Int), _, rfl, rfl, upd_same, by omega, by omega, ?_, fun Qt nQ => ⟨_, _, rfl, ?_⟩⟩⟩
    · show 1 * (n : Int).toNat ≤ sizeLine
      rw [Int.toNat_natCast, Nat.one_mul]
      exact Nat.le_of_lt (small1000 (by omega))
    have s3 := Same.upd (o := .lst [.int 0]) nz
    have s4 := Same.upd (o := .lst (List.replicate (n : Int).toNat [V.int 0]).flatten) nQ
    have eR := s4 _ _ (s3 _ _ e2)
    have nQR : Qt ≠ R := (ne_of_none (s3 _ _ e2) nQ).symm
    have nQH : H' Qt = none := (s2.trans s3).free nQ
    have eQ : upd (upd H2 z (.lst [.int 0])) Qt (.lst (List.replicate (n : Int).toNat [V.int 0]).flatten) Qt = some (.lst ((List.replicate n (0 : Int)).map V.int)) := by
      rw [upd_same, Int.toNat_natCast, many_zeros]
    have sH := (s2.trans s3).trans s4
    change (_ : Hp → Prop) (upd (upd H2 z (.lst [.int 0])) Qt (.lst (List.replicate (n : Int).toNat [V.int 0]).flatten))
    generalize upd (upd H2 z (.lst [.int 0])) Qt (.lst (List.replicate (n : Int).toNat [V.int 0]).flatten) = H0 at eR eQ sH ⊢
    clear s2 s3 s4 e2
    have b0 : Bd (2 ^ 6500) (ps.map (S * ·)) := (scale_bd D.bp bS).mono (Nat.pow_le_pow_right (by decide) (by decide))
    -- the division
    refine ⟨_, rfl, _, _, rfl, rfl, 1, rfl, 1, rfl, _, _, _, n, rfl, ?_, ?_⟩
    · have := RgC.neg (i := (n : Int) - 1) (j := -1) (by omega) (by omega) (by omega) (by omega)
      rw [show ((n : Int) - 1 - -1).toNat = n by omega] at this
      exact this
    refine for_rangeC (fun i σ H1 => ∃ (r q : List Int) (v4 v7 v8 : Option V), σ = [some (V.ref p), some (V.ref o), some (V.int (n : Int)), some (V.int S), v4, some (V.ref R), some (V.ref Qt), v7, v8, none] ∧ Same H' H1 ∧
        H1 R = some (.lst (r.map V.int)) ∧ H1 Qt = some (.lst (q.map V.int)) ∧ r.length = ps.length ∧ q.length = n ∧ Bd (2 ^ 6500 * (2 ^ 100 + 1) ^ i) r ∧ divL f f.length l (n - i) r q = divL f f.length l n (ps.map (S * ·)) (List.replicate n 0))
      ⟨ps.map (S * ·), List.replicate n 0, _, _, _, rfl, sH, eR, eQ, by simp, by simp, by simpa using b0, rfl⟩ ?_ ?_
    · rintro i σ H1 hin ⟨r, q, v4, v7, v8, rfl, sH', eR', eQ', hrl, hql, hbr, hd⟩
      obtain ⟨a, ha⟩ : ∃ a : Nat, a = n - 1 - i := ⟨_, rfl⟩
      have hO' := Same.tup sH' hO
      have hai : n - i = a + 1 := by omega
      rw [hai] at hd
      have hfit : a + f.length ≤ r.length := by omega
      have bx : (r.getD (a + f.length - 1) 0).natAbs ≤ 2 ^ (6500 + 101 * i) := Nat.le_trans (hbr _) (grow i)
      have hlen : ((f.map V.int).length : Int) = (f.length : Int) := by rw [List.length_map]
      -- result[i] = rest[i + len(divisor) - 1] // divisor[-1]
      refine ⟨.ref R, rfl, _, rfl, .ref o, rfl, o, _, rfl, .inr hO', _, _, rfl, rfl, _, _, rfl, rfl, R, _, _, .int (r.getD (a + f.length - 1) 0), rfl, rfl, SqL.of eR', at_of (j := a + f.length - 1) (by rw [hlen]; omega) (get_int (by omega)),
        .ref o, rfl, 1, rfl, o, _, -1, .int l, rfl, rfl, hO', D.last_at, _, _, rfl, rfl, D.div _, .ref Qt, rfl, _, rfl, Qt, _, _, a, rfl, rfl, eQ', ixN_of (by omega) (by rw [List.length_map]; omega), ?_⟩
      have eQ2 : upd H1 Qt (.lst ((q.map V.int).set a (V.int ((r.getD (a + f.length - 1) 0).fdiv l)))) Qt = some (.lst ((q.set a ((r.getD (a + f.length - 1) 0).fdiv l)).map V.int)) := by
        rw [upd_same, List.map_set]
      have eR2 : upd H1 Qt (.lst ((q.map V.int).set a (V.int ((r.getD (a + f.length - 1) 0).fdiv l)))) R = some (.lst (r.map V.int)) := by
        rw [upd_ne (Ne.symm nQR)]
        exact eR'
      have sH2 : Same H' (upd H1 Qt (.lst ((q.map V.int).set a (V.int ((r.getD (a + f.length - 1) 0).fdiv l))))) := fun b o e => by
        rw [upd_ne (ne_of_none e nQH)]
        exact sH' _ _ e
      have hd2 : divL f f.length l a (subs ((r.getD (a + f.length - 1) 0).fdiv l) r a f) (q.set a ((r.getD (a + f.length - 1) 0).fdiv l)) = divL f f.length l n (ps.map (S * ·)) (List.replicate n 0) := hd
      have bc : ((r.getD (a + f.length - 1) 0).fdiv l).natAbs ≤ 2 ^ (6500 + 101 * i) := Nat.le_trans (fdiv_le D.nz) bx
      have bc2 : ((r.getD (a + f.length - 1) 0).fdiv l).natAbs ≤ 2 ^ 6500 * (2 ^ 100 + 1) ^ i := Nat.le_trans (fdiv_le D.nz) (hbr _)
      change (_ : Hp → Prop) (upd H1 Qt (.lst ((q.map V.int).set a (V.int ((r.getD (a + f.length - 1) 0).fdiv l)))))
      generalize upd H1 Qt (.lst ((q.map V.int).set a (V.int ((r.getD (a + f.length - 1) 0).fdiv l)))) = H3 at eR2 eQ2 sH2 ⊢
      generalize (r.getD (a + f.length - 1) 0).fdiv l = c at hd2 eQ2 bc bc2
      -- for k, b in enumerate(divisor)
      refine ⟨.ref o, rfl, o, _, rfl, Same.tup sH2 hO, ?_⟩
      refine EN.for_pairs (K := K) (xs := f.map V.int) (fun j σ H4 => ∃ (v4 v8 : Option V), σ = [some (V.ref p), some (V.ref o), some (V.int (n : Int)), some (V.int S), v4, some (V.ref R), some (V.ref Qt), some (V.int ((n : Int) - 1 + (i : Nat) * (-1))), v8, none] ∧ Same H' H4 ∧
          H4 R = some (.lst ((subs c r a (f.take j)).map V.int)) ∧ H4 Qt = some (.lst ((q.set a c).map V.int)))
        ⟨_, _, rfl, sH2, eR2, eQ2⟩ (fun j σ H4 _ ⟨_, _, _, s, _⟩ => Same.tup s hO) ?_ ?_
      · rintro j x σ H4 T hx ⟨v4, v8, rfl, s5, eR5, eQ5⟩ nT
        have hj : j < f.length := by
          have := (List.getElem?_eq_some_iff.mp hx).1
          rwa [List.length_map] at this
        have ex : x = .int (f.getD j 0) := by
          rw [get_int hj] at hx
          exact (Option.some.inj hx).symm
        subst ex
        have s6 := Same.upd (o := .tup [.int (j : Nat), .int (f.getD j 0)]) nT
        have eR6 := s6 _ _ eR5
        have eQ6 := s6 _ _ eQ5
        have sH6 := s5.trans s6
        refine ⟨T, _, rfl, tup_of upd_same, rfl, _, _, rfl, _, _, rfl, rfl, ?_⟩
        generalize upd H4 T (.tup [.int (j : Nat), .int (f.getD j 0)]) = H6 at eR6 eQ6 sH6 ⊢
        have hsl := subs_len c (f.take j) r a
        have hq : ((q.set a c).map V.int)[a]? = some (.int c) := by
          rw [List.getElem?_map, List.getElem?_set_self (by omega)]
          rfl
        refine ⟨.ref R, rfl, _, rfl, _, rfl, _, _, rfl, rfl, R, _, _, _, rfl, rfl, SqL.of eR6, at_of (j := a + j) (by omega) (get_int (by omega)), .ref Qt, rfl, _, rfl, Qt, _, _, .int c, rfl, rfl, SqL.of eQ6, at_of (j := a) (by omega) hq, _, rfl, _, _, rfl, rfl, wide_le2 bc (D.bf j) (by omega), _, _, rfl, rfl,
          .ref R, rfl, _, rfl, _, rfl, _, _, rfl, rfl, R, _, _, a + j, rfl, rfl, eR6, ixN_of (by omega) (by rw [List.length_map]; omega), ?_⟩
        refine ⟨_, _, rfl, ?_, ?_, ?_⟩
        · intro b o e
          rw [upd_ne (ne_of_none e nR)]
          exact sH6 _ _ e
        · rw [upd_same, List.take_succ_eq_append_getElem hj, subs_snoc _ _ _ _ _ (by rw [List.length_take]; omega), List.length_take, Nat.min_eq_left (by omega), List.map_set]
          have ef : f.getD j 0 = f[j] := by
            rw [List.getD_eq_getElem?_getD, List.getElem?_eq_getElem hj]
            rfl
          rw [ef]
        · rw [upd_ne nQR]
          exact eQ6
      · rintro σ H4 ⟨v4, v8, rfl, s5, eR5, eQ5⟩
        rw [List.length_map, List.take_length] at eR5
        refine ⟨subs c r a f, q.set a c, _, _, _, rfl, s5, eR5, eQ5, by rw [subs_len]; exact hrl, by rw [List.length_set]; exact hql, ?_, by rw [show n - (i + 1) = a by omega]; exact hd2⟩
        rw [show 2 ^ 6500 * (2 ^ 100 + 1) ^ (i + 1) = (2 ^ 6500 * (2 ^ 100 + 1) ^ i) * (2 ^ 100 + 1) from by rw [Nat.pow_succ (2 ^ 100 + 1) i, Nat.mul_assoc]]
        exact subs_bd hbr bc2 D.bf hfit
    · rintro σ H1 ⟨r, q, v4, v7, v8, rfl, sH', eR', eQ', hrl, hql, hbr, hd⟩
      rw [Nat.sub_self] at hd
      have qR : quo ps f l = resL S (r, q) := by rw [← qL, ← hd]; rfl
      have hfin : ∀ H2 : Hp, Same H' H2 → H2 Qt = some (.lst (q.map V.int)) → resL S (r, q) = some (q.map (·.fdiv S)) →
          ∀ D2, H2 D2 = none → ∀ H3 : Hp, Same H2 H3 → H3 D2 = some (.lst ((q.map (·.fdiv S)).map V.int)) → ∀ t H4, Same H3 H4 → H3 t = none → H4 t = some (.tup ((strip (q.map (·.fdiv S))).map V.int)) → Q (.ref t) H4 := by
        intro H2 s2 _ hq D2 nD H3 s3 _ t H4 s4 nt et
        exact qs _ (qR.trans hq) t H4 ((s2.trans s3).trans s4) ((s2.trans s3).free nt) et
      dsimp only
      refine on (if_tail (fun σ H2 => σ = [some (V.ref p), some (V.ref o), some (V.int (n : Int)), some (V.int S), v4, some (V.ref R), some (V.ref Qt), v7, v8, none] ∧ Same H' H2 ∧ H2 Qt = some (.lst (q.map V.int)) ∧ resL S (r, q) = some (q.map (·.fdiv S))) ?_ (fun t => ?_))
      rotate_left
      · -- [a for a in rest if a != 0] != []
        refine ⟨.ref R, rfl, R, rfl, ⟨_, SqL.of eR'⟩, fun D1 nD1 => ?_⟩
        refine lc_list (K := K) (a := R) (xs := r.map V.int) (fun i H2 => Same H1 H2 ∧ H2 D1 = some (.lst (((r.take i).filter fun a => a != 0).map V.int))) ⟨Same.upd nD1, upd_same⟩ (fun i H _ h => SqL.of (h.1 _ _ eR')) ?_ ?_
        · rintro i x H2 hx ⟨s2, e2⟩
          have hi : i < r.length := by
            have := (List.getElem?_eq_some_iff.mp hx).1
            rwa [List.length_map] at this
          have ex : x = .int r[i] := by
            rw [List.getElem?_map, List.getElem?_eq_getElem hi] at hx
            exact (Option.some.inj hx).symm
          subst ex
          have et : (r.take (i + 1)).filter (fun a => a != 0) = (r.take i).filter (fun a => a != 0) ++ if r[i] = 0 then [] else [r[i]] := by
            rw [List.take_succ_eq_append_getElem hi, List.filter_append]
            congr 1
            by_cases h : r[i] = 0 <;> simp [h]
          refine ⟨rfl, _, rfl, rfl, _, rfl, ?_⟩
          by_cases h : r[i] = 0
          · rw [h, decide_eq_true rfl]
            refine iteF ⟨s2, ?_⟩
            rw [et, if_pos h, List.append_nil]
            exact e2
          · rw [decide_eq_false (by intro e; exact h (V.int.inj e))]
            refine iteT ⟨_, rfl, _, e2, ?_, ?_, ?_⟩
            · have l1 := (List.filter_sublist (p := fun a : Int => a != 0) (l := r.take i)).length_le
              rw [List.length_map]
              rw [List.length_take] at l1
              exact small1000 (by omega)
            · intro b o e
              rw [upd_ne (ne_of_none e nD1)]
              exact s2 _ _ e
            · rw [upd_same, et, if_neg h, List.map_append]
              rfl
        · rintro H2 ⟨s2, e2⟩
          rw [List.length_map, List.take_length] at e2
          refine ⟨Nat.zero_le _, fun e1 ne1 => ?_⟩
          have s3 := Same.upd (o := .lst []) ne1
          obtain ⟨d, e, dd, de, sd, se, ev⟩ := neD_ints (K := K) (s3 _ _ e2) (upd_same (H := H2) (a := e1) (o := .lst []))
          refine ⟨d, e, dd, de, sd, se, _, rfl, ?_⟩
          rw [ev]
          have s13 := s2.trans s3
          generalize upd H2 e1 (.lst []) = H3 at s3 s13 ⊢
          clear dd de ev s3
          by_cases h : (r.filter fun a => a != 0) = []
          · rw [decide_eq_false (by simpa using h)]
            refine iteF ?_
            -- [a for a in result if a % scale != 0] != []
            refine ⟨.ref Qt, rfl, Qt, rfl, ⟨_, SqL.of (s13 _ _ eQ')⟩, fun D2 nD2 => ?_⟩
            refine lc_list (K := K) (a := Qt) (xs := q.map V.int) (fun i H4 => Same H3 H4 ∧ H4 D2 = some (.lst (((q.take i).filter fun a => a.fmod S != 0).map V.int))) ⟨Same.upd nD2, upd_same⟩ (fun i H _ h => SqL.of (h.1 _ _ (s13 _ _ eQ'))) ?_ ?_
            · rintro i x H4 hx ⟨s4, e4⟩
              have hi : i < q.length := by
                have := (List.getElem?_eq_some_iff.mp hx).1
                rwa [List.length_map] at this
              have ex : x = .int q[i] := by
                rw [List.getElem?_map, List.getElem?_eq_getElem hi] at hx
                exact (Option.some.inj hx).symm
              subst ex
              have et : (q.take (i + 1)).filter (fun a => a.fmod S != 0) = (q.take i).filter (fun a => a.fmod S != 0) ++ if q[i].fmod S = 0 then [] else [q[i]] := by
                rw [List.take_succ_eq_append_getElem hi, List.filter_append]
                congr 1
                by_cases h : q[i].fmod S = 0 <;> simp [h]
              refine ⟨rfl, _, rfl, _, rfl, _, _, rfl, rfl, hS0, rfl, _, rfl, ?_⟩
              dsimp only
              by_cases h : q[i].fmod S = 0
              · rw [decide_eq_true (show V.int (q[i].fmod S) = V.int 0 by rw [h])]
                refine iteF ⟨s4, ?_⟩
                rw [et, if_pos h, List.append_nil]
                exact e4
              · rw [decide_eq_false (show ¬ V.int (q[i].fmod S) = V.int 0 from fun e => h (V.int.inj e))]
                refine iteT ⟨_, rfl, _, e4, ?_, ?_, ?_⟩
                · have l1 := (List.filter_sublist (p := fun a : Int => a.fmod S != 0) (l := q.take i)).length_le
                  rw [List.length_map]
                  rw [List.length_take] at l1
                  exact small1000 (by omega)
                · intro b o e
                  rw [upd_ne (ne_of_none e nD2)]
                  exact s4 _ _ e
                · rw [upd_same, et, if_neg h, List.map_append]
                  rfl
            · rintro H4 ⟨s4, e4⟩
              rw [List.length_map, List.take_length] at e4
              refine ⟨Nat.zero_le _, fun e2 ne2 => ?_⟩
              have s5 := Same.upd (o := .lst []) ne2
              obtain ⟨d, e, dd, de, sd, se, ev⟩ := neD_ints (K := K) (s5 _ _ e4) (upd_same (H := H4) (a := e2) (o := .lst []))
              refine ⟨d, e, dd, de, sd, se, _, rfl, ?_⟩
              rw [ev]
              have s15 := (s13.trans s4).trans s5
              by_cases h2 : (q.filter fun a => a.fmod S != 0) = []
              · rw [decide_eq_false (by simpa using h2)]
                refine iteF (t _ _ ⟨rfl, sH'.trans s15, s15 _ _ eQ', ?_⟩)
                unfold resL
                rw [if_neg]
                rintro (h3 | h3)
                · exact h3 h
                · exact h3 h2
              · rw [decide_eq_true h2]
                refine iteT (qn ?_ _ (sH'.trans s15))
                rw [qR]
                unfold resL
                rw [if_pos (.inr h2)]
          · rw [decide_eq_true h]
            refine iteT (iteT (qn ?_ _ (sH'.trans s13)))
            rw [qR]
            unfold resL
            rw [if_pos (.inl h)]
      · rintro σ H2 ⟨rfl, s2, eQ2, hq⟩
        refine ⟨.ref Qt, rfl, Qt, rfl, ⟨_, SqL.of eQ2⟩, fun D2 nD2 => ?_⟩
        refine lc_list (K := K) (a := Qt) (xs := q.map V.int) (fun i H4 => Same H2 H4 ∧ H4 D2 = some (.lst (((q.take i).map (·.fdiv S)).map V.int))) ⟨Same.upd nD2, upd_same⟩ (fun i H _ h => SqL.of (h.1 _ _ eQ2)) ?_ ?_
        · rintro i x H4 hx ⟨s4, e4⟩
          have hi : i < q.length := by
            have := (List.getElem?_eq_some_iff.mp hx).1
            rwa [List.length_map] at this
          have ex : x = .int q[i] := by
            rw [List.getElem?_map, List.getElem?_eq_getElem hi] at hx
            exact (Option.some.inj hx).symm
          subst ex
          refine ⟨rfl, ?_⟩
          dsimp only [tYes]
          refine iteT ⟨_, rfl, _, rfl, _, _, rfl, rfl, dS _, _, e4, by simp only [List.length_map, List.length_take]; exact small1000 (by omega), ?_, ?_⟩
          · intro b o e
            rw [upd_ne (ne_of_none e nD2)]
            exact s4 _ _ e
          · rw [upd_same, List.take_succ_eq_append_getElem hi, List.map_append, List.map_append]
            rfl
        · rintro H4 ⟨s4, e4⟩
          rw [List.length_map, List.take_length] at e4
          exact ⟨D2, _, rfl, .inl (SqL.of e4), fun t H5 s5 nt et => hfin H2 s2 eQ2 hq D2 nD2 H4 s4 e4 t H5 s5 nt et⟩
/-! ### both at once -/
def Short (ps f : List Int) (l : Int) : Prop := ∀ q, quo ps f l = some q → ∀ c ∈ strip q, c.natAbs.log2 < 1920
def spCor (K : PySem.W.Frag) : Sp := fun vs H Q _ => ∃ (p o : Addr) (ps f : List Int) (l : Int), vs = [.ref p, .ref o] ∧ SqT K H p (ps.map V.int) ∧ SqT K H o (f.map V.int) ∧ Dv ps f l ∧ Short ps f l ∧ ∀ H', Same H H' → Q (.bl true) H'
theorem scCor : FnScope ["row", "divisor", "expected"] ["row", "divisor"] (defScope sCor) := ⟨rfl, rfl, rfl, by decide +kernel, rfl, by decide +kernel, by decide +kernel⟩
theorem quo_len {ps f : List Int} {l : Int} {q : List Int} (D : Dv ps f l) (h : quo ps f l = some q) : q.length ≤ 60 := by
  unfold quo res at h
  cases e : divP f f.length l (ps.length + 1 - f.length) ps (List.replicate (ps.length + 1 - f.length) 0) with
  | none => rw [e] at h; cases h
  | some rq =>
    obtain ⟨r, q'⟩ := rq
    rw [e] at h
    have len : ∀ (n : Nat) (r q r' q' : List Int), divP f f.length l n r q = some (r', q') → q'.length = q.length := by
      intro n
      induction n with
      | zero => intro r q r' q' e; cases e; rfl
      | succ n ih =>
        intro r q r' q' e
        unfold divP at e
        split at e
        · cases e
        · rw [ih _ _ _ _ e, List.length_set]
    have := len _ _ _ _ _ e
    rw [List.length_replicate] at this
    dsimp only at h
    split at h
    · cases h
    · cases h
      have := D.lp
      have := D.one
      omega
theorem repr_sz {ps f : List Int} {l : Int} {q : List Int} (D : Dv ps f l) (S : Short ps f l) (h : quo ps f l = some q) : Shows (.tuple ((strip q).map PyData.int)) 50 8000 :=
  (shows_ints (S q h)).mono (by decide) (Nat.le_trans (strip_len q) (Nat.le_trans (quo_len D h) (by decide)))
theorem ok_cor {f0 fx fv : Addr} {fd dx dv : FuncData} (F : Fun K "_law_correct" "_law_correct" sCor f0 fd) (T : Names3 mg) (GX : FnOk P w K mg base CX0 2 fx dx ["row", "divisor"] (spExp K)) (PX : Def K mg "_law_expected" fx dx ["row", "divisor"])
    (GV : FnOk P w K mg base CX0 2 fv dv ["polynomial", "other"] (spDiv K)) (PV : Def K mg "divide_exactly" fv dv ["polynomial", "other"]) (kV : KBn K dv ["polynomial", "other"] 0 ["other", "polynomial"] (fun _ ws => turned ws) (fun _ zs => turned zs)) :
    FnG P w K mg base 3 f0 fd ["row", "divisor"] (spCor K) := by
  refine fnG_of F scCor (fun vs H Q E h => ?_) (fun cdv A outer s H vs Q E hg hr h => ?_)
  · obtain ⟨p, o, ps, f, l, rfl, _⟩ := h
    rfl
  · obtain ⟨p, o, ps, f, l, rfl, hP, hO, D, S, q⟩ := h
    have cr := call_repr2 (X := (cxOf CX0 P w K mg base ["row", "divisor", "expected"] "_law_correct" (defScope sCor) f0 cdv A outer s H E).nox) hg hr
    refine ⟨_, (pss_cons (ps_set (i := 2) scCor.nd rfl (.inl rfl) (pe_callB cr (by rfl) T.repr (by decide +kernel) (pa_cons (pe_call GX (hr.mono (by decide)) (by rfl) PX.is PX.kp PX.bi .nil pass0 (pa_cons (pv 0) (pa_cons (pv 1) pa_nil))) pa_nil)))
      (pss_cons (ps_if (pt_cmpR op_ne (pe_callB cr (by rfl) T.repr (by decide +kernel) (pa_cons (pe_call GV (hr.mono (by decide)) (by rfl) PV.is PV.kp PV.bi .nil pass0 (pa_cons (pv 0) (pa_cons (pv 1) pa_nil))) pa_nil)) (pv 2) (nomark _)) (pss_one (ps_ret pe_bl)) pss_nil)
      (pss_one (ps_ret (pe_cmpR op_eq (pe_callB cr (by rfl) T.repr (by decide +kernel) (pa_cons (pe_named GV (hr.mono (by decide)) (by rfl) PV.is PV.kp kV pass0 (pk_cons (pv 1) (pk_cons (pv 0) pk_nil))) pa_nil)) (pv 2) (nomark _)))))), ?_⟩
    cases hq : quo ps f l with
    | none =>
      refine ⟨_, rfl, _, rfl, p, o, ps, f, l, rfl, hP, hO, D, fun _ H1 s1 => .inl ⟨rfl, ?_⟩, fun q e => by rw [hq] at e; cases e⟩
      refine ⟨_, rfl, _, rfl, p, o, ps, f, l, rfl, Same.tup s1 hP, Same.tup s1 hO, D, fun _ H2 s2 => .inl ⟨rfl, ?_⟩, fun q e => by rw [hq] at e; cases e⟩
      refine ⟨_, rfl, rfl, _, rfl, iteNS rfl ?_⟩
      refine ⟨_, rfl, _, rfl, rfl, p, o, ps, f, l, rfl, Same.tup s2 (Same.tup s1 hP), Same.tup s2 (Same.tup s1 hO), D, fun _ H3 s3 => .inl ⟨rfl, _, rfl, rfl, ?_⟩, fun q e => by rw [hq] at e; cases e⟩
      rw [decide_eq_true rfl]
      exact q _ ((s1.trans s2).trans s3)
    | some z =>
      refine ⟨_, rfl, _, rfl, p, o, ps, f, l, rfl, hP, hO, D, fun e => (by rw [hq] at e; cases e), fun q' e t1 H1 s1 nt1 et1 => ?_⟩
      have ez : q' = z := by rw [hq] at e; exact (Option.some.inj e).symm
      subst ez
      refine .inr ⟨t1, _, rfl, .tup (tup_of et1) (dpInts _), repr_sz D S hq, ?_⟩
      refine ⟨_, rfl, _, rfl, p, o, ps, f, l, rfl, Same.tup s1 hP, Same.tup s1 hO, D, fun e => (by rw [hq] at e; cases e), fun q2 e2 t2 H2 s2 nt2 et2 => ?_⟩
      have ez : q2 = q' := by rw [hq] at e2; exact (Option.some.inj e2).symm
      subst ez
      refine .inr ⟨t2, _, rfl, .tup (tup_of et2) (dpInts _), repr_sz D S hq, ?_⟩
      refine ⟨_, rfl, rfl, _, rfl, iteNS rfl ?_⟩
      refine ⟨_, rfl, _, rfl, rfl, p, o, ps, f, l, rfl, Same.tup s2 (Same.tup s1 hP), Same.tup s2 (Same.tup s1 hO), D, fun e => (by rw [hq] at e; cases e), fun q3 e3 t3 H3 s3 nt3 et3 => ?_⟩
      have ez : q3 = q2 := by rw [hq] at e3; exact (Option.some.inj e3).symm
      subst ez
      refine .inr ⟨t3, _, rfl, .tup (tup_of et3) (dpInts _), repr_sz D S hq, _, rfl, rfl, ?_⟩
      rw [decide_eq_true rfl]
      exact q _ ((s1.trans s2).trans s3)
end
end Z

set_option Elab.async false
set_option linter.all false
set_option maxRecDepth 100000
set_option maxHeartbeats 4000000
set_option exponentiation.threshold 20000
namespace Z
open PySem PySem.Spec PyProof.Rows L2 GG M3
/-! ### rows that are large enough, and no larger -/
theorem strip_form (l : List Int) : strip l = [] ∨ ∃ r z, strip l = r ++ [z] ∧ z ≠ 0 := by
  rcases List.eq_nil_or_concat (strip l) with e | ⟨r, z, e⟩
  · exact .inl e
  · rw [List.concat_eq_append] at e
    refine .inr ⟨r, z, e, fun h => ?_⟩
    have e2 := strip_strip l
    rw [e, h, strip_zero] at e2
    have := strip_len r
    rw [e2] at this
    simp at this
    omega
theorem strip_getD (l : List Int) : ∀ t, (strip l).getD t 0 = l.getD t 0 := by
  suffices ∀ (k : Nat) (l : List Int), l.length = k → ∀ t, (strip l).getD t 0 = l.getD t 0 from this _ l rfl
  intro k
  induction k with
  | zero =>
    intro l h t
    obtain rfl := List.eq_nil_of_length_eq_zero h
    rfl
  | succ k ih =>
    intro l h t
    rcases List.eq_nil_or_concat l with rfl | ⟨r, z, rfl⟩
    · rfl
    · rw [List.concat_eq_append] at *
      by_cases hz : z = 0
      · subst hz
        rw [strip_zero, ih r (by simpa using h), getD_snoc]
        split <;> simp
      · rw [strip_last hz]
theorem strip_pos {l : List Int} {k : Nat} (h : l.getD k 0 ≠ 0) : ∃ r z, strip l = r ++ [z] ∧ z ≠ 0 := by
  rcases strip_form l with e | e
  · exfalso
    apply h
    rw [← strip_getD, e]
    rfl
  · exact e
theorem strip_size {l : List Int} {k : Nat} (h : l.getD k 0 ≠ 0) (hz : ∀ t, k < t → l.getD t 0 = 0) : (strip l).length = k + 1 := by
  obtain ⟨r, z, e, hz0⟩ := strip_pos h
  have h1 : l.getD r.length 0 = z := by rw [← strip_getD, e, getD_snoc, if_pos rfl, getD_out (Nat.le_refl _)]; simp
  have h2 : r.length ≤ k := by
    rcases Nat.lt_or_ge k r.length with lt | ge
    · exact absurd ((hz _ lt).symm.trans h1).symm hz0
    · exact ge
  have h3 : k ≤ r.length := by
    rcases Nat.lt_or_ge r.length k with lt | ge
    · exfalso
      apply h
      rw [← strip_getD, e, getD_out (by rw [List.length_append]; simp; omega)]
    · exact ge
  rw [e, List.length_append]
  simp
  omega
theorem prod_getD (f g : List Int) (t : Nat) : (prod f g).getD t 0 = pf f g t := by
  unfold prod
  rcases Nat.lt_or_ge t (f.length + g.length) with h | h
  · rw [List.getD_eq_getElem?_getD, List.getElem?_map, List.getElem?_range h]
    rfl
  · rw [getD_out (by simp; omega), pf_zero _ _ _ (by omega)]
structure Num (ps : List Int) : Prop where
  len : ps.length ≤ 40
  bd : Bd (2 ^ 40) ps
structure Den (f : List Int) : Prop where
  one : 1 ≤ f.length
  len : f.length ≤ 20
  bd : Bd (2 ^ 11) f
  nz : f.getD (f.length - 1) 0 ≠ 0
theorem case_ok {ps f : List Int} (N : Num ps) (D : Den f) : ∃ l, Dv ps f l ∧ Short ps f l := by
  have hl := N.len
  have h1 := D.one
  have h2 := D.len
  refine ⟨f.getD (f.length - 1) 0, ⟨rfl, h1, D.nz, by omega, by omega, N.bd.mono (Nat.pow_le_pow_right (by decide) (by decide)), D.bd.mono (Nat.pow_le_pow_right (by decide) (by decide))⟩, ?_⟩
  intro q hq c hc
  unfold quo res at hq
  cases e : divP f f.length (f.getD (f.length - 1) 0) (ps.length + 1 - f.length) ps (List.replicate (ps.length + 1 - f.length) 0) with
  | none => rw [e] at hq; cases hq
  | some rq =>
    obtain ⟨r, q'⟩ := rq
    rw [e] at hq
    have b := divP_bd D.nz rfl D.bd _ (2 ^ 40) _ _ _ _ (by omega) N.bd (by
      intro t
      rw [List.getD_eq_getElem?_getD, List.getElem?_replicate]
      split <;> simp) e
    dsimp only at hq
    split at hq
    · cases hq
    · cases hq
      have hb := b.mem (strip_mem hc)
      have g : 2 ^ 40 * (2 ^ 11 + 1) ^ (ps.length + 1 - f.length) ≤ 2 ^ (40 + 12 * 40) := by
        rw [Nat.pow_add]
        refine Nat.mul_le_mul_left _ ?_
        refine Nat.le_trans (Nat.pow_le_pow_left (show 2 ^ 11 + 1 ≤ 2 ^ 12 by decide) _) ?_
        rw [← Nat.pow_mul]
        exact Nat.pow_le_pow_right (by decide) (by omega)
      have : c.natAbs < 2 ^ 600 := Nat.lt_of_le_of_lt (Nat.le_trans hb g) (Nat.pow_lt_pow_right (by decide) (by decide))
      exact Nat.lt_of_lt_of_le (PySem.Flt.log2_lt_of (by decide) this) (by decide)
theorem den_last {f : List Int} (h : strip f = f) (hne : f ≠ []) : f.getD (f.length - 1) 0 ≠ 0 := by
  rcases strip_form f with e | ⟨r, z, e, hz⟩
  · rw [h] at e
    exact absurd e hne
  · rw [h] at e
    rw [e, getD_snoc, List.length_append]
    simp
    exact hz
theorem prod_num {f g : List Int} {F G : Nat} (hf : Bd F f) (hg : Bd G g) (hl : f.length + g.length ≤ 40) (hb : f.length * (F * G) ≤ 2 ^ 40) : Num (strip (prod f g)) := by
  refine ⟨Nat.le_trans (strip_len _) (by simp [prod]; omega), fun t => ?_⟩
  rw [strip_getD, prod_getD]
  exact Nat.le_trans (pf_bd hg f t hf) hb
theorem prod_len (f g : List Int) : (strip (prod f g)).length ≤ f.length + g.length := Nat.le_trans (strip_len _) (by simp [prod])
theorem prod_bd {f g : List Int} {F G M : Nat} (hf : Bd F f) (hg : Bd G g) (hb : f.length * (F * G) ≤ M) : Bd M (strip (prod f g)) := fun t => by
  rw [strip_getD, prod_getD]
  exact Nat.le_trans (pf_bd hg f t hf) hb
theorem shift_den {f : List Int} (D : Den f) (hb : f.length * (200 * 1) ≤ 2 ^ 11) (b4 : Bd 200 f) (hl : f.length ≤ 10) : Den (strip (prod f [0, 1])) := by
  have h1 := D.one
  have hne : f ≠ [] := fun e => by rw [e] at h1; simp at h1
  have top : (prod f [0, 1]).getD f.length 0 ≠ 0 := by
    rw [prod_getD]
    have e := List.dropLast_concat_getLast hne
    have ez : f.getLast hne = f.getD (f.length - 1) 0 := by
      rw [List.getD_eq_getElem?_getD, List.getElem?_eq_getElem (by omega), List.getLast_eq_getElem]
      rfl
    have hp := pf_snoc_f [0, 1] (f.getLast hne) f.dropLast f.length
    have hz : pf f.dropLast [0, 1] f.length = 0 := pf_zero _ _ _ (by rw [List.length_dropLast]; simp; omega)
    rw [e, hz, if_pos (by rw [List.length_dropLast]; omega), List.length_dropLast, show f.length - (f.length - 1) = 1 by omega, ez] at hp
    rw [hp]
    simpa using D.nz
  have hs := strip_strip (prod f [0, 1])
  obtain ⟨r, z, e, hz⟩ := strip_pos top
  have hlen := prod_len f [0, 1]
  refine ⟨by rw [e]; simp, by simp at hlen; omega, prod_bd b4 (bd_of (by decide)) hb, ?_⟩
  rw [e, getD_snoc, List.length_append]
  simp
  exact hz
/-- the large ones -/
theorem large_ok {f g : List Int} (hf : f.length = 3) (hg : g.length = 39) (bf : Bd (2 ^ 94) f) (bg : Bd (2 ^ 94) g) (nf : f.getD 2 0 ≠ 0) (ng : g.getD 38 0 ≠ 0) : ∃ l, Dv (strip (prod f g)) f l ∧ Short (strip (prod f g)) f l := by
  obtain ⟨g0, y, rfl⟩ : ∃ g0 y, g = g0 ++ [y] := by
    rcases List.eq_nil_or_concat g with e | ⟨r, z, e⟩
    · rw [e] at hg; simp at hg
    · exact ⟨r, z, by rw [e, List.concat_eq_append]⟩
  have hg0 : g0.length = 38 := by simpa using hg
  have top : (prod f (g0 ++ [y])).getD 40 0 ≠ 0 := by
    rw [prod_getD, pf_snoc_g, pf_zero _ _ _ (by omega), if_pos (by omega), hg0]
    have ey : y ≠ 0 := by
      rw [getD_snoc, hg0, if_pos rfl, getD_out (by omega)] at ng
      simpa using ng
    have : f.getD 2 0 * y ≠ 0 := Int.mul_ne_zero nf ey
    simpa using this
  have size : (strip (prod f (g0 ++ [y]))).length = 41 := strip_size top fun t ht => by
    rw [prod_getD, pf_zero _ _ _ (by rw [hf, hg]; omega)]
  have D : Dv (strip (prod f (g0 ++ [y]))) f (f.getD 2 0) := by
    refine ⟨by rw [hf], by omega, nf, by omega, by omega, prod_bd bf bg ?_, bf.mono (Nat.pow_le_pow_right (by decide) (by decide))⟩
    rw [hf]
    decide +kernel
  refine ⟨_, D, ?_⟩
  intro q hq c hc
  obtain ⟨r', q', ed, hz, hq'⟩ := divP_pf (f := f) (m := f.length) D.nz rfl D.one (by rw [hf]) 39 (g0 ++ [y]) (strip (prod f (g0 ++ [y]))) (List.replicate 39 0) hg (by omega) (by simp) fun t => by rw [strip_getD, prod_getD]
  unfold quo res at hq
  rw [size, hf] at hq
  rw [hf] at ed
  rw [show 41 + 1 - 3 = 39 by rfl, ed] at hq
  dsimp only at hq
  split at hq
  · cases hq
  · cases hq
    obtain ⟨i, hi, rfl⟩ := List.getElem_of_mem (strip_mem hc)
    have h := hq' i
    rw [List.getD_eq_getElem?_getD, List.getElem?_eq_getElem hi] at h
    have hb : (q[i]).natAbs ≤ 2 ^ 94 := by
      have h' : q[i] = _ := h
      rw [h']
      split
      · exact bg i
      · rw [List.getD_eq_getElem?_getD, List.getElem?_replicate]
        split <;> simp
    exact Nat.lt_of_lt_of_le (PySem.Flt.log2_lt_of (k := 95) (by decide) (Nat.lt_of_le_of_lt hb (Nat.pow_lt_pow_right (by decide) (by decide)))) (by decide)
/-! ### readings -/
theorem call_tupK {X : Cx} {K : PySem.W.Frag} (hK : X.K = K) : CallR X (.type "tuple") (fun vs H Q => ∃ p ys, vs = [.ref p] ∧ ((SqL K H p ys ∧ ∀ l, H l = none → Q (.ref l) (upd H l (.tup ys))) ∨ (SqT K H p ys ∧ Q (.ref p) H))) := by
  subst hK
  exact call_tuple_of
theorem slA_of {K : PySem.W.Frag} {H : Hp} {a : Addr} {xs : List V} {lo hi : Option Int} {Q : VK} (h : SqT K H a xs) (k : ∀ t H', Same H H' → SqT K H' t (cutV xs lo hi) → Q (.ref t) H') : rSlA K (.ref a) lo hi H Q := by
  refine ⟨a, xs, rfl, h, fun e => k a H (Same.refl _) ?_, fun _ p np => k p _ (Same.upd np) (tup_of upd_same)⟩
  have : cutV xs lo hi = xs := by
    unfold cutV
    rw [e.1, e.2, List.drop_zero, Nat.sub_zero, List.take_length]
  rw [this]
  exact h
theorem catA_of {K : PySem.W.Frag} {H : Hp} {a b : Addr} {xs ys : List V} {Q : VK} (ha : SqT K H a xs) (hb : SqT K H b ys) (hl : xs.length + ys.length ≤ sizeLine) (k : ∀ t H', Same H H' → SqT K H' t (xs ++ ys) → Q (.ref t) H') : rCatA K (.ref a) (.ref b) H Q := by
  refine ⟨a, b, xs, ys, rfl, rfl, ha, hb, hl, fun e => k b H (Same.refl _) ?_, fun _ e => k a H (Same.refl _) ?_, fun _ _ p np => k p _ (Same.upd np) (tup_of upd_same)⟩
  · rw [e]; exact hb
  · rw [e, List.append_nil]; exact ha
theorem cut_ints (ns : List Int) (lo hi : Option Int) : ∃ ys : List Int, cutV (ns.map V.int) lo hi = ys.map V.int ∧ ys.Sublist ns := by
  refine ⟨(ns.drop (HT.sIx (ns.map V.int).length 0 lo)).take (HT.sIx (ns.map V.int).length (ns.map V.int).length hi - HT.sIx (ns.map V.int).length 0 lo), ?_, (List.take_sublist _ _).trans (List.drop_sublist _ _)⟩
  unfold cutV
  rw [List.map_take, List.map_drop]
theorem tup_off {K : PySem.W.Frag} {H H' : Hp} {D a : Addr} {xs zs : List V} (hD : H D = some (.lst zs)) (b : But D H H') (h : SqT K H a xs) : SqT K H' a xs := by
  rcases h with (h | ⟨o, h⟩) | h
  · exact .inl (.inl (b _ _ h (ne_of h hD (by intro z; cases z))))
  · exact .inl (.inr ⟨o, b _ _ h (ne_of h hD (by intro z; cases z))⟩)
  · exact .inr h
theorem But.tup {K : PySem.W.Frag} {H H' : Hp} {p l a : Addr} {xs : List V} (pn : Pen H p l) (b : But p H H') (h : SqT K H a xs) : SqT K H' a xs := by
  obtain ⟨cs, pos, val, hp, _⟩ := pn
  exact tup_off hp b h
theorem Pen.apart {H : Hp} {a l e : Addr} (p : Pen H a l) (h : H e = none) : e ≠ a ∧ e ≠ l := by
  obtain ⟨cs, pos, val, ha, hl, _⟩ := p
  exact ⟨(ne_of_none ha h).symm, (ne_of_none hl h).symm⟩
theorem Pen.off {H H' : Hp} {D p l : Addr} (pn : Pen H p l) (n1 : D ≠ p) (n2 : D ≠ l) (b : But D H H') : Pen H' p l := by
  obtain ⟨cs, pos, val, hp, hl, h0⟩ := pn
  exact ⟨cs, pos, val, b _ _ hp (Ne.symm n1), b _ _ hl (Ne.symm n2), h0⟩
def Case (K : PySem.W.Frag) (H : Hp) (v : V) : Prop := ∃ (t x y : Addr) (ps f : List Int) (l : Int), v = .ref t ∧ H t = some (.tup [.ref x, .ref y]) ∧ SqT K H x (ps.map V.int) ∧ SqT K H y (f.map V.int) ∧ Dv ps f l ∧ Short ps f l
theorem Case.same {K : PySem.W.Frag} {H H' : Hp} {v : V} (c : Case K H v) (s : Same H H') : Case K H' v := by
  obtain ⟨t, x, y, ps, f, l, e, h, hx, hy, D, S⟩ := c
  exact ⟨t, x, y, ps, f, l, e, s _ _ h, Same.tup s hx, Same.tup s hy, D, S⟩
theorem Case.but {K : PySem.W.Frag} {H H' : Hp} {v : V} {p l : Addr} (c : Case K H v) (pn : Pen H p l) (b : But p H H') : Case K H' v := by
  obtain ⟨t, x, y, ps, f, l, e, h, hx, hy, D, S⟩ := c
  have : t ≠ p := by
    obtain ⟨cs, pos, val, hp, _⟩ := pn
    exact ne_of h hp (by intro z; cases z)
  exact ⟨t, x, y, ps, f, l, e, b _ _ h this, But.tup pn b hx, But.tup pn b hy, D, S⟩
theorem Case.off {K : PySem.W.Frag} {H H' : Hp} {v : V} {D : Addr} {zs : List V} (c : Case K H v) (hD : H D = some (.lst zs)) (b : But D H H') : Case K H' v := by
  obtain ⟨t, x, y, ps, f, l, e, h, hx, hy, Dv, S⟩ := c
  exact ⟨t, x, y, ps, f, l, e, b _ _ h (ne_of h hD (by intro z; cases z)), tup_off hD b hx, tup_off hD b hy, Dv, S⟩
theorem Case.mk {K : PySem.W.Frag} {H : Hp} {t x y : Addr} {ps f : List Int} (h : H t = some (.tup [.ref x, .ref y])) (hx : SqT K H x (ps.map V.int)) (hy : SqT K H y (f.map V.int)) (N : Num ps) (D : Den f) : Case K H (.ref t) := by
  obtain ⟨l, d, s⟩ := case_ok N D
  exact ⟨t, x, y, ps, f, l, rfl, h, hx, hy, d, s⟩
structure DivL (fs : List Int) : Prop where
  one : 1 ≤ fs.length
  len : fs.length ≤ 6
  bd : Bd 200 fs
  nz : fs.getD (fs.length - 1) 0 ≠ 0
theorem DivL.den {fs : List Int} (d : DivL fs) : Den fs := ⟨d.one, Nat.le_trans d.len (by decide), d.bd.mono (by decide), d.nz⟩
theorem DivL.num {fs : List Int} (d : DivL fs) : Num fs := ⟨Nat.le_trans d.len (by decide), d.bd.mono (by decide)⟩
theorem dbl_getD (fs : List Int) (t : Nat) : (fs.map (2 * ·)).getD t 0 = 2 * fs.getD t 0 := getD_scale 2 fs t
theorem DivL.dbl {fs : List Int} (d : DivL fs) : Den (fs.map (2 * ·)) := by
  refine ⟨by rw [List.length_map]; exact d.one, by rw [List.length_map]; exact Nat.le_trans d.len (by decide), fun t => ?_, ?_⟩
  · rw [dbl_getD, Int.natAbs_mul]
    have := d.bd t
    show 2 * _ ≤ 2048
    omega
  · rw [dbl_getD, List.length_map]
    have := d.nz
    omega
/-- what stands while the cases are laid out -/
structure Base (K : PySem.W.Frag) (H : Hp) (p l d fa r ch db : Addr) (fs gs rw cg : List Int) : Prop where
  pen : Pen H p l
  d : SqT K H d (fs.map V.int)
  fa : SqT K H fa (gs.map V.int)
  r : SqT K H r (rw.map V.int)
  ch : SqT K H ch (cg.map V.int)
  db : SqT K H db ((fs.map (2 * ·)).map V.int)
theorem Base.same {K : PySem.W.Frag} {H H' : Hp} {p l d fa r ch db : Addr} {fs gs rw cg : List Int} (B : Base K H p l d fa r ch db fs gs rw cg) (s : Same H H') : Base K H' p l d fa r ch db fs gs rw cg :=
  ⟨B.pen.same s, Same.tup s B.d, Same.tup s B.fa, Same.tup s B.r, Same.tup s B.ch, Same.tup s B.db⟩
/-- the cases so far -/
def Cases (K : PySem.W.Frag) (H : Hp) (L : Addr) (cs : List V) : Prop := H L = some (.lst cs) ∧ ∀ v ∈ cs, Case K H v
theorem Cases.same {K : PySem.W.Frag} {H H' : Hp} {L : Addr} {cs : List V} (c : Cases K H L cs) (s : Same H H') : Cases K H' L cs := ⟨s _ _ c.1, fun v hv => (c.2 v hv).same s⟩
theorem Cases.but {K : PySem.W.Frag} {H H' : Hp} {L p l : Addr} {cs : List V} (c : Cases K H L cs) (pn : Pen H p l) (n : L ≠ p) (b : But p H H') : Cases K H' L cs := ⟨b _ _ c.1 n, fun v hv => (c.2 v hv).but pn b⟩
theorem num_nil : Num [] := ⟨by decide, bd_of (by simp)⟩
theorem den_one : Den [1] := ⟨by decide, by decide, bd_of (by decide), by decide⟩
theorem den_neg : Den [0 - 1] := ⟨by decide, by decide, bd_of (by decide), by decide⟩
/-- a tuple of so many large ints -/
def Big (H : Hp) (e : Addr) (n : Nat) : Prop := ∃ fl : List Int, H e = some (.tup (fl.map V.int)) ∧ fl.length = n ∧ ∀ x ∈ fl, 1 ≤ x ∧ x ≤ 10 ^ 28
theorem Big.but {H H' : Hp} {e p l : Addr} {n : Nat} (g : Big H e n) (pn : Pen H p l) (b : But p H H') : Big H' e n := by
  obtain ⟨fl, h1, h2, h3⟩ := g
  obtain ⟨cs, pos, val, hp, _⟩ := pn
  exact ⟨fl, b _ _ h1 (ne_of h1 hp (by intro z; cases z)), h2, h3⟩
theorem Big.same {H H' : Hp} {e : Addr} {n : Nat} (g : Big H e n) (s : Same H H') : Big H' e n := by
  obtain ⟨fl, h1, h2, h3⟩ := g
  exact ⟨fl, s _ _ h1, h2, h3⟩
theorem Big.off {H H' : Hp} {e D : Addr} {n : Nat} {zs : List V} (g : Big H e n) (hD : H D = some (.lst zs)) (b : But D H H') : Big H' e n := by
  obtain ⟨fl, h1, h2, h3⟩ := g
  exact ⟨fl, b _ _ h1 (ne_of h1 hD (by intro z; cases z)), h2, h3⟩
theorem Cases.off {K : PySem.W.Frag} {H H' : Hp} {L D : Addr} {cs zs : List V} (c : Cases K H L cs) (n : L ≠ D) (hD : H D = some (.lst zs)) (b : But D H H') : Cases K H' L cs := ⟨b _ _ c.1 n, fun v hv => (c.2 v hv).off hD b⟩
theorem big_bd {fl : List Int} (h : ∀ x ∈ fl, 1 ≤ x ∧ x ≤ 10 ^ 28) : Bd (2 ^ 94) fl := bd_of fun x hx => by
  have := h x hx
  omega
theorem big_nz {fl : List Int} (h : ∀ x ∈ fl, 1 ≤ x ∧ x ≤ 10 ^ 28) {k : Nat} (hk : k < fl.length) : fl.getD k 0 ≠ 0 := by
  rw [List.getD_eq_getElem?_getD, List.getElem?_eq_getElem hk]
  have := h _ (List.getElem_mem hk)
  show fl[k] ≠ 0
  omega
theorem set_tail {te : TE} {i : Nat} {D : Ends} {σ : L2.St} {H : Hp} (W : V → Hp → Prop) (tail : ∀ v H, W v H → D.nx (σ.set i (some v)) H) (go : (∀ v H, W v H → D.nx (σ.set i (some v)) H) → tAsg te (gName i) D σ H) : tAsg te (gName i) D σ H := go tail
section
variable {P : Program} {w : World} {K : PySem.W.Frag} {mg : Str → Option Value} {base : Heap}
def spLaw (K : PySem.W.Frag) : Sp := fun vs H Q _ => ∃ (a : Addr) (ns : List Int), vs = [.ref a] ∧ SqL K H a (ns.map V.int) ∧ ns.length ≤ 63 ∧ ∀ H', Q (.bl true) H'
theorem scLaw : FnScope ["script", "pen", "turn", "divisor", "factor", "row", "at", "changed", "double", "cases", "large", "a", "k", "count", "first", "second"] ["script"] (defScope sLaw) := ⟨rfl, rfl, rfl, by decide +kernel, rfl, by decide +kernel, by decide +kernel⟩
theorem ok_law {f fP fD fY fS fC fR fK : Addr} {fd dP dD dY dS dC dR dK : FuncData} (F : Fun K "law" "law" sLaw f fd) (T : Names3 mg)
    (GP : FnOk P w K mg base CX0 1 fP dP ["script"] (spPen K)) (P1 : Def K mg "_law_pen" fP dP ["script"])
    (GD : FnOk P w K mg base CX0 2 fD dD ["pen", "bound"] spDraw) (P2 : Def K mg "_law_draw" fD dD ["pen", "bound"])
    (GY : FnOk P w K mg base CX0 4 fY dY ["pen", "most"] spPoly) (P3 : Def K mg "_law_polynomial" fY dY ["pen", "most"])
    (GS : FnOk P w K mg base CX0 1 fS dS ["numbers"] (spStrip K)) (P4 : Def K mg "_law_strip" fS dS ["numbers"])
    (GC : FnOk P w K mg base CX0 3 fC dC ["pen"] spCoef) (P5 : Def K mg "_law_coefficient" fC dC ["pen"])
    (GR : FnOk P w K mg base CX0 2 fR dR ["first", "second"] (spProd K)) (P6 : Def K mg "_law_product" fR dR ["first", "second"])
    (GK : FnG P w K mg base 3 fK dK ["row", "divisor"] (spCor K)) (P7 : Def K mg "_law_correct" fK dK ["row", "divisor"]) :
    FnG P w K mg base 5 f fd ["script"] (spLaw K) := by
  refine fnG_of F scLaw (fun vs H Q E h => ?_) (fun cdv A outer s H vs Q E hg hr h => ?_)
  · obtain ⟨a, ns, rfl, _⟩ := h
    rfl
  · obtain ⟨a, ns, rfl, hS, hlen, q⟩ := h
    refine ⟨_, (pss_cons (ps_set (i := 1) scLaw.nd rfl (.inr rfl) (pe_call GP (hr.mono (by decide)) (by rfl) P1.is P1.kp P1.bi .nil pass0 (pa_cons (pv 0) pa_nil)))
      (pss_cons (ps_for PassesOwn.never rfl (pi_range1 rfl T.range (pa_cons (pe_callB (max_is rfl) (by rfl) T.max (by decide +kernel) (pa_cons pe_int (pa_cons (pe_callB (call_min2 rfl) (by rfl) T.min (by decide +kernel) (pa_cons pe_int (pa_cons (pe_callB call_len_seq (by rfl) T.len PySem.boot_len (pa_cons (pv 0) pa_nil)) pa_nil))) pa_nil))) pa_nil)) (pg_name (i := 2) scLaw.nd rfl (.inl rfl)) (pss_cons (ps_set (i := 3) scLaw.nd rfl (.inl rfl) (pe_orT (pe_call GY (hr.mono (by decide)) (by rfl) P3.is P3.kp P3.bi .nil pass0 (pa_cons (pv 1) (pa_cons pe_int pa_nil))) (pe_one (pe_tup (pa_cons (pe_op op_add pe_int (pe_call GD (hr.mono (by decide)) (by rfl) P2.is P2.kp P2.bi .nil pass0 (pa_cons (pv 1) (pa_cons pe_int pa_nil)))) pa_nil)))))
      (pss_cons (ps_set (i := 4) scLaw.nd rfl (.inl rfl) (pe_call GY (hr.mono (by decide)) (by rfl) P3.is P3.kp P3.bi .nil pass0 (pa_cons (pv 1) (pa_cons pe_int pa_nil))))
      (pss_cons (ps_set (i := 5) scLaw.nd rfl (.inl rfl) (pe_call GR (hr.mono (by decide)) (by rfl) P6.is P6.kp P6.bi .nil pass0 (pa_cons (pv 3) (pa_cons (pv 4) pa_nil))))
      (pss_cons (ps_set (i := 6) scLaw.nd rfl (.inl rfl) (pe_call GD (hr.mono (by decide)) (by rfl) P2.is P2.kp P2.bi .nil pass0 (pa_cons (pv 1) (pa_cons (pe_op op_add (pe_callB call_len_seq (by rfl) T.len PySem.boot_len (pa_cons (pv 5) pa_nil)) pe_int) pa_nil))))
      (pss_cons (ps_set (i := 7) scLaw.nd rfl (.inl rfl) (pe_call GS (hr.mono (by decide)) (by rfl) P4.is P4.kp P4.bi .nil pass0 (pa_cons (pe_op op_catA (pe_op op_catA (pe_slice sl_tupA (pv 5) po_none (po_some (pv 6))) (pe_tup (pa_cons (pe_call GC (hr.mono (by decide)) (by rfl) P5.is P5.kp P5.bi .nil pass0 (pa_cons (pv 1) pa_nil)) pa_nil))) (pe_slice sl_tupA (pv 5) (po_some (pe_op op_add (pv 6) pe_int)) po_none)) pa_nil)))
      (pss_cons (ps_set (i := 8) scLaw.nd rfl (.inl rfl) (pe_callTy call_tuple_of (by rfl) T.tuple (show bootBuiltins "tuple" = some (.type "tuple") by decide +kernel) (pa_cons (pe_lc (own := [("a", 11)]) (g := gName 11) (tt := tYes) rfl scLaw.nd (pi_tup (pv 3)) (blkOk_by (N := ["script", "pen", "turn", "divisor", "factor", "row", "at", "changed", "double", "cases", "large", "a", "k", "count", "first", "second"]) (sc := defScope sLaw) (own := [("a", 11)]) (by decide +kernel)) (fun _ _ _ _ _ => (pg_name (i := 11) scLaw.nd rfl (.inl rfl))) (fun _ _ _ _ _ => pts_nil) (fun _ _ _ _ _ => (pe_op op_mul pe_int (pv 11)))) pa_nil)))
      (pss_cons (ps_set (i := 9) scLaw.nd rfl (.inl rfl) (pe_lst (pa_cons (pe_tup (pa_cons (pv 5) (pa_cons (pv 3) pa_nil))) (pa_cons (pe_tup (pa_cons (pv 7) (pa_cons (pv 3) pa_nil))) (pa_cons (pe_tup (pa_cons (pv 5) (pa_cons (pv 8) pa_nil))) (pa_cons (pe_tup (pa_cons (pe_call GR (hr.mono (by decide)) (by rfl) P6.is P6.kp P6.bi .nil pass0 (pa_cons (pv 5) (pa_cons (pe_tup (pa_cons pe_int pa_nil)) pa_nil))) (pa_cons (pv 8) pa_nil))) pa_nil))))))
      (pss_cons (ps_set (i := 9) scLaw.nd rfl (.inl rfl) (pe_op op_cat (pv 9) (pe_lst (pa_cons (pe_tup (pa_cons (pv 3) (pa_cons (pv 3) pa_nil))) (pa_cons (pe_tup (pa_cons (pe_tup pa_nil) (pa_cons (pv 3) pa_nil))) (pa_cons (pe_tup (pa_cons (pv 5) (pa_cons (pe_tup (pa_cons pe_int pa_nil)) pa_nil))) (pa_cons (pe_tup (pa_cons (pv 5) (pa_cons (pe_tup (pa_cons (pe_op op_sub pe_int pe_int) pa_nil)) pa_nil))) (pa_cons (pe_tup (pa_cons (pv 4) (pa_cons (pv 3) pa_nil))) pa_nil))))))))
      (pss_cons (ps_set (i := 9) scLaw.nd rfl (.inl rfl) (pe_op op_cat (pv 9) (pe_lst (pa_cons (pe_tup (pa_cons (pv 3) (pa_cons (pe_call GR (hr.mono (by decide)) (by rfl) P6.is P6.kp P6.bi .nil pass0 (pa_cons (pv 3) (pa_cons (pe_tup (pa_cons pe_int (pa_cons pe_int pa_nil))) pa_nil))) pa_nil))) (pa_cons (pe_tup (pa_cons (pe_call GR (hr.mono (by decide)) (by rfl) P6.is P6.kp P6.bi .nil pass0 (pa_cons (pv 5) (pa_cons (pe_tup (pa_cons pe_int (pa_cons pe_int pa_nil))) pa_nil))) (pa_cons (pv 3) pa_nil))) pa_nil)))))
      (pss_cons (ps_if (pt_cmpR op_eq (pv 2) pe_int (nomark _)) (pss_cons (ps_setLc (i := 10) (own := [("count", 13)]) (g := gName 13) (tt := tYes) rfl scLaw.nd rfl rfl (sw_true rfl rfl rfl (by decide +kernel)) (pi_tup (pe_tup (pa_cons pe_int (pa_cons pe_int pa_nil)))) (blkOk_by (N := ["script", "pen", "turn", "divisor", "factor", "row", "at", "changed", "double", "cases", "large", "a", "k", "count", "first", "second"]) (sc := defScope sLaw) (own := [("count", 13)]) (by decide +kernel)) (fun _ _ _ _ _ => (pg_name (i := 13) scLaw.nd rfl (.inl rfl))) (fun _ _ _ _ _ => pts_nil) (fun _ _ _ _ _ => (pe_callTy (call_tupK (K := K) rfl) (by rfl) T.tuple (show bootBuiltins "tuple" = some (.type "tuple") by decide +kernel) (pa_cons (pe_lc (own := [("k", 12)]) (g := gName 12) (tt := tYes) rfl scLaw.nd (pi_range1 rfl T.range (pa_cons (pv 13) pa_nil)) (blkOk_by (N := ["script", "pen", "turn", "divisor", "factor", "row", "at", "changed", "double", "cases", "large", "a", "k", "count", "first", "second"]) (own := [("k", 12)]) (by kernel_rfl)) (fun _ _ _ _ _ => (pg_name (i := 12) scLaw.nd rfl (.inl rfl))) (fun _ _ _ _ _ => pts_nil) (fun _ _ _ _ _ => (pe_op op_add pe_int (pe_call GD (hr.mono (by decide)) (by rfl) P2.is P2.kp P2.bi .nil pass0 (pa_cons (pv 1) (pa_cons (pe_op op_pow pe_int pe_int) pa_nil)))))) pa_nil))))
      (pss_one (ps_expr (pe_bm PySem.F.plainAttrs_list PySem.F.slot_list_append PySem.F.type_list_append mt_append (pv 9) (pa_cons (pe_tup (pa_cons (pe_call GR (hr.mono (by decide)) (by rfl) P6.is P6.kp P6.bi .nil pass0 (pa_cons (pe_ix ix_list (pv 10) pe_int (fun _ _ => rfl)) (pa_cons (pe_ix ix_list (pv 10) pe_int (fun _ _ => rfl)) pa_nil))) (pa_cons (pe_ix ix_list (pv 10) pe_int (fun _ _ => rfl)) pa_nil))) pa_nil))))) pss_nil)
      (pss_one (ps_if (pt_not (pt_val (pe_callB (cr_all rfl) (by rfl) T.all (by decide +kernel) (pa_cons (pe_lc (own := [("first", 14), ("second", 15)]) (g := gTup K 2 (gCons (gName 14) (gCons (gName 15) gNil))) (tt := tYes) rfl scLaw.nd (pi_list (pv 9)) (blkOk_by (N := ["script", "pen", "turn", "divisor", "factor", "row", "at", "changed", "double", "cases", "large", "a", "k", "count", "first", "second"]) (sc := defScope sLaw) (own := [("first", 14), ("second", 15)]) (by decide +kernel)) (fun _ _ _ _ _ => (pg_tup rfl (pgs_cons (pg_name (i := 14) scLaw.nd rfl (.inl rfl) (Or.inr rfl)) (pgs_cons (pg_name (i := 15) scLaw.nd rfl (.inl rfl) (Or.inr rfl)) pgs_nil)))) (fun _ _ _ _ _ => pts_nil) (fun _ _ _ _ _ => (pe_callG GK hg (hr.mono (by decide)) (by rfl) P7.is P7.kp P7.bi (pa_cons (pv 14) (pa_cons (pv 15) pa_nil))))) pa_nil)))) (pss_one (ps_ret pe_bl)) pss_nil)))))))))))))
      (pss_one (ps_ret pe_bl)))), ?_⟩
    -- pen = _law_pen(script)
    refine ⟨.ref a, rfl, a, ns, rfl, hS, hlen, fun p l H1 s1 np nl p1 => ?_⟩
    have hS1 := s1.seq hS
    obtain ⟨n, hn⟩ : ∃ n : Int, n = (if (if (((ns.map V.int).length : Nat) : Int) < 10 then (((ns.map V.int).length : Nat) : Int) else 10) > 3 then (if (((ns.map V.int).length : Nat) : Int) < 10 then (((ns.map V.int).length : Nat) : Int) else 10) else 3) := ⟨_, rfl⟩
    have hn2 : 3 ≤ n ∧ n ≤ 10 := by
      rw [hn]
      repeat' split
      all_goals omega
    refine ⟨.ref a, rfl, a, _, rfl, .inl hS1, _, _, rfl, _, _, n, rfl, hn, n, rfl, by omega, by omega, for_range (lo := 0) (fun i σ H' => ∃ v2 v3 v4 v5 v6 v7 v8 v9 v10 : Option V, σ = [some (V.ref a), some (V.ref p), v2, v3, v4, v5, v6, v7, v8, v9, v10, none, none, none, none, none] ∧ Pen H' p l) ⟨none, none, none, none, none, none, none, none, none, rfl, p1⟩ ?_ ?_⟩
    · rintro i σ H' hi ⟨v2, v3, v4, v5, v6, v7, v8, v9, v10, rfl, pn⟩
      -- divisor
      dsimp only
      refine on (set_tail (fun v H2 => ∃ (d : Addr) (fs : List Int), v = .ref d ∧ SqT K H2 d (fs.map V.int) ∧ DivL fs ∧ Pen H2 p l) ?_ (fun t => ?_))
      rotate_left
      · refine ⟨.ref p, rfl, p, l, 6, rfl, pn, by decide, by decide, fun r gs H2 hl hc hs b2 nr er p2 => ⟨_, .inr (.inl ⟨_, tup_of er, rfl⟩), ?_⟩⟩
        cases gs with
        | nil =>
          refine iteF ⟨.ref p, rfl, p, l, 3, rfl, p2, by decide, by decide +kernel, fun k H3 h0 h1 b3 p3 => ⟨_, _, rfl, rfl, (by show 1 ≤ sizeLine; decide), fun e ne => t _ _ ⟨e, [1 + k], rfl, tup_of upd_same, ⟨by simp, by simp, bd_of ?_, ?_⟩, p3.same (Same.upd ne)⟩⟩⟩
          · intro x hx
            rw [List.mem_singleton.mp hx]
            omega
          · show 1 + k ≠ 0
            omega
        | cons g gs => exact iteT (t _ _ ⟨r, g :: gs, rfl, tup_of er, ⟨by simp, by omega, bd_of fun x hx => Nat.le_of_lt (hc x hx), den_last hs (by simp)⟩, p2⟩)
      rintro v H2 ⟨d, fs, rfl, hd2, DL, p2⟩
      have hl6 := DL.len
      -- factor, row
      refine ⟨.ref p, rfl, p, l, 9, rfl, p2, by decide, by decide, fun fa gs H3 hgl hgc _ b3 _ efa p3 => ?_⟩
      have hd3 := But.tup p2 b3 hd2
      have bgs : Bd 200 gs := bd_of fun x hx => Nat.le_of_lt (hgc x hx)
      refine ⟨.ref d, rfl, .ref fa, rfl, d, fa, fs, gs, rfl, hd3, tup_of efa, by omega, by omega, DL.bd.mono (by decide), bgs.mono (by decide), fun r H4 s4 _ er => ?_⟩
      have brw : Bd 240000 (strip (prod fs gs)) := prod_bd DL.bd bgs (by
        have := Nat.mul_le_mul_right (200 * 200) hl6
        omega)
      have lrw : (strip (prod fs gs)).length ≤ 15 := Nat.le_trans (prod_len fs gs) (by omega)
      generalize strip (prod fs gs) = rw_ at er brw lrw
      have p4 := p3.same s4
      have hr4 := tup_of (K := K) er
      -- at, changed
      refine ⟨.ref p, rfl, .ref r, rfl, r, _, rfl, .inr hr4, _, _, rfl, rfl, p, l, _, rfl, p4, (show (0 : Int) < (((rw_.map V.int).length : Nat) : Int) + 1 by omega), ?_, fun at_ H5 a0 a1 b5 p5 => ?_⟩
      · have : ((((rw_.map V.int).length : Nat) : Int) + 1).natAbs < 2 ^ 20 := by
          rw [List.length_map]
          omega
        exact Nat.lt_of_lt_of_le (PySem.Flt.log2_lt_of (by decide) this) (by decide)
      have hr5 := But.tup p4 b5 hr4
      have hd5 := But.tup p4 b5 (Same.tup s4 hd3)
      have hfa5 := But.tup p4 b5 (Same.tup s4 (tup_of (K := K) efa))
      refine ⟨.ref r, rfl, _, rfl, at_, rfl, slA_of hr5 fun t1 H6 s6 ht1 => ?_⟩
      obtain ⟨y1, ey1, sy1⟩ := cut_ints rw_ none (some at_)
      rw [ey1] at ht1
      have p6 := p5.same s6
      refine ⟨.ref p, rfl, p, l, rfl, p6, fun c H7 hc7 b7 p7 => ⟨by show 1 ≤ sizeLine; decide, fun t2 nt2 => ?_⟩⟩
      have s8 := Same.upd (o := .tup [.int c]) nt2
      have l1 := sy1.length_le
      refine catA_of (Same.tup s8 (But.tup p6 b7 ht1)) (tup_of upd_same) (by rw [List.length_map]; exact Nat.le_of_lt (small1000 (by simp; omega))) fun t3 H9 s9 ht3 => ?_
      have s79 := s8.trans s9
      have hr9 := Same.tup s79 (But.tup p6 b7 (Same.tup s6 hr5))
      refine ⟨.ref r, rfl, _, rfl, _, _, rfl, rfl, at_ + 1, rfl, ?_⟩
      dsimp only [tNoPart]
      refine slA_of hr9 fun t4 H10 s10 ht4 => ?_
      obtain ⟨y2, ey2, sy2⟩ := cut_ints rw_ (some (at_ + 1)) none
      have ht4' : SqT K H10 t4 (y2.map V.int) := by
        rw [← ey2]
        exact ht4
      have l2 := sy2.length_le
      refine catA_of (Same.tup s10 ht3) ht4' (by rw [List.length_append, List.length_map, List.length_map]; exact Nat.le_of_lt (small1000 (by simp; omega))) fun t5 H11 s11 ht5 => ?_
      have e5 : (y1.map V.int ++ [V.int c]) ++ y2.map V.int = (y1 ++ [c] ++ y2).map V.int := by simp
      rw [e5] at ht5
      refine ⟨t5, _, rfl, .inr ht5, fun ch H12 s12 _ ech => ?_⟩
      have Nch : Num (strip (y1 ++ [c] ++ y2)) := by
        refine ⟨Nat.le_trans (strip_len _) (by simp; omega), (bd_of (M := 240000) fun x hx => ?_).mono (by decide)⟩
        have hx := strip_mem hx
        simp only [List.mem_append, List.mem_singleton] at hx
        rcases hx with (hx | hx) | hx
        · exact brw.mem (sy1.subset hx)
        · rw [hx]; omega
        · exact brw.mem (sy2.subset hx)
      generalize strip (y1 ++ [c] ++ y2) = cg at ech Nch
      have s7c := ((s79.trans s10).trans s11).trans s12
      have p12 := p7.same s7c
      have hr12 := Same.tup s7c (But.tup p6 b7 (Same.tup s6 hr5))
      have hd12 := Same.tup s7c (But.tup p6 b7 (Same.tup s6 hd5))
      have hfa12 := Same.tup s7c (But.tup p6 b7 (Same.tup s6 hfa5))
      -- double
      refine ⟨.ref d, rfl, d, rfl, ⟨_, hd12⟩, fun D nD => ?_⟩
      refine lc_tup (K := K) (a := d) (xs := fs.map V.int) (fun i H2 => Same H12 H2 ∧ H2 D = some (.lst (((fs.take i).map (2 * ·)).map V.int))) ⟨Same.upd nD, upd_same⟩ (fun i H _ h => Same.tup h.1 hd12) ?_ ?_
      · rintro i x H2 hx ⟨s2, e2⟩
        have hi : i < fs.length := by
          have := (List.getElem?_eq_some_iff.mp hx).1
          rwa [List.length_map] at this
        have ex : x = .int fs[i] := by
          rw [List.getElem?_map, List.getElem?_eq_getElem hi] at hx
          exact (Option.some.inj hx).symm
        subst ex
        refine ⟨rfl, ?_⟩
        dsimp only [tYes]
        refine iteT ⟨_, rfl, _, _, rfl, rfl, .inl ⟨by decide, by decide⟩, _, e2, by simp only [List.length_map, List.length_take]; exact small1000 (by omega), ?_, ?_⟩
        · intro b o e
          rw [upd_ne (ne_of_none e nD)]
          exact s2 _ _ e
        · rw [upd_same, List.take_succ_eq_append_getElem hi, List.map_append, List.map_append]
          rfl
      rintro H13 ⟨s13, e13⟩
      rw [List.length_map, List.take_length] at e13
      refine ⟨D, _, rfl, .inl ⟨SqL.of e13, fun db ndb => ?_⟩⟩
      have s14 := Same.upd (o := .tup ((fs.map (2 * ·)).map V.int)) ndb
      have B : Base K (upd H13 db (.tup ((fs.map (2 * ·)).map V.int))) p l d fa r ch db fs gs rw_ cg :=
        ⟨p12.same (s13.trans s14), Same.tup (s13.trans s14) hd12, Same.tup (s13.trans s14) hfa12, Same.tup (s13.trans s14) hr12, Same.tup (s13.trans s14) (tup_of ech), tup_of upd_same⟩
      generalize upd H13 db (.tup ((fs.map (2 * ·)).map V.int)) = H14 at B ⊢
      have Nrw : Num rw_ := ⟨by omega, brw.mono (by decide)⟩
      have Ngs : Num gs := ⟨by omega, bgs.mono (by decide)⟩
      clear hd2 hd3 hr4 hr5 hd5 hfa5 ht1 ht3 ht4 ht4' ht5 hr9 hr12 hd12 hfa12 s13 s14 e13 s7c s12 s11 s10 s9 s8 s6 s79 b7 b5 p2 p3 p4 p5 p6 p7 p12 er efa ech s4 b3
      refine ⟨_, rfl, _, rfl, (by show 2 ≤ sizeLine; decide), fun t1 n1 => ?_⟩
      have s1 := Same.upd (o := .tup [.ref r, .ref d]) n1
      replace B := B.same s1
      have c1 : Case K (upd H14 t1 (.tup [.ref r, .ref d])) (.ref t1) := Case.mk upd_same B.r B.d Nrw DL.den
      clear s1
      generalize upd H14 t1 (.tup [.ref r, .ref d]) = H15 at B c1 ⊢
      refine ⟨_, rfl, _, rfl, (by show 2 ≤ sizeLine; decide), fun t2 n2 => ?_⟩
      have s2 := Same.upd (o := .tup [.ref ch, .ref d]) n2
      replace B := B.same s2
      replace c1 := c1.same s2
      have c2 : Case K (upd H15 t2 (.tup [.ref ch, .ref d])) (.ref t2) := Case.mk upd_same B.ch B.d Nch DL.den
      clear s2
      generalize upd H15 t2 (.tup [.ref ch, .ref d]) = H16 at B c1 c2 ⊢
      refine ⟨_, rfl, _, rfl, (by show 2 ≤ sizeLine; decide), fun t3 n3 => ?_⟩
      have s3 := Same.upd (o := .tup [.ref r, .ref db]) n3
      replace B := B.same s3
      replace c1 := c1.same s3
      replace c2 := c2.same s3
      have c3 : Case K (upd H16 t3 (.tup [.ref r, .ref db])) (.ref t3) := Case.mk upd_same B.r B.db Nrw DL.dbl
      clear s3
      generalize upd H16 t3 (.tup [.ref r, .ref db]) = H17 at B c1 c2 c3 ⊢
      refine ⟨_, rfl, (by show 1 ≤ sizeLine; decide), fun w2 nw2 => ?_⟩
      have sw2 := Same.upd (o := .tup [.int 2]) nw2
      replace B := B.same sw2
      replace c1 := c1.same sw2
      replace c2 := c2.same sw2
      replace c3 := c3.same sw2
      have hw2 : SqT K (upd H17 w2 (.tup [.int 2])) w2 (([2] : List Int).map V.int) := tup_of upd_same
      clear sw2
      generalize upd H17 w2 (.tup [.int 2]) = H18 at B c1 c2 c3 hw2 ⊢
      refine ⟨r, w2, rw_, [2], rfl, B.r, hw2, by omega, by decide, brw.mono (by decide), bd_of (by decide), fun pr Kpr spr npr epr => ?_⟩
      replace B := B.same spr
      replace c1 := c1.same spr
      replace c2 := c2.same spr
      replace c3 := c3.same spr
      replace hw2 := Same.tup spr hw2
      have hpr := tup_of (K := K) epr
      clear spr epr
      clear hw2
      refine ⟨_, rfl, (by show 2 ≤ sizeLine; decide), fun t4 n4 => ?_⟩
      have s4 := Same.upd (o := .tup [.ref pr, .ref db]) n4
      replace B := B.same s4
      replace c1 := c1.same s4
      replace c2 := c2.same s4
      replace c3 := c3.same s4
      replace hpr := Same.tup s4 hpr
      have c4 : Case K (upd Kpr t4 (.tup [.ref pr, .ref db])) (.ref t4) := Case.mk upd_same hpr B.db (prod_num brw (G := 2) (bd_of (by decide)) (by simp; omega) (by omega)) DL.dbl
      clear s4
      generalize upd Kpr t4 (.tup [.ref pr, .ref db]) = H19 at B c1 c2 c3 hpr c4 ⊢
      clear hpr
      refine ⟨by show 4 ≤ sizeLine; decide, fun L1 nL1 => ?_⟩
      have sL1 := Same.upd (o := .lst [.ref t1, .ref t2, .ref t3, .ref t4]) nL1
      replace B := B.same sL1
      replace c1 := c1.same sL1
      replace c2 := c2.same sL1
      replace c3 := c3.same sL1
      replace c4 := c4.same sL1
      have hL1 : Cases K (upd H19 L1 (.lst [.ref t1, .ref t2, .ref t3, .ref t4])) L1 [.ref t1, .ref t2, .ref t3, .ref t4] := by
        refine ⟨upd_same, fun v hv => ?_⟩
        simp only [List.mem_cons, List.not_mem_nil, or_false] at hv
        rcases hv with rfl | rfl | rfl | rfl
        · exact c1
        · exact c2
        · exact c3
        · exact c4
      clear sL1 c1 c2 c3 c4
      generalize upd H19 L1 (.lst [.ref t1, .ref t2, .ref t3, .ref t4]) = H20 at B hL1 ⊢
      refine ⟨_, rfl, ?_⟩
      refine ⟨_, rfl, _, rfl, (by show 2 ≤ sizeLine; decide), fun t5 n5 => ?_⟩
      have s5 := Same.upd (o := .tup [.ref d, .ref d]) n5
      replace B := B.same s5
      replace hL1 := hL1.same s5
      have c5 : Case K (upd H20 t5 (.tup [.ref d, .ref d])) (.ref t5) := Case.mk upd_same B.d B.d DL.num DL.den
      clear s5
      generalize upd H20 t5 (.tup [.ref d, .ref d]) = H21 at B hL1 c5 ⊢
      refine ⟨Nat.zero_le _, fun w6 nw6 => ?_⟩
      have sw6 := Same.upd (o := .tup []) nw6
      replace B := B.same sw6
      replace hL1 := hL1.same sw6
      replace c5 := c5.same sw6
      have hw6 : SqT K (upd H21 w6 (.tup [])) w6 (([] : List Int).map V.int) := tup_of upd_same
      clear sw6
      generalize upd H21 w6 (.tup []) = H22 at B hL1 c5 hw6 ⊢
      refine ⟨_, rfl, (by show 2 ≤ sizeLine; decide), fun t6 n6 => ?_⟩
      have s6 := Same.upd (o := .tup [.ref w6, .ref d]) n6
      replace B := B.same s6
      replace hL1 := hL1.same s6
      replace c5 := c5.same s6
      replace hw6 := Same.tup s6 hw6
      have c6 : Case K (upd H22 t6 (.tup [.ref w6, .ref d])) (.ref t6) := Case.mk upd_same hw6 B.d num_nil DL.den
      clear s6
      generalize upd H22 t6 (.tup [.ref w6, .ref d]) = H23 at B hL1 c5 hw6 c6 ⊢
      clear hw6
      refine ⟨_, rfl, (by show 1 ≤ sizeLine; decide), fun w7 nw7 => ?_⟩
      have sw7 := Same.upd (o := .tup [.int 1]) nw7
      replace B := B.same sw7
      replace hL1 := hL1.same sw7
      replace c5 := c5.same sw7
      replace c6 := c6.same sw7
      have hw7 : SqT K (upd H23 w7 (.tup [.int 1])) w7 (([1] : List Int).map V.int) := tup_of upd_same
      clear sw7
      generalize upd H23 w7 (.tup [.int 1]) = H24 at B hL1 c5 c6 hw7 ⊢
      refine ⟨(by show 2 ≤ sizeLine; decide), fun t7 n7 => ?_⟩
      have s7 := Same.upd (o := .tup [.ref r, .ref w7]) n7
      replace B := B.same s7
      replace hL1 := hL1.same s7
      replace c5 := c5.same s7
      replace c6 := c6.same s7
      replace hw7 := Same.tup s7 hw7
      have c7 : Case K (upd H24 t7 (.tup [.ref r, .ref w7])) (.ref t7) := Case.mk upd_same B.r hw7 Nrw den_one
      clear s7
      generalize upd H24 t7 (.tup [.ref r, .ref w7]) = H25 at B hL1 c5 c6 hw7 c7 ⊢
      clear hw7
      refine ⟨_, rfl, _, _, rfl, rfl, (by show 1 ≤ sizeLine; decide), fun w8 nw8 => ?_⟩
      have sw8 := Same.upd (o := .tup [.int (0 - 1)]) nw8
      replace B := B.same sw8
      replace hL1 := hL1.same sw8
      replace c5 := c5.same sw8
      replace c6 := c6.same sw8
      replace c7 := c7.same sw8
      have hw8 : SqT K (upd H25 w8 (.tup [.int (0 - 1)])) w8 (([(0 - 1)] : List Int).map V.int) := tup_of upd_same
      clear sw8
      generalize upd H25 w8 (.tup [.int (0 - 1)]) = H26 at B hL1 c5 c6 c7 hw8 ⊢
      refine ⟨(by show 2 ≤ sizeLine; decide), fun t8 n8 => ?_⟩
      have s8 := Same.upd (o := .tup [.ref r, .ref w8]) n8
      replace B := B.same s8
      replace hL1 := hL1.same s8
      replace c5 := c5.same s8
      replace c6 := c6.same s8
      replace c7 := c7.same s8
      replace hw8 := Same.tup s8 hw8
      have c8 : Case K (upd H26 t8 (.tup [.ref r, .ref w8])) (.ref t8) := Case.mk upd_same B.r hw8 Nrw den_neg
      clear s8
      generalize upd H26 t8 (.tup [.ref r, .ref w8]) = H27 at B hL1 c5 c6 c7 hw8 c8 ⊢
      clear hw8
      refine ⟨_, rfl, _, rfl, (by show 2 ≤ sizeLine; decide), fun t9 n9 => ?_⟩
      have s9 := Same.upd (o := .tup [.ref fa, .ref d]) n9
      replace B := B.same s9
      replace hL1 := hL1.same s9
      replace c5 := c5.same s9
      replace c6 := c6.same s9
      replace c7 := c7.same s9
      replace c8 := c8.same s9
      have c9 : Case K (upd H27 t9 (.tup [.ref fa, .ref d])) (.ref t9) := Case.mk upd_same B.fa B.d Ngs DL.den
      clear s9
      generalize upd H27 t9 (.tup [.ref fa, .ref d]) = H28 at B hL1 c5 c6 c7 c8 c9 ⊢
      refine ⟨by show 5 ≤ sizeLine; decide, fun L2 nL2 => ?_⟩
      have sL2 := Same.upd (o := .lst [.ref t5, .ref t6, .ref t7, .ref t8, .ref t9]) nL2
      replace B := B.same sL2
      replace hL1 := hL1.same sL2
      replace c5 := c5.same sL2
      replace c6 := c6.same sL2
      replace c7 := c7.same sL2
      replace c8 := c8.same sL2
      replace c9 := c9.same sL2
      have hL2 : Cases K (upd H28 L2 (.lst [.ref t5, .ref t6, .ref t7, .ref t8, .ref t9])) L2 [.ref t5, .ref t6, .ref t7, .ref t8, .ref t9] := by
        refine ⟨upd_same, fun v hv => ?_⟩
        simp only [List.mem_cons, List.not_mem_nil, or_false] at hv
        rcases hv with rfl | rfl | rfl | rfl | rfl
        · exact c5
        · exact c6
        · exact c7
        · exact c8
        · exact c9
      clear sL2 c5 c6 c7 c8 c9
      generalize upd H28 L2 (.lst [.ref t5, .ref t6, .ref t7, .ref t8, .ref t9]) = H29 at B hL1 hL2 ⊢
      refine ⟨L1, L2, _, _, rfl, rfl, hL1.1, hL2.1, (by show 9 ≤ sizeLine; decide), fun L3 nL3 => ?_⟩
      have sL3 := Same.upd (o := .lst ([.ref t1, .ref t2, .ref t3, .ref t4] ++ [.ref t5, .ref t6, .ref t7, .ref t8, .ref t9])) nL3
      replace B := B.same sL3
      replace hL1 := hL1.same sL3
      replace hL2 := hL2.same sL3
      have hL3 : Cases K (upd H29 L3 (.lst ([.ref t1, .ref t2, .ref t3, .ref t4] ++ [.ref t5, .ref t6, .ref t7, .ref t8, .ref t9]))) L3 ([.ref t1, .ref t2, .ref t3, .ref t4] ++ [.ref t5, .ref t6, .ref t7, .ref t8, .ref t9]) := ⟨upd_same, fun v hv => by
        rcases List.mem_append.mp hv with hv | hv
        · exact hL1.2 v hv
        · exact hL2.2 v hv⟩
      clear sL3 hL1 hL2
      generalize upd H29 L3 (.lst ([.ref t1, .ref t2, .ref t3, .ref t4] ++ [.ref t5, .ref t6, .ref t7, .ref t8, .ref t9])) = H30 at B hL3 ⊢
      refine ⟨_, rfl, _, rfl, ?_⟩
      refine ⟨_, rfl, ?_⟩
      refine ⟨(by show 2 ≤ sizeLine; decide), fun w10 nw10 => ?_⟩
      have sw10 := Same.upd (o := .tup [.int 0, .int 1]) nw10
      replace B := B.same sw10
      replace hL3 := hL3.same sw10
      have hw10 : SqT K (upd H30 w10 (.tup [.int 0, .int 1])) w10 (([0, 1] : List Int).map V.int) := tup_of upd_same
      clear sw10
      generalize upd H30 w10 (.tup [.int 0, .int 1]) = H31 at B hL3 hw10 ⊢
      refine ⟨d, w10, fs, [0, 1], rfl, B.d, hw10, by omega, by decide, DL.bd.mono (by decide), bd_of (by decide), fun pq Kpq spq npq epq => ?_⟩
      replace B := B.same spq
      replace hL3 := hL3.same spq
      replace hw10 := Same.tup spq hw10
      have hpq := tup_of (K := K) epq
      clear spq epq
      clear hw10
      refine ⟨(by show 2 ≤ sizeLine; decide), fun t10 n10 => ?_⟩
      have s10 := Same.upd (o := .tup [.ref d, .ref pq]) n10
      replace B := B.same s10
      replace hL3 := hL3.same s10
      replace hpq := Same.tup s10 hpq
      have c10 : Case K (upd Kpq t10 (.tup [.ref d, .ref pq])) (.ref t10) := Case.mk upd_same B.d hpq DL.num (shift_den DL.den (by omega) DL.bd (by omega))
      clear s10
      generalize upd Kpq t10 (.tup [.ref d, .ref pq]) = H32 at B hL3 hpq c10 ⊢
      clear hpq
      refine ⟨_, rfl, ?_⟩
      refine ⟨(by show 2 ≤ sizeLine; decide), fun w11 nw11 => ?_⟩
      have sw11 := Same.upd (o := .tup [.int 0, .int 1]) nw11
      replace B := B.same sw11
      replace hL3 := hL3.same sw11
      replace c10 := c10.same sw11
      have hw11 : SqT K (upd H32 w11 (.tup [.int 0, .int 1])) w11 (([0, 1] : List Int).map V.int) := tup_of upd_same
      clear sw11
      generalize upd H32 w11 (.tup [.int 0, .int 1]) = H33 at B hL3 c10 hw11 ⊢
      refine ⟨r, w11, rw_, [0, 1], rfl, B.r, hw11, by omega, by decide, brw.mono (by decide), bd_of (by decide), fun pw Kpw spw npw epw => ?_⟩
      replace B := B.same spw
      replace hL3 := hL3.same spw
      replace c10 := c10.same spw
      replace hw11 := Same.tup spw hw11
      have hpw := tup_of (K := K) epw
      clear spw epw
      clear hw11
      refine ⟨_, rfl, (by show 2 ≤ sizeLine; decide), fun t11 n11 => ?_⟩
      have s11 := Same.upd (o := .tup [.ref pw, .ref d]) n11
      replace B := B.same s11
      replace hL3 := hL3.same s11
      replace c10 := c10.same s11
      replace hpw := Same.tup s11 hpw
      have c11 : Case K (upd Kpw t11 (.tup [.ref pw, .ref d])) (.ref t11) := Case.mk upd_same hpw B.d (prod_num brw (G := 1) (bd_of (by decide)) (by simp; omega) (by omega)) DL.den
      clear s11
      generalize upd Kpw t11 (.tup [.ref pw, .ref d]) = H34 at B hL3 c10 hpw c11 ⊢
      clear hpw
      refine ⟨by show 2 ≤ sizeLine; decide, fun L4 nL4 => ?_⟩
      have sL4 := Same.upd (o := .lst [.ref t10, .ref t11]) nL4
      replace B := B.same sL4
      replace hL3 := hL3.same sL4
      replace c10 := c10.same sL4
      replace c11 := c11.same sL4
      have hL4 : Cases K (upd H34 L4 (.lst [.ref t10, .ref t11])) L4 [.ref t10, .ref t11] := by
        refine ⟨upd_same, fun v hv => ?_⟩
        simp only [List.mem_cons, List.not_mem_nil, or_false] at hv
        rcases hv with rfl | rfl
        · exact c10
        · exact c11
      clear sL4 c10 c11
      generalize upd H34 L4 (.lst [.ref t10, .ref t11]) = H35 at B hL3 hL4 ⊢
      refine ⟨L3, L4, _, _, rfl, rfl, hL3.1, hL4.1, (by show 11 ≤ sizeLine; decide), fun L5 nL5 => ?_⟩
      have sL5 := Same.upd (o := .lst (([.ref t1, .ref t2, .ref t3, .ref t4] ++ [.ref t5, .ref t6, .ref t7, .ref t8, .ref t9]) ++ [.ref t10, .ref t11])) nL5
      replace B := B.same sL5
      replace hL3 := hL3.same sL5
      replace hL4 := hL4.same sL5
      have hL5 : Cases K (upd H35 L5 (.lst (([.ref t1, .ref t2, .ref t3, .ref t4] ++ [.ref t5, .ref t6, .ref t7, .ref t8, .ref t9]) ++ [.ref t10, .ref t11]))) L5 (([.ref t1, .ref t2, .ref t3, .ref t4] ++ [.ref t5, .ref t6, .ref t7, .ref t8, .ref t9]) ++ [.ref t10, .ref t11]) := ⟨upd_same, fun v hv => by
        rcases List.mem_append.mp hv with hv | hv
        · exact hL3.2 v hv
        · exact hL4.2 v hv⟩
      have nLp : L5 ≠ p := fun e => by have := B.pen; obtain ⟨_, _, _, hp, _⟩ := this; rw [← e] at hp; exact absurd (hL5.1.symm.trans hp) (by intro z; cases z)
      clear sL5 hL3 hL4
      have lc5 : (([.ref t1, .ref t2, .ref t3, .ref t4] ++ [.ref t5, .ref t6, .ref t7, .ref t8, .ref t9]) ++ [.ref t10, .ref t11] : List V).length = 11 := rfl
      generalize upd H35 L5 (.lst (([.ref t1, .ref t2, .ref t3, .ref t4] ++ [.ref t5, .ref t6, .ref t7, .ref t8, .ref t9]) ++ [.ref t10, .ref t11])) = H50 at B hL5 ⊢
      generalize hcs : (([.ref t1, .ref t2, .ref t3, .ref t4] ++ [.ref t5, .ref t6, .ref t7, .ref t8, .ref t9]) ++ [.ref t10, .ref t11] : List V) = cs at hL5 lc5
      clear Nrw Ngs Nch hcs
      -- if turn == 0
      dsimp only
      refine on (if_tail (fun σ H2 => ∃ (cs : List V) (v10 : Option V), σ = [some (V.ref a), some (V.ref p), some (V.int ((0 : Int) + (i : Nat))), some (V.ref d), some (V.ref fa), some (V.ref r), some (V.int at_), some (V.ref ch), some (V.ref db), some (V.ref L5), v10, none, none, none, none, none] ∧
        Pen H2 p l ∧ Cases K H2 L5 cs ∧ cs.length ≤ 12) ?_ (fun t => ?_))
      rotate_left
      · refine ⟨_, rfl, rfl, _, rfl, ite2 (fun _ => ?_) (fun _ => t _ _ ⟨cs, _, rfl, B.pen, hL5, by omega⟩)⟩
        refine ⟨by show 2 ≤ sizeLine; decide, fun w nw => ?_⟩
        have sw := Same.upd (o := .tup [.int 3, .int 39]) nw
        have pw := B.pen.same sw
        have cw := hL5.same sw
        have hw : upd H50 w (.tup [.int 3, .int 39]) w = some (.tup [.int 3, .int 39]) := upd_same
        generalize upd H50 w (.tup [.int 3, .int 39]) = H51 at pw cw hw ⊢
        refine ⟨w, rfl, ⟨_, tup_of hw⟩, fun D nD => ?_⟩
        obtain ⟨nDp, nDl⟩ := pw.apart nD
        have nLD : L5 ≠ D := ne_of_none cw.1 nD
        have sD := Same.upd (o := .lst []) nD
        refine lc_tup (K := K) (a := w) (xs := [.int 3, .int 39]) (fun i H2 => ∃ xs : List V, H2 D = some (.lst xs) ∧ xs.length = i ∧ (∀ j, j < i → ∃ e, xs[j]? = some (.ref e) ∧ Big H2 e (if j = 0 then 3 else 39)) ∧ Pen H2 p l ∧ Cases K H2 L5 cs ∧ H2 w = some (.tup [.int 3, .int 39]))
          ⟨[], upd_same, rfl, fun j hj => absurd hj (Nat.not_lt_zero _), pw.same sD, cw.same sD, sD _ _ hw⟩ (fun i H _ ⟨_, _, _, _, _, _, h⟩ => tup_of h) ?_ ?_
        · rintro k x H2 hx ⟨xs, eD, hxl, hbig, p2, c2, ew⟩
          obtain ⟨m, rfl, hm, hk2⟩ : ∃ m : Nat, x = .int (m : Int) ∧ m = (if k = 0 then 3 else 39) ∧ k < 2 := by
            match k, hx with
            | 0, hx => exact ⟨3, (Option.some.inj hx).symm, rfl, by decide⟩
            | 1, hx => exact ⟨39, (Option.some.inj hx).symm, rfl, by decide⟩
            | k + 2, hx => simp at hx
          have hm39 : m ≤ 39 := by rw [hm]; split <;> omega
          refine ⟨rfl, ?_⟩
          dsimp only [tYes]
          refine iteT ?_
          refine ⟨_, rfl, (m : Int), rfl, by omega, by omega, fun D2 nD2 => ?_⟩
          obtain ⟨n2p, n2l⟩ := p2.apart nD2
          have s2 := Same.upd (o := .lst []) nD2
          refine lc_range (lo := 0) (n := (m : Int).toNat) (fun k H' => ∃ fl : List Int, H' D2 = some (.lst (fl.map V.int)) ∧ fl.length = k ∧ (∀ x ∈ fl, 1 ≤ x ∧ x ≤ 10 ^ 28) ∧ Pen H' p l ∧ But p H2 H')
            ⟨[], upd_same, rfl, by simp, p2.same s2, But.of s2⟩ ?_ ?_
          · rintro k2 H3 hk3 ⟨fl, e3, l3, a3, p3, b3⟩
            refine ⟨rfl, ?_⟩
            dsimp only [tYes]
            refine iteT ?_
            refine ⟨.ref p, rfl, _, _, rfl, rfl, ⟨by decide, by decide, by decide⟩, p, l, 10 ^ 28, rfl, p3, by decide, by decide +kernel, fun c H4 c0 c1 b4 p4 => ?_⟩
            refine ⟨_, _, rfl, rfl, _, b4.mem n2p e3, by rw [List.length_map]; exact small1000 (by omega), fl ++ [1 + c], ?_, by simp [l3], ?_, p4.off n2p n2l But.put, ?_⟩
            · rw [upd_same, List.map_append]
              rfl
            · intro x hx
              rcases List.mem_append.mp hx with hx | hx
              · exact a3 x hx
              · rw [List.mem_singleton.mp hx]
                omega
            · intro b o e n
              rw [upd_ne (ne_of_none e nD2)]
              exact b4 _ _ (b3 _ _ e n) n
          · rintro H5 ⟨fl, e5, l5, a5, p5, b5⟩
            refine ⟨D2, _, rfl, .inl ⟨SqL.of e5, fun e ne => ?_⟩⟩
            have s6 := Same.upd (o := .tup (fl.map V.int)) ne
            have eD6 := s6 _ _ (b5.mem nDp eD)
            refine ⟨xs, eD6, Nat.lt_of_lt_of_le (show xs.length < 2 by omega) (by decide), xs ++ [.ref e], upd_same, by simp [hxl], ?_, ((p5.same s6).off nDp nDl But.put), ?_, ?_⟩
            · intro j hj
              by_cases h : j < k
              · obtain ⟨e', x', g'⟩ := hbig j h
                exact ⟨e', by rw [List.getElem?_append_left (by omega)]; exact x', ((g'.but p2 b5).same s6).off eD6 But.put⟩
              · have ej : j = k := by omega
                subst ej
                refine ⟨e, by rw [← hxl]; simp, fl, ?_, by rw [l5, ← hm]; simp, a5⟩
                rw [upd_ne (ne_of_none (b5.mem nDp eD) ne).symm, upd_same]
            · exact ((c2.but p2 (by
                obtain ⟨_, _, _, hp, _⟩ := p2
                intro z
                subst z
                obtain ⟨_, _, _, hp', _⟩ := B.pen
                exact nLp rfl) b5).same s6).off nLD eD6 But.put
            · have hwp : w ≠ p := by
                obtain ⟨_, _, _, hp, _⟩ := p2
                exact ne_of ew hp (by intro z; cases z)
              rw [upd_ne (ne_of (s6 _ _ (b5.mem hwp ew)) eD6 (by intro z; cases z))]
              exact s6 _ _ (b5.mem hwp ew)
        · rintro H2 ⟨xs, eD, hxl, hbig, p2, c2, _⟩
          obtain ⟨e0, x0, f, hf, lf, af⟩ := hbig 0 (by show 0 < 2; decide)
          obtain ⟨e1, x1, g, hg1, lg, ag⟩ := hbig 1 (by show 1 < 2; decide)
          have lf : f.length = 3 := lf
          have lg : g.length = 39 := lg
          have bf := big_bd af
          have bg := big_bd ag
          refine ⟨.ref L5, rfl, .inl ⟨rfl, _, SqL.of c2.1⟩, ?_⟩
          refine ⟨.ref D, rfl, D, _, 0, .ref e0, rfl, rfl, SqL.of eD, atI_nat (j := 0) x0, .ref D, rfl, D, _, 1, .ref e1, rfl, rfl, SqL.of eD, atI_nat (j := 1) x1, e0, e1, f, g, rfl, tup_of hf, tup_of hg1, by omega, by omega, bf.mono (Nat.pow_le_pow_right (by decide) (by decide)), bg.mono (Nat.pow_le_pow_right (by decide) (by decide)), fun pr H3 s3 npr epr => ?_⟩
          refine ⟨.ref D, rfl, D, _, 0, .ref e0, rfl, rfl, SqL.of (s3 _ _ eD), atI_nat (j := 0) x0, by show 2 ≤ sizeLine; decide, fun t6 n6 => ?_⟩
          have s6 := Same.upd (o := .tup [.ref pr, .ref e0]) n6
          have c6 := (c2.same s3).same s6
          obtain ⟨l0, Dv0, Sh0⟩ := large_ok lf lg bf bg (big_nz af (by omega)) (big_nz ag (by omega))
          have cn : Case K (upd H3 t6 (.tup [.ref pr, .ref e0])) (.ref t6) := ⟨t6, pr, e0, _, f, l0, rfl, upd_same, Same.tup s6 (tup_of epr), Same.tup s6 (Same.tup s3 (tup_of hf)), Dv0, Sh0⟩
          have p6 := (p2.same s3).same s6
          have nLl : L5 ≠ l := by
            intro z
            obtain ⟨cs', _, _, _, hl', _⟩ := p6
            rw [← z, c6.1] at hl'
            have hl'' := Option.some.inj hl'
            injection hl'' with hl3
            cases cs with
            | nil => simp at lc5
            | cons v cs0 =>
              obtain ⟨tt, _, _, _, _, _, ev, _⟩ := c6.2 v List.mem_cons_self
              cases cs' with
              | nil => simp at hl3
              | cons z0 zs =>
                rw [ev] at hl3
                injection hl3 with h4 _
                cases h4
          refine ⟨L5, cs, _, rfl, rfl, c6.1, Nat.lt_of_lt_of_le (show cs.length < 12 by omega) (by decide), t _ _ ⟨cs ++ [.ref t6], _, rfl, p6.off nLp nLl But.put, ⟨upd_same, fun v hv => ?_⟩, by simp; omega⟩⟩
          rcases List.mem_append.mp hv with hv | hv
          · exact (c6.2 v hv).off c6.1 But.put
          · rw [List.mem_singleton.mp hv]
            exact cn.off c6.1 But.put
      -- if not all(..)
      rintro σ H2 ⟨cs, v10, rfl, p2, c2, hl12⟩
      refine ⟨.ref L5, rfl, L5, rfl, ⟨_, SqL.of c2.1⟩, fun D nD => ?_⟩
      have sD := Same.upd (o := .lst []) nD
      refine lc_list (K := K) (a := L5) (xs := cs) (fun i H' => Same H2 H' ∧ H' D = some (.lst ((List.replicate i true).map V.bl))) ⟨sD, upd_same⟩ (fun i H _ h => SqL.of (h.1 _ _ c2.1)) ?_ ?_
      · rintro k x H3 hx ⟨s3, e3⟩
        have hk : k < cs.length := (List.getElem?_eq_some_iff.mp hx).1
        obtain ⟨t, x', y', ps, f, l', rfl, ht, hx', hy', Dv0, Sh0⟩ := (c2.2 x (List.mem_of_getElem? hx)).same s3
        refine ⟨t, _, rfl, tup_of ht, rfl, _, _, rfl, _, _, rfl, rfl, rfl, ?_⟩
        dsimp only [tYes]
        refine iteT ?_
        refine ⟨_, rfl, _, rfl, x', y', ps, f, l', rfl, hx', hy', Dv0, Sh0, fun H4 s4 => ⟨_, s4 _ _ e3, by rw [List.length_map, List.length_replicate]; exact small1000 (by omega), ?_, ?_⟩⟩
        · intro b o e
          rw [upd_ne (ne_of_none e nD)]
          exact s4 _ _ (s3 _ _ e)
        · rw [upd_same, List.replicate_succ', List.map_append]
          rfl
      · rintro H3 ⟨s3, e3⟩
        refine ⟨D, _, rfl, SqL.of e3, _, rfl, ?_⟩
        have ea : (List.replicate cs.length true).all id = true := by simp
        rw [ea]
        exact iteF ⟨_, _, _, _, _, _, _, _, _, rfl, p2.same s3⟩
    · rintro σ H' ⟨v2, v3, v4, v5, v6, v7, v8, v9, v10, rfl, pn⟩
      exact q _
end
theorem all_mk {w : World} {K : PySem.W.Frag} {h : Heap} {mg : Str → Option Value} {fa f0 f1 f2 f3 f4 f5 f6 f7 f8 f9 f10 f11 : Addr} (X : K.In h) (G : h.Ns mainGlobals mg) (hfa : mg "law" = some (.ref fa))
    {od0 an0 od1 an1 od2 an2 od3 an3 od4 an4 od5 an5 od6 an6 od7 an7 od8 an8 od9 an9 od10 an10 od11 an11 : Option Addr} {sl0 sl1 sl2 sl3 sl4 sl5 sl6 sl7 sl8 sl9 sl10 sl11 : Array (Option Value)} {oc0 kV0 dc0 pm0 cd0 ct0 oc1 kV1 dc1 pm1 cd1 ct1 oc2 kV2 dc2 pm2 cd2 ct2 oc3 kV3 dc3 pm3 cd3 ct3 oc4 kV4 dc4 pm4 cd4 ct4 oc5 kV5 dc5 pm5 cd5 ct5 oc6 kV6 dc6 pm6 cd6 ct6 oc7 kV7 dc7 pm7 cd7 ct7 oc8 kV8 dc8 pm8 cd8 ct8 oc9 kV9 dc9 pm9 cd9 ct9 oc10 kV10 dc10 pm10 cd10 ct10 oc11 kV11 dc11 pm11 cd11 ct11 : Value}
    (a0 : PySem.W.nsIn K mainGlobals "_law_pen" = some (some (.ref f0))) (l0 : K.lookup f0 = some ⟨oc0, od0, .func (PySem.W.fnOf "_law_pen" "_law_pen" (defArgs sPen) (defBody sPen) (defScope sPen) .none kV0 dc0 pm0 an0 cd0 ct0), sl0⟩) (c0 : PySem.W.codeIn K cd0 "_law_pen" = true) (k0 : PySem.W.keepIn K (.ref f0) = true)
    (a1 : PySem.W.nsIn K mainGlobals "_law_fresh" = some (some (.ref f1))) (l1 : K.lookup f1 = some ⟨oc1, od1, .func (PySem.W.fnOf "_law_fresh" "_law_fresh" (defArgs sFresh) (defBody sFresh) (defScope sFresh) .none kV1 dc1 pm1 an1 cd1 ct1), sl1⟩) (c1 : PySem.W.codeIn K cd1 "_law_fresh" = true) (k1 : PySem.W.keepIn K (.ref f1) = true)
    (a2 : PySem.W.nsIn K mainGlobals "_law_draw" = some (some (.ref f2))) (l2 : K.lookup f2 = some ⟨oc2, od2, .func (PySem.W.fnOf "_law_draw" "_law_draw" (defArgs sDraw) (defBody sDraw) (defScope sDraw) .none kV2 dc2 pm2 an2 cd2 ct2), sl2⟩) (c2 : PySem.W.codeIn K cd2 "_law_draw" = true) (k2 : PySem.W.keepIn K (.ref f2) = true)
    (a3 : PySem.W.nsIn K mainGlobals "_law_strip" = some (some (.ref f3))) (l3 : K.lookup f3 = some ⟨oc3, od3, .func (PySem.W.fnOf "_law_strip" "_law_strip" (defArgs sStrip) (defBody sStrip) (defScope sStrip) .none kV3 dc3 pm3 an3 cd3 ct3), sl3⟩) (c3 : PySem.W.codeIn K cd3 "_law_strip" = true) (k3 : PySem.W.keepIn K (.ref f3) = true)
    (a4 : PySem.W.nsIn K mainGlobals "_law_coefficient" = some (some (.ref f4))) (l4 : K.lookup f4 = some ⟨oc4, od4, .func (PySem.W.fnOf "_law_coefficient" "_law_coefficient" (defArgs sCoef) (defBody sCoef) (defScope sCoef) .none kV4 dc4 pm4 an4 cd4 ct4), sl4⟩) (c4 : PySem.W.codeIn K cd4 "_law_coefficient" = true) (k4 : PySem.W.keepIn K (.ref f4) = true)
    (a5 : PySem.W.nsIn K mainGlobals "_law_polynomial" = some (some (.ref f5))) (l5 : K.lookup f5 = some ⟨oc5, od5, .func (PySem.W.fnOf "_law_polynomial" "_law_polynomial" (defArgs sPoly) (defBody sPoly) (defScope sPoly) .none kV5 dc5 pm5 an5 cd5 ct5), sl5⟩) (c5 : PySem.W.codeIn K cd5 "_law_polynomial" = true) (k5 : PySem.W.keepIn K (.ref f5) = true)
    (a6 : PySem.W.nsIn K mainGlobals "trim_zeros" = some (some (.ref f6))) (l6 : K.lookup f6 = some ⟨oc6, od6, .func (PySem.W.fnOf "trim_zeros" "trim_zeros" (defArgs sTrim) (defBody sTrim) (defScope sTrim) .none kV6 dc6 pm6 an6 cd6 ct6), sl6⟩) (c6 : PySem.W.codeIn K cd6 "trim_zeros" = true) (k6 : PySem.W.keepIn K (.ref f6) = true)
    (a7 : PySem.W.nsIn K mainGlobals "divide_exactly" = some (some (.ref f7))) (l7 : K.lookup f7 = some ⟨oc7, od7, .func (PySem.W.fnOf "divide_exactly" "divide_exactly" (defArgs sDiv) (defBody sDiv) (defScope sDiv) .none kV7 dc7 pm7 an7 cd7 ct7), sl7⟩) (c7 : PySem.W.codeIn K cd7 "divide_exactly" = true) (k7 : PySem.W.keepIn K (.ref f7) = true)
    (a8 : PySem.W.nsIn K mainGlobals "_law_product" = some (some (.ref f8))) (l8 : K.lookup f8 = some ⟨oc8, od8, .func (PySem.W.fnOf "_law_product" "_law_product" (defArgs sProd) (defBody sProd) (defScope sProd) .none kV8 dc8 pm8 an8 cd8 ct8), sl8⟩) (c8 : PySem.W.codeIn K cd8 "_law_product" = true) (k8 : PySem.W.keepIn K (.ref f8) = true)
    (a9 : PySem.W.nsIn K mainGlobals "_law_expected" = some (some (.ref f9))) (l9 : K.lookup f9 = some ⟨oc9, od9, .func (PySem.W.fnOf "_law_expected" "_law_expected" (defArgs sExp) (defBody sExp) (defScope sExp) .none kV9 dc9 pm9 an9 cd9 ct9), sl9⟩) (c9 : PySem.W.codeIn K cd9 "_law_expected" = true) (k9 : PySem.W.keepIn K (.ref f9) = true)
    (a10 : PySem.W.nsIn K mainGlobals "_law_correct" = some (some (.ref f10))) (l10 : K.lookup f10 = some ⟨oc10, od10, .func (PySem.W.fnOf "_law_correct" "_law_correct" (defArgs sCor) (defBody sCor) (defScope sCor) .none kV10 dc10 pm10 an10 cd10 ct10), sl10⟩) (c10 : PySem.W.codeIn K cd10 "_law_correct" = true) (k10 : PySem.W.keepIn K (.ref f10) = true)
    (a11 : PySem.W.nsIn K mainGlobals "law" = some (some (.ref f11))) (l11 : K.lookup f11 = some ⟨oc11, od11, .func (PySem.W.fnOf "law" "law" (defArgs sLaw) (defBody sLaw) (defScope sLaw) .none kV11 dc11 pm11 an11 cd11 ct11), sl11⟩) (c11 : PySem.W.codeIn K cd11 "law" = true) (k11 : PySem.W.keepIn K (.ref f11) = true)
    (z_list : PySem.W.nsIn K mainGlobals "list" = some none)
    (z_tuple : PySem.W.nsIn K mainGlobals "tuple" = some none)
    (z_len : PySem.W.nsIn K mainGlobals "len" = some none)
    (z_range : PySem.W.nsIn K mainGlobals "range" = some none)
    (z_max : PySem.W.nsIn K mainGlobals "max" = some none)
    (z_min : PySem.W.nsIn K mainGlobals "min" = some none)
    (z_reversed : PySem.W.nsIn K mainGlobals "reversed" = some none)
    (z_divmod : PySem.W.nsIn K mainGlobals "divmod" = some none)
    (z_enumerate : PySem.W.nsIn K mainGlobals "enumerate" = some none)
    (z_any : PySem.W.nsIn K mainGlobals "any" = some none)
    (z_all : PySem.W.nsIn K mainGlobals "all" = some none)
    (z_repr : PySem.W.nsIn K mainGlobals "repr" = some none)
    : ∃ fd : FuncData, (∀ (s : Shared) (v : Value), BindsTo s fd ⟨[v], []⟩ [("script", v)]) ∧ ∀ base : Heap, K.In base → base.Ns mainGlobals mg → FnG (PySem.Challenge.rw_bentcoin_k03_rows_parted).prog w K mg base 5 fa fd ["script"] (spLaw K) := by
  have e := hfa.symm.trans (PySem.W.mg_of X G a11)
  cases e
  have F0 := fun_mk (st := sPen) l0 c0 k0
  have b0 := F0.binds (ps := ["script"]) fun _ _ _ _ _ _ us hl => match us, hl with | [_], _ => rfl
  have F1 := fun_mk (st := sFresh) l1 c1 k1
  have b1 := F1.binds (ps := ["pen"]) fun _ _ _ _ _ _ us hl => match us, hl with | [_], _ => rfl
  have F2 := fun_mk (st := sDraw) l2 c2 k2
  have b2 := F2.binds (ps := ["pen", "bound"]) fun _ _ _ _ _ _ us hl => match us, hl with | [_, _], _ => rfl
  have F3 := fun_mk (st := sStrip) l3 c3 k3
  have b3 := F3.binds (ps := ["numbers"]) fun _ _ _ _ _ _ us hl => match us, hl with | [_], _ => rfl
  have F4 := fun_mk (st := sCoef) l4 c4 k4
  have b4 := F4.binds (ps := ["pen"]) fun _ _ _ _ _ _ us hl => match us, hl with | [_], _ => rfl
  have F5 := fun_mk (st := sPoly) l5 c5 k5
  have b5 := F5.binds (ps := ["pen", "most"]) fun _ _ _ _ _ _ us hl => match us, hl with | [_, _], _ => rfl
  have F6 := fun_mk (st := sTrim) l6 c6 k6
  have b6 := F6.binds (ps := ["coefficients"]) fun _ _ _ _ _ _ us hl => match us, hl with | [_], _ => rfl
  have F7 := fun_mk (st := sDiv) l7 c7 k7
  have b7 := F7.binds (ps := ["polynomial", "other"]) fun _ _ _ _ _ _ us hl => match us, hl with | [_, _], _ => rfl
  have F8 := fun_mk (st := sProd) l8 c8 k8
  have b8 := F8.binds (ps := ["first", "second"]) fun _ _ _ _ _ _ us hl => match us, hl with | [_, _], _ => rfl
  have F9 := fun_mk (st := sExp) l9 c9 k9
  have b9 := F9.binds (ps := ["row", "divisor"]) fun _ _ _ _ _ _ us hl => match us, hl with | [_, _], _ => rfl
  have F10 := fun_mk (st := sCor) l10 c10 k10
  have b10 := F10.binds (ps := ["row", "divisor"]) fun _ _ _ _ _ _ us hl => match us, hl with | [_, _], _ => rfl
  have F11 := fun_mk (st := sLaw) l11 c11 k11
  refine ⟨PySem.W.fnOf "law" "law" (defArgs sLaw) (defBody sLaw) (defScope sLaw) .none kV11 dc11 pm11 an11 cd11 ct11, fun s v => .of_eq rfl, fun base _ _ => ?_⟩
  have T : Names3 mg := ⟨⟨PySem.W.mg_none_of X G z_list, PySem.W.mg_none_of X G z_tuple, PySem.W.mg_none_of X G z_len, PySem.W.mg_none_of X G z_range⟩, PySem.W.mg_none_of X G z_max, PySem.W.mg_none_of X G z_min, PySem.W.mg_none_of X G z_reversed, PySem.W.mg_none_of X G z_divmod, PySem.W.mg_none_of X G z_enumerate, PySem.W.mg_none_of X G z_any, PySem.W.mg_none_of X G z_all, PySem.W.mg_none_of X G z_repr⟩
  have m : ∀ {x : Str} {u : Value}, PySem.W.nsIn K mainGlobals x = some (some u) → mg x = some u := fun e => PySem.W.mg_of X G e
  have G0 := ok_pen (P := PySem.Challenge.pw_bentcoin_k03_rows_parted) (w := w) (mg := mg) (base := base) F0 T.toNames
  have G1 := ok_fresh (P := PySem.Challenge.pw_bentcoin_k03_rows_parted) (w := w) (mg := mg) (base := base) F1 T.toNames
  have G2 := ok_draw F2 G1 (m a1) k1 b1
  have G3 := ok_strip (P := PySem.Challenge.pw_bentcoin_k03_rows_parted) (w := w) (mg := mg) (base := base) F3 T.toNames
  have G4 := ok_coef F4 G2 (m a2) k2 b2
  have G5 := ok_poly F5 T.toNames G2 (m a2) k2 b2 G4 (m a4) k4 b4 G3 (m a3) k3 b3
  have G6 := ok_trim (P := PySem.Challenge.pw_bentcoin_k03_rows_parted) (w := w) (mg := mg) (base := base) F6 T.toNames
  have G7 := ok_div F7 T G6 ⟨m a6, k6, b6⟩
  have G8 := ok_prod F8 T G3 ⟨m a3, k3, b3⟩
  have G9 := ok_exp F9 T G3 ⟨m a3, k3, b3⟩
  have G10 := ok_cor F10 T G9 ⟨m a9, k9, b9⟩ G7 ⟨m a7, k7, b7⟩ (named2 F7 fun _ _ _ _ _ _ _ _ => rfl)
  exact ok_law F11 T G0 ⟨m a0, k0, b0⟩ G2 ⟨m a2, k2, b2⟩ G5 ⟨m a5, k5, b5⟩ G3 ⟨m a3, k3, b3⟩ G4 ⟨m a4, k4, b4⟩ G8 ⟨m a8, k8, b8⟩ G10 ⟨m a10, k10, b10⟩
end Z
open PySem PySem.W PyProof.Rows
set_option maxRecDepth 100000 in
set_option maxHeartbeats 0 in
theorem PySem.Challenge.cw_bentcoin_k03_rows_parted_holds : PySem.Challenge.rw_bentcoin_k03_rows_parted.Holds := by
  w_on; o_law; k_head; (case hw => w_witness2)
  k_fill
  refine GG.walkG (l := PySem.Challenge.rw_bentcoin_k03_rows_parted) (n := 63) (k := 5) (x := "script") (sp := Z.spLaw) rfl (by decide) rfl ⟨rfl, by decide, by decide⟩ (fun w h Y => PySem.W.kIn_of Y) ?F (fun _ _ a ns hl hS => ⟨a, ns, rfl, hS, hl, fun _ => rfl⟩)
  case F =>
    intro w mg fa h KX G hmg
    refine' Z.all_mk KX G hmg ?a0 ?l0 ?c0 ?k0 ?a1 ?l1 ?c1 ?k1 ?a2 ?l2 ?c2 ?k2 ?a3 ?l3 ?c3 ?k3 ?a4 ?l4 ?c4 ?k4 ?a5 ?l5 ?c5 ?k5 ?a6 ?l6 ?c6 ?k6 ?a7 ?l7 ?c7 ?k7 ?a8 ?l8 ?c8 ?k8 ?a9 ?l9 ?c9 ?k9 ?a10 ?l10 ?c10 ?k10 ?a11 ?l11 ?c11 ?k11 ?z_list ?z_tuple ?z_len ?z_range ?z_max ?z_min ?z_reversed ?z_divmod ?z_enumerate ?z_any ?z_all ?z_repr
    (case a0 => k_is)
    (case l0 => k_is)
    (case c0 => k_is)
    (case k0 => k_is)
    (case a1 => k_is)
    (case l1 => k_is)
    (case c1 => k_is)
    (case k1 => k_is)
    (case a2 => k_is)
    (case l2 => k_is)
    (case c2 => k_is)
    (case k2 => k_is)
    (case a3 => k_is)
    (case l3 => k_is)
    (case c3 => k_is)
    (case k3 => k_is)
    (case a4 => k_is)
    (case l4 => k_is)
    (case c4 => k_is)
    (case k4 => k_is)
    (case a5 => k_is)
    (case l5 => k_is)
    (case c5 => k_is)
    (case k5 => k_is)
    (case a6 => k_is)
    (case l6 => k_is)
    (case c6 => k_is)
    (case k6 => k_is)
    (case a7 => k_is)
    (case l7 => k_is)
    (case c7 => k_is)
    (case k7 => k_is)
    (case a8 => k_is)
    (case l8 => k_is)
    (case c8 => k_is)
    (case k8 => k_is)
    (case a9 => k_is)
    (case l9 => k_is)
    (case c9 => k_is)
    (case k9 => k_is)
    (case a10 => k_is)
    (case l10 => k_is)
    (case c10 => k_is)
    (case k10 => k_is)
    (case a11 => k_is)
    (case l11 => k_is)
    (case c11 => k_is)
    (case k11 => k_is)
    (case z_list => k_is)
    (case z_tuple => k_is)
    (case z_len => k_is)
    (case z_range => k_is)
    (case z_max => k_is)
    (case z_min => k_is)
    (case z_reversed => k_is)
    (case z_divmod => k_is)
    (case z_enumerate => k_is)
    (case z_any => k_is)
    (case z_all => k_is)
    (case z_repr => k_is)
