import PyProof.Rows.All
import Wide.All
import OpenK.AllK
import Wide.FinOn
import HandS.ForMost
import HandS.Defaults
import HandS.ExcInit
import HandS.ExcField
import PyProof.ExcBaseAll.ZeroDivisionError
import PyProof.ExcBaseAll.RuntimeError
import PyProof.ExcBaseAll.LookupError
import PyProof.ExcBaseAll.OverflowError
import KE.KExcIs
import PyProof.StrOps2
import HandS.Text
import HandS.Wide
import HandS.Flow
import PySem.Challenge.RW_bentcoin_k06_what_is_refused
set_option Elab.async false
set_option maxRecDepth 100000
set_option maxHeartbeats 4000000
/-! Defs that are run where no text of an object is being made: so that repr gives the whole text. -/
namespace GG
open PySem PySem.Spec PyProof.Rows L2
section
variable {P : Program} {w : World} {K : PySem.W.Frag} {mg : Str → Option Value} {base : Heap}
structure FnG (P : Program) (w : World) (K : PySem.W.Frag) (mg : Str → Option Value) (base : Heap) (k : Nat) (f : Addr) (fd : FuncData) (ps : List Str) (sp : Sp) : Prop where
  size : ∀ vs H Q E, sp vs H Q E → vs.length = ps.length
  goes : ∀ (A : Around) (o : List Env) (s : Shared) (H : Hp) (ar : Args) (us : List Value) (vs : List V) (Q : VK) (E : XK),
    A.guards = some [] → Room k A → Env0 P w K mg base A o s H → BindsTo s fd ar (ps.zip us) → Vals vs us → sp vs H Q E →
    codeAny (model P w) A (.call (.ref f) ar) (CR CX0 o P w H s Q E) s

theorem fnG_of {x qual : Str} {st : Stmt} {f : Addr} {fd : FuncData} {N ps : List Str} {k : Nat} {sp : Sp}
    (F : Fun K x qual st f fd) (S : FnScope N ps (defScope st)) (size : ∀ vs H Q E, sp vs H Q E → vs.length = ps.length)
    (body : ∀ (cd : Value) (A : Around) (o : List Env) (s : Shared) (H : Hp) (vs : List V) (Q : VK) (E : XK),
      A.guards = some [] → Room k (A.deeper (envOfC qual (defScope st) s.heap.objs.size f cd)) → sp vs H Q E →
      ∃ t, PSs (cxOf CX0 P w K mg base N qual (defScope st) f cd A o s H E).nox (defBody st) t ∧
        t { nx := fun _ H' => Q .non H', rt := Q } (start N vs) H) :
    FnG P w K mg base (k + 1) f fd ps sp := by
  obtain ⟨oc, od, kV, doc, pm, an, cd, ct, slots, rfl, found, code⟩ := F.ex
  refine ⟨size, ?_⟩
  intro A o s H ar us vs Q E gA room e0 hbind given asked
  have inK : K.In s.heap := e0.mod.kin.keeps fun b u e => (e0.bs b u e).1
  have free : s.heap.NoLimit := e0.mod.nolimit.keeps fun b u e => (e0.bs b u e).1
  have many := size vs H Q E asked
  have kinds : ∀ y ∈ ps.zip us, (defScope st).names.lookup y.1 = some .local ∨ ((defScope st).names.lookup y.1 = some .cell ∧
      ((cellsFrom (s.heap.objs.size + 1) (defScope st).names []).lookup y.1).isSome = true) := by
    rintro ⟨n, v⟩ hy
    cases S.par n (List.of_mem_zip hy).1 with
    | inl q => exact Or.inl q
    | inr q => exact Or.inr ⟨q, PySem.W.cellsFrom_some _ _ _ (Or.inl q)⟩
  apply codeAny_call_function room.depth (inK _ _ found) rfl S.co S.gen rfl (PySem.W.codeRec_of inK code)
  apply hbind
  apply wpAny_newFunctionEnv_cells S.kind kinds
  intro env he s1 ready
  subst he
  refine ⟨free.keeps ready.toInCall.keep, ?_⟩
  apply codeAny_func
  obtain ⟨t, ht, hq⟩ := body cd A o s H vs Q E gA (room.deeper _) asked
  have first := inv_start (E := E) (CX := CX0) S room.hd e0 many given ready
  refine wpAny_mono (ht.nox.run [] s1 (start N vs) H _ first hq) (fun fl s' hs => ?_) (fun e s' hs => hs)
  cases fl with
  | next =>
    obtain ⟨σ', H', J, q⟩ := hs
    exact ⟨V.non, H', J.os, J.bare, J.base, J.hok, rfl, q⟩
  | ret u =>
    obtain ⟨v, σ', H', J, rv, q⟩ := hs
    exact ⟨v, H', J.os, J.bare, J.base, J.hok, rv, q⟩
  | brk => exact hs.elim fun _ z => z.elim fun _ z => z.elim fun _ z => z.elim
  | cont => exact hs.elim fun _ z => z.elim fun _ z => z.elim fun _ z => z.elim

/-- what is left of the heap when the script stands alone in it -/
def one (a : Addr) (o : HO) : Hp := fun b => if b = a then some o else none
theorem one_at {a : Addr} {o : HO} : one a o a = some o := if_pos rfl
theorem one_no {a b : Addr} {o : HO} (h : b ≠ a) : one a o b = none := if_neg h

section
variable {mb : Str → Option Value} {k : Nat} {fa a : Addr} {fd : FuncData} {x : Str} {sp : Sp} {s₁ : Shared} {vs : List Value} {ns : List Int}
abbrev Fine (s₁ : Shared) (r : Result) (s' : Shared) : Prop := r = .ok (.ret (.bool true)) ∧ OldK s₁.heap s'.heap ∧ s'.os = s₁.os ∧ AllBare s'.gens

/-- from a heap in which at most the script is told of -/
theorem from_heap {H : Hp} (inK : K.In (hidT s₁.heap H)) (names : (hidT s₁.heap H).Ns mainGlobals mg) (blt : (hidT s₁.heap H).Ns builtinsNs mb)
    (known : ∀ y : Str, y ≠ "__name__" → mb y = bootBuiltins y) (free : (hidT s₁.heap H).NoLimit) (none_ : s₁.gens = #[])
    (alone : ∀ b, H b = none ∨ ∃ o xs, H b = some (.frz o (.lst xs))) (hok : HOk P w H s₁.heap) (room : Room k callerA)
    (F : FnG P w K mg (hidT s₁.heap H) k fa fd [x] sp) (binds : ∀ (s : Shared) (u : Value), BindsTo s fd ⟨[u], []⟩ [(x, u)])
    (asked : sp [.ref a] H (fun v _ => v = .bl true) fun _ _ _ => False) :
    codeAny (model P w) callerA (.call (.ref fa) ⟨[.ref a], []⟩) (Fine s₁) s₁ := by
  have entry : Env0 P w K mg (hidT s₁.heap H) callerA [] s₁ H :=
    { frames := rfl, mod := ⟨inK, names, ⟨mb, blt, known⟩, free⟩, bs := fun b u e => of_hidT e, bsz := Nat.le_of_eq (hidT_size _ _), funs := trivial,
      frf := fun b hb => absurd (show b ∈ ([] : List Addr) from hb) (by simp), hok := hok, bare := .of_eq none_ }
  have run := F.goes callerA [] s₁ H ⟨[.ref a], []⟩ [.ref a] [.ref a] _ _ rfl room entry (binds s₁ (.ref a)) (.cons rfl .nil) asked
  refine codeAny_mono run fun r s' got => ?_
  cases r with
  | error e => exact False.elim got
  | ok fl =>
    cases fl with
    | ret u =>
      obtain ⟨v, H', os, bare, un, hok', ru, yes⟩ := got
      have yes' : v = .bl true := yes
      subst yes'
      have eu : u = Value.bool true := ru
      subst eu
      refine ⟨rfl, OldK.of_keep ?_, os, bare⟩
      intro b u e
      rcases alone b with q | ⟨ob, xs, q⟩
      · exact un.keep b u e q (fun z => absurd (show b ∈ ([] : List Addr) from z) (by simp)) (by simp)
      · have e1 := (hok b _ q).1
        have e2 := (hok' b _ (un.frzs b ob _ q)).1
        rw [e] at e1
        cases e1
        exact e2
    | next => exact False.elim got
    | brk => exact False.elim got
    | cont => exact False.elim got
/-- the law's call, its promise once -/
theorem lawG (inK : K.In s₁.heap) (names : s₁.heap.Ns mainGlobals mg) (blt : s₁.heap.Ns builtinsNs mb) (known : ∀ y : Str, y ≠ "__name__" → mb y = bootBuiltins y)
    (free : s₁.heap.NoLimit) (none_ : s₁.gens = #[]) (script : s₁.heap.get? a = some { cls := .type "list", data := .seq vs.toArray }) (nums : IntsAre vs ns)
    (few : ns.length ≤ sizeLine) (room : Room k callerA) (F : ∀ base : Heap, K.In base → base.Ns mainGlobals mg → FnG P w K mg base k fa fd [x] sp)
    (binds : ∀ (s : Shared) (u : Value), BindsTo s fd ⟨[u], []⟩ [(x, u)]) (asked : ∀ H : Hp, SqL K H a (ns.map V.int) → sp [.ref a] H (fun v _ => v = .bl true) fun _ _ _ => False) :
    codeAny (model P w) callerA (.call (.ref fa) ⟨[.ref a], []⟩) (Fine s₁) s₁ := by
  have rel := vals_ints nums
  have len := nums.length
  cases look : K.lookup a with
  | some o =>
    have e := inK a o look
    rw [script] at e
    cases e
    have keep : ∀ {b : Addr} {u : Obj}, s₁.heap.get? b = some u → (hidT s₁.heap fun _ => none).get? b = some u := fun e => hidT_get e rfl
    have ns' : ∀ {b : Addr} {m : Str → Option Value}, s₁.heap.Ns b m → (hidT s₁.heap fun _ => none).Ns b m := fun ⟨o, es, ep, e, d, r⟩ => ⟨o, es, ep, keep e, d, r⟩
    have inK' : K.In (hidT s₁.heap fun _ => none) := fun b u e => keep (inK b u e)
    refine from_heap inK' (ns' names) (ns' blt) known (let ⟨mc, h1, h2⟩ := free; ⟨mc, ns' h1, h2⟩) none_ (fun _ => .inl rfl) (fun b u z => nomatch z) room (F _ inK' (ns' names)) binds ?_
    exact asked _ (.inr ⟨_, vs.toArray, _, look, rfl, rfl, rfl, by rw [List.size_toArray, len]; exact few, by simpa using rel⟩)
  | none =>
    have keep : ∀ {b : Addr} {u : Obj}, b ≠ a → s₁.heap.get? b = some u → (hidT s₁.heap (one a (.frz { cls := .type "list", data := .seq vs.toArray } (.lst (ns.map V.int))))).get? b = some u := fun n e => hidT_get e (one_no n)
    have ns' : ∀ {b : Addr} {m : Str → Option Value}, s₁.heap.Ns b m → (hidT s₁.heap (one a (.frz { cls := .type "list", data := .seq vs.toArray } (.lst (ns.map V.int))))).Ns b m := by
      rintro b m ⟨o, es, ep, e, d, r⟩
      refine ⟨o, es, ep, keep (fun z => ?_) e, d, r⟩
      rw [z, script] at e
      cases e
      cases d
    have inK' : K.In (hidT s₁.heap (one a (.frz { cls := .type "list", data := .seq vs.toArray } (.lst (ns.map V.int))))) := fun b u e => keep (fun z => by rw [z, look] at e; cases e) (inK b u e)
    refine from_heap inK' (ns' names) (ns' blt) known (let ⟨mc, h1, h2⟩ := free; ⟨mc, ns' h1, h2⟩) none_ (fun b => ?_) (fun b u z => ?_) room (F _ inK' (ns' names)) binds (asked _ (.inl (.inr ⟨_, one_at⟩)))
    · by_cases e : b = a
      · exact .inr ⟨_, _, by rw [e]; exact one_at⟩
      · exact .inl (one_no e)
    · by_cases e : b = a
      · subst e
        have z' := one_at.symm.trans z
        cases z'
        exact ⟨script, by rw [List.length_map]; exact few, vs, _, rel, script⟩
      · have z' := (one_no e).symm.trans z
        cases z'
end
end
/-- the end of a proof: as the layer's own, for such a promise -/
theorem walkG {l : PySem.W.OpenLaw} {n k : Nat} {q : Program} {loose : List Str} {XP : (Str → Option Value) → Heap → Prop} {YP : World → Heap → Prop} {d : DefRec} {K : Params → PySem.W.Frag}
    {sp : PySem.W.Frag → Sp} {x : Str} (most : l.most = some n) (few : n ≤ sizeLine) (plain : d.params.defaults = []) (room : Room k callerA) (inY : ∀ (w : World) (h : Heap), YP w h → (K w.params).In h)
    (F : ∀ (w : World) (mg : Str → Option Value) (fa : Addr) (h : Heap), (K w.params).In h → h.Ns mainGlobals mg → mg d.name = some (.ref fa) →
      ∃ fd : FuncData, (∀ (s : Shared) (u : Value), BindsTo s fd ⟨[u], []⟩ [(x, u)]) ∧
        ∀ base : Heap, (K w.params).In base → base.Ns mainGlobals mg → FnG l.prog w (K w.params) mg base k fa fd [x] (sp (K w.params)))
    (asked : ∀ (K : PySem.W.Frag) (H : Hp) (a : Addr) (ns : List Int), ns.length ≤ n → SqL K H a (ns.map V.int) → sp K [.ref a] H (fun v _ => v = .bl true) fun _ _ _ => False) :
    PySem.W.WalkO q loose XP YP l.row.toRowW d [] (fun f vs => PySem.call f vs) := by
  apply Att.attach_call most plain
  intro w s₀ s₁ mg mb fa o pm cd doc a vs ns G Y _ _ _ named script nums size none_
  have inK := inY w _ Y
  obtain ⟨fd, binds, hF⟩ := F w mg fa _ inK G.T.g named
  exact lawG inK G.T.g G.T.b G.T.builtins G.T.nolimit none_ script nums (Nat.le_trans size few) room hF binds fun H hs => asked _ H a ns size hs

/-! the text of data -/
/-- data whose text is made: no dict, no int too long, not too deep, not too many -/
structure Shows (d : PyData) (deep many : Nat) : Prop where
  s : d.showable = true
  l : d.leavesShort 1922 = true
  h : d.hasDict = false
  p : d.depth ≤ deep
  b : d.bulk ≤ many
theorem Shows.mono {d : PyData} {a b a' b' : Nat} (x : Shows d a b) (h1 : a ≤ a') (h2 : b ≤ b') : Shows d a' b' := ⟨x.s, x.l, x.h, Nat.le_trans x.p h1, Nat.le_trans x.b h2⟩
theorem Shows.room {d : PyData} (x : Shows d 50 8000) : d.shown.length ≤ sizeLine := by
  have h := PyData.shown_le_bulk 1922 (by decide) d x.l
  have hb := x.b
  have e : sizeLine = 16777216 := by decide
  have := Nat.mul_le_mul_left 1924 hb
  omega
theorem short_int {i : Int} (h : i.natAbs.log2 < 1920) : (PyData.int i).leavesShort 1922 = true := by
  simp only [PyData.leavesShort, decide_eq_true_eq]
  have e := int_text_length_le (k := 1920) (by decide) h
  rw [PyData.shown_int, PySem.ofString_length]
  omega
theorem ints_show : ∀ {ns : List Int}, (∀ n ∈ ns, n.natAbs.log2 < 1920) → PyData.showableAll (ns.map PyData.int) = true ∧ PyData.leavesShortAll 1922 (ns.map PyData.int) = true ∧ PyData.hasDictAll (ns.map PyData.int) = false ∧ PyData.depthAll (ns.map PyData.int) = 0 ∧ PyData.bulkAll (ns.map PyData.int) = ns.length
  | [], _ => ⟨rfl, rfl, rfl, rfl, rfl⟩
  | n :: r, h => by
    obtain ⟨h1, h2, h3, h4, h5⟩ := ints_show (ns := r) fun m hm => h m (List.mem_cons_of_mem _ hm)
    have hn := h n List.mem_cons_self
    have hs := short_int hn
    refine ⟨?_, ?_, ?_, ?_, ?_⟩
    · simp [PyData.showableAll, PyData.showable, h1, hn]
    · simp [PyData.leavesShortAll, h2, hs]
    · simp [PyData.hasDictAll, PyData.hasDict, h3]
    · simp [PyData.depthAll, PyData.depth, h4]
    · simp [PyData.bulkAll, PyData.bulk, h5]; omega
theorem shows_ints {ns : List Int} (h : ∀ n ∈ ns, n.natAbs.log2 < 1920) : Shows (.tuple (ns.map PyData.int)) 1 ns.length := by
  obtain ⟨h1, h2, h3, h4, h5⟩ := ints_show h
  exact ⟨by simp [PyData.showable, h1], by simp [PyData.leavesShort, h2], by simp [PyData.hasDict, h3], by simp [PyData.depth, h4], by simp [PyData.bulk, h5]⟩
section
variable {X : Cx}
def rRepr (K : PySem.W.Frag) : List V → Hp → VK → Prop := fun vs H Q => ∃ (a : Addr) (d : PyData), vs = [.ref a] ∧ Dp K H (.ref a) d ∧ Shows d 50 8000 ∧ Q (.str d.shown) H
theorem call_repr {k : Nat} (hg : X.A.guards = some []) (room : Room k X.A) : CallR X (.builtin "repr") (rRepr X.K) := by
  intro pins s σ H vs us Q I r h
  obtain ⟨a, d, rfl, hd, hs, q⟩ := h
  obtain ⟨u, rfl, ru⟩ := vals1 r
  have eu : u = Value.ref a := ru
  subst eu
  obtain ⟨as, reads⟩ := Dp.reads I d (.ref a) (.ref a) hd rfl
  have hu := room.un
  have hp := hs.p
  refine repr_of_reads' reads hs.s (fun e => by rw [hs.h] at e; cases e) hg (by omega) (fun _ _ e => e) (fun h' u tk hk => ?_) hs.room
  exact ⟨.str d.shown, H, I.kept hk, ⟨u, rfl⟩, q⟩
/-! x *= e of ints -/
theorem ip_mulW : PIp X .Mult (fun x y H Q => ∃ i j : Int, x = .int i ∧ y = .int j ∧ IntMulOk i j ∧ Q (.int (i * j)) H) := by
  intro pins s σ H x y v u Q I rx ry h
  obtain ⟨i, j, ex, ey, ok, q⟩ := h
  subst ex ey
  obtain ⟨t, et⟩ := rx
  obtain ⟨t', et'⟩ := ry
  subst et et'
  exact imul_int ⟨V.int (i * j), H, I.tok _, ⟨_, rfl⟩, q⟩ ok
/-! f(k = v, ..): all by their names -/
variable {CX : CXT} {k : Nat} {f : Addr} {fd : FuncData} {ps ks : List Str} {sp : Sp} {E : XK} {x : Str} {p pos : Pos} {kws : List Keyword} {t tk : TA}
  {g : List Value → List Value → List Value} {gV : List V → List V → List V}
def tNamed (sp : Sp) (gV : List V → List V → List V) (E : XK) (m : Nat) (tk : TA) : TE := fun σ H Q => tk σ H fun zs H1 => zs.length = m ∧ sp (gV [] zs) H1 Q E
theorem pe_named (F : FnOk X.prog X.w X.K X.mg X.base CX k f fd ps sp) (room : Room k X.A) (glob : Gl X x) (is : X.mg x = some (.ref f)) (keep : PySem.W.keepIn X.K (.ref f) = true)
    (bound : KBn X.K fd ps 0 ks g gV) (pass : Passes CX X E) (args : PK X kws tk) (all : (backToKw pos (keywordEach kws X.env)).all (·.1.isSome) = true := by rfl)
    (names : (backToKw pos (keywordEach kws X.env)).filterMap (·.1) = ks := by rfl) (nodebug : (x == ("__debug__" : Str)) = false := by decide)
    (plain : ((backTo pos (starEach [] X.env)).any (·.1) || (backToKw pos (keywordEach kws X.env)).any (·.1.isNone)) = false := by rfl) :
    PE X (.Call (.Name x p) [] kws pos) (tNamed sp gV E ks.length tk) := by
  constructor
  intro pins s σ H Q I h
  apply wpAny_Call_Name_kw
  refine ld_glob I glob is ?_ nodebug
  apply PySem.W.callWith_KW0 I.ok.mod.kin keep all _ plain
  have run := args.run pos pins s σ H _ I h
  refine thn run fun ws s2 done => ?_
  obtain ⟨zs, H2, I2, rz, many, q⟩ := done
  refine ⟨I2.kIn, ?_⟩
  rw [names]
  have few : ws.length = ks.length := by rw [← rz.length]; exact many
  first
  | exact run_fnN (us := []) (vs := []) F room bound pass I2 .nil rz rfl few q
  | exact run_fnN (us := []) (vs := []) F room bound pass I2 .nil rz rfl many q
def turned {α : Type} : List α → List α
  | [u, v] => [v, u]
  | l => l
theorem turned_vals : ∀ {zs : List V} {ws : List Value}, Vals zs ws → Vals (turned zs) (turned ws)
  | _, _, .nil => .nil
  | _, _, .cons a .nil => .cons a .nil
  | _, _, .cons a (.cons b .nil) => .cons b (.cons a .nil)
  | _, _, .cons a (.cons b (.cons c r)) => .cons a (.cons b (.cons c r))
/-- two parameters, both by name, the second ahead -/
theorem named2 {K : PySem.W.Frag} {x qual : Str} {st : Stmt} {a b : Str} (F : Fun K x qual st f fd)
    (h : ∀ (kV doc pm : Value) (an : Option Addr) (cd ct u v : Value), bindArgs (PySem.W.fnOf x qual (defArgs st) (defBody st) (defScope st) .none kV doc pm an cd ct) ⟨[], [(b, u), (a, v)]⟩ = pure [(a, v), (b, u)]) :
    KBn K fd [a, b] 0 [b, a] (fun _ ws => turned ws) (fun _ zs => turned zs) := by
  obtain ⟨oc, od, kV, doc, pm, an, cd, ct, slots, rfl, found, code⟩ := F.ex
  refine ⟨fun s us ws _ l0 l2 => ?_, fun _ r => turned_vals r⟩
  match us, ws, l0, l2 with
  | [], [u, v], _, _ => exact .of_eq (h kV doc pm an cd ct u v)
theorem max_is (calm : X.calm = true) : CallR X (.builtin "max") (fun vs H Q => ∃ i j k : Int, vs = [.int i, .int j] ∧ k = (if j > i then j else i) ∧ Q (.int k) H) := by
  intro pins s σ H vs us Q I r h
  obtain ⟨i, j, k, e, ek, q⟩ := h
  subst ek
  exact call_max2 calm pins s σ H vs us Q I r ⟨i, j, e, q⟩
/-! a def that wants that no text is being made, called -/
theorem pe_callG {F : FuncData} {es : List Expr} {e : Expr} (G : FnG X.prog X.w X.K X.mg X.base k f F ps sp) (quiet : X.A.guards = some []) (room : Room k X.A) (glob : Gl X x) (is : X.mg x = some (.ref f)) (keep : PySem.W.keepIn X.K (.ref f) = true)
    (bound : Binds X.K F ps []) (args : PA X (e :: es) t) (nodebug : (x == ("__debug__" : Str)) = false := by decide) (star : starEach (e :: es) X.env = (false, eval e X.env) :: starEach es X.env := by rfl)
    (plain : (backTo pos (starEach es X.env)).any (·.1) = false := by rfl) : PE X (.Call (.Name x p) (e :: es) [] pos) (tCall sp [] E0 t) := by
  constructor
  intro pins s σ H Q I h
  apply wpAny_Call_Name_kw
  refine ld_glob I glob is ?_ nodebug
  refine PySem.W.callWith_K (h₀ := X.base) I.ok.mod.kin keep (thn (args.run pos pins s σ H _ I h) fun us s1 got => ?_) star plain
  obtain ⟨vs, H1, I1, r, asked⟩ := got
  refine ⟨I1.kIn, ?_⟩
  have asked' : sp vs H1 Q E0 := by simpa using asked
  have many : (us ++ []).length = ps.length := by rw [List.append_nil, ← r.length]; exact G.size _ _ _ _ asked'
  have bind := bound s1 us I1.kIn many
  rw [List.append_nil] at bind
  apply wpAny_call
  refine codeAny_mono (G.goes X.A X.stack s1 H1 ⟨us, []⟩ us vs Q E0 quiet room I1.env0 bind r asked') fun res s' hq => ?_
  cases res with
  | error e => exact False.elim hq
  | ok fl =>
    cases fl with
    | ret u => exact I1.after hq
    | next => exact False.elim hq
    | brk => exact False.elim hq
    | cont => exact False.elim hq
/-! repr of None, or of data -/
def rRepr2 (K : PySem.W.Frag) : List V → Hp → VK → Prop := fun vs H Q => (vs = [.non] ∧ Q (.str "None") H) ∨ rRepr K vs H Q
theorem call_repr2 {k : Nat} (hg : X.A.guards = some []) (room : Room k X.A) : CallR X (.builtin "repr") (rRepr2 X.K) := by
  intro pins s σ H vs us Q I r h
  rcases h with ⟨ev, q⟩ | h
  · subst ev
    obtain ⟨u, eu, ru⟩ := vals1 r
    subst eu
    have e : u = Value.none := ru
    subst e
    exact PySem.P.repr_of_none ⟨.str _, H, I.tok _, ⟨_, rfl⟩, q⟩
  · exact call_repr hg room pins s σ H vs us Q I r h
end
end GG

set_option Elab.async false
set_option linter.all false
set_option maxRecDepth 100000
set_option maxHeartbeats 4000000
/-! own exceptions over any built-in one, as values -/
namespace EX
open PySem PySem.Spec PyProof.Rows L2 PySem.HandSPX PySem.Builtin PySem.Builtin.ObjectAttr
/-- what a store asks of the classes an exception stands on -/
structure Line (mro : List Value) : Prop where
  pass : ∀ self, refuseLoop self "__setattr__" mro = pure ()
  ob : mro.contains (.type "object") = true
  ne : mro.isEmpty = false
abbrev tZero : List Value := [.type "ZeroDivisionError", .type "ArithmeticError", .type "Exception", .type "BaseException", .type "object"]
abbrev tRun : List Value := [.type "RuntimeError", .type "Exception", .type "BaseException", .type "object"]
abbrev tVal : List Value := [.type "ValueError", .type "Exception", .type "BaseException", .type "object"]
abbrev tLook : List Value := [.type "LookupError", .type "Exception", .type "BaseException", .type "object"]
abbrev tKey : List Value := [.type "KeyError", .type "LookupError", .type "Exception", .type "BaseException", .type "object"]
abbrev tOver : List Value := [.type "OverflowError", .type "ArithmeticError", .type "Exception", .type "BaseException", .type "object"]
theorem Line.own {l : List Value} (x : Line l) (C : Addr) : Line (.ref C :: l) where
  pass self := by
    rw [refuseLoop_ref]
    exact x.pass self
  ob := by
    rw [List.contains_cons, x.ob, Bool.or_true]
  ne := rfl
theorem lZero : Line tZero := ⟨fun self => by kernel_rfl, by decide +kernel, rfl⟩
theorem lRun : Line tRun := ⟨fun self => by kernel_rfl, by decide +kernel, rfl⟩
theorem lVal : Line tVal := ⟨fun self => by kernel_rfl, by decide +kernel, rfl⟩
theorem lLook : Line tLook := ⟨fun self => by kernel_rfl, by decide +kernel, rfl⟩
theorem lKey : Line tKey := ⟨fun self => by kernel_rfl, by decide +kernel, rfl⟩
theorem lOver : Line tOver := ⟨fun self => by kernel_rfl, by decide +kernel, rfl⟩
section
variable {P : Program} {w : World} {A : Around} {E : Value → Shared → Prop} {R : Result → Shared → Prop} {h0 : Heap} {g : Array GenState} {d : Drawn} {t : Nat} {os : OsState}
/-- the first field of an exception -/
theorem first_field {K : PySem.W.Frag} {nm : Str} {tk : Tok} {v : Value} {x C : Addr} {fv : Array Value} {cd : ClassData} (inK : K.In h0) (ox : h0.get? x = some { cls := .ref C, data := .fields fv }) (cl : PySem.W.clsIn K C = some cd) (ln : Line cd.mro)
    (dic : cd.hasDict = true) (none_ : PySem.W.findIn K (.ref C) nm = some none)
    (go : ∀ h' tk' dx, (∀ b o, b ≠ x → h0.get? b = some o → h'.get? b = some o) → h0.objs.size ≤ dx → dx ≠ x → h'.get? x = some { cls := .ref C, dict := some dx, data := .fields fv } →
      h'.Ns1 dx (fun y => if y = nm then some v else none) → R (.ok (.ret .none)) ⟨h', g, d, tk', os⟩) :
    codeAny (model P w) A (.call (.builtin "object.__setattr__") ⟨[.ref x, .str nm tk, v], []⟩) R ⟨h0, g, d, t, os⟩ := by
  have at_ : PySem.W.InstAt h0 x { cls := .ref C, data := .fields fv } C none := ⟨ox, rfl, rfl, trivial⟩
  have so := F.store_object
  have apart : x ≠ h0.objs.size := Nat.ne_of_lt (Heap.lt_size ox)
  have isOb : PySem.W.Looks (model P w) h0 (isInstance (.ref x) (.type "object")) true := by
    refine at_.type.andThen (PySem.W.looks_mroIn inK ?_)
    unfold PySem.W.mroIn
    rw [cl, Option.bind_some, if_neg (by rw [ln.ne]; decide), ln.ob]
  refine codeAny_call_builtin so.slot.plain so.entry ?_
  refine @PySem.W.check_slot (model P w) _ _ ⟨h0, g, d, t, os⟩ "object.__setattr__" "object" "__setattr__" (.ref x) [.str nm tk, v] [] _ so.kind so.split isOb (so.args (.ref x) (.str nm tk) v) ?_
  have mros : PySem.W.Looks (model P w) h0 (mroOf (.ref C)) cd.mro := (PySem.W.looks_clsIn inK cl).andThen .now
  have taker : PySem.W.Looks (model P w) h0 (storeTaker? none) none := .now
  have data : PySem.W.Looks (model P w) h0 (classData C) cd := PySem.W.looks_clsIn inK cl
  rw [PySem.W.osa_eq, refuse_eq]
  refine wpAny_bind (wpAny_bind (at_.type.at (wpAny_bind (mros.at ?_))))
  rw [ln.pass]
  refine wpAny_pure (wpAny_bind (at_.type.at (wpAny_bind ((PySem.W.looks_findIn inK none_).at (wpAny_bind (taker.at ?_))))))
  show wpAny _ _ (storeInOwnDict (.ref x) (.ref C) (.str nm tk) nm v false) _ _ _
  obtain ⟨n1, b1, m1, s1, q1, d1, l1, u1, a1, c1, e1⟩ := cd
  dsimp only at dic
  subst dic
  unfold storeInOwnDict ownDictForStores
  repeat (first | with_reducible refine store_in_new ?_ ?_ | with_reducible refine wpAny_loadPart_at ox ?_ | with_reducible refine data.at ?_ | wp_step)
  · refine ⟨_, #[], _, (Heap.get?_update_ne _ _ _ _ apart.symm).trans (Heap.get?_push_at rfl rfl), rfl, fun e he => ?_, fun _ => rfl⟩
    exact absurd he (by simp)
  · intro h' tk' names same
    have ox1 : (h0.push { cls := .type "dict", data := .dict #[] }).get? x = some { cls := .ref C, data := .fields fv } := Heap.get?_push_of_some _ ox
    refine go h' tk' h0.objs.size (fun b o nb ob => ?_) (Nat.le_refl _) apart.symm ?_ names
    · refine (same.2 b (Nat.ne_of_lt (Heap.lt_size ob))).trans ?_
      exact (Heap.get?_update_ne _ _ _ _ nb).trans (Heap.get?_push_of_some _ ob)
    · exact (same.2 x apart).trans (Heap.get?_update_self _ ox1 rfl)
end
/-- what the written part says of an exception's class that stands right on a built-in one -/
structure ExC (K : PySem.W.Frag) (C : Addr) (tail : List Value) (newId : String) : Prop where
  cls : ∃ nm q N bs sn sub ab col dd k0 k1 k2 k3 k5, K.lookup C = some (excClassObj nm q C N bs tail true sn sub ab col dd k0 k1 k2 k3 k5 newId)
  line : Line tail
  sa : PySem.W.findIn K (.ref C) "__setattr__" = some (some (.builtin "object.__setattr__"))
  kC : PySem.W.keepIn K (.ref C) = true
theorem ExC.data {K : PySem.W.Frag} {C : Addr} {tail : List Value} {newId : String} (T : ExC K C tail newId) : ∃ cd, PySem.W.clsIn K C = some cd ∧ Line cd.mro ∧ cd.hasDict = true := by
  obtain ⟨nm, q, N, bs, sn, sub, ab, col, dd, k0, k1, k2, k3, k5, at_⟩ := T.cls
  refine ⟨{ name := nm, bases := bs, mro := .ref C :: tail, ns := N, qualname := q, hasDict := true, slotNames := sn, subclasses := sub, abstract := ab, collection := col, hasDel := false }, ?_, T.line.own C, rfl⟩
  unfold PySem.W.clsIn
  rw [at_] <;> rfl
section
variable {X : Cx} {pins : List (Addr × Obj)} {σ : L2.St} {H : Hp} {s : Shared} {a C : Addr} {f : Str} {y : V} {u : Value} {Q : Unit → Shared → Prop} {E : Value → Shared → Prop} {A : Around} {tail : List Value} {newId : String}
theorem set_first (T : ExC X.K C tail newId) (I : Inv X pins σ H s) (e : H a = some (exo a C none)) (no : PySem.W.findIn X.K (.ref C) f = some none) (ry : RelV y u)
    (go : ∀ dx s', H dx = none → dx ≠ a → Inv X pins σ (upd (upd H dx (exd dx [(f, y)])) a (exo a C (some dx))) s' → Q () s') : wpAny (model X.prog X.w) A (setAttr (.ref a) f u) Q E s := by
  obtain ⟨cd, cl, ln, dic⟩ := T.data
  obtain ⟨t1, ho⟩ := exo_at I.hok e
  obtain ⟨h0, g, d, t, os⟩ := s
  refine PySem.W.set_plain I.kIn (ox := { cls := .ref C, dict := none, data := .fields #[.ref t1, .none, .none, .none, .bool false, .none] }) (od := none) ⟨ho, rfl, rfl, trivial⟩ T.sa ?_
  refine first_field I.kIn ho cl ln dic no fun h' tk' dx k dn dne hx hn => ?_
  have free : H dx = none := I.hok.fresh dn
  have old : ∀ {b : Addr} {o : Obj}, h0.get? b = some o → b ≠ dx := fun {b o} q => Nat.ne_of_lt (Nat.lt_of_lt_of_le (Heap.lt_size q) dn)
  have told : ∀ {b : Addr}, H b = none → b ≠ a := fun {b} n z => by
    rw [z, e] at n
    cases n
  have un : Un X.fs [] H (upd (upd H dx (exd dx [(f, y)])) a (exo a C (some dx))) h0 h' := {
    keep := fun b o q n _ _ => k b o (told n) q
    slot := fun b o q n _ _ => ⟨o.slots, k b o (told n) q⟩
    free := fun b o q n _ => by
      rw [upd_ne (told n), upd_ne (old q)]
      exact n
    there := fun b o q _ => by
      by_cases hb : b = a
      · exact ⟨_, by rw [hb]; exact hx⟩
      · exact ⟨o, k b o hb q⟩
    tups := fun b xs q => by
      rw [upd_ne (at_ne e q exo_tup), upd_ne (ne_of_none q free)]
      exact q
    frzs := fun b o v q => by
      rw [upd_ne (at_ne e q exo_frz), upd_ne (ne_of_none q free)]
      exact q
    tbls := fun b ps q => by
      refine ⟨#[], ?_⟩
      rw [upd_ne (at_ne e q exo_tbl), upd_ne (ne_of_none q free), q]
      simp }
  refine go dx _ free dne (I.un (t' := tk') un fun b o q => ?_)
  by_cases hb : b = a
  · subst hb
    rw [upd_same] at q
    cases q
    exact exo_ok hx
  · rw [upd_ne hb] at q
    by_cases hd : b = dx
    · subst hd
      rw [upd_same] at q
      cases q
      exact exd_ok hn (relO_put (fs := []) ry fun g => True.intro)
    · rw [upd_ne hd] at q
      refine (I.hok b o q).stay (fun c v hc z => ?_) (fun c hc => ?_) fun c xs hc => ?_
      · refine k c v ?_ z
        rcases hc with hc | hc
        · rw [hc]
          exact hb
        · exact at_ne e hc exo_own
      · rw [upd_ne (at_ne e hc exo_own), upd_ne (ne_of_none hc free)]
        exact hc
      · rw [upd_ne (at_ne e hc exo_tup), upd_ne (ne_of_none hc free)]
        exact hc
end
/-- self.f = e, the first field -/
def tFirst (K : PySem.W.Frag) (f : Str) (to te : TE) : TS := fun D σ H => te σ H fun y H1 => to σ H1 fun x H2 => ∃ (a C : Addr) (tail : List Value) (newId : String), x = .ref a ∧ ExC K C tail newId ∧ PySem.W.findIn K (.ref C) f = some none ∧
  H2 a = some (exo a C none) ∧ ∀ dx, H2 dx = none → dx ≠ a → D.nx σ (upd (upd H2 dx (exd dx [(f, y)])) a (exo a C (some dx)))
/-- how an exception of the class at C is made by a call: laid, then its __init__ run -/
def Makes (P : Program) (w : World) (K : PySem.W.Frag) (C fI : Addr) : Prop := ∀ (A : Around) (R : Result → Shared → Prop) (h0 : Heap) (g : Array GenState) (d : Drawn) (t : Nat) (os : OsState) (rest : List Value), K.In h0 → rest.length ≤ sizeLine →
  codeAny (model P w) (A.under (.builtin "type.__call__" ⟨.ref C :: rest, []⟩)) (.call (.ref fI) ⟨.ref (h0.objs.size + 1) :: rest, []⟩) (PySem.W.InitBack (h0.objs.size + 1) R) ⟨(h0.push (PySem.W.kdv_tup rest)).push (PySem.HandSPX.excO C h0.objs.size), g, d, t, os⟩ →
  codeAny (model P w) A (.call (.ref C) ⟨rest, []⟩) R ⟨h0, g, d, t, os⟩
theorem makes_of {P : Program} {w : World} {K : PySem.W.Frag} {C fI : Addr} {B newId initId : String} {tail : List Value} (F : ExcBaseFacts B newId initId tail) (T : ExC K C tail newId) (iC : PySem.W.findIn K (.ref C) "__init__" = some (some (.ref fI)))
    (tI : PySem.W.typeIn K (.ref fI) = some (.type "function")) : Makes P w K C fI := by
  intro A R h0 g d t os rest inK few run
  obtain ⟨nm, q, N, bs, sn, sub, ab, col, dd, k0, k1, k2, k3, k5, at_⟩ := T.cls
  exact PySem.HandSPX.call_own F (fun _ => rfl) (inK _ _ at_) (PySem.W.looks_findIn inK iC) (fun self => PySem.W.bind_fn inK self tI) few run
/-- C(e, ..) as a value, its __init__ keeping sp -/
def tMade (C : Addr) (sp : Sp) (ta : TA) : TE := fun σ H Q => ta σ H fun vs H1 => vs.length ≤ 1000 ∧ ∀ a, H1 a = none → sp (.ref a :: vs) (upd H1 a (exo a C none)) (fun v H2 => v = .non ∧ Q (.ref a) H2) (fun _ _ _ => False)
section
variable {X : Cx} {o e : Expr} {es : List Expr} {to te : TE} {ta : TA} {f : Str} {p p' p1 p2 pos : Pos} {tail : List Value} {newId : String}
theorem ps_first (ho : PE X o to) (he : PE X e te) (hs : swapsWith e (some (.Attribute o f p')) pos.line X.env = pure false := by rfl) : PS X (.Assign [.Attribute o f p'] e pos) (tFirst X.K f to te) := by
  constructor
  intro pins s σ H D I h
  refine plainObj_wpAny_Assign_Attribute (thn (he.run pins s σ H _ I h) fun v s1 got => ?_) hs
  obtain ⟨y, H1, I1, r1, q1⟩ := got
  refine thn (ho.run pins s1 σ H1 _ I1 q1) fun u s2 got => ?_
  obtain ⟨x, H2, I2, r2, a, C, tail, newId, ex, T, no, ea, q⟩ := got
  subst ex
  obtain rfl : u = Value.ref a := r2
  exact set_first T I2 ea no r1 fun dx s' n ne J => ⟨σ, _, J, q dx n ne⟩
theorem pe_made {CX : CXT} {x : Str} {C fI : Addr} {k : Nat} {fd : FuncData} {ps : List Str} {sp : Sp} (M : Makes X.prog X.w X.K C fI) (kC : PySem.W.keepIn X.K (.ref C) = true)
    (F1 : FnOk X.prog X.w X.K X.mg X.base CX k fI fd ps sp) (hr : Room (k + 1) X.A) (hb : Binds X.K fd ps []) (hx : Passes CX X (fun _ _ _ => False)) (hg : Gl X x) (hm : X.mg x = some (.ref C)) (ha : PA X (e :: es) ta)
    (hdb : (x == ("__debug__" : Str)) = false := by decide) (he : starEach (e :: es) X.env = (false, eval e X.env) :: starEach es X.env := by rfl) (hpl : (backTo pos (starEach es X.env)).any (·.1) = false := by rfl) :
    PE X (.Call (.Name x p) (e :: es) [] pos) (tMade C sp ta) := by
  constructor
  intro pins s σ H Q I h
  refine wpAny_Call_Name_kw (ld_glob I hg hm ?_ hdb)
  refine PySem.W.callWith_K (h₀ := X.base) I.ok.mod.kin kC (thn (ha.run pos pins s σ H _ I h) fun us s1 got => ?_) he hpl
  obtain ⟨vs, H1, I1, r1, hz, q1⟩ := got
  refine ⟨I1.kIn, ?_⟩
  show wpAny _ _ (call (.ref C) us) _ _ _
  obtain ⟨h0, g, dr, tk, os⟩ := s1
  have le : h0.objs.size ≤ h0.objs.size + 1 := Nat.le_succ _
  have hn : H1 (h0.objs.size + 1) = none := I1.hok.fresh le
  have hq := q1 (h0.objs.size + 1) hn
  have keep : ∀ b o, h0.get? b = some o → ((h0.push (PySem.W.kdv_tup us)).push (PySem.HandSPX.excO C h0.objs.size)).get? b = some o := fun b o e => Heap.get?_push_of_some _ (Heap.get?_push_of_some _ e)
  have laid : ((h0.push (PySem.W.kdv_tup us)).push (PySem.HandSPX.excO C h0.objs.size)).get? (h0.objs.size + 1) = some (PySem.HandSPX.excO C h0.objs.size) := by heap_get
  have I2 : Inv X pins σ (upd H1 (h0.objs.size + 1) (exo (h0.objs.size + 1) C none)) ⟨(h0.push (PySem.W.kdv_tup us)).push (PySem.HandSPX.excO C h0.objs.size), g, dr, tk, os⟩ := I1.laid (t' := tk) keep le (exo_ok laid)
  have r2 : Vals (V.ref (h0.objs.size + 1) :: vs) (Value.ref (h0.objs.size + 1) :: us) := .cons rfl r1
  have few : (Value.ref (h0.objs.size + 1) :: us).length = ps.length := by
    have e := r2.length
    rw [F1.len _ _ _ _ hq] at e
    exact e.symm
  have small : us.length ≤ sizeLine := by
    rw [← Paired.length r1, sizeLine_eq]
    omega
  have bound := hb _ (Value.ref (h0.objs.size + 1) :: us) I2.kIn (by simpa using few)
  refine wpAny_call (M _ _ h0 g dr tk os us I1.kIn small ?_)
  have run := F1.run _ X.stack _ _ ⟨Value.ref (h0.objs.size + 1) :: us, []⟩ (Value.ref (h0.objs.size + 1) :: us) _ _ (fun _ _ _ => False) (hr.make C us []) (I2.env0.make C us []) (by simpa using bound) r2 hq
  refine codeAny_mono run fun r s' got => ?_
  cases r with
  | error er => exact hx pins σ _ _ er s' I2 got
  | ok fl =>
    cases fl with
    | ret u =>
      obtain ⟨v, H', I3, rv, ev, q3⟩ := I2.after got
      subst ev
      exact ⟨rv, ⟨V.ref (h0.objs.size + 1), H', I3, rfl, q3⟩⟩
    | next => exact False.elim got
    | brk => exact False.elim got
    | cont => exact False.elim got
end
end EX

set_option Elab.async false
set_option linter.all false
set_option maxRecDepth 100000
set_option maxHeartbeats 4000000
namespace EX
open PySem PySem.Spec PyProof.Rows L2 PySem.HandSPX PySem.Builtin PySem.Builtin.ObjectAttr
section
variable {M : Model} {A : Around} {E : Value → Shared → Prop} {h : Heap} {g : Array GenState} {d : Drawn} {t : Nat} {os : OsState}
variable {nm q : Str} {C N : Addr} {bs bm bB : List Value} {hdct : Bool} {sn : List Str} {sub : List Value} {ab : Bool} {col : Option Bool} {dd : Option Addr} {k0 k1 k2 k3 k5 : Option Value} {B newId initId : String}
theorem check_newK (F : ExcBaseFacts B newId initId bB) (has : bm.contains (.type B) = true) {rest : List Value} {k : Str} {v : Value} {Q : Unit → Shared → Prop}
    (hC : h.get? C = some (excClassObj nm q C N bs bm hdct sn sub ab col dd k0 k1 k2 k3 k5 newId)) (hq : Q () ⟨h, g, d, t, os⟩) : wpAny M A (checkBuiltinCall newId ⟨.ref C :: rest, [(k, v)]⟩) Q E ⟨h, g, d, t, os⟩ := by
  have cont : (Value.ref C :: bm).contains (.type B) = true := by rw [List.contains_cons, has, Bool.or_true]
  have star := F.noStar
  simp only [checkBuiltinCall, F.newKind, F.newSplit, F.newRow]
  repeat (first
    | refine wpAny_loadPart_at hC ?_
    | (refine wpAny_isSubtype_exc hC ?_; rw [cont])
    | refine wpAny_staticBase_exc hC ?_
    | refine wpAny_madeBy_exc hC ?_
    | simp only [bne_self_eq_false, Bool.false_eq_true, if_false]
    | wp_step)
  exact hq
theorem check_new0 (F : ExcBaseFacts B newId initId bB) (has : bm.contains (.type B) = true) {rest : List Value} {Q : Unit → Shared → Prop}
    (hC : h.get? C = some (excClassObj nm q C N bs bm hdct sn sub ab col dd k0 k1 k2 k3 k5 newId)) (hq : Q () ⟨h, g, d, t, os⟩) : wpAny M A (checkBuiltinCall newId ⟨.ref C :: rest, []⟩) Q E ⟨h, g, d, t, os⟩ := by
  have cont : (Value.ref C :: bm).contains (.type B) = true := by rw [List.contains_cons, has, Bool.or_true]
  have star := F.noStar
  simp only [checkBuiltinCall, F.newKind, F.newSplit, F.newRow]
  repeat (first
    | refine wpAny_loadPart_at hC ?_
    | (refine wpAny_isSubtype_exc hC ?_; rw [cont])
    | refine wpAny_staticBase_exc hC ?_
    | refine wpAny_madeBy_exc hC ?_
    | simp only [bne_self_eq_false, Bool.false_eq_true, if_false]
    | wp_step)
  exact hq
end
section
variable {prog : Program} {w : World} {A : Around} {E : Value → Shared → Prop} {R : Result → Shared → Prop} {h : Heap} {g : Array GenState} {d : Drawn} {t : Nat} {os : OsState}
variable {nm q : Str} {C N : Addr} {bs bm bB : List Value} {hdct : Bool} {sn : List Str} {sub : List Value} {ab : Bool} {col : Option Bool} {dd : Option Addr} {k0 k1 k2 k3 k5 : Option Value} {B newId initId : String}
theorem newK (F : ExcBaseFacts B newId initId bB) (has : bm.contains (.type B) = true) (noA : bm.contains (.type "AttributeError") = false) (noN : bm.contains (.type "NameError") = false) {rest : List Value} {kw : List (Str × Value)}
    (hC : h.get? C = some (excClassObj nm q C N bs bm hdct sn sub ab col dd k0 k1 k2 k3 k5 newId))
    (hq : R (.ok (.ret (.ref (h.objs.size + 1)))) ⟨(h.push (PySem.W.kdv_tup rest)).push (excO C h.objs.size), g, d, t, os⟩) (few : rest.length ≤ sizeLine) :
    codeAny (model prog w) A (.builtin newId ⟨.ref C :: rest, kw⟩) R ⟨h, g, d, t, os⟩ := by
  have ends := F.ends
  have cB : (Value.ref C :: bm).contains (.type B) = true := by rw [List.contains_cons, has, Bool.or_true]
  have cA : (Value.ref C :: bm).contains (.type "AttributeError") = false := by
    rw [List.contains_cons, noA]
    rfl
  have cN : (Value.ref C :: bm).contains (.type "NameError") = false := by
    rw [List.contains_cons, noN]
    rfl
  refine codeAny_builtinAt F.entry ?_
  unfold Builtin.«BaseException.__new__»
  refine PySem.wpAt_bind ?_
  show PySem.wpAt _ _ _ (stack >>= _) _ _ _
  refine PySem.wpAt_bind (PySem.wpAt_stack fun p below => PySem.wpAt_of_wpAny ?_)
  wp_walk
  refine PySem.wpAt_of_wpAny ?_
  rw [F.owner]
  repeat (first
    | with_reducible refine wpAny_madeHere_exc F.canon hC ?_
    | with_reducible refine wpAny_loadPart_at hC ?_
    | (with_reducible refine wpAny_isSubtype_exc hC ?_; first | rw [cB] | rw [cA] | rw [cN])
    | wp_step)
  show R _ _
  rw [Heap.size_push]
  exact hq
end
end EX

set_option Elab.async false
set_option linter.all false
set_option maxRecDepth 100000
set_option maxHeartbeats 4000000
namespace EX
open PySem PySem.Spec PyProof.Rows L2 PySem.HandSPX PySem.Builtin PySem.Builtin.ObjectAttr
section
variable {prog : Program} {w : World} {A : Around} {E : Value → Shared → Prop} {R : Result → Shared → Prop} {h : Heap} {g : Array GenState} {d : Drawn} {t : Nat} {os : OsState}
variable {nm q : Str} {C N : Addr} {bs bm bB : List Value} {hdct : Bool} {sn : List Str} {sub : List Value} {ab : Bool} {col : Option Bool} {dd : Option Addr} {k0 k1 k2 k3 k5 : Option Value} {B newId initId : String}
theorem type_callK (F : ExcBaseFacts B newId initId bB) (has : bm.contains (.type B) = true) (noA : bm.contains (.type "AttributeError") = false) (noN : bm.contains (.type "NameError") = false) {rest : List Value} {kw : List (Str × Value)} {fI : Addr} {Q : Fin → Shared → Prop}
    (hC : h.get? C = some (excClassObj nm q C N bs bm hdct sn sub ab col dd k0 k1 k2 k3 k5 newId)) (one : kw = [] ∨ ∃ k v, kw = [(k, v)])
    (hi : PySem.W.Looks (model prog w) h (typeLookup (.ref C) "__init__") (some (.ref fI))) (hb : ∀ self, PySem.W.Looks (model prog w) h (bindSpecial (.ref fI) self) (.ref fI, [self])) (few : rest.length ≤ sizeLine)
    (hq : codeAny (model prog w) A (.call (.ref fI) ⟨.ref (h.objs.size + 1) :: rest, kw⟩)
      (fun r s' => match r with | .ok (.ret v) => v = .none ∧ Q (.done (.ret (.ref (h.objs.size + 1)))) s' | .ok _ => False | .error e => E e s')
      ⟨(h.push (PySem.W.kdv_tup rest)).push (excO C h.objs.size), g, d, t, os⟩) :
    wpAny (model prog w) A (Builtin.«type.__call__» ⟨.ref C :: rest, kw⟩) Q E ⟨h, g, d, t, os⟩ := by
  repeat (first | with_reducible refine wpAny_loadPart_at hC ?_ | with_reducible refine wpAny_madeBy_exc hC ?_ | wp_step)
  refine codeAny_call_builtin_code (Code.quiet_builtin _ F.quiet) ?_
  have check : ∀ {Q' : Unit → Shared → Prop} {E' : Value → Shared → Prop}, Q' () ⟨h, g, d, t, os⟩ → wpAny (model prog w) A.in1 (checkBuiltinCall newId ⟨.ref C :: rest, kw⟩) Q' E' ⟨h, g, d, t, os⟩ := fun q => by
    rcases one with rfl | ⟨k, v, rfl⟩
    · exact check_new0 F has hC q
    · exact check_newK F has hC q
  refine check ?_
  refine newK F has noA noN hC ?_ few
  show wpAny _ _ _ _ _ _
  have keep : ∀ b o, h.get? b = some o → ((h.push (PySem.W.kdv_tup rest)).push (excO C h.objs.size)).get? b = some o := fun b o e => Heap.get?_push_of_some _ (Heap.get?_push_of_some _ e)
  have hC1 := keep _ _ hC
  have laid : ((h.push (PySem.W.kdv_tup rest)).push (excO C h.objs.size)).get? (h.objs.size + 1) = some (excO C h.objs.size) := by heap_get
  have cC : (Value.ref C :: bm).contains (.ref C) = true := by simp
  have i1 := hi.keeps keep
  have b1 := (hb (.ref (h.objs.size + 1))).keeps keep
  unfold isInstance
  repeat (first | with_reducible refine wpAny_loadPart_at laid ?_ | (with_reducible refine wpAny_isSubtype_exc hC1 ?_; rw [cC]) | wp_step)
  show wpAny _ _ (typeLookup (.ref C) _) _ _ _
  refine i1.at ?_
  refine wpAny_holding (wpAny_bind (b1.at ?_))
  refine wpAny_bind (wpAny_call (codeAny_mono hq fun r s' z => ?_))
  rcases r with e | (v | _ | _ | _) <;> first | exact z | exact z.elim | skip
  obtain ⟨rfl, z⟩ := z
  first
    | exact wpAny_pure (wpAny_pure z)
    | (wp_walk; exact z)
theorem callK (F : ExcBaseFacts B newId initId bB) (has : bm.contains (.type B) = true) (noA : bm.contains (.type "AttributeError") = false) (noN : bm.contains (.type "NameError") = false) {rest : List Value} {kw : List (Str × Value)} {fI : Addr}
    (hC : h.get? C = some (excClassObj nm q C N bs bm hdct sn sub ab col dd k0 k1 k2 k3 k5 newId)) (one : kw = [] ∨ ∃ k v, kw = [(k, v)])
    (hi : PySem.W.Looks (model prog w) h (typeLookup (.ref C) "__init__") (some (.ref fI))) (hb : ∀ self, PySem.W.Looks (model prog w) h (bindSpecial (.ref fI) self) (.ref fI, [self])) (few : rest.length ≤ sizeLine)
    (hq : codeAny (model prog w) (A.under (.builtin "type.__call__" ⟨.ref C :: rest, kw⟩)) (.call (.ref fI) ⟨.ref (h.objs.size + 1) :: rest, kw⟩) (PySem.W.InitBack (h.objs.size + 1) R)
      ⟨(h.push (PySem.W.kdv_tup rest)).push (excO C h.objs.size), g, d, t, os⟩) :
    codeAny (model prog w) A (.call (.ref C) ⟨rest, kw⟩) R ⟨h, g, d, t, os⟩ := by
  have look := tc_lookup
  have bind := tc_bind (.ref C)
  have ty : (⟨h, g, d, t, os⟩ : Shared).TypeIs (.ref C) "type" := ⟨_, hC, rfl⟩
  refine codeAny_of_tree ?_
  show wpAny _ _ (callAny (.ref C) _) _ _ _
  repeat (any_goals (first | assumption | with_reducible refine wpAny_loadPart_at hC ?_ | wp_step))
  refine ⟨rfl, ?_⟩
  refine codeAny_call_builtin_at (Code.quiet_builtin _ (by decide +kernel)) entry_typeCall ?_
  have check : ∀ {Q' : Unit → Shared → Prop} {E' : Value → Shared → Prop}, Q' () ⟨h, g, d, t, os⟩ → wpAny (model prog w) A.in1 (checkBuiltinCall "type.__call__" ⟨.ref C :: rest, kw⟩) Q' E' ⟨h, g, d, t, os⟩ := fun hq => by
    have sub3 := tc_sub
    rcases one with rfl | ⟨k, v, rfl⟩
    all_goals
      simp only [checkBuiltinCall, tc_kind, tc_split]
      repeat (any_goals (first
        | assumption
        | with_reducible refine wpAny_loadPart_at hC ?_
        | with_reducible refine wpAny_onRaise ?_
        | with_reducible refine wpAny_map ?_
        | wp_step))
  refine check ?_
  refine type_callK F has noA noN hC one hi hb few ?_
  refine codeAny_mono hq fun r s' z => ?_
  rcases r with e | (v | _ | _ | _) <;> exact z
end
end EX

set_option Elab.async false
set_option linter.all false
set_option maxRecDepth 100000
set_option maxHeartbeats 4000000
namespace EX
open PySem PySem.Spec PyProof.Rows L2 GG
/-- an exception as it stands: its class, its fields -/
def IsExc (H : Hp) (a C : Addr) (fs : List (Str × V)) : Prop := (fs = [] ∧ H a = some (exo a C none)) ∨ ∃ dx, H a = some (exo a C (some dx)) ∧ H dx = some (exd dx fs)
structure ExIs (K : PySem.W.Frag) (C : Addr) : Prop where
  cl : (PySem.W.clsIn K C).isSome = true
  ga : PySem.W.findIn K (.ref C) "__getattribute__" = some (some (.builtin "BaseException.__getattribute__"))
  gg : PySem.W.findIn K (.ref C) "__getattr__" = some none
  ex : PySem.W.subIn K (.ref C) (.type "BaseException") = some true
  hd : PySem.W.hasDictIn K C = true
  kl : PySem.W.findIn K (.ref C) "__class__" = some (some (.builtin "object.__class__"))
  gt : PySem.W.specialIn K (.builtin "object.__class__") "__get__" = some (some (.builtin "getset_descriptor.__get__"))
  tk : PySem.W.takesIn K (.builtin "object.__class__") = some true
  ob : PySem.W.mroIn K C (.type "object") = some true
section
variable {X : Cx} {pins : List (Addr × Obj)} {σ : L2.St} {H : Hp} {s : Shared} {a C : Addr} {fs : List (Str × V)}
theorem IsExc.inst (x : IsExc H a C fs) (I : Inv X pins σ H s) : ∃ ox od, PySem.W.InstAt s.heap a ox C od := by
  rcases x with ⟨_, ea⟩ | ⟨dx, ea, ed⟩
  · obtain ⟨t1, ho⟩ := exo_at I.hok ea
    exact ⟨_, none, ho, rfl, rfl, trivial⟩
  · obtain ⟨t1, ho⟩ := exo_at I.hok ea
    obtain ⟨mA, hns, _⟩ := exd_at I.hok ed
    obtain ⟨od, hd, _⟩ := lookIn_ns hns
    exact ⟨_, some od, ho, rfl, rfl, hd⟩
/-- isinstance(e, D), D a class of the program or a built-in one -/
def rIsE (K : PySem.W.Frag) : List V → Hp → VK → Prop := fun vs H Q => ∃ (a C : Addr) (fs : List (Str × V)) (c : V) (cv : Value) (b : Bool), vs = [.ref a, c] ∧ (∀ u, RelV c u → u = cv) ∧ IsExc H a C fs ∧ ExIs K C ∧ PySem.W.kitOne K (.ref C) cv = some b ∧ Q (.bl b) H
theorem call_isE : CallR X (.builtin "isinstance") (rIsE X.K) := by
  intro pins s σ H vs us Q I r h
  obtain ⟨a, C, fs, c, cv, b, rfl, only, hx, T, e, q⟩ := h
  obtain ⟨ox, od, J⟩ := hx.inst I
  cases r with
  | cons ra rr =>
    cases rr with
    | cons rc rr =>
      cases rr
      cases ra
      rw [only _ rc]
      refine PySem.W.kia_one (PySem.W.kitx_exc (ox := ox) (od := od) T.cl T.ga T.gg T.ex T.kl T.gt T.tk T.ob) I.kIn J e (fun z => nomatch z) fun tk => ?_
      exact ⟨.bl b, H, I.kept (t' := tk) fun _ _ z => z, rfl, q⟩
/-- e.f -/
def tExf (K : PySem.W.Frag) (f : Str) (te : TE) : TE := fun σ H Q => te σ H fun x H1 => ∃ (a C : Addr) (fs : List (Str × V)) (v : V), x = .ref a ∧ IsExc H1 a C fs ∧ ExIs K C ∧ PySem.W.findIn K (.ref C) f = some none ∧ fs.lookup f = some v ∧ Q v H1
theorem pe_exf {e : Expr} {te : TE} {pos : Pos} {f : Str} (he : PE X e te) (base : attributeBase e f X.env (eval e X.env) = eval e X.env := by rfl) : PE X (.Attribute e f pos) (tExf X.K f te) := by
  constructor
  intro pins s σ H Q I h
  refine attr_of base (thn (he.run pins s σ H _ I h) fun u s1 got => ?_)
  obtain ⟨x, H1, I1, rx, a, C, fs, v, ex, hx, T, no, lv, q⟩ := got
  subst ex
  obtain rfl : u = Value.ref a := rx
  rcases hx with ⟨rfl, _⟩ | ⟨dx, ea, ed⟩
  · cases lv
  · obtain ⟨t1, ho⟩ := exo_at I1.hok ea
    obtain ⟨mA, hns, rel⟩ := exd_at I1.hok ed
    obtain ⟨od, hd, hl⟩ := lookIn_ns hns
    obtain ⟨u, hu, ru⟩ := RelO.some_of (v := v) (o := mA f) (by rw [← lv]; exact rel f)
    have J : PySem.W.InstAt s1.heap a _ C (some od) := ⟨ho, rfl, rfl, hd⟩
    refine HandSPX.exc_get I1.kIn J T.ga T.gg T.ex (PySem.W.findObj_own T.hd no rfl (by rw [hl, hu])) (handed_of ru) ?_
    exact ⟨v, H1, I1.tok _, ru, q⟩
end
/-- how an exception is made by a call, with at most one keyword -/
def MakesK (P : Program) (w : World) (K : PySem.W.Frag) (C fI : Addr) : Prop := ∀ (A : Around) (R : Result → Shared → Prop) (h0 : Heap) (g : Array GenState) (d : Drawn) (t : Nat) (os : OsState) (rest : List Value) (kw : List (Str × Value)), K.In h0 → rest.length ≤ sizeLine → (kw = [] ∨ ∃ k v, kw = [(k, v)]) →
  codeAny (model P w) (A.under (.builtin "type.__call__" ⟨.ref C :: rest, kw⟩)) (.call (.ref fI) ⟨.ref (h0.objs.size + 1) :: rest, kw⟩) (PySem.W.InitBack (h0.objs.size + 1) R) ⟨(h0.push (PySem.W.kdv_tup rest)).push (PySem.HandSPX.excO C h0.objs.size), g, d, t, os⟩ →
  codeAny (model P w) A (.call (.ref C) ⟨rest, kw⟩) R ⟨h0, g, d, t, os⟩
theorem makesK_of {P : Program} {w : World} {K : PySem.W.Frag} {C fI : Addr} {B newId initId : String} {bB tail : List Value} (F : ExcBaseFacts B newId initId bB) (T : ExC K C tail newId) (has : tail.contains (.type B) = true) (noA : tail.contains (.type "AttributeError") = false)
    (noN : tail.contains (.type "NameError") = false) (iC : PySem.W.findIn K (.ref C) "__init__" = some (some (.ref fI))) (tI : PySem.W.typeIn K (.ref fI) = some (.type "function")) : MakesK P w K C fI := by
  intro A R h0 g d t os rest kw inK few one run
  obtain ⟨nm, q, N, bs, sn, sub, ab, col, dd, k0, k1, k2, k3, k5, at_⟩ := T.cls
  exact callK F has noA noN (inK _ _ at_) one (PySem.W.looks_findIn inK iC) (fun self => PySem.W.bind_fn inK self tI) few run
theorem MakesK.plain {P : Program} {w : World} {K : PySem.W.Frag} {C fI : Addr} (M : MakesK P w K C fI) : Makes P w K C fI := fun A R h0 g d t os rest inK few run => M A R h0 g d t os rest [] inK few (.inl rfl) run
/-- C(k = e) as a value -/
def tMadeK (C : Addr) (sp : Sp) (tk : TA) : TE := fun σ H Q => tk σ H fun zs H1 => zs.length = 1 ∧ ∀ a, H1 a = none → sp (.ref a :: zs) (upd H1 a (exo a C none)) (fun v H2 => v = .non ∧ Q (.ref a) H2) (fun _ _ _ => False)
section
variable {X : Cx} {CX : CXT} {x kn : Str} {C fI : Addr} {k : Nat} {fd : FuncData} {ps : List Str} {sp : Sp} {p pos kp : Pos} {e : Expr} {tk : TA}
theorem pe_madeK (M : MakesK X.prog X.w X.K C fI) (kC : PySem.W.keepIn X.K (.ref C) = true) (F1 : FnOk X.prog X.w X.K X.mg X.base CX k fI fd ps sp) (hr : Room (k + 1) X.A)
    (hb : KBn X.K fd ps 1 [kn] (fun us ws => us ++ ws) (fun vs zs => vs ++ zs)) (hx : Passes CX X (fun _ _ _ => False)) (hg : Gl X x) (hm : X.mg x = some (.ref C)) (ha : PK X [⟨some kn, e, kp⟩] tk)
    (hdb : (x == ("__debug__" : Str)) = false := by decide) (names : (backToKw pos (keywordEach [⟨some kn, e, kp⟩] X.env)).filterMap (·.1) = [kn] := by rfl) (all : (backToKw pos (keywordEach [⟨some kn, e, kp⟩] X.env)).all (·.1.isSome) = true := by rfl)
    (plain : ((backTo pos (starEach [] X.env)).any (·.1) || (backToKw pos (keywordEach [⟨some kn, e, kp⟩] X.env)).any (·.1.isNone)) = false := by rfl) :
    PE X (.Call (.Name x p) [] [⟨some kn, e, kp⟩] pos) (tMadeK C sp tk) := by
  constructor
  intro pins s σ H Q I h
  refine wpAny_Call_Name_kw (ld_glob I hg hm ?_ hdb)
  apply PySem.W.callWith_KW0 I.ok.mod.kin kC all _ plain
  refine thn (ha.run pos pins s σ H _ I h) fun ws s1 got => ?_
  obtain ⟨zs, H1, I1, rz, lz, q1⟩ := got
  refine ⟨I1.kIn, ?_⟩
  rw [names]
  show wpAny _ _ (call (.ref C) [] ([kn].zip ws)) _ _ _
  have lw : ws.length = 1 := by rw [← rz.length]; exact lz
  obtain ⟨h0, g, dr, t0, os⟩ := s1
  have le : h0.objs.size ≤ h0.objs.size + 1 := Nat.le_succ _
  have hn : H1 (h0.objs.size + 1) = none := I1.hok.fresh le
  have hq := q1 (h0.objs.size + 1) hn
  have keep : ∀ b o, h0.get? b = some o → ((h0.push (PySem.W.kdv_tup [])).push (PySem.HandSPX.excO C h0.objs.size)).get? b = some o := fun b o e => Heap.get?_push_of_some _ (Heap.get?_push_of_some _ e)
  have laid : ((h0.push (PySem.W.kdv_tup [])).push (PySem.HandSPX.excO C h0.objs.size)).get? (h0.objs.size + 1) = some (PySem.HandSPX.excO C h0.objs.size) := by heap_get
  have I2 : Inv X pins σ (upd H1 (h0.objs.size + 1) (exo (h0.objs.size + 1) C none)) ⟨(h0.push (PySem.W.kdv_tup [])).push (PySem.HandSPX.excO C h0.objs.size), g, dr, t0, os⟩ := I1.laid (t' := t0) keep le (exo_ok laid)
  have r1 : Vals [V.ref (h0.objs.size + 1)] [Value.ref (h0.objs.size + 1)] := .cons rfl .nil
  have r2 := hb.rel r1 rz
  have one : [kn].zip ws = [] ∨ ∃ k v, [kn].zip ws = [(k, v)] := by
    match ws, lw with
    | [v], _ => exact .inr ⟨kn, v, rfl⟩
  refine wpAny_call (M _ _ h0 g dr t0 os [] ([kn].zip ws) I1.kIn (Nat.zero_le _) one ?_)
  have run := F1.run _ X.stack _ _ ⟨[Value.ref (h0.objs.size + 1)], [kn].zip ws⟩ ([Value.ref (h0.objs.size + 1)] ++ ws) _ _ (fun _ _ _ => False) (hr.make C [] ([kn].zip ws)) (I2.env0.make C [] ([kn].zip ws)) (hb.to _ [Value.ref (h0.objs.size + 1)] ws I2.kIn rfl lw) r2 hq
  refine codeAny_mono run fun r s' got => ?_
  cases r with
  | error er => exact hx pins σ _ _ er s' I2 got
  | ok fl =>
    cases fl with
    | ret u =>
      obtain ⟨v, H', I3, rv, ev, q3⟩ := I2.after got
      subst ev
      exact ⟨rv, ⟨V.ref (h0.objs.size + 1), H', I3, rfl, q3⟩⟩
    | next => exact False.elim got
    | brk => exact False.elim got
    | cont => exact False.elim got
end
end EX

set_option Elab.async false
set_option linter.all false
set_option maxRecDepth 100000
set_option maxHeartbeats 4000000
namespace EX
open PySem PySem.Spec PyProof.Rows L2 GG
/-- C() as a value -/
def tMade0 (C : Addr) (sp : Sp) : TE := fun σ H Q => ∀ a, H a = none → sp [.ref a] (upd H a (exo a C none)) (fun v H2 => v = .non ∧ Q (.ref a) H2) (fun _ _ _ => False)
section
variable {X : Cx} {CX : CXT} {x : Str} {C fI : Addr} {k : Nat} {fd : FuncData} {ps : List Str} {sp : Sp} {p pos : Pos}
theorem pe_made0 (M : Makes X.prog X.w X.K C fI) (kC : PySem.W.keepIn X.K (.ref C) = true) (F1 : FnOk X.prog X.w X.K X.mg X.base CX k fI fd ps sp) (hr : Room (k + 1) X.A) (hb : Binds X.K fd ps []) (hx : Passes CX X (fun _ _ _ => False)) (hg : Gl X x) (hm : X.mg x = some (.ref C))
    (hdb : (x == ("__debug__" : Str)) = false := by decide) : PE X (.Call (.Name x p) [] [] pos) (tMade0 C sp) := by
  constructor
  intro pins s σ H Q I h
  refine wpAny_Call_Name_kw (ld_glob I hg hm ?_ hdb)
  refine PySem.W.callWith_K0 I.kIn kC ?_
  show wpAny _ _ (call (.ref C) []) _ _ _
  obtain ⟨h0, g, dr, t0, os⟩ := s
  have le : h0.objs.size ≤ h0.objs.size + 1 := Nat.le_succ _
  have hq := h (h0.objs.size + 1) (I.hok.fresh le)
  have keep : ∀ b o, h0.get? b = some o → ((h0.push (PySem.W.kdv_tup [])).push (PySem.HandSPX.excO C h0.objs.size)).get? b = some o := fun b o e => Heap.get?_push_of_some _ (Heap.get?_push_of_some _ e)
  have laid : ((h0.push (PySem.W.kdv_tup [])).push (PySem.HandSPX.excO C h0.objs.size)).get? (h0.objs.size + 1) = some (PySem.HandSPX.excO C h0.objs.size) := by heap_get
  have I2 : Inv X pins σ (upd H (h0.objs.size + 1) (exo (h0.objs.size + 1) C none)) ⟨(h0.push (PySem.W.kdv_tup [])).push (PySem.HandSPX.excO C h0.objs.size), g, dr, t0, os⟩ := I.laid (t' := t0) keep le (exo_ok laid)
  have r2 : Vals [V.ref (h0.objs.size + 1)] [Value.ref (h0.objs.size + 1)] := .cons rfl .nil
  have few : [Value.ref (h0.objs.size + 1)].length = ps.length := by
    have e := r2.length
    rw [F1.len _ _ _ _ hq] at e
    exact e.symm
  have bound := hb _ [Value.ref (h0.objs.size + 1)] I2.kIn (by simpa using few)
  refine wpAny_call (M _ _ h0 g dr t0 os [] I.kIn (Nat.zero_le _) ?_)
  have run := F1.run _ X.stack _ _ ⟨[Value.ref (h0.objs.size + 1)], []⟩ [Value.ref (h0.objs.size + 1)] _ _ (fun _ _ _ => False) (hr.make C [] []) (I2.env0.make C [] []) (by simpa using bound) r2 hq
  refine codeAny_mono run fun r s' got => ?_
  cases r with
  | error er => exact hx pins σ _ _ er s' I2 got
  | ok fl =>
    cases fl with
    | ret u =>
      obtain ⟨v, H', I3, rv, ev, q3⟩ := I2.after got
      subst ev
      exact ⟨rv, ⟨V.ref (h0.objs.size + 1), H', I3, rfl, q3⟩⟩
    | next => exact False.elim got
    | brk => exact False.elim got
    | cont => exact False.elim got
end
/-- what __init__(self, x): self.x = x leaves -/
def spInit (K : PySem.W.Frag) (C : Addr) (f : Str) : Sp := fun vs H Q _ => ∃ (a : Addr) (y : V), vs = [.ref a, y] ∧ H a = some (exo a C none) ∧ ∀ dx, H dx = none → dx ≠ a → Q .non (upd (upd H dx (exd dx [(f, y)])) a (exo a C (some dx)))
end EX

set_option Elab.async false
set_option maxRecDepth 100000
set_option maxHeartbeats 4000000
/-! a text times a number; the texts of data with words -/
namespace STR
open PySem PySem.Spec PyProof.Rows L2
theorem cps_foldl (x : Array Nat) : ∀ (n : Nat) (acc : Array Nat), ((List.replicate n x).foldl (· ++ ·) acc).toList = acc.toList ++ (List.replicate n x.toList).flatten
  | 0, acc => by simp
  | n + 1, acc => by
    rw [List.replicate_succ, List.foldl_cons, cps_foldl x n, List.replicate_succ, List.flatten_cons, Array.toList_append, List.append_assoc]
def rRepS : R2 := fun x y H Q => ∃ (z : Str) (k : Nat), x = .str z ∧ y = .int (k : Int) ∧ k < 2 ^ 40 ∧ z.length * k ≤ sizeLine ∧ ∀ r : Str, r.cps.toList = (List.replicate k z.cps.toList).flatten → Q (.str r) H
section
variable {X : Cx}
theorem op_repS : OpR X (binaryOp .Mult) rRepS := by
  intro pins s σ H x y v u Q I rx ry h
  obtain ⟨z, k, rfl, rfl, hk, hz, q⟩ := h
  obtain ⟨t, rfl⟩ := rx
  obtain ⟨t', rfl⟩ := ry
  refine PySem.P.mul_str ?_ (fun h1 h2 => ?_) (fun _ _ => ?_) ?_
  · have h1 : ¬ ((k : Nat) : Int) < -(2 ^ 63 : Int) := by omega
    have h2 : ¬ ((k : Nat) : Int) ≥ 2 ^ 63 := by omega
    rw [decide_eq_false h1, decide_eq_false h2]
    rfl
  · have hn : ¬ ((k : Nat) : Int) < 1 := h1
    have zl : z.length ≤ sizeLine := by
      have : z.length * 1 ≤ z.length * k := Nat.mul_le_mul_left _ (by omega)
      omega
    have hs : sizeLine = 16777216 := by decide
    have : (2 ^ 40 : Int) ≤ (2 ^ 63 - 1) / ((k : Nat) : Int) ∨ ((k : Nat) : Int) > 2 ^ 22 := by
      by_cases e : ((k : Nat) : Int) ≤ 2 ^ 22
      · left
        refine (Int.le_ediv_iff_mul_le (by omega)).mpr ?_
        omega
      · right; omega
    rcases this with h | h
    · omega
    · have e2 : (2 ^ 23 : Int) ≤ (2 ^ 63 - 1) / ((k : Nat) : Int) := by
        refine (Int.le_ediv_iff_mul_le (by omega)).mpr ?_
        omega
      have : z.length * 4194304 ≤ z.length * k := Nat.mul_le_mul_left _ (by omega)
      omega
  · show Builtin.Str.tooLong (z.length * ((k : Nat) : Int).toNat) = false
    rw [Int.toNat_natCast]
    unfold Builtin.Str.tooLong
    exact decide_eq_false (by omega)
  · split
    · have e0 : k = 0 := by omega
      subst e0
      exact ⟨by decide, .str _, H, I.tok _, ⟨_, rfl⟩, q _ rfl⟩
    · split
      · rename_i h2 h3
        refine ⟨.str z, H, I, ⟨_, rfl⟩, q _ ?_⟩
        rcases Bool.or_eq_true _ _ ▸ h3 with h4 | h4
        · have e1 : k = 1 := by
            have : ((k : Nat) : Int) = 1 := by simpa using h4
            omega
          subst e1
          simp
        · have e1 : z.cps = #[] := by
            have : z.cps.size = 0 := by simpa [Str.length] using h4
            exact Array.size_eq_zero_iff.mp this
          rw [e1]
          simp
      · have e : (⟨(List.replicate ((k : Nat) : Int).toNat z.cps).foldl (· ++ ·) #[]⟩ : Str).cps.toList = (List.replicate k z.cps.toList).flatten := by
          rw [Int.toNat_natCast]
          have := cps_foldl z.cps k #[]
          simpa using this
        refine ⟨?_, .str _, H, I.tok _, ⟨_, rfl⟩, q _ e⟩
        have e3 : ((⟨(List.replicate ((k : Nat) : Int).toNat z.cps).foldl (· ++ ·) #[]⟩ : Str).length) = z.length * k := by
          show Array.size _ = _
          rw [← Array.length_toList, e, List.length_flatten, List.map_replicate, List.sum_replicate_nat, Nat.mul_comm]
          rfl
        rw [e3]
        exact hz
end
end STR

set_option Elab.async false
set_option linter.all false
set_option maxRecDepth 100000
set_option maxHeartbeats 4000000
namespace Z
open PySem PySem.Spec PyProof.Rows L2 GG
def top (i : Nat) : Stmt := PySem.Challenge.pw_bentcoin_k06_what_is_refused.main.body.getD i (.Pass ⟨0, 0, 0, 0⟩)
abbrev sPen : Stmt := top 16
abbrev sFresh : Stmt := top 17
abbrev sDraw : Stmt := top 18
/-- what follows an if, once for all ways to it -/
theorem if_tail {c : TT} {a b : TS} {D : Ends} {σ : L2.St} {H : Hp} (W : L2.St → Hp → Prop) (tail : ∀ σ H, W σ H → D.nx σ H) (go : (∀ σ H, W σ H → D.nx σ H) → tIfS c a b D σ H) : tIfS c a b D σ H := go tail
theorem on {t u : TS} {D : Ends} {σ : L2.St} {H : Hp} (h : t { D with nx := u D } σ H) : tSeq t u D σ H := h
theorem put_c {v : V} {i : Nat} {D : Ends} {σ : L2.St} {H : Hp} (h : D.nx (σ.set i (some v)) H) : tAsg (tC v) (gName i) D σ H := h
/-! heaps -/
theorem Same.upd {H : Hp} {p : Addr} {o : HO} (h : H p = none) : Same H (L2.upd H p o) := fun b x e => by
  rw [upd_ne (ne_of_none e h)]
  exact e
/-- all that was told of stands, but what is at a -/
def But (a : Addr) (H H' : Hp) : Prop := ∀ b o, H b = some o → b ≠ a → H' b = some o
theorem But.refl (a : Addr) (H : Hp) : But a H H := fun _ _ e _ => e
theorem But.trans {a : Addr} {H H1 H2 : Hp} (x : But a H H1) (y : But a H1 H2) : But a H H2 := fun b o e n => y b o (x b o e n) n
theorem But.of {a : Addr} {H H1 : Hp} (x : Same H H1) : But a H H1 := fun b o e _ => x b o e
theorem But.put {a : Addr} {H : Hp} {o : HO} : But a H (L2.upd H a o) := fun b u e n => by
  rw [upd_ne n]
  exact e
theorem But.free {a : Addr} {H H' : Hp} {l : Addr} (e : But a H H') (n : l ≠ a) (h : H' l = none) : H l = none := by
  cases q : H l with
  | none => rfl
  | some o =>
    rw [e l o q n] at h
    cases h
theorem But.same {a : Addr} {H H0 H' : Hp} (s : Same H0 H) (n : H0 a = none) (b : But a H H') : Same H0 H' := fun c o e => b c o (s c o e) (ne_of_none e n)
theorem But.seq {a c : Addr} {K : PySem.W.Frag} {H H' : Hp} {xs : List V} (e : But a H H') (n : c ≠ a) (h : SqL K H c xs) : SqL K H' c xs := by
  rcases h with (h | ⟨o, h⟩) | h
  · exact .inl (.inl (e _ _ h n))
  · exact .inl (.inr ⟨o, e _ _ h n⟩)
  · exact .inr h
/-- a pen stands at a -/
def Pen (H : Hp) (a l : Addr) : Prop := ∃ (cs : List Int) (pos val : Int), H a = some (.lst [.ref l, .int pos, .int val]) ∧ H l = some (.lst (cs.map V.int)) ∧ 0 ≤ pos
theorem Pen.ne {H : Hp} {a l : Addr} {cs : List Int} {p v : Int} (h : H a = some (.lst [.ref l, .int p, .int v])) (e : H l = some (.lst (cs.map V.int))) : l ≠ a := by
  intro z
  subst z
  rw [h] at e
  cases cs with
  | nil => cases e
  | cons x r => cases e
theorem Pen.put {H : Hp} {a l : Addr} {cs : List Int} {p v q u : Int} (h : H a = some (.lst [.ref l, .int p, .int v])) (e : H l = some (.lst (cs.map V.int))) (hq : 0 ≤ q) : Pen (upd H a (.lst [.ref l, .int q, .int u])) a l :=
  ⟨cs, q, u, upd_same, by rw [upd_ne (Pen.ne h e)]; exact e, hq⟩
theorem Pen.same {H H' : Hp} {a l : Addr} (p : Pen H a l) (s : Same H H') : Pen H' a l := by
  obtain ⟨cs, q, v, h1, h2, h3⟩ := p
  exact ⟨cs, q, v, s _ _ h1, s _ _ h2, h3⟩
theorem dpInts {K : PySem.W.Frag} {H : Hp} : ∀ ns : List Int, DpAll K H (ns.map V.int) (ns.map PyData.int)
  | [] => .nil
  | n :: r => .cons (.int n) (dpInts r)
theorem cut_to {α : Type} (xs : List V) (n : Nat) : ∃ m, cutV xs none (some (n : Int)) = xs.take m := ⟨_, by unfold cutV; rw [HT.sIx_none]; rfl⟩
/-- a row without the zeros at its end -/
def strip (l : List Int) : List Int := (l.reverse.dropWhile (· == 0)).reverse
theorem strip_nil : strip [] = [] := rfl
theorem strip_zero (l : List Int) : strip (l ++ [0]) = strip l := by
  unfold strip
  rw [List.reverse_append]
  rfl
theorem strip_last {l : List Int} {z : Int} (h : z ≠ 0) : strip (l ++ [z]) = l ++ [z] := by
  unfold strip
  rw [List.reverse_append]
  show (List.dropWhile (· == 0) (z :: l.reverse)).reverse = _
  rw [List.dropWhile_cons_of_neg (by simpa using h), List.reverse_cons, List.reverse_reverse]
theorem strip_mem {l : List Int} {c : Int} (h : c ∈ strip l) : c ∈ l := by
  unfold strip at h
  rw [List.mem_reverse] at h
  exact List.mem_reverse.mp ((List.dropWhile_sublist _).subset h)
theorem strip_len (l : List Int) : (strip l).length ≤ l.length := by
  unfold strip
  rw [List.length_reverse]
  have := (List.dropWhile_sublist (· == 0) (l := l.reverse)).length_le
  rwa [List.length_reverse] at this
theorem strip_strip (l : List Int) : strip (strip l) = strip l := by
  rcases List.eq_nil_or_concat (strip l) with e | ⟨r, z, e⟩
  · rw [e]; rfl
  · rw [List.concat_eq_append] at e
    by_cases h : z = 0
    · exfalso
      have e2 : l.reverse.dropWhile (· == 0) = z :: r.reverse := by
        have := congrArg List.reverse e
        unfold strip at this
        rw [List.reverse_reverse, List.reverse_append] at this
        exact this
      have := List.head?_dropWhile_not (p := fun x : Int => x == 0) (l := l.reverse)
      rw [e2] at this
      simp [h] at this
    · rw [e, strip_last h]
theorem eqv_nil : ∀ {xs : List Int}, xs ≠ [] → (!PyData.eqv (.list (xs.map PyData.int)) (.list [])) = true
  | [], h => absurd rfl h
  | _ :: _, _ => rfl
structure Names (mg : Str → Option Value) : Prop where
  list : mg "list" = none
  tuple : mg "tuple" = none
  len : mg "len" = none
  range : mg "range" = none
structure Def (K : PySem.W.Frag) (mg : Str → Option Value) (x : Str) (f : Addr) (fd : FuncData) (ps : List Str) : Prop where
  is : mg x = some (.ref f)
  kp : PySem.W.keepIn K (.ref f) = true
  bi : Binds K fd ps []
theorem Pen.apart {H : Hp} {a l e : Addr} (p : Pen H a l) (h : H e = none) : e ≠ a ∧ e ≠ l := by
  obtain ⟨cs, pos, val, ha, hl, _⟩ := p
  exact ⟨(ne_of_none ha h).symm, (ne_of_none hl h).symm⟩
theorem Pen.notTup {H : Hp} {a l e : Addr} {xs : List V} (p : Pen H a l) (h : H e = some (.tup xs)) : e ≠ a := by
  obtain ⟨cs, pos, val, ha, hl, _⟩ := p
  rintro rfl
  rw [ha] at h
  cases h
theorem But.mem {a p : Addr} {H H' : Hp} {o : HO} (b : But a H H') (n : p ≠ a) (e : H p = some o) : H' p = some o := b p o e n
/-- what follows a value, once for all ways to it -/
theorem asg_tail {te : TE} {g : TG} {D : Ends} {σ : L2.St} {H : Hp} (W : V → Hp → Prop) (tail : ∀ v H', W v H' → g v σ H' D.nx) (go : (∀ v H', W v H' → g v σ H' D.nx) → te σ H fun x H1 => g x σ H1 D.nx) : tAsg te g D σ H := go tail
theorem log_le {b : Int} (h : b.natAbs < 2 ^ 100) : b.natAbs.log2 < 9000 := Nat.lt_of_lt_of_le (PySem.Flt.log2_lt_of (k := 100) (by decide) h) (by decide)
section
variable {P : Program} {w : World} {K : PySem.W.Frag} {mg : Str → Option Value} {base : Heap}
/-! ### the pen -/
def spPen (K : PySem.W.Frag) : Sp := fun vs H Q _ => ∃ (s : Addr) (ns : List Int), vs = [.ref s] ∧ SqL K H s (ns.map V.int) ∧ ns.length ≤ 63 ∧ ∀ p l H', Same H H' → H p = none → H l = none → Pen H' p l → Q (.ref p) H'
theorem scPen : FnScope ["script"] ["script"] (defScope sPen) := ⟨rfl, rfl, rfl, by decide +kernel, rfl, by decide +kernel, by decide +kernel⟩
theorem ok_pen {f : Addr} {fd : FuncData} (F : Fun K "_law_pen" "_law_pen" sPen f fd) (T : Names mg) : FnOk P w K mg base CX0 1 f fd ["script"] (spPen K) := by
  refine F.ok scPen (fun vs H Q E h => ?_) (fun cdv A outer s H vs Q E hr h => ?_)
  · obtain ⟨a, ns, rfl, _⟩ := h
    rfl
  · obtain ⟨a, ns, rfl, hS, hlen, q⟩ := h
    refine ⟨_, pss_one (ps_ret (pe_lst (pa_cons (pe_callTy call_list_of (by rfl) T.list (by decide +kernel) (pa_cons (pe_slice sl_list (pv 0) po_none (po_some pe_int)) pa_nil)) (pa_cons pe_int (pa_cons pe_int pa_nil))))), ?_⟩
    refine ⟨.ref a, rfl, 63, rfl, a, _, rfl, hS, fun c nc => ?_⟩
    refine ⟨c, _, rfl, .inl (.inl (.inl upd_same)), fun l nl => ?_⟩
    refine ⟨by show 3 ≤ sizeLine; decide, fun p np => ?_⟩
    obtain ⟨m, em⟩ := cut_to (α := Int) (ns.map V.int) 63
    have em : cutV (ns.map V.int) none (some 63) = (ns.map V.int).take m := em
    have lp : l ≠ p := ne_of_none upd_same np
    have h1 := (Same.trans (Same.upd (o := .lst (cutV (ns.map V.int) none (some 63))) nc) (Same.trans (Same.upd (o := .lst (cutV (ns.map V.int) none (some 63))) nl) (Same.upd (o := .lst [.ref l, .int 0, .int 0]) np)))
    refine q p l _ h1 (Same.free (Same.trans (Same.upd nc) (Same.upd nl)) np) (Same.free (Same.upd nc) nl) ⟨ns.take m, 0, 0, upd_same, ?_, by decide⟩
    rw [upd_ne lp, upd_same, em, List.map_take]
/-! ### a fresh number -/
def spFresh : Sp := fun vs H Q _ => ∃ (a l : Addr), vs = [.ref a] ∧ Pen H a l ∧ ∀ (v : Int) H', But a H H' → Pen H' a l → Q (.int v) H'
theorem scFresh : FnScope ["pen", "position", "cell", "modulus", "state", "mixed", "step"] ["pen"] (defScope sFresh) := ⟨rfl, rfl, rfl, by decide +kernel, rfl, by decide +kernel, by decide +kernel⟩
theorem ok_fresh {f : Addr} {fd : FuncData} (F : Fun K "_law_fresh" "_law_fresh" sFresh f fd) (T : Names mg) : FnOk P w K mg base CX0 1 f fd ["pen"] spFresh := by
  refine F.ok scFresh (fun vs H Q E h => ?_) (fun cdv A outer s H vs Q E hr h => ?_)
  · obtain ⟨a, l, rfl, _⟩ := h
    rfl
  · obtain ⟨a, l, rfl, ⟨cs, pos, val, ha, hl, hp⟩, q⟩ := h
    have hu : A.units + 3 + 64 < cLine := hr.units
    refine ⟨_, pss_cons (ps_set (i := 1) scFresh.nd rfl (.inl rfl) (pe_ix ix_list (pv 0) pe_int (fun _ _ => rfl)))
      (pss_cons (ps_asg (pe_op op_add (pv 1) pe_int) (pg_sub (pv 0) pe_int set_list))
      (pss_cons (ps_set (i := 2) scFresh.nd rfl (.inl rfl) pe_int)
      (pss_cons (ps_if (pt_cmpR (op_neD hu) (pe_ix ix_list (pv 0) pe_int (fun _ _ => rfl)) (pe_lst pa_nil) (nomark _))
        (pss_one (ps_set (i := 2) scFresh.nd rfl (.inl rfl) (pe_ix ix_list (pe_ix ix_list (pv 0) pe_int (fun _ _ => rfl)) (pe_op op_mod (pv 1) (pe_callB call_len_seq (by rfl) T.len PySem.boot_len (pa_cons (pe_ix ix_list (pv 0) pe_int (fun _ _ => rfl)) pa_nil))) (fun _ _ => rfl)))) pss_nil)
      (pss_cons (ps_if (PW.pt (pw_and (pt_cmpR op_lt (pv 1) (pe_callB call_len_seq (by rfl) T.len PySem.boot_len (pa_cons (pe_ix ix_list (pv 0) pe_int (fun _ _ => rfl)) pa_nil)) (nomark _)) (pw_and1 (pt_cmpR op_ge (pv 2) (pe_op op_pow pe_int pe_int) (nomark _)))))
        (pss_one (ps_ret (pe_op op_sub (pv 2) (pe_op op_pow pe_int pe_int)))) pss_nil)
      (pss_cons (ps_set (i := 3) scFresh.nd rfl (.inl rfl) pe_int)
      (pss_cons (ps_set (i := 4) scFresh.nd rfl (.inl rfl) (pe_op op_mod (pe_op op_add (pe_op op_add (pe_op op_mul (pv 2) pe_int) (pe_op op_mul pe_int (pv 1))) pe_int) (pv 3)))
      (pss_cons (ps_set (i := 5) scFresh.nd rfl (.inl rfl) (pv 4))
      (pss_cons (ps_for PassesOwn.never rfl (pi_range1 rfl T.range (pa_cons pe_int pa_nil)) (pg_name (i := 6) scFresh.nd rfl (.inl rfl))
        (pss_cons (ps_set (i := 4) scFresh.nd rfl (.inl rfl) (pe_op op_add (pe_op op_mul (pv 4) (pv 4)) (pe_op op_mul (pe_op op_mul pe_int (pe_op op_add (pv 6) pe_int)) (pe_op op_add (pv 1) pe_int))))
        (pss_cons (ps_set (i := 4) scFresh.nd rfl (.inl rfl) (pe_op op_mod (pe_op op_add (pv 4) (pv 2)) (pv 3)))
        (pss_one (ps_set (i := 5) scFresh.nd rfl (.inl rfl) (pe_op op_add (pe_op op_mul (pv 5) (pv 3)) (pv 4)))))))
      (pss_one (ps_ret (pv 5))))))))))), ?_⟩
    -- position = pen[1]; pen[1] = position + 1; cell = 0
    refine ⟨.ref a, rfl, a, _, 1, .int pos, rfl, rfl, SqL.of ha, atI_nat (j := 1) rfl, ?_⟩
    refine ⟨_, rfl, _, _, rfl, rfl, .ref a, rfl, a, _, 1, 1, rfl, rfl, ha, rfl, ?_⟩
    have ha1 : upd H a (.lst [.ref l, .int (pos + 1), .int val]) a = some (.lst [.ref l, .int (pos + 1), .int val]) := upd_same
    have hl1 : upd H a (.lst [.ref l, .int (pos + 1), .int val]) l = some (.lst (cs.map V.int)) := by
      rw [upd_ne (Pen.ne ha hl)]
      exact hl
    have b1 : But a H (upd H a (.lst [.ref l, .int (pos + 1), .int val])) := But.put
    change (_ : Hp → Prop) (upd H a (.lst [.ref l, .int (pos + 1), .int val]))
    generalize upd H a (.lst [.ref l, .int (pos + 1), .int val]) = H1 at ha1 hl1 b1 ⊢
    -- if pen[0] != []
    have ec : cs = [] ∨ ∃ x r, cs = x :: r := by
      cases cs with
      | nil => exact .inl rfl
      | cons x r => exact .inr ⟨x, r, rfl⟩
    dsimp only
    refine on (put_c ?_)
    dsimp only
    refine on (if_tail (fun σ H' => ∃ cell : Int, σ = [some (V.ref a), some (V.int pos), some (V.int cell), none, none, none, none] ∧ Same H1 H') ?_ (fun t => ?_))
    rotate_left
    · refine ⟨.ref a, rfl, a, _, 0, .ref l, rfl, rfl, SqL.of ha1, atI_nat (j := 0) rfl, Nat.zero_le _, fun e0 ne0 => ?_⟩
      have s2 : Same H1 (upd H1 e0 (.lst [])) := Same.upd ne0
      have ha2 := s2 _ _ ha1
      have hl2 := s2 _ _ hl1
      have d0 : Dp K (upd H1 e0 (.lst [])) (.ref e0) (.list []) := .lst (SqL.of upd_same) .nil
      generalize upd H1 e0 (.lst []) = H2 at s2 ha2 hl2 d0 ⊢
      refine ⟨.list (cs.map PyData.int), .list [], .lst (SqL.of hl2) (dpInts cs), d0, PySem.W.ke_shaped_ints cs, rfl, _, rfl, ?_⟩
      rcases ec with rfl | ⟨x, r, rfl⟩
      · exact iteF (t _ _ ⟨0, rfl, s2⟩)
      · refine iteT ?_
        have hpos : pos % (((x :: r).length : Nat) : Int) < ((x :: r).length : Nat) ∧ 0 ≤ pos % (((x :: r).length : Nat) : Int) := by
          have : (0 : Int) < ((x :: r).length : Nat) := by rw [List.length_cons]; omega
          exact ⟨Int.emod_lt_of_pos _ this, Int.emod_nonneg _ (by omega)⟩
        obtain ⟨j, ej⟩ : ∃ j : Nat, pos % (((x :: r).length : Nat) : Int) = (j : Int) := ⟨(pos % (((x :: r).length : Nat) : Int)).toNat, by omega⟩
        have hj : j < (x :: r).length := by omega
        refine ⟨.ref a, rfl, a, _, 0, .ref l, rfl, rfl, SqL.of ha2, atI_nat (j := 0) rfl, .int pos, rfl, .ref a, rfl, a, _, 0, .ref l, rfl, rfl, SqL.of ha2, atI_nat (j := 0) rfl, l, _, rfl, .inl (SqL.of hl2), _, _, rfl, rfl, ?_, ?_⟩
        · show (0 : Int) < _
          rw [List.length_map, List.length_cons]
          omega
        · refine ⟨l, _, _, .int (x :: r)[j], rfl, rfl, SqL.of hl2, ?_, t _ _ ⟨_, rfl, s2⟩⟩
          rw [List.length_map, ej]
          exact atI_nat (by rw [List.getElem?_map, List.getElem?_eq_getElem hj]; rfl)
    · rintro σ H' ⟨cell, rfl, s2⟩
      have ha2 := s2 _ _ ha1
      have hl2 := s2 _ _ hl1
      have b2 : But a H H' := b1.trans (But.of s2)
      have p2 : Pen H' a l := ⟨cs, pos + 1, val, ha2, hl2, by omega⟩
      -- if position < len(pen[0]) and cell >= 10 ** 18: return cell - 10 ** 18
      dsimp only
      refine on (if_tail (fun σ H3 => σ = [some (V.ref a), some (V.int pos), some (V.int cell), none, none, none, none] ∧ H3 = H') ?_ (fun t => ?_))
      rotate_left
      · refine ⟨_, rfl, .ref a, rfl, a, _, 0, .ref l, rfl, rfl, SqL.of ha2, atI_nat (j := 0) rfl, l, _, rfl, .inl (SqL.of hl2), _, _, rfl, rfl, _, rfl, ite2 (fun _ => ?_) (fun _ => iteF (t _ _ ⟨rfl, rfl⟩))⟩
        refine ⟨_, rfl, _, _, rfl, rfl, ⟨by decide, by decide, by decide⟩, _, _, rfl, rfl, _, rfl, ite2 (fun _ => ?_) (fun _ => t _ _ ⟨rfl, rfl⟩)⟩
        exact ⟨_, rfl, _, _, rfl, rfl, ⟨by decide, by decide, by decide⟩, _, _, rfl, rfl, q _ _ b2 p2⟩
      · rintro σ H3 ⟨rfl, rfl⟩
        -- state, mixed, the six turns
        refine ⟨_, rfl, _, _, rfl, rfl, .inr ⟨by decide, by decide⟩, _, rfl, _, _, rfl, rfl, .inl ⟨by decide, by decide⟩, _, _, rfl, rfl, _, _, rfl, rfl, _, rfl, _, _, rfl, rfl, (by show (0 : Int) < 2305843009213693951; decide), _, rfl,
          6, rfl, by decide, by decide, for_range (lo := 0) (n := 6) (fun i σ H4 => ∃ (st mx : Int) (v : Option V), σ = [some (V.ref a), some (V.int pos), some (V.int cell), some (V.int 2305843009213693951), some (V.int st), some (V.int mx), v] ∧ H4 = H3 ∧ 0 ≤ st ∧ st < 2305843009213693951)
            ⟨_, _, none, rfl, rfl, Int.emod_nonneg _ (by decide), Int.emod_lt_of_pos _ (by decide)⟩ ?_ ?_⟩
        · rintro i σ H4 hi ⟨st, mx, v, rfl, rfl, h0, h1⟩
          refine ⟨_, rfl, _, rfl, _, _, rfl, rfl, .inl ⟨by omega, by omega⟩, _, rfl, _, _, rfl, rfl, _, _, rfl, rfl, .inl ⟨by decide, by decide⟩, _, rfl, _, _, rfl, rfl, _, _, rfl, rfl, .inl ⟨by show -(2 ^ 64) < (69621 : Int) * (0 + (i : Int) + 1); omega, by show (69621 : Int) * (0 + (i : Int) + 1) < 2 ^ 64; omega⟩, _, _, rfl, rfl,
            _, rfl, _, rfl, _, _, rfl, rfl, _, rfl, _, _, rfl, rfl, (by show (0 : Int) < 2305843009213693951; decide), _, rfl, _, rfl, _, _, rfl, rfl, .inr ⟨by decide, by decide⟩, _, rfl, _, _, rfl, rfl, ?_⟩
          exact ⟨_, _, _, rfl, rfl, Int.emod_nonneg _ (by decide), Int.emod_lt_of_pos _ (by decide)⟩
        · rintro σ H4 ⟨st, mx, v, rfl, rfl, h0, h1⟩
          exact ⟨_, rfl, q _ _ b2 p2⟩
/-! ### a number below a bound -/
def spDraw : Sp := fun vs H Q _ => ∃ (a l : Addr) (b : Int), vs = [.ref a, .int b] ∧ Pen H a l ∧ 0 < b ∧ b.natAbs.log2 < 9000 ∧ ∀ (d : Int) H', 0 ≤ d → d < b → But a H H' → Pen H' a l → Q (.int d) H'
theorem scDraw : FnScope ["pen", "bound", "digit"] ["pen", "bound"] (defScope sDraw) := ⟨rfl, rfl, rfl, by decide +kernel, rfl, by decide +kernel, by decide +kernel⟩
theorem ok_draw {f g : Addr} {fd gd : FuncData} (F : Fun K "_law_draw" "_law_draw" sDraw f fd) (GF : FnOk P w K mg base CX0 1 g gd ["pen"] spFresh) (mF : mg "_law_fresh" = some (.ref g)) (kF : PySem.W.keepIn K (.ref g) = true) (bF : Binds K gd ["pen"] []) :
    FnOk P w K mg base CX0 2 f fd ["pen", "bound"] spDraw := by
  refine F.ok scDraw (fun vs H Q E h => ?_) (fun cdv A outer s H vs Q E hr h => ?_)
  · obtain ⟨a, l, b, rfl, _⟩ := h
    rfl
  · obtain ⟨a, l, b, rfl, pn, hb, hb2, q⟩ := h
    refine ⟨_, pss_cons (ps_if (pt_cmpR op_lt (pe_ix ix_list (pv 0) pe_int (fun _ _ => rfl)) (pv 1) (nomark _))
        (pss_one (ps_asg (pe_call GF hr (by rfl) mF kF bF .nil pass0 (pa_cons (pv 0) pa_nil)) (pg_sub (pv 0) pe_int set_list))) pss_nil)
      (pss_cons (ps_set (i := 2) scDraw.nd rfl (.inl rfl) (pe_op op_mod (pe_ix ix_list (pv 0) pe_int (fun _ _ => rfl)) (pv 1)))
      (pss_cons (ps_asg (pe_op op_fdivW (pe_ix ix_list (pv 0) pe_int (fun _ _ => rfl)) (pv 1)) (pg_sub (pv 0) pe_int set_list))
      (pss_one (ps_ret (pv 2))))), ?_⟩
    refine on (if_tail (fun σ H' => σ = [some (V.ref a), some (V.int b), none] ∧ Pen H' a l ∧ But a H H') ?_ (fun t => ?_))
    rotate_left
    · obtain ⟨cs, pos, val, ha, hl, hp⟩ := id pn
      refine ⟨.ref a, rfl, a, _, 2, .int val, rfl, rfl, SqL.of ha, atI_nat (j := 2) rfl, _, rfl, _, _, rfl, rfl, _, rfl, ite2 (fun _ => ?_) (fun _ => t _ _ ⟨rfl, pn, But.refl _ _⟩)⟩
      refine ⟨.ref a, rfl, a, l, rfl, pn, fun v H1 b1 p1 => ?_⟩
      obtain ⟨cs, pos, val, ha, hl, hp⟩ := p1
      exact ⟨.ref a, rfl, a, _, 2, 2, rfl, rfl, ha, rfl, t _ _ ⟨rfl, Pen.put ha hl hp, b1.trans But.put⟩⟩
    · rintro σ H1 ⟨rfl, ⟨cs, pos, val, ha, hl, hp⟩, b1⟩
      refine ⟨.ref a, rfl, a, _, 2, .int val, rfl, rfl, SqL.of ha, atI_nat (j := 2) rfl, _, rfl, _, _, rfl, rfl, hb, .ref a, rfl, a, _, 2, .int val, rfl, rfl, SqL.of ha, atI_nat (j := 2) rfl, _, rfl, _, _, rfl, rfl, ⟨hb, hb2⟩, .ref a, rfl, a, _, 2, 2, rfl, rfl, ha, rfl, _, rfl, ?_⟩
      exact q _ _ (Int.emod_nonneg _ (by omega)) (Int.emod_lt_of_pos _ hb) (b1.trans But.put) (Pen.put ha hl hp)
end
end Z

set_option Elab.async false
set_option linter.all false
set_option maxRecDepth 100000
set_option maxHeartbeats 4000000
namespace Z
open PySem PySem.Spec PyProof.Rows L2 GG EX
abbrev sI0 : Stmt := inClass (top 1) 0
abbrev sI1 : Stmt := inClass (top 2) 0
abbrev sI2 : Stmt := inClass (top 3) 0
abbrev sI3 : Stmt := inClass (top 5) 0
abbrev sI4 : Stmt := inClass (top 6) 0
abbrev sI5 : Stmt := inClass (top 7) 0
abbrev sI6 : Stmt := inClass (top 8) 0
abbrev sI7 : Stmt := inClass (top 9) 0
abbrev sI8 : Stmt := inClass (top 10) 0
abbrev sI9 : Stmt := inClass (top 11) 0
abbrev sI10 : Stmt := inClass (top 12) 0
abbrev sI11 : Stmt := inClass (top 4) 0
abbrev sI12 : Stmt := inClass (top 13) 0
abbrev sI13 : Stmt := inClass (top 14) 0
abbrev sOwn : Stmt := top 19
abbrev sBlt : Stmt := top 20
abbrev sCor : Stmt := top 21
abbrev sNum : Stmt := top 22
abbrev sWor : Stmt := top 23
abbrev sTup : Stmt := top 24
abbrev sLaw : Stmt := top 25
/-- all that is used of a class with a field -/
structure Cls (P : Program) (w : World) (K : PySem.W.Frag) (mg : Str → Option Value) (base : Heap) (x f : Str) (C : Addr) : Prop where
  ex : ∃ (fI : Addr) (fd : FuncData), MakesK P w K C fI ∧ FnOk P w K mg base CX0 1 fI fd ["self", f] (spInit K C f) ∧ Binds K fd ["self", f] [] ∧ KBn K fd ["self", f] 1 [f] (fun us ws => us ++ ws) (fun vs zs => vs ++ zs)
  g : mg x = some (.ref C)
  kC : PySem.W.keepIn K (.ref C) = true
  is : ExIs K C
  nf : PySem.W.findIn K (.ref C) f = some none
/-- one without -/
structure Cls0 (P : Program) (w : World) (K : PySem.W.Frag) (mg : Str → Option Value) (base : Heap) (x : Str) (C : Addr) : Prop where
  ex : ∃ (fI : Addr) (fd : FuncData), Makes P w K C fI ∧ FnOk P w K mg base CX0 1 fI fd ["self"] (fun vs H Q _ => ∃ a : Addr, vs = [.ref a] ∧ Q .non H) ∧ Binds K fd ["self"] []
  g : mg x = some (.ref C)
  kC : PySem.W.keepIn K (.ref C) = true
  is : ExIs K C
theorem kit_own {K : PySem.W.Frag} {C D : Addr} {tail : List Value} {newId : String} (T : ExC K C tail newId) (no : ∀ D, tail.contains (.ref D) = false) (cD : (PySem.W.clsIn K D).isSome = true) (tD : PySem.W.typeIn K (.ref D) = some (.type "type")) :
    PySem.W.kitOne K (.ref C) (.ref D) = some (decide (C = D)) := by
  obtain ⟨nm, q, N, bs, sn, sub, ab, col, dd, k0, k1, k2, k3, k5, at_⟩ := T.cls
  have cl : PySem.W.clsIn K C = some { name := nm, bases := bs, mro := .ref C :: tail, ns := N, qualname := q, hasDict := true, slotNames := sn, subclasses := sub, abstract := ab, collection := col, hasDel := false } := by
    unfold PySem.W.clsIn
    rw [at_] <;> rfl
  unfold PySem.W.kitOne
  by_cases h : C = D
  · subst h
    rw [if_pos (by simp), decide_eq_true rfl]
  · rw [if_neg (by simpa using h), decide_eq_false h]
    show (if ((PySem.W.clsIn K D).isSome && PySem.W.typeIn K (.ref D) == some (.type "type")) = true then PySem.W.subIn K (.ref C) (.ref D) else none) = some false
    rw [if_pos (by rw [cD, tD]; rfl)]
    show PySem.W.mroIn K C (.ref D) = _
    unfold PySem.W.mroIn
    rw [cl]
    have e : (Value.ref C :: tail).contains (.ref D) = false := by
      rw [List.contains_cons, no D, Bool.or_false]
      simpa using fun z => h z.symm
    show (if (Value.ref C :: tail).isEmpty = true then none else some ((Value.ref C :: tail).contains (.ref D))) = _
    rw [e]
    rfl
theorem kit_blt {K : PySem.W.Frag} {C : Addr} {tail : List Value} {newId t : String} (T : ExC K C tail newId) (m : PySem.W.kitMeta t = true) : PySem.W.kitOne K (.ref C) (.type t) = some (tail.contains (.type t)) := by
  obtain ⟨nm, q, N, bs, sn, sub, ab, col, dd, k0, k1, k2, k3, k5, at_⟩ := T.cls
  have cl : PySem.W.clsIn K C = some { name := nm, bases := bs, mro := .ref C :: tail, ns := N, qualname := q, hasDict := true, slotNames := sn, subclasses := sub, abstract := ab, collection := col, hasDel := false } := by
    unfold PySem.W.clsIn
    rw [at_] <;> rfl
  unfold PySem.W.kitOne
  have n : ¬ ((Value.ref C == Value.type t) = true) := by simp
  rw [if_neg n]
  show (if PySem.W.kitMeta t = true then PySem.W.subIn K (.ref C) (.type t) else none) = _
  rw [if_pos m]
  show PySem.W.mroIn K C (.type t) = _
  unfold PySem.W.mroIn
  rw [cl]
  show (if (Value.ref C :: tail).isEmpty = true then none else some ((Value.ref C :: tail).contains (.type t))) = _
  have e : (Value.ref C :: tail).contains (.type t) = tail.contains (.type t) := by
    rw [List.contains_cons]
    have : (Value.type t == Value.ref C) = false := by simp
    rw [this, Bool.false_or]
  rw [e]
  rfl
section
variable {P : Program} {w : World} {K : PySem.W.Frag} {mg : Str → Option Value} {base : Heap}
theorem scI0 : FnScope ["self"] ["self"] (defScope sI0) := ⟨rfl, rfl, rfl, by decide +kernel, rfl, by decide +kernel, by decide +kernel⟩
theorem ok_i0 {fI : Addr} {fd : FuncData} (F : Fun K "__init__" "ZeroDenominator.__init__" sI0 fI fd) : FnOk P w K mg base CX0 1 fI fd ["self"] (fun vs H Q _ => ∃ a : Addr, vs = [.ref a] ∧ Q .non H) := by
  refine F.ok scI0 (fun vs H Q E h => ?_) (fun cdv A outer s H vs Q E hr h => ?_)
  · obtain ⟨a, rfl, _⟩ := h
    rfl
  · obtain ⟨a, rfl, q⟩ := h
    exact ⟨_, pss_one ps_pass, q⟩
theorem scI1 : FnScope ["self", "p"] ["self", "p"] (defScope sI1) := ⟨rfl, rfl, rfl, by decide +kernel, rfl, by decide +kernel, by decide +kernel⟩
theorem ok_i1 {fI C : Addr} {fd : FuncData} {newId : String} (F : Fun K "__init__" "UndefinedValue.__init__" sI1 fI fd) (T : ExC K C tZero newId) (nf : PySem.W.findIn K (.ref C) "p" = some none) : FnOk P w K mg base CX0 1 fI fd ["self", "p"] (spInit K C "p") := by
  refine F.ok scI1 (fun vs H Q E h => ?_) (fun cdv A outer s H vs Q E hr h => ?_)
  · obtain ⟨a, y, rfl, _⟩ := h
    rfl
  · obtain ⟨a, y, rfl, ea, q⟩ := h
    exact ⟨_, pss_one (ps_first (pv 0) (pv 1)), _, rfl, _, rfl, a, C, _, _, rfl, T, nf, ea, fun dx n ne => q dx n ne⟩
theorem scI2 : FnScope ["self", "tosses"] ["self", "tosses"] (defScope sI2) := ⟨rfl, rfl, rfl, by decide +kernel, rfl, by decide +kernel, by decide +kernel⟩
theorem ok_i2 {fI C : Addr} {fd : FuncData} {newId : String} (F : Fun K "__init__" "AlreadyEnded.__init__" sI2 fI fd) (T : ExC K C tRun newId) (nf : PySem.W.findIn K (.ref C) "tosses" = some none) : FnOk P w K mg base CX0 1 fI fd ["self", "tosses"] (spInit K C "tosses") := by
  refine F.ok scI2 (fun vs H Q E h => ?_) (fun cdv A outer s H vs Q E hr h => ?_)
  · obtain ⟨a, y, rfl, _⟩ := h
    rfl
  · obtain ⟨a, y, rfl, ea, q⟩ := h
    exact ⟨_, pss_one (ps_first (pv 0) (pv 1)), _, rfl, _, rfl, a, C, _, _, rfl, T, nf, ea, fun dx n ne => q dx n ne⟩
theorem scI3 : FnScope ["self"] ["self"] (defScope sI3) := ⟨rfl, rfl, rfl, by decide +kernel, rfl, by decide +kernel, by decide +kernel⟩
theorem ok_i3 {fI : Addr} {fd : FuncData} (F : Fun K "__init__" "InvalidSide.__init__" sI3 fI fd) : FnOk P w K mg base CX0 1 fI fd ["self"] (fun vs H Q _ => ∃ a : Addr, vs = [.ref a] ∧ Q .non H) := by
  refine F.ok scI3 (fun vs H Q E h => ?_) (fun cdv A outer s H vs Q E hr h => ?_)
  · obtain ⟨a, rfl, _⟩ := h
    rfl
  · obtain ⟨a, rfl, q⟩ := h
    exact ⟨_, pss_one ps_pass, q⟩
theorem scI4 : FnScope ["self", "trap"] ["self", "trap"] (defScope sI4) := ⟨rfl, rfl, rfl, by decide +kernel, rfl, by decide +kernel, by decide +kernel⟩
theorem ok_i4 {fI C : Addr} {fd : FuncData} {newId : String} (F : Fun K "__init__" "MayNotTerminate.__init__" sI4 fI fd) (T : ExC K C tVal newId) (nf : PySem.W.findIn K (.ref C) "trap" = some none) : FnOk P w K mg base CX0 1 fI fd ["self", "trap"] (spInit K C "trap") := by
  refine F.ok scI4 (fun vs H Q E h => ?_) (fun cdv A outer s H vs Q E hr h => ?_)
  · obtain ⟨a, y, rfl, _⟩ := h
    rfl
  · obtain ⟨a, y, rfl, ea, q⟩ := h
    exact ⟨_, pss_one (ps_first (pv 0) (pv 1)), _, rfl, _, rfl, a, C, _, _, rfl, T, nf, ea, fun dx n ne => q dx n ne⟩
theorem scI5 : FnScope ["self", "reason"] ["self", "reason"] (defScope sI5) := ⟨rfl, rfl, rfl, by decide +kernel, rfl, by decide +kernel, by decide +kernel⟩
theorem ok_i5 {fI C : Addr} {fd : FuncData} {newId : String} (F : Fun K "__init__" "InvalidCoin.__init__" sI5 fI fd) (T : ExC K C tVal newId) (nf : PySem.W.findIn K (.ref C) "reason" = some none) : FnOk P w K mg base CX0 1 fI fd ["self", "reason"] (spInit K C "reason") := by
  refine F.ok scI5 (fun vs H Q E h => ?_) (fun cdv A outer s H vs Q E hr h => ?_)
  · obtain ⟨a, y, rfl, _⟩ := h
    rfl
  · obtain ⟨a, y, rfl, ea, q⟩ := h
    exact ⟨_, pss_one (ps_first (pv 0) (pv 1)), _, rfl, _, rfl, a, C, _, _, rfl, T, nf, ea, fun dx n ne => q dx n ne⟩
theorem scI6 : FnScope ["self", "reason"] ["self", "reason"] (defScope sI6) := ⟨rfl, rfl, rfl, by decide +kernel, rfl, by decide +kernel, by decide +kernel⟩
theorem ok_i6 {fI C : Addr} {fd : FuncData} {newId : String} (F : Fun K "__init__" "InvalidDefinition.__init__" sI6 fI fd) (T : ExC K C tVal newId) (nf : PySem.W.findIn K (.ref C) "reason" = some none) : FnOk P w K mg base CX0 1 fI fd ["self", "reason"] (spInit K C "reason") := by
  refine F.ok scI6 (fun vs H Q E h => ?_) (fun cdv A outer s H vs Q E hr h => ?_)
  · obtain ⟨a, y, rfl, _⟩ := h
    rfl
  · obtain ⟨a, y, rfl, ea, q⟩ := h
    exact ⟨_, pss_one (ps_first (pv 0) (pv 1)), _, rfl, _, rfl, a, C, _, _, rfl, T, nf, ea, fun dx n ne => q dx n ne⟩
theorem scI7 : FnScope ["self", "names"] ["self", "names"] (defScope sI7) := ⟨rfl, rfl, rfl, by decide +kernel, rfl, by decide +kernel, by decide +kernel⟩
theorem ok_i7 {fI C : Addr} {fd : FuncData} {newId : String} (F : Fun K "__init__" "CyclicDefinition.__init__" sI7 fI fd) (T : ExC K C tVal newId) (nf : PySem.W.findIn K (.ref C) "names" = some none) : FnOk P w K mg base CX0 1 fI fd ["self", "names"] (spInit K C "names") := by
  refine F.ok scI7 (fun vs H Q E h => ?_) (fun cdv A outer s H vs Q E hr h => ?_)
  · obtain ⟨a, y, rfl, _⟩ := h
    rfl
  · obtain ⟨a, y, rfl, ea, q⟩ := h
    exact ⟨_, pss_one (ps_first (pv 0) (pv 1)), _, rfl, _, rfl, a, C, _, _, rfl, T, nf, ea, fun dx n ne => q dx n ne⟩
theorem scI8 : FnScope ["self", "number"] ["self", "number"] (defScope sI8) := ⟨rfl, rfl, rfl, by decide +kernel, rfl, by decide +kernel, by decide +kernel⟩
theorem ok_i8 {fI C : Addr} {fd : FuncData} {newId : String} (F : Fun K "__init__" "UnknownCheckpoint.__init__" sI8 fI fd) (T : ExC K C tLook newId) (nf : PySem.W.findIn K (.ref C) "number" = some none) : FnOk P w K mg base CX0 1 fI fd ["self", "number"] (spInit K C "number") := by
  refine F.ok scI8 (fun vs H Q E h => ?_) (fun cdv A outer s H vs Q E hr h => ?_)
  · obtain ⟨a, y, rfl, _⟩ := h
    rfl
  · obtain ⟨a, y, rfl, ea, q⟩ := h
    exact ⟨_, pss_one (ps_first (pv 0) (pv 1)), _, rfl, _, rfl, a, C, _, _, rfl, T, nf, ea, fun dx n ne => q dx n ne⟩
theorem scI9 : FnScope ["self", "number"] ["self", "number"] (defScope sI9) := ⟨rfl, rfl, rfl, by decide +kernel, rfl, by decide +kernel, by decide +kernel⟩
theorem ok_i9 {fI C : Addr} {fd : FuncData} {newId : String} (F : Fun K "__init__" "ParseError.__init__" sI9 fI fd) (T : ExC K C tLook newId) (nf : PySem.W.findIn K (.ref C) "number" = some none) : FnOk P w K mg base CX0 1 fI fd ["self", "number"] (spInit K C "number") := by
  refine F.ok scI9 (fun vs H Q E h => ?_) (fun cdv A outer s H vs Q E hr h => ?_)
  · obtain ⟨a, y, rfl, _⟩ := h
    rfl
  · obtain ⟨a, y, rfl, ea, q⟩ := h
    exact ⟨_, pss_one (ps_first (pv 0) (pv 1)), _, rfl, _, rfl, a, C, _, _, rfl, T, nf, ea, fun dx n ne => q dx n ne⟩
theorem scI10 : FnScope ["self", "name"] ["self", "name"] (defScope sI10) := ⟨rfl, rfl, rfl, by decide +kernel, rfl, by decide +kernel, by decide +kernel⟩
theorem ok_i10 {fI C : Addr} {fd : FuncData} {newId : String} (F : Fun K "__init__" "UnknownName.__init__" sI10 fI fd) (T : ExC K C tKey newId) (nf : PySem.W.findIn K (.ref C) "name" = some none) : FnOk P w K mg base CX0 1 fI fd ["self", "name"] (spInit K C "name") := by
  refine F.ok scI10 (fun vs H Q E h => ?_) (fun cdv A outer s H vs Q E hr h => ?_)
  · obtain ⟨a, y, rfl, _⟩ := h
    rfl
  · obtain ⟨a, y, rfl, ea, q⟩ := h
    exact ⟨_, pss_one (ps_first (pv 0) (pv 1)), _, rfl, _, rfl, a, C, _, _, rfl, T, nf, ea, fun dx n ne => q dx n ne⟩
theorem scI11 : FnScope ["self", "names"] ["self", "names"] (defScope sI11) := ⟨rfl, rfl, rfl, by decide +kernel, rfl, by decide +kernel, by decide +kernel⟩
theorem ok_i11 {fI C : Addr} {fd : FuncData} {newId : String} (F : Fun K "__init__" "NameInUse.__init__" sI11 fI fd) (T : ExC K C tRun newId) (nf : PySem.W.findIn K (.ref C) "names" = some none) : FnOk P w K mg base CX0 1 fI fd ["self", "names"] (spInit K C "names") := by
  refine F.ok scI11 (fun vs H Q E h => ?_) (fun cdv A outer s H vs Q E hr h => ?_)
  · obtain ⟨a, y, rfl, _⟩ := h
    rfl
  · obtain ⟨a, y, rfl, ea, q⟩ := h
    exact ⟨_, pss_one (ps_first (pv 0) (pv 1)), _, rfl, _, rfl, a, C, _, _, rfl, T, nf, ea, fun dx n ne => q dx n ne⟩
theorem scI12 : FnScope ["self", "limit"] ["self", "limit"] (defScope sI12) := ⟨rfl, rfl, rfl, by decide +kernel, rfl, by decide +kernel, by decide +kernel⟩
theorem ok_i12 {fI C : Addr} {fd : FuncData} {newId : String} (F : Fun K "__init__" "LimitExceeded.__init__" sI12 fI fd) (T : ExC K C tOver newId) (nf : PySem.W.findIn K (.ref C) "limit" = some none) : FnOk P w K mg base CX0 1 fI fd ["self", "limit"] (spInit K C "limit") := by
  refine F.ok scI12 (fun vs H Q E h => ?_) (fun cdv A outer s H vs Q E hr h => ?_)
  · obtain ⟨a, y, rfl, _⟩ := h
    rfl
  · obtain ⟨a, y, rfl, ea, q⟩ := h
    exact ⟨_, pss_one (ps_first (pv 0) (pv 1)), _, rfl, _, rfl, a, C, _, _, rfl, T, nf, ea, fun dx n ne => q dx n ne⟩
theorem scI13 : FnScope ["self", "limit"] ["self", "limit"] (defScope sI13) := ⟨rfl, rfl, rfl, by decide +kernel, rfl, by decide +kernel, by decide +kernel⟩
theorem ok_i13 {fI C : Addr} {fd : FuncData} {newId : String} (F : Fun K "__init__" "StepLimitExceeded.__init__" sI13 fI fd) (T : ExC K C tOver newId) (nf : PySem.W.findIn K (.ref C) "limit" = some none) : FnOk P w K mg base CX0 1 fI fd ["self", "limit"] (spInit K C "limit") := by
  refine F.ok scI13 (fun vs H Q E h => ?_) (fun cdv A outer s H vs Q E hr h => ?_)
  · obtain ⟨a, y, rfl, _⟩ := h
    rfl
  · obtain ⟨a, y, rfl, ea, q⟩ := h
    exact ⟨_, pss_one (ps_first (pv 0) (pv 1)), _, rfl, _, rfl, a, C, _, _, rfl, T, nf, ea, fun dx n ne => q dx n ne⟩
end
end Z

set_option Elab.async false
set_option linter.all false
set_option maxRecDepth 100000
set_option maxHeartbeats 4000000
namespace Z
open PySem PySem.Spec PyProof.Rows L2 GG EX
theorem tup_of {K : PySem.W.Frag} {H : Hp} {a : Addr} {xs : List V} (h : H a = some (.tup xs)) : SqT K H a xs := .inl (.inl h)
structure Names6 (mg : Str → Option Value) : Prop extends Names mg where
  max : mg "max" = none
  min : mg "min" = none
  enumerate : mg "enumerate" = none
  repr : mg "repr" = none
  isinstance : mg "isinstance" = none
/-- a comprehension over enumerate(xs), xs a list -/
theorem lc_en {K : PySem.W.Frag} {a : Addr} {xs : List V} {g : TG} {tt : TT} {te : TE} {vs : List Nat} {σ : L2.St} {H1 : Hp} {D : Addr} {Qd : Hp → Prop} (Pv : Nat → Hp → Prop) (h0 : Pv 0 (upd H1 D (.lst []))) (hl : ∀ i H, Pv i H → SqL K H a xs)
    (turn : ∀ i x H T, xs[i]? = some x → Pv i H → H T = none → g (.ref T) (wipe σ vs) (upd H T (.tup [.int (i : Nat), x])) fun σ2 H2 => wipe σ2 vs = wipe σ vs ∧ tt σ2 H2 fun c H3 =>
      if c = true then te σ2 H3 fun y H4 => ∃ acc, H4 D = some (.lst acc) ∧ acc.length < sizeLine ∧ Pv (i + 1) (upd H4 D (.lst (acc ++ [y]))) else Pv (i + 1) H3) (done : ∀ H, Pv xs.length H → Qd H) :
    ∃ W : Nat → Nat → Hp → Prop, (∃ m, W 0 m (upd H1 D (.lst []))) ∧ ∀ i m H, W i m H →
      ((Ite K a).stop i H ∧ Qd H) ∨ ((Ite K a).go i H ∧ ∃ Nx : Hp → Prop, (∀ H', Nx H' → ∃ m', m' < m ∧ W (i + 1) m' H') ∧
        ∀ x H', (Ite K a).yld i H x H' → g x (wipe σ vs) H' fun σ2 H2 => wipe σ2 vs = wipe σ vs ∧ tt σ2 H2 fun c H3 =>
          if c = true then te σ2 H3 fun y H4 => ∃ acc, H4 D = some (.lst acc) ∧ acc.length < sizeLine ∧ Nx (upd H4 D (.lst (acc ++ [y]))) else Nx H3) := by
  refine ⟨fun i m H => m = xs.length - i ∧ i ≤ xs.length ∧ Pv i H, ⟨_, rfl, Nat.zero_le _, h0⟩, ?_⟩
  rintro i m H ⟨rfl, le, pv⟩
  have qx := hl i H pv
  rcases Nat.lt_or_ge i xs.length with lt | ge
  · have hx : xs[i]? = some xs[i] := List.getElem?_eq_getElem lt
    refine .inr ⟨⟨xs, _, qx, hx⟩, Pv (i + 1), fun H' n => ⟨xs.length - (i + 1), by omega, rfl, lt, n⟩, ?_⟩
    rintro v H' ⟨T, x, rfl, nT, rfl, f1⟩
    exact turn i x H T (f1 xs qx) pv nT
  · have e : i = xs.length := by omega
    subst e
    exact .inl ⟨⟨xs, qx, Nat.le_refl _⟩, done H pv⟩
/-- the places of what is true -/
def idx (bs : List Bool) (n : Nat) : List Nat := (List.range n).filter fun j => bs.getD j false
theorem idx_succ (bs : List Bool) (n : Nat) : idx bs (n + 1) = idx bs n ++ if bs.getD n false = true then [n] else [] := by
  unfold idx
  rw [List.range_succ, List.filter_append]
  congr 1
  show (match bs.getD n false with | true => [n] | false => []) = _
  cases bs.getD n false <;> rfl
def nats (ns : List Nat) : List V := ns.map fun n => V.int (n : Nat)
section
variable {P : Program} {w : World} {K : PySem.W.Frag} {mg : Str → Option Value} {base : Heap}
def spKinds (K : PySem.W.Frag) (cs : List (V × Value)) : Sp := fun vs H Q _ => ∃ (e C : Addr) (fs : List (Str × V)) (bs : List Bool), vs = [.ref e] ∧ IsExc H e C fs ∧ ExIs K C ∧ bs.length = cs.length ∧
  (∀ (j : Nat) (c : V × Value) (b : Bool), cs[j]? = some c → bs[j]? = some b → PySem.W.kitOne K (.ref C) c.2 = some b) ∧ ∀ p H', Same H H' → H p = none → H' p = some (.lst (nats (idx bs cs.length))) → Q (.ref p) H'
theorem exc_same {H H' : Hp} {a C : Addr} {fs : List (Str × V)} (x : IsExc H a C fs) (s : Same H H') : IsExc H' a C fs := by
  rcases x with ⟨e, h⟩ | ⟨dx, h1, h2⟩
  · exact .inl ⟨e, s _ _ h⟩
  · exact .inr ⟨dx, s _ _ h1, s _ _ h2⟩
def ownL (C : Nat → Addr) : List (V × Value) := [(.ref (C 0), .ref (C 0)), (.ref (C 1), .ref (C 1)), (.ref (C 2), .ref (C 2)), (.ref (C 3), .ref (C 3)), (.ref (C 4), .ref (C 4)), (.ref (C 5), .ref (C 5)), (.ref (C 6), .ref (C 6)), (.ref (C 7), .ref (C 7)), (.ref (C 8), .ref (C 8)), (.ref (C 9), .ref (C 9)), (.ref (C 10), .ref (C 10)), (.ref (C 11), .ref (C 11)), (.ref (C 12), .ref (C 12)), (.ref (C 13), .ref (C 13))]
def bltL : List (V × Value) := [(.ty "ZeroDivisionError", .type "ZeroDivisionError"), (.ty "RuntimeError", .type "RuntimeError"), (.ty "ValueError", .type "ValueError"), (.ty "LookupError", .type "LookupError"), (.ty "KeyError", .type "KeyError"), (.ty "IndexError", .type "IndexError"), (.ty "OverflowError", .type "OverflowError"), (.ty "NotImplementedError", .type "NotImplementedError")]
theorem idx_len (bs : List Bool) (n : Nat) : (idx bs n).length ≤ n := Nat.le_trans (List.length_filter_le _ _) (by simp)
/-- the end of both -/
theorem enum_end {H0 H : Hp} {L D e : Addr} {bs : List Bool} {Q : VK} (eL : H L = some (.lst (bs.map V.bl))) (nD : H D = none) (s0 : Same H0 H)
    (q : ∀ p H', Same H0 H' → H0 p = none → H' p = some (.lst (nats (idx bs bs.length))) → Q (.ref p) H') (few : bs.length ≤ 100) :
    ∃ W : Nat → Nat → Hp → Prop, (∃ m, W 0 m (upd H D (.lst []))) ∧ ∀ i m H_1, W i m H_1 →
      ((Ite K L).stop i H_1 ∧ Q (V.ref D) H_1) ∨ ((Ite K L).go i H_1 ∧ ∃ Nx : Hp → Prop, (∀ H', Nx H' → ∃ m', m' < m ∧ W (i + 1) m' H') ∧
        ∀ x H', (Ite K L).yld i H_1 x H' → gTup K 2 (gCons (gName 2) (gCons (gName 3) gNil)) x (wipe [some (V.ref e), some (V.ref L), none, none] [2, 3]) H' fun σ2 H2 =>
          wipe σ2 [2, 3] = wipe [some (V.ref e), some (V.ref L), none, none] [2, 3] ∧ tB (tVar 3) σ2 H2 fun b H3 =>
            if b = true then tVar 2 σ2 H3 fun y H4 => ∃ acc, H4 D = some (.lst acc) ∧ acc.length < sizeLine ∧ Nx (upd H4 D (.lst (acc ++ [y]))) else Nx H3) := by
  refine lc_en (K := K) (xs := bs.map V.bl) (fun i H' => Same H H' ∧ H' D = some (.lst (nats (idx bs i)))) ⟨Same.upd nD, upd_same⟩ (fun i H' h => SqL.of (h.1 _ _ eL)) ?_ ?_
  · rintro i x H1 T hx ⟨s1, e1⟩ nT
    have hi : i < bs.length := by
      have := (List.getElem?_eq_some_iff.mp hx).1
      rwa [List.length_map] at this
    have ex : x = .bl (bs.getD i false) := by
      rw [List.getElem?_map, List.getElem?_eq_getElem hi] at hx
      rw [List.getD_eq_getElem?_getD, List.getElem?_eq_getElem hi]
      exact (Option.some.inj hx).symm
    subst ex
    have s2 := Same.upd (o := .tup [.int (i : Nat), .bl (bs.getD i false)]) nT
    refine ⟨T, _, rfl, tup_of upd_same, rfl, _, _, rfl, _, _, rfl, rfl, rfl, _, rfl, _, rfl, ?_⟩
    have is := idx_succ bs i
    cases hb : bs.getD i false with
    | false =>
      rw [hb] at is s2
      refine iteF ⟨s1.trans s2, ?_⟩
      rw [is]
      show _ = some (HO.lst (nats (idx bs i ++ [])))
      rw [List.append_nil]
      exact s2 _ _ e1
    | true =>
      rw [hb] at is s2
      refine iteT ⟨_, rfl, _, s2 _ _ e1, ?_, ?_, ?_⟩
      · have := idx_len bs i
        unfold nats
        rw [List.length_map]
        exact small1000 (by omega)
      · intro b o e
        rw [upd_ne (ne_of_none e nD)]
        exact s2 _ _ (s1 _ _ e)
      · rw [upd_same, is]
        unfold nats
        rw [List.map_append]
        rfl
  · rintro H1 ⟨s1, e1⟩
    rw [List.length_map] at e1
    exact q D H1 (s0.trans s1) (s0.free nD) e1
theorem scOwn : FnScope ["e", "found", "index", "matches"] ["e"] (defScope sOwn) := ⟨rfl, rfl, rfl, by decide +kernel, rfl, by decide +kernel, by decide +kernel⟩
theorem scBlt : FnScope ["e", "found", "index", "matches"] ["e"] (defScope sBlt) := ⟨rfl, rfl, rfl, by decide +kernel, rfl, by decide +kernel, by decide +kernel⟩
theorem ok_own {f : Addr} {fd : FuncData} (F : Fun K "_law_own_kinds" "_law_own_kinds" sOwn f fd) (T : Names6 mg) {C : Nat → Addr} (m0 : mg "ZeroDenominator" = some (.ref (C 0))) (m1 : mg "UndefinedValue" = some (.ref (C 1))) (m2 : mg "AlreadyEnded" = some (.ref (C 2))) (m3 : mg "InvalidSide" = some (.ref (C 3))) (m4 : mg "MayNotTerminate" = some (.ref (C 4))) (m5 : mg "InvalidCoin" = some (.ref (C 5))) (m6 : mg "InvalidDefinition" = some (.ref (C 6))) (m7 : mg "CyclicDefinition" = some (.ref (C 7))) (m8 : mg "UnknownCheckpoint" = some (.ref (C 8))) (m9 : mg "ParseError" = some (.ref (C 9))) (m10 : mg "UnknownName" = some (.ref (C 10))) (m11 : mg "NameInUse" = some (.ref (C 11))) (m12 : mg "LimitExceeded" = some (.ref (C 12))) (m13 : mg "StepLimitExceeded" = some (.ref (C 13))) : FnOk P w K mg base CX0 1 f fd ["e"] (spKinds K (ownL C)) := by
  refine F.ok scOwn (fun vs H Q E h => ?_) (fun cdv A outer s H vs Q E hr h => ?_)
  · obtain ⟨e, D, fs, bs, rfl, _⟩ := h
    rfl
  · obtain ⟨e, D, fs, bs, rfl, hx, hi, hl, hk, q⟩ := h
    refine ⟨_, (pss_cons (ps_set (i := 1) scOwn.nd rfl (.inl rfl) (pe_lst (pa_cons (pe_callB EX.call_isE (by rfl) T.isinstance (by decide +kernel) (pa_cons (pv 0) (pa_cons (pe_glob (v := .ref (C 0)) rfl m0 rfl) pa_nil))) (pa_cons (pe_callB EX.call_isE (by rfl) T.isinstance (by decide +kernel) (pa_cons (pv 0) (pa_cons (pe_glob (v := .ref (C 1)) rfl m1 rfl) pa_nil))) (pa_cons (pe_callB EX.call_isE (by rfl) T.isinstance (by decide +kernel) (pa_cons (pv 0) (pa_cons (pe_glob (v := .ref (C 2)) rfl m2 rfl) pa_nil))) pa_nil)))))
      (pss_cons (ps_set (i := 1) scOwn.nd rfl (.inl rfl) (pe_op op_cat (pv 1) (pe_lst (pa_cons (pe_callB EX.call_isE (by rfl) T.isinstance (by decide +kernel) (pa_cons (pv 0) (pa_cons (pe_glob (v := .ref (C 3)) rfl m3 rfl) pa_nil))) (pa_cons (pe_callB EX.call_isE (by rfl) T.isinstance (by decide +kernel) (pa_cons (pv 0) (pa_cons (pe_glob (v := .ref (C 4)) rfl m4 rfl) pa_nil))) (pa_cons (pe_callB EX.call_isE (by rfl) T.isinstance (by decide +kernel) (pa_cons (pv 0) (pa_cons (pe_glob (v := .ref (C 5)) rfl m5 rfl) pa_nil))) pa_nil))))))
      (pss_cons (ps_set (i := 1) scOwn.nd rfl (.inl rfl) (pe_op op_cat (pv 1) (pe_lst (pa_cons (pe_callB EX.call_isE (by rfl) T.isinstance (by decide +kernel) (pa_cons (pv 0) (pa_cons (pe_glob (v := .ref (C 6)) rfl m6 rfl) pa_nil))) (pa_cons (pe_callB EX.call_isE (by rfl) T.isinstance (by decide +kernel) (pa_cons (pv 0) (pa_cons (pe_glob (v := .ref (C 7)) rfl m7 rfl) pa_nil))) pa_nil)))))
      (pss_cons (ps_set (i := 1) scOwn.nd rfl (.inl rfl) (pe_op op_cat (pv 1) (pe_lst (pa_cons (pe_callB EX.call_isE (by rfl) T.isinstance (by decide +kernel) (pa_cons (pv 0) (pa_cons (pe_glob (v := .ref (C 8)) rfl m8 rfl) pa_nil))) (pa_cons (pe_callB EX.call_isE (by rfl) T.isinstance (by decide +kernel) (pa_cons (pv 0) (pa_cons (pe_glob (v := .ref (C 9)) rfl m9 rfl) pa_nil))) (pa_cons (pe_callB EX.call_isE (by rfl) T.isinstance (by decide +kernel) (pa_cons (pv 0) (pa_cons (pe_glob (v := .ref (C 10)) rfl m10 rfl) pa_nil))) pa_nil))))))
      (pss_cons (ps_set (i := 1) scOwn.nd rfl (.inl rfl) (pe_op op_cat (pv 1) (pe_lst (pa_cons (pe_callB EX.call_isE (by rfl) T.isinstance (by decide +kernel) (pa_cons (pv 0) (pa_cons (pe_glob (v := .ref (C 11)) rfl m11 rfl) pa_nil))) (pa_cons (pe_callB EX.call_isE (by rfl) T.isinstance (by decide +kernel) (pa_cons (pv 0) (pa_cons (pe_glob (v := .ref (C 12)) rfl m12 rfl) pa_nil))) (pa_cons (pe_callB EX.call_isE (by rfl) T.isinstance (by decide +kernel) (pa_cons (pv 0) (pa_cons (pe_glob (v := .ref (C 13)) rfl m13 rfl) pa_nil))) pa_nil))))))
      (pss_one (ps_ret (pe_lc (own := [("index", 2), ("matches", 3)]) (g := gTup K 2 (gCons (gName 2) (gCons (gName 3) gNil))) rfl scOwn.nd (pi_enum (by rfl) T.enumerate (pa_cons (pv 1) pa_nil)) (blkOk_by (N := ["e", "found", "index", "matches"]) (sc := defScope sOwn) (own := [("index", 2), ("matches", 3)]) (by decide +kernel)) (fun _ _ _ _ _ => (pg_tup rfl (pgs_cons (pg_name (i := 2) scOwn.nd rfl (.inl rfl) (Or.inr rfl)) (pgs_cons (pg_name (i := 3) scOwn.nd rfl (.inl rfl) (Or.inr rfl)) pgs_nil)))) (fun _ _ _ _ _ => (pts_one (pt_val (pv 3)))) (fun _ _ _ _ _ => (pv 2)))))))))), ?_⟩
    obtain ⟨b0, b1, b2, b3, b4, b5, b6, b7, b8, b9, b10, b11, b12, b13, rfl⟩ : ∃ b0 b1 b2 b3 b4 b5 b6 b7 b8 b9 b10 b11 b12 b13, bs = [b0, b1, b2, b3, b4, b5, b6, b7, b8, b9, b10, b11, b12, b13] := by
      match bs, hl with
      | [b0, b1, b2, b3, b4, b5, b6, b7, b8, b9, b10, b11, b12, b13], _ => exact ⟨_, _, _, _, _, _, _, _, _, _, _, _, _, _, rfl⟩
    refine ⟨.ref e, rfl, e, D, fs, .ref (C 0), .ref (C 0), b0, rfl, (fun u h => h), hx, hi, hk 0 _ _ rfl rfl, .ref e, rfl, e, D, fs, .ref (C 1), .ref (C 1), b1, rfl, (fun u h => h), hx, hi, hk 1 _ _ rfl rfl, .ref e, rfl, e, D, fs, .ref (C 2), .ref (C 2), b2, rfl, (fun u h => h), hx, hi, hk 2 _ _ rfl rfl, by show 3 ≤ sizeLine; decide, fun l1 n1 => ?_⟩
    have s1 := Same.upd (o := .lst [.bl b0, .bl b1, .bl b2]) n1
    have e1 : upd H l1 (.lst [.bl b0, .bl b1, .bl b2]) l1 = some (.lst [.bl b0, .bl b1, .bl b2]) := upd_same
    have hx1 := exc_same hx s1
    change (_ : Hp → Prop) (upd H l1 (.lst [.bl b0, .bl b1, .bl b2]))
    generalize upd H l1 (.lst [.bl b0, .bl b1, .bl b2]) = H1 at s1 e1 hx1 ⊢
    refine ⟨.ref l1, rfl, .ref e, rfl, e, D, fs, .ref (C 3), .ref (C 3), b3, rfl, (fun u h => h), hx1, hi, hk 3 _ _ rfl rfl, .ref e, rfl, e, D, fs, .ref (C 4), .ref (C 4), b4, rfl, (fun u h => h), hx1, hi, hk 4 _ _ rfl rfl, .ref e, rfl, e, D, fs, .ref (C 5), .ref (C 5), b5, rfl, (fun u h => h), hx1, hi, hk 5 _ _ rfl rfl, by show 3 ≤ sizeLine; decide, fun t1 nt1 => ?_⟩
    have u1 := Same.upd (o := .lst [.bl b3, .bl b4, .bl b5]) nt1
    refine ⟨l1, t1, _, _, rfl, rfl, u1 _ _ e1, upd_same, by show 6 ≤ sizeLine; decide, fun l2 n2 => ?_⟩
    have s2 := (s1.trans u1).trans (Same.upd (o := .lst [.bl b0, .bl b1, .bl b2, .bl b3, .bl b4, .bl b5]) n2)
    have e2 : upd (upd H1 t1 (.lst [.bl b3, .bl b4, .bl b5])) l2 (.lst [.bl b0, .bl b1, .bl b2, .bl b3, .bl b4, .bl b5]) l2 = some (.lst [.bl b0, .bl b1, .bl b2, .bl b3, .bl b4, .bl b5]) := upd_same
    have hx2 := exc_same hx s2
    change (_ : Hp → Prop) (upd (upd H1 t1 (.lst [.bl b3, .bl b4, .bl b5])) l2 (.lst [.bl b0, .bl b1, .bl b2, .bl b3, .bl b4, .bl b5]))
    generalize upd (upd H1 t1 (.lst [.bl b3, .bl b4, .bl b5])) l2 (.lst [.bl b0, .bl b1, .bl b2, .bl b3, .bl b4, .bl b5]) = H2 at s2 e2 hx2 ⊢
    refine ⟨.ref l2, rfl, .ref e, rfl, e, D, fs, .ref (C 6), .ref (C 6), b6, rfl, (fun u h => h), hx2, hi, hk 6 _ _ rfl rfl, .ref e, rfl, e, D, fs, .ref (C 7), .ref (C 7), b7, rfl, (fun u h => h), hx2, hi, hk 7 _ _ rfl rfl, by show 2 ≤ sizeLine; decide, fun t2 nt2 => ?_⟩
    have u2 := Same.upd (o := .lst [.bl b6, .bl b7]) nt2
    refine ⟨l2, t2, _, _, rfl, rfl, u2 _ _ e2, upd_same, by show 8 ≤ sizeLine; decide, fun l3 n3 => ?_⟩
    have s3 := (s2.trans u2).trans (Same.upd (o := .lst [.bl b0, .bl b1, .bl b2, .bl b3, .bl b4, .bl b5, .bl b6, .bl b7]) n3)
    have e3 : upd (upd H2 t2 (.lst [.bl b6, .bl b7])) l3 (.lst [.bl b0, .bl b1, .bl b2, .bl b3, .bl b4, .bl b5, .bl b6, .bl b7]) l3 = some (.lst [.bl b0, .bl b1, .bl b2, .bl b3, .bl b4, .bl b5, .bl b6, .bl b7]) := upd_same
    have hx3 := exc_same hx s3
    change (_ : Hp → Prop) (upd (upd H2 t2 (.lst [.bl b6, .bl b7])) l3 (.lst [.bl b0, .bl b1, .bl b2, .bl b3, .bl b4, .bl b5, .bl b6, .bl b7]))
    generalize upd (upd H2 t2 (.lst [.bl b6, .bl b7])) l3 (.lst [.bl b0, .bl b1, .bl b2, .bl b3, .bl b4, .bl b5, .bl b6, .bl b7]) = H3 at s3 e3 hx3 ⊢
    refine ⟨.ref l3, rfl, .ref e, rfl, e, D, fs, .ref (C 8), .ref (C 8), b8, rfl, (fun u h => h), hx3, hi, hk 8 _ _ rfl rfl, .ref e, rfl, e, D, fs, .ref (C 9), .ref (C 9), b9, rfl, (fun u h => h), hx3, hi, hk 9 _ _ rfl rfl, .ref e, rfl, e, D, fs, .ref (C 10), .ref (C 10), b10, rfl, (fun u h => h), hx3, hi, hk 10 _ _ rfl rfl, by show 3 ≤ sizeLine; decide, fun t3 nt3 => ?_⟩
    have u3 := Same.upd (o := .lst [.bl b8, .bl b9, .bl b10]) nt3
    refine ⟨l3, t3, _, _, rfl, rfl, u3 _ _ e3, upd_same, by show 11 ≤ sizeLine; decide, fun l4 n4 => ?_⟩
    have s4 := (s3.trans u3).trans (Same.upd (o := .lst [.bl b0, .bl b1, .bl b2, .bl b3, .bl b4, .bl b5, .bl b6, .bl b7, .bl b8, .bl b9, .bl b10]) n4)
    have e4 : upd (upd H3 t3 (.lst [.bl b8, .bl b9, .bl b10])) l4 (.lst [.bl b0, .bl b1, .bl b2, .bl b3, .bl b4, .bl b5, .bl b6, .bl b7, .bl b8, .bl b9, .bl b10]) l4 = some (.lst [.bl b0, .bl b1, .bl b2, .bl b3, .bl b4, .bl b5, .bl b6, .bl b7, .bl b8, .bl b9, .bl b10]) := upd_same
    have hx4 := exc_same hx s4
    change (_ : Hp → Prop) (upd (upd H3 t3 (.lst [.bl b8, .bl b9, .bl b10])) l4 (.lst [.bl b0, .bl b1, .bl b2, .bl b3, .bl b4, .bl b5, .bl b6, .bl b7, .bl b8, .bl b9, .bl b10]))
    generalize upd (upd H3 t3 (.lst [.bl b8, .bl b9, .bl b10])) l4 (.lst [.bl b0, .bl b1, .bl b2, .bl b3, .bl b4, .bl b5, .bl b6, .bl b7, .bl b8, .bl b9, .bl b10]) = H4 at s4 e4 hx4 ⊢
    refine ⟨.ref l4, rfl, .ref e, rfl, e, D, fs, .ref (C 11), .ref (C 11), b11, rfl, (fun u h => h), hx4, hi, hk 11 _ _ rfl rfl, .ref e, rfl, e, D, fs, .ref (C 12), .ref (C 12), b12, rfl, (fun u h => h), hx4, hi, hk 12 _ _ rfl rfl, .ref e, rfl, e, D, fs, .ref (C 13), .ref (C 13), b13, rfl, (fun u h => h), hx4, hi, hk 13 _ _ rfl rfl, by show 3 ≤ sizeLine; decide, fun t4 nt4 => ?_⟩
    have u4 := Same.upd (o := .lst [.bl b11, .bl b12, .bl b13]) nt4
    refine ⟨l4, t4, _, _, rfl, rfl, u4 _ _ e4, upd_same, by show 14 ≤ sizeLine; decide, fun l5 n5 => ?_⟩
    have s5 := (s4.trans u4).trans (Same.upd (o := .lst [.bl b0, .bl b1, .bl b2, .bl b3, .bl b4, .bl b5, .bl b6, .bl b7, .bl b8, .bl b9, .bl b10, .bl b11, .bl b12, .bl b13]) n5)
    have e5 : upd (upd H4 t4 (.lst [.bl b11, .bl b12, .bl b13])) l5 (.lst [.bl b0, .bl b1, .bl b2, .bl b3, .bl b4, .bl b5, .bl b6, .bl b7, .bl b8, .bl b9, .bl b10, .bl b11, .bl b12, .bl b13]) l5 = some (.lst [.bl b0, .bl b1, .bl b2, .bl b3, .bl b4, .bl b5, .bl b6, .bl b7, .bl b8, .bl b9, .bl b10, .bl b11, .bl b12, .bl b13]) := upd_same
    have hx5 := exc_same hx s5
    change (_ : Hp → Prop) (upd (upd H4 t4 (.lst [.bl b11, .bl b12, .bl b13])) l5 (.lst [.bl b0, .bl b1, .bl b2, .bl b3, .bl b4, .bl b5, .bl b6, .bl b7, .bl b8, .bl b9, .bl b10, .bl b11, .bl b12, .bl b13]))
    generalize upd (upd H4 t4 (.lst [.bl b11, .bl b12, .bl b13])) l5 (.lst [.bl b0, .bl b1, .bl b2, .bl b3, .bl b4, .bl b5, .bl b6, .bl b7, .bl b8, .bl b9, .bl b10, .bl b11, .bl b12, .bl b13]) = H5 at s5 e5 hx5 ⊢
    obtain ⟨bs, eb⟩ : ∃ bs : List Bool, [b0, b1, b2, b3, b4, b5, b6, b7, b8, b9, b10, b11, b12, b13] = bs := ⟨_, rfl⟩
    rw [eb] at hk q
    have eL : H5 l5 = some (.lst (bs.map V.bl)) := by rw [e5, ← eb]; rfl
    have lb : bs.length = 14 := by rw [← eb]; rfl
    refine ⟨.ref l5, rfl, l5, _, rfl, SqL.of eL, fun D nD => ?_⟩
    exact enum_end eL nD s5 (fun p H' sm np ep => q p H' sm np (by rw [ep, lb]; rfl)) (by omega)
theorem ok_blt {f : Addr} {fd : FuncData} (F : Fun K "_law_built_in_kinds" "_law_built_in_kinds" sBlt f fd) (T : Names6 mg) (n0 : mg "ZeroDivisionError" = none) (n1 : mg "RuntimeError" = none) (n2 : mg "ValueError" = none) (n3 : mg "LookupError" = none) (n4 : mg "KeyError" = none) (n5 : mg "IndexError" = none) (n6 : mg "OverflowError" = none) (n7 : mg "NotImplementedError" = none) : FnOk P w K mg base CX0 1 f fd ["e"] (spKinds K bltL) := by
  refine F.ok scBlt (fun vs H Q E h => ?_) (fun cdv A outer s H vs Q E hr h => ?_)
  · obtain ⟨e, D, fs, bs, rfl, _⟩ := h
    rfl
  · obtain ⟨e, D, fs, bs, rfl, hx, hi, hl, hk, q⟩ := h
    refine ⟨_, (pss_cons (ps_set (i := 1) scBlt.nd rfl (.inl rfl) (pe_lst (pa_cons (pe_callB EX.call_isE (by rfl) T.isinstance (by decide +kernel) (pa_cons (pv 0) (pa_cons (pe_bltn (v := .ty "ZeroDivisionError") (by rfl) n0 (by decide +kernel) rfl) pa_nil))) (pa_cons (pe_callB EX.call_isE (by rfl) T.isinstance (by decide +kernel) (pa_cons (pv 0) (pa_cons (pe_bltn (v := .ty "RuntimeError") (by rfl) n1 (by decide +kernel) rfl) pa_nil))) (pa_cons (pe_callB EX.call_isE (by rfl) T.isinstance (by decide +kernel) (pa_cons (pv 0) (pa_cons (pe_bltn (v := .ty "ValueError") (by rfl) n2 (by decide +kernel) rfl) pa_nil))) pa_nil)))))
      (pss_cons (ps_set (i := 1) scBlt.nd rfl (.inl rfl) (pe_op op_cat (pv 1) (pe_lst (pa_cons (pe_callB EX.call_isE (by rfl) T.isinstance (by decide +kernel) (pa_cons (pv 0) (pa_cons (pe_bltn (v := .ty "LookupError") (by rfl) n3 (by decide +kernel) rfl) pa_nil))) (pa_cons (pe_callB EX.call_isE (by rfl) T.isinstance (by decide +kernel) (pa_cons (pv 0) (pa_cons (pe_bltn (v := .ty "KeyError") (by rfl) n4 (by decide +kernel) rfl) pa_nil))) (pa_cons (pe_callB EX.call_isE (by rfl) T.isinstance (by decide +kernel) (pa_cons (pv 0) (pa_cons (pe_bltn (v := .ty "IndexError") (by rfl) n5 (by decide +kernel) rfl) pa_nil))) pa_nil))))))
      (pss_cons (ps_set (i := 1) scBlt.nd rfl (.inl rfl) (pe_op op_cat (pv 1) (pe_lst (pa_cons (pe_callB EX.call_isE (by rfl) T.isinstance (by decide +kernel) (pa_cons (pv 0) (pa_cons (pe_bltn (v := .ty "OverflowError") (by rfl) n6 (by decide +kernel) rfl) pa_nil))) (pa_cons (pe_callB EX.call_isE (by rfl) T.isinstance (by decide +kernel) (pa_cons (pv 0) (pa_cons (pe_bltn (v := .ty "NotImplementedError") (by rfl) n7 (by decide +kernel) rfl) pa_nil))) pa_nil)))))
      (pss_one (ps_ret (pe_lc (own := [("index", 2), ("matches", 3)]) (g := gTup K 2 (gCons (gName 2) (gCons (gName 3) gNil))) rfl scBlt.nd (pi_enum (by rfl) T.enumerate (pa_cons (pv 1) pa_nil)) (blkOk_by (N := ["e", "found", "index", "matches"]) (sc := defScope sBlt) (own := [("index", 2), ("matches", 3)]) (by decide +kernel)) (fun _ _ _ _ _ => (pg_tup rfl (pgs_cons (pg_name (i := 2) scBlt.nd rfl (.inl rfl) (Or.inr rfl)) (pgs_cons (pg_name (i := 3) scBlt.nd rfl (.inl rfl) (Or.inr rfl)) pgs_nil)))) (fun _ _ _ _ _ => (pts_one (pt_val (pv 3)))) (fun _ _ _ _ _ => (pv 2)))))))), ?_⟩
    obtain ⟨b0, b1, b2, b3, b4, b5, b6, b7, rfl⟩ : ∃ b0 b1 b2 b3 b4 b5 b6 b7, bs = [b0, b1, b2, b3, b4, b5, b6, b7] := by
      match bs, hl with
      | [b0, b1, b2, b3, b4, b5, b6, b7], _ => exact ⟨_, _, _, _, _, _, _, _, rfl⟩
    refine ⟨.ref e, rfl, e, D, fs, .ty "ZeroDivisionError", .type "ZeroDivisionError", b0, rfl, (fun u h => h), hx, hi, hk 0 _ _ rfl rfl, .ref e, rfl, e, D, fs, .ty "RuntimeError", .type "RuntimeError", b1, rfl, (fun u h => h), hx, hi, hk 1 _ _ rfl rfl, .ref e, rfl, e, D, fs, .ty "ValueError", .type "ValueError", b2, rfl, (fun u h => h), hx, hi, hk 2 _ _ rfl rfl, by show 3 ≤ sizeLine; decide, fun l1 n1 => ?_⟩
    have s1 := Same.upd (o := .lst [.bl b0, .bl b1, .bl b2]) n1
    have e1 : upd H l1 (.lst [.bl b0, .bl b1, .bl b2]) l1 = some (.lst [.bl b0, .bl b1, .bl b2]) := upd_same
    have hx1 := exc_same hx s1
    change (_ : Hp → Prop) (upd H l1 (.lst [.bl b0, .bl b1, .bl b2]))
    generalize upd H l1 (.lst [.bl b0, .bl b1, .bl b2]) = H1 at s1 e1 hx1 ⊢
    refine ⟨.ref l1, rfl, .ref e, rfl, e, D, fs, .ty "LookupError", .type "LookupError", b3, rfl, (fun u h => h), hx1, hi, hk 3 _ _ rfl rfl, .ref e, rfl, e, D, fs, .ty "KeyError", .type "KeyError", b4, rfl, (fun u h => h), hx1, hi, hk 4 _ _ rfl rfl, .ref e, rfl, e, D, fs, .ty "IndexError", .type "IndexError", b5, rfl, (fun u h => h), hx1, hi, hk 5 _ _ rfl rfl, by show 3 ≤ sizeLine; decide, fun t1 nt1 => ?_⟩
    have u1 := Same.upd (o := .lst [.bl b3, .bl b4, .bl b5]) nt1
    refine ⟨l1, t1, _, _, rfl, rfl, u1 _ _ e1, upd_same, by show 6 ≤ sizeLine; decide, fun l2 n2 => ?_⟩
    have s2 := (s1.trans u1).trans (Same.upd (o := .lst [.bl b0, .bl b1, .bl b2, .bl b3, .bl b4, .bl b5]) n2)
    have e2 : upd (upd H1 t1 (.lst [.bl b3, .bl b4, .bl b5])) l2 (.lst [.bl b0, .bl b1, .bl b2, .bl b3, .bl b4, .bl b5]) l2 = some (.lst [.bl b0, .bl b1, .bl b2, .bl b3, .bl b4, .bl b5]) := upd_same
    have hx2 := exc_same hx s2
    change (_ : Hp → Prop) (upd (upd H1 t1 (.lst [.bl b3, .bl b4, .bl b5])) l2 (.lst [.bl b0, .bl b1, .bl b2, .bl b3, .bl b4, .bl b5]))
    generalize upd (upd H1 t1 (.lst [.bl b3, .bl b4, .bl b5])) l2 (.lst [.bl b0, .bl b1, .bl b2, .bl b3, .bl b4, .bl b5]) = H2 at s2 e2 hx2 ⊢
    refine ⟨.ref l2, rfl, .ref e, rfl, e, D, fs, .ty "OverflowError", .type "OverflowError", b6, rfl, (fun u h => h), hx2, hi, hk 6 _ _ rfl rfl, .ref e, rfl, e, D, fs, .ty "NotImplementedError", .type "NotImplementedError", b7, rfl, (fun u h => h), hx2, hi, hk 7 _ _ rfl rfl, by show 2 ≤ sizeLine; decide, fun t2 nt2 => ?_⟩
    have u2 := Same.upd (o := .lst [.bl b6, .bl b7]) nt2
    refine ⟨l2, t2, _, _, rfl, rfl, u2 _ _ e2, upd_same, by show 8 ≤ sizeLine; decide, fun l3 n3 => ?_⟩
    have s3 := (s2.trans u2).trans (Same.upd (o := .lst [.bl b0, .bl b1, .bl b2, .bl b3, .bl b4, .bl b5, .bl b6, .bl b7]) n3)
    have e3 : upd (upd H2 t2 (.lst [.bl b6, .bl b7])) l3 (.lst [.bl b0, .bl b1, .bl b2, .bl b3, .bl b4, .bl b5, .bl b6, .bl b7]) l3 = some (.lst [.bl b0, .bl b1, .bl b2, .bl b3, .bl b4, .bl b5, .bl b6, .bl b7]) := upd_same
    have hx3 := exc_same hx s3
    change (_ : Hp → Prop) (upd (upd H2 t2 (.lst [.bl b6, .bl b7])) l3 (.lst [.bl b0, .bl b1, .bl b2, .bl b3, .bl b4, .bl b5, .bl b6, .bl b7]))
    generalize upd (upd H2 t2 (.lst [.bl b6, .bl b7])) l3 (.lst [.bl b0, .bl b1, .bl b2, .bl b3, .bl b4, .bl b5, .bl b6, .bl b7]) = H3 at s3 e3 hx3 ⊢
    obtain ⟨bs, eb⟩ : ∃ bs : List Bool, [b0, b1, b2, b3, b4, b5, b6, b7] = bs := ⟨_, rfl⟩
    rw [eb] at hk q
    have eL : H3 l3 = some (.lst (bs.map V.bl)) := by rw [e3, ← eb]; rfl
    have lb : bs.length = 8 := by rw [← eb]; rfl
    refine ⟨.ref l3, rfl, l3, _, rfl, SqL.of eL, fun D nD => ?_⟩
    exact enum_end eL nD s3 (fun p H' sm np ep => q p H' sm np (by rw [ep, lb]; rfl)) (by omega)
end
end Z

set_option Elab.async false
set_option linter.all false
set_option maxRecDepth 100000
set_option maxHeartbeats 4000000
namespace Z
open PySem PySem.Spec PyProof.Rows L2 GG EX
theorem same_tup {K : PySem.W.Frag} {H H' : Hp} {a : Addr} {xs : List V} (e : Same H H') (h : SqT K H a xs) : SqT K H' a xs := by
  rcases h with (h | ⟨o, h⟩) | h
  · exact .inl (.inl (e _ _ h))
  · exact .inl (.inr ⟨o, e _ _ h⟩)
  · exact .inr h
theorem same_lst {K : PySem.W.Frag} {H H' : Hp} {a : Addr} {xs : List V} (e : Same H H') (h : SqL K H a xs) : SqL K H' a xs := by
  rcases h with (h | ⟨o, h⟩) | h
  · exact .inl (.inl (e _ _ h))
  · exact .inl (.inr ⟨o, e _ _ h⟩)
  · exact .inr h
mutual
theorem dp_same {K : PySem.W.Frag} {H H' : Hp} (s : Same H H') : ∀ {v : V} {d : PyData}, Dp K H v d → Dp K H' v d
  | _, _, .non => .non
  | _, _, .bl b => .bl b
  | _, _, .int i => .int i
  | _, _, .str x => .str x
  | _, _, .lst h a => .lst (same_lst s h) (dpAll_same s a)
  | _, _, .tup h a => .tup (same_tup s h) (dpAll_same s a)
theorem dpAll_same {K : PySem.W.Frag} {H H' : Hp} (s : Same H H') : ∀ {vs : List V} {ds : List PyData}, DpAll K H vs ds → DpAll K H' vs ds
  | _, _, .nil => .nil
  | _, _, .cons a r => .cons (dp_same s a) (dpAll_same s r)
end
theorem nats_ints (ns : List Nat) : nats ns = (ns.map fun n : Nat => (n : Int)).map V.int := by
  unfold nats
  rw [List.map_map]
  rfl
theorem lay_nats (ns : List Nat) : (PyData.list ((ns.map fun n : Nat => (n : Int)).map PyData.int)).canLay0 = true := (Bool.and_eq_true_iff.mp (PySem.W.ke_shaped_ints _)).1
theorem dp_nats {K : PySem.W.Frag} {H : Hp} {p : Addr} {ns : List Nat} (h : SqL K H p (nats ns)) : Dp K H (.ref p) (.list ((ns.map fun n : Nat => (n : Int)).map PyData.int)) := .lst (by rw [nats_ints] at h; exact h) (dpInts _)
theorem eqv_nats (ns : List Nat) : PyData.eqv (.list ((ns.map fun n : Nat => (n : Int)).map PyData.int)) (.list ((ns.map fun n : Nat => (n : Int)).map PyData.int)) = true := SeqAt.eqv_refl _ (lay_nats ns)
/-- an exception's kinds are such -/
structure Kinds (K : PySem.W.Frag) (C : Nat → Addr) (D : Addr) (i : Nat) (bs : List Nat) : Prop where
  is : ExIs K D
  own : ∃ ks : List Bool, ks.length = (ownL C).length ∧ (∀ (j : Nat) (c : V × Value) (b : Bool), (ownL C)[j]? = some c → ks[j]? = some b → PySem.W.kitOne K (.ref D) c.2 = some b) ∧ idx ks (ownL C).length = [i]
  blt : ∃ ks : List Bool, ks.length = bltL.length ∧ (∀ (j : Nat) (c : V × Value) (b : Bool), bltL[j]? = some c → ks[j]? = some b → PySem.W.kitOne K (.ref D) c.2 = some b) ∧ idx ks bltL.length = bs
section
variable {P : Program} {w : World} {K : PySem.W.Frag} {mg : Str → Option Value} {base : Heap}
def spCor (K : PySem.W.Frag) (C : Nat → Addr) : Sp := fun vs H Q _ => ∃ (ex md vl bl e1 e2 D : Addr) (fv : V) (d : PyData) (i : Nat) (bs : List Nat) (f1 f2 : List (Str × V)), vs = [.ref ex, .ref md, .ref vl, fv] ∧ H ex = some (.tup [.int (i : Nat), .ref bl]) ∧ H bl = some (.lst (nats bs)) ∧
  H md = some (.lst [.ref e1, .ref e2]) ∧ IsExc H e1 D f1 ∧ IsExc H e2 D f2 ∧ Kinds K C D i bs ∧ H vl = some (.lst [fv, fv]) ∧ Dp K H fv d ∧ Shows (.list [d, d]) 50 8000 ∧ ∀ H', Same H H' → Q (.bl true) H'
theorem scCor : FnScope ["expected", "made", "values", "field", "index", "built_in", "e"] ["expected", "made", "values", "field"] (defScope sCor) := ⟨rfl, rfl, rfl, by decide +kernel, rfl, by decide +kernel, by decide +kernel⟩
theorem ok_cor {f fO fB : Addr} {fd dO dB : FuncData} {C : Nat → Addr} (F : Fun K "_law_correct" "_law_correct" sCor f fd) (T : Names6 mg)
    (GO : FnOk P w K mg base CX0 1 fO dO ["e"] (spKinds K (ownL C))) (PO : Def K mg "_law_own_kinds" fO dO ["e"]) (GB : FnOk P w K mg base CX0 1 fB dB ["e"] (spKinds K bltL)) (PB : Def K mg "_law_built_in_kinds" fB dB ["e"]) :
    FnG P w K mg base 2 f fd ["expected", "made", "values", "field"] (spCor K C) := by
  refine fnG_of F scCor (fun vs H Q E h => ?_) (fun cdv A outer s H vs Q E hg hr h => ?_)
  · obtain ⟨ex, md, vl, bl, e1, e2, D, fv, d, i, bs, f1, f2, rfl, _⟩ := h
    rfl
  · obtain ⟨ex, md, vl, bl, e1, e2, D, fv, d, i, bs, f1, f2, rfl, hex, hbl, hmd, x1, x2, hk, hvl, hd, hsh, q⟩ := h
    have hu : A.units + 3 + 64 < cLine := hr.units
    have cr := call_repr (X := (cxOf CX0 P w K mg base ["expected", "made", "values", "field", "index", "built_in", "e"] "_law_correct" (defScope sCor) f cdv A outer s H E).nox) hg hr
    refine ⟨_, (pss_cons (ps_asg (pv 0) (pg_tup rfl (pgs_cons (pg_name (i := 4) scCor.nd rfl (.inl rfl)) (pgs_cons (pg_name (i := 5) scCor.nd rfl (.inl rfl)) pgs_nil))))
      (pss_cons (ps_for PassesOwn.never rfl (pi_list (pv 1)) (pg_name (i := 6) scCor.nd rfl (.inl rfl)) (pss_one (ps_if (PW.pt (pw_or (pt_cmpR (op_neD hu) (pe_call GO (hr.mono (by decide)) (by rfl) PO.is PO.kp PO.bi .nil pass0 (pa_cons (pv 6) pa_nil)) (pe_lst (pa_cons (pv 4) pa_nil)) (nomark _)) (pw_or1 (pt_cmpR (op_neD hu) (pe_call GB (hr.mono (by decide)) (by rfl) PB.is PB.kp PB.bi .nil pass0 (pa_cons (pv 6) pa_nil)) (pv 5) (nomark _))))) (pss_one (ps_ret pe_bl)) pss_nil)))
      (pss_one (ps_ret (pe_cmpR op_eq (pe_callB cr (by rfl) T.repr (by decide +kernel) (pa_cons (pv 2) pa_nil)) (pe_callB cr (by rfl) T.repr (by decide +kernel) (pa_cons (pe_lst (pa_cons (pv 3) (pa_cons (pv 3) pa_nil))) pa_nil)) (nomark _)))))), ?_⟩
    obtain ⟨ks, lks, hks, iks⟩ := hk.own
    obtain ⟨ls, lls, hls, ils⟩ := hk.blt
    refine ⟨.ref ex, rfl, ex, _, rfl, tup_of hex, rfl, _, _, rfl, _, _, rfl, rfl, ?_⟩
    refine ⟨.ref md, rfl, md, rfl, ⟨_, SqL.of hmd⟩, for_list (K := K) (a := md) (xs := [.ref e1, .ref e2]) (fun j σ H' => ∃ v6 : Option V, σ = [some (V.ref ex), some (V.ref md), some (V.ref vl), some fv, some (V.int (i : Nat)), some (V.ref bl), v6] ∧ Same H H')
      ⟨_, rfl, Same.refl _⟩ (fun j σ H' _ ⟨_, _, s⟩ => SqL.of (s _ _ hmd)) ?_ ?_⟩
    · rintro j x σ H' hx ⟨v6, rfl, s1⟩
      obtain ⟨e, fs, rfl, xe⟩ : ∃ (e : Addr) (fs : List (Str × V)), x = .ref e ∧ IsExc H e D fs := by
        have hm := List.mem_of_getElem? hx
        simp only [List.mem_cons, List.not_mem_nil, or_false] at hm
        rcases hm with rfl | rfl
        · exact ⟨e1, f1, rfl, x1⟩
        · exact ⟨e2, f2, rfl, x2⟩
      refine ⟨.ref e, rfl, e, D, fs, ks, rfl, exc_same xe s1, hk.is, lks, hks, fun p H2 s2 np ep => ?_⟩
      rw [iks] at ep
      refine ⟨_, rfl, by show 1 ≤ sizeLine; decide, fun t nt => ?_⟩
      have s3 := Same.upd (o := .lst [.int (i : Nat)]) nt
      refine ⟨_, _, dp_nats (SqL.of (s3 _ _ ep)), dp_nats (ns := [i]) (SqL.of upd_same), PySem.W.ke_shaped_ints _, PySem.W.ke_shaped_ints _, _, rfl, ?_⟩
      rw [eqv_nats]
      refine iteF ?_
      have s13 := (s1.trans s2).trans s3
      refine ⟨.ref e, rfl, e, D, fs, ls, rfl, exc_same xe s13, hk.is, lls, hls, fun p2 H4 s4 np2 ep2 => ?_⟩
      rw [ils] at ep2
      refine ⟨.ref bl, rfl, _, _, dp_nats (SqL.of ep2), dp_nats (SqL.of ((s13.trans s4) _ _ hbl)), PySem.W.ke_shaped_ints _, PySem.W.ke_shaped_ints _, _, rfl, ?_⟩
      rw [eqv_nats]
      exact iteF ⟨_, rfl, s13.trans s4⟩
    · rintro σ H' ⟨v6, rfl, s1⟩
      refine ⟨.ref vl, rfl, vl, _, rfl, .lst (SqL.of (s1 _ _ hvl)) (.cons (dp_same s1 hd) (.cons (dp_same s1 hd) .nil)), hsh, ?_⟩
      refine ⟨_, rfl, _, rfl, by show 2 ≤ sizeLine; decide, fun t nt => ?_⟩
      have s2 := Same.upd (o := .lst [fv, fv]) nt
      have s12 := s1.trans s2
      refine ⟨t, _, rfl, .lst (SqL.of upd_same) (.cons (dp_same s12 hd) (.cons (dp_same s12 hd) .nil)), hsh, rfl, ?_⟩
      rw [decide_eq_true rfl]
      exact q _ s12
end
end Z

set_option Elab.async false
set_option linter.all false
set_option maxRecDepth 100000
set_option maxHeartbeats 4000000
namespace Z
open PySem PySem.Spec PyProof.Rows L2 GG EX
theorem made_read {K : PySem.W.Frag} {C : Addr} {f : Str} {y : V} {H : Hp} {R : Addr → Hp → Prop} (h : ∀ a H2, Same H H2 → IsExc H2 a C [(f, y)] → R a H2) :
    ∀ a, H a = none → spInit K C f [.ref a, y] (upd H a (exo a C none)) (fun v H2 => v = .non ∧ R a H2) (fun _ _ _ => False) := by
  intro a na
  refine ⟨a, y, rfl, upd_same, fun dx n ne => ⟨rfl, h a _ (fun b o e => ?_) (.inr ⟨dx, upd_same, by rw [upd_ne ne, upd_same]⟩)⟩⟩
  have nb : b ≠ a := ne_of_none e na
  have nd : b ≠ dx := ne_of_none e (by rw [upd_ne ne] at n; exact n)
  rw [upd_ne nb, upd_ne nd, upd_ne nb]
  exact e
theorem lk (f : Str) (y : V) : [(f, y)].lookup f = some y := by simp [List.lookup]
section
variable {P : Program} {w : World} {K : PySem.W.Frag} {mg : Str → Option Value} {base : Heap}
def spNum (K : PySem.W.Frag) : Sp := fun vs H Q _ => ∃ (v0 : V) (d0 : PyData), vs = [v0] ∧ Dp K H v0 d0 ∧ Shows (.list [d0, d0]) 50 8000 ∧ ∀ H', Same H H' → Q (.bl true) H'
theorem scNum : FnScope ["count", "a", "b"] ["count"] (defScope sNum) := ⟨rfl, rfl, rfl, by decide +kernel, rfl, by decide +kernel, by decide +kernel⟩
theorem ok_num {f fC : Addr} {fd dC : FuncData} {C : Nat → Addr} (F : Fun K "_law_numbers_correct" "_law_numbers_correct" sNum f fd) (GC : FnG P w K mg base 2 fC dC ["expected", "made", "values", "field"] (spCor K C)) (PC : Def K mg "_law_correct" fC dC ["expected", "made", "values", "field"])
    (c2 : Cls P w K mg base "AlreadyEnded" "tosses" (C 2)) (k2 : Kinds K C (C 2) 2 [1]) (c8 : Cls P w K mg base "UnknownCheckpoint" "number" (C 8)) (k8 : Kinds K C (C 8) 8 [3]) (c9 : Cls P w K mg base "ParseError" "number" (C 9)) (k9 : Kinds K C (C 9) 9 [3]) (c12 : Cls P w K mg base "LimitExceeded" "limit" (C 12)) (k12 : Kinds K C (C 12) 12 [6]) (c13 : Cls P w K mg base "StepLimitExceeded" "limit" (C 13)) (k13 : Kinds K C (C 13) 13 [6]) : FnG P w K mg base 3 f fd ["count"] (spNum K) := by
  refine fnG_of F scNum (fun vs H Q E h => ?_) (fun cdv A outer s H vs Q E hg hr h => ?_)
  · obtain ⟨v0, d0, rfl, _⟩ := h
    rfl
  · obtain ⟨v0, d0, rfl, hd0, hs0, q⟩ := h
    obtain ⟨fI2, fd2, M2, F2, B2, K2⟩ := c2.ex
    obtain ⟨fI8, fd8, M8, F8, B8, K8⟩ := c8.ex
    obtain ⟨fI9, fd9, M9, F9, B9, K9⟩ := c9.ex
    obtain ⟨fI12, fd12, M12, F12, B12, K12⟩ := c12.ex
    obtain ⟨fI13, fd13, M13, F13, B13, K13⟩ := c13.ex
    refine ⟨_, (pss_cons (ps_par (i := 1) (j := 2) (by rfl) scNum.nd rfl rfl (by decide) rfl rfl (pa_cons (pe_made M2.plain c2.kC F2 (hr.mono (by decide)) B2 pass0 (by rfl) c2.g (pa_cons (pv 0) pa_nil)) (pa_cons (pe_madeK M2 c2.kC F2 (hr.mono (by decide)) K2 pass0 (by rfl) c2.g (pk_cons (pv 0) pk_nil)) pa_nil)) (by rfl))
      (pss_cons (ps_if (pt_not (pt_val (pe_callG GC hg (hr.mono (by decide)) (by rfl) PC.is PC.kp PC.bi (pa_cons (pe_tup (pa_cons pe_int (pa_cons (pe_lst (pa_cons pe_int pa_nil)) pa_nil))) (pa_cons (pe_lst (pa_cons (pv 1) (pa_cons (pv 2) pa_nil))) (pa_cons (pe_lst (pa_cons (pe_exf (pv 1)) (pa_cons (pe_exf (pv 2)) pa_nil))) (pa_cons (pv 0) pa_nil))))))) (pss_one (ps_ret pe_bl)) pss_nil)
      (pss_cons (ps_par (i := 1) (j := 2) (by rfl) scNum.nd rfl rfl (by decide) rfl rfl (pa_cons (pe_made M8.plain c8.kC F8 (hr.mono (by decide)) B8 pass0 (by rfl) c8.g (pa_cons (pv 0) pa_nil)) (pa_cons (pe_madeK M8 c8.kC F8 (hr.mono (by decide)) K8 pass0 (by rfl) c8.g (pk_cons (pv 0) pk_nil)) pa_nil)) (by rfl))
      (pss_cons (ps_if (pt_not (pt_val (pe_callG GC hg (hr.mono (by decide)) (by rfl) PC.is PC.kp PC.bi (pa_cons (pe_tup (pa_cons pe_int (pa_cons (pe_lst (pa_cons pe_int pa_nil)) pa_nil))) (pa_cons (pe_lst (pa_cons (pv 1) (pa_cons (pv 2) pa_nil))) (pa_cons (pe_lst (pa_cons (pe_exf (pv 1)) (pa_cons (pe_exf (pv 2)) pa_nil))) (pa_cons (pv 0) pa_nil))))))) (pss_one (ps_ret pe_bl)) pss_nil)
      (pss_cons (ps_par (i := 1) (j := 2) (by rfl) scNum.nd rfl rfl (by decide) rfl rfl (pa_cons (pe_made M9.plain c9.kC F9 (hr.mono (by decide)) B9 pass0 (by rfl) c9.g (pa_cons (pv 0) pa_nil)) (pa_cons (pe_madeK M9 c9.kC F9 (hr.mono (by decide)) K9 pass0 (by rfl) c9.g (pk_cons (pv 0) pk_nil)) pa_nil)) (by rfl))
      (pss_cons (ps_if (pt_not (pt_val (pe_callG GC hg (hr.mono (by decide)) (by rfl) PC.is PC.kp PC.bi (pa_cons (pe_tup (pa_cons pe_int (pa_cons (pe_lst (pa_cons pe_int pa_nil)) pa_nil))) (pa_cons (pe_lst (pa_cons (pv 1) (pa_cons (pv 2) pa_nil))) (pa_cons (pe_lst (pa_cons (pe_exf (pv 1)) (pa_cons (pe_exf (pv 2)) pa_nil))) (pa_cons (pv 0) pa_nil))))))) (pss_one (ps_ret pe_bl)) pss_nil)
      (pss_cons (ps_par (i := 1) (j := 2) (by rfl) scNum.nd rfl rfl (by decide) rfl rfl (pa_cons (pe_made M12.plain c12.kC F12 (hr.mono (by decide)) B12 pass0 (by rfl) c12.g (pa_cons (pv 0) pa_nil)) (pa_cons (pe_madeK M12 c12.kC F12 (hr.mono (by decide)) K12 pass0 (by rfl) c12.g (pk_cons (pv 0) pk_nil)) pa_nil)) (by rfl))
      (pss_cons (ps_if (pt_not (pt_val (pe_callG GC hg (hr.mono (by decide)) (by rfl) PC.is PC.kp PC.bi (pa_cons (pe_tup (pa_cons pe_int (pa_cons (pe_lst (pa_cons pe_int pa_nil)) pa_nil))) (pa_cons (pe_lst (pa_cons (pv 1) (pa_cons (pv 2) pa_nil))) (pa_cons (pe_lst (pa_cons (pe_exf (pv 1)) (pa_cons (pe_exf (pv 2)) pa_nil))) (pa_cons (pv 0) pa_nil))))))) (pss_one (ps_ret pe_bl)) pss_nil)
      (pss_cons (ps_par (i := 1) (j := 2) (by rfl) scNum.nd rfl rfl (by decide) rfl rfl (pa_cons (pe_made M13.plain c13.kC F13 (hr.mono (by decide)) B13 pass0 (by rfl) c13.g (pa_cons (pv 0) pa_nil)) (pa_cons (pe_madeK M13 c13.kC F13 (hr.mono (by decide)) K13 pass0 (by rfl) c13.g (pk_cons (pv 0) pk_nil)) pa_nil)) (by rfl))
      (pss_one (ps_ret (pe_callG GC hg (hr.mono (by decide)) (by rfl) PC.is PC.kp PC.bi (pa_cons (pe_tup (pa_cons pe_int (pa_cons (pe_lst (pa_cons pe_int pa_nil)) pa_nil))) (pa_cons (pe_lst (pa_cons (pv 1) (pa_cons (pv 2) pa_nil))) (pa_cons (pe_lst (pa_cons (pe_exf (pv 1)) (pa_cons (pe_exf (pv 2)) pa_nil))) (pa_cons (pv 0) pa_nil)))))))))))))))), ?_⟩
    have t0 : Same H H := Same.refl H
    refine ⟨_, rfl, (by show 1 ≤ 1000; decide), made_read fun a1 G1a sa1 xa1 => ⟨_, rfl, rfl, made_read fun b1 G1b sb1 xb1 => ⟨_, _, rfl, ?_⟩⟩⟩
    have xa1' := exc_same xa1 sb1
    have t1 := (t0.trans sa1).trans sb1
    refine ⟨by show 1 ≤ sizeLine; decide, fun l1 nl1 => ⟨by show 2 ≤ sizeLine; decide, fun e1 ne1 => ⟨.ref a1, rfl, .ref b1, rfl, by show 2 ≤ sizeLine; decide, fun m1 nm1 => ?_⟩⟩⟩
    have u11 := Same.upd (o := .lst [.int 1]) nl1
    have u12 := Same.upd (o := .tup [.int 2, .ref l1]) ne1
    have u13 := Same.upd (o := .lst [.ref a1, .ref b1]) nm1
    have u1 := (u11.trans u12).trans u13
    have el1 := (u12.trans u13) _ _ (upd_same (H := G1b) (a := l1) (o := .lst [.int 1]))
    have ee1 := u13 _ _ (upd_same (a := e1) (o := .tup [.int 2, .ref l1]))
    have em1 : upd (upd (upd G1b l1 (.lst [.int 1])) e1 (.tup [.int 2, .ref l1])) m1 (.lst [.ref a1, .ref b1]) m1 = some (.lst [.ref a1, .ref b1]) := upd_same
    have ya1 := exc_same xa1' u1
    have yb1 := exc_same xb1 u1
    have w1 := t1.trans u1
    clear u11 u12 u13
    generalize upd (upd (upd G1b l1 (.lst [.int 1])) e1 (.tup [.int 2, .ref l1])) m1 (.lst [.ref a1, .ref b1]) = H1 at u1 el1 ee1 em1 ya1 yb1 w1 ⊢
    refine ⟨.ref a1, rfl, a1, C 2, _, v0, rfl, ya1, c2.is, c2.nf, lk _ _, .ref b1, rfl, b1, C 2, _, v0, rfl, yb1, c2.is, c2.nf, lk _ _, by show 2 ≤ sizeLine; decide, fun vl1 nv1 => ?_⟩
    have z1 := Same.upd (o := .lst [v0, v0]) nv1
    have wz1 := w1.trans z1
    refine ⟨_, rfl, e1, m1, vl1, l1, a1, b1, C 2, v0, _, 2, [1], _, _, rfl, z1 _ _ ee1, z1 _ _ el1, z1 _ _ em1, exc_same ya1 z1, exc_same yb1 z1, k2, upd_same, dp_same wz1 hd0, hs0, fun F1 sF1 => ?_⟩
    have t1 := wz1.trans sF1
    refine ⟨true, rfl, iteF ?_⟩
    refine ⟨_, rfl, (by show 1 ≤ 1000; decide), made_read fun a2 G2a sa2 xa2 => ⟨_, rfl, rfl, made_read fun b2 G2b sb2 xb2 => ⟨_, _, rfl, ?_⟩⟩⟩
    have xa2' := exc_same xa2 sb2
    have t2 := (t1.trans sa2).trans sb2
    refine ⟨by show 1 ≤ sizeLine; decide, fun l2 nl2 => ⟨by show 2 ≤ sizeLine; decide, fun e2 ne2 => ⟨.ref a2, rfl, .ref b2, rfl, by show 2 ≤ sizeLine; decide, fun m2 nm2 => ?_⟩⟩⟩
    have u21 := Same.upd (o := .lst [.int 3]) nl2
    have u22 := Same.upd (o := .tup [.int 8, .ref l2]) ne2
    have u23 := Same.upd (o := .lst [.ref a2, .ref b2]) nm2
    have u2 := (u21.trans u22).trans u23
    have el2 := (u22.trans u23) _ _ (upd_same (H := G2b) (a := l2) (o := .lst [.int 3]))
    have ee2 := u23 _ _ (upd_same (a := e2) (o := .tup [.int 8, .ref l2]))
    have em2 : upd (upd (upd G2b l2 (.lst [.int 3])) e2 (.tup [.int 8, .ref l2])) m2 (.lst [.ref a2, .ref b2]) m2 = some (.lst [.ref a2, .ref b2]) := upd_same
    have ya2 := exc_same xa2' u2
    have yb2 := exc_same xb2 u2
    have w2 := t2.trans u2
    clear u21 u22 u23
    generalize upd (upd (upd G2b l2 (.lst [.int 3])) e2 (.tup [.int 8, .ref l2])) m2 (.lst [.ref a2, .ref b2]) = H2 at u2 el2 ee2 em2 ya2 yb2 w2 ⊢
    refine ⟨.ref a2, rfl, a2, C 8, _, v0, rfl, ya2, c8.is, c8.nf, lk _ _, .ref b2, rfl, b2, C 8, _, v0, rfl, yb2, c8.is, c8.nf, lk _ _, by show 2 ≤ sizeLine; decide, fun vl2 nv2 => ?_⟩
    have z2 := Same.upd (o := .lst [v0, v0]) nv2
    have wz2 := w2.trans z2
    refine ⟨_, rfl, e2, m2, vl2, l2, a2, b2, C 8, v0, _, 8, [3], _, _, rfl, z2 _ _ ee2, z2 _ _ el2, z2 _ _ em2, exc_same ya2 z2, exc_same yb2 z2, k8, upd_same, dp_same wz2 hd0, hs0, fun F2 sF2 => ?_⟩
    have t2 := wz2.trans sF2
    refine ⟨true, rfl, iteF ?_⟩
    refine ⟨_, rfl, (by show 1 ≤ 1000; decide), made_read fun a3 G3a sa3 xa3 => ⟨_, rfl, rfl, made_read fun b3 G3b sb3 xb3 => ⟨_, _, rfl, ?_⟩⟩⟩
    have xa3' := exc_same xa3 sb3
    have t3 := (t2.trans sa3).trans sb3
    refine ⟨by show 1 ≤ sizeLine; decide, fun l3 nl3 => ⟨by show 2 ≤ sizeLine; decide, fun e3 ne3 => ⟨.ref a3, rfl, .ref b3, rfl, by show 2 ≤ sizeLine; decide, fun m3 nm3 => ?_⟩⟩⟩
    have u31 := Same.upd (o := .lst [.int 3]) nl3
    have u32 := Same.upd (o := .tup [.int 9, .ref l3]) ne3
    have u33 := Same.upd (o := .lst [.ref a3, .ref b3]) nm3
    have u3 := (u31.trans u32).trans u33
    have el3 := (u32.trans u33) _ _ (upd_same (H := G3b) (a := l3) (o := .lst [.int 3]))
    have ee3 := u33 _ _ (upd_same (a := e3) (o := .tup [.int 9, .ref l3]))
    have em3 : upd (upd (upd G3b l3 (.lst [.int 3])) e3 (.tup [.int 9, .ref l3])) m3 (.lst [.ref a3, .ref b3]) m3 = some (.lst [.ref a3, .ref b3]) := upd_same
    have ya3 := exc_same xa3' u3
    have yb3 := exc_same xb3 u3
    have w3 := t3.trans u3
    clear u31 u32 u33
    generalize upd (upd (upd G3b l3 (.lst [.int 3])) e3 (.tup [.int 9, .ref l3])) m3 (.lst [.ref a3, .ref b3]) = H3 at u3 el3 ee3 em3 ya3 yb3 w3 ⊢
    refine ⟨.ref a3, rfl, a3, C 9, _, v0, rfl, ya3, c9.is, c9.nf, lk _ _, .ref b3, rfl, b3, C 9, _, v0, rfl, yb3, c9.is, c9.nf, lk _ _, by show 2 ≤ sizeLine; decide, fun vl3 nv3 => ?_⟩
    have z3 := Same.upd (o := .lst [v0, v0]) nv3
    have wz3 := w3.trans z3
    refine ⟨_, rfl, e3, m3, vl3, l3, a3, b3, C 9, v0, _, 9, [3], _, _, rfl, z3 _ _ ee3, z3 _ _ el3, z3 _ _ em3, exc_same ya3 z3, exc_same yb3 z3, k9, upd_same, dp_same wz3 hd0, hs0, fun F3 sF3 => ?_⟩
    have t3 := wz3.trans sF3
    refine ⟨true, rfl, iteF ?_⟩
    refine ⟨_, rfl, (by show 1 ≤ 1000; decide), made_read fun a4 G4a sa4 xa4 => ⟨_, rfl, rfl, made_read fun b4 G4b sb4 xb4 => ⟨_, _, rfl, ?_⟩⟩⟩
    have xa4' := exc_same xa4 sb4
    have t4 := (t3.trans sa4).trans sb4
    refine ⟨by show 1 ≤ sizeLine; decide, fun l4 nl4 => ⟨by show 2 ≤ sizeLine; decide, fun e4 ne4 => ⟨.ref a4, rfl, .ref b4, rfl, by show 2 ≤ sizeLine; decide, fun m4 nm4 => ?_⟩⟩⟩
    have u41 := Same.upd (o := .lst [.int 6]) nl4
    have u42 := Same.upd (o := .tup [.int 12, .ref l4]) ne4
    have u43 := Same.upd (o := .lst [.ref a4, .ref b4]) nm4
    have u4 := (u41.trans u42).trans u43
    have el4 := (u42.trans u43) _ _ (upd_same (H := G4b) (a := l4) (o := .lst [.int 6]))
    have ee4 := u43 _ _ (upd_same (a := e4) (o := .tup [.int 12, .ref l4]))
    have em4 : upd (upd (upd G4b l4 (.lst [.int 6])) e4 (.tup [.int 12, .ref l4])) m4 (.lst [.ref a4, .ref b4]) m4 = some (.lst [.ref a4, .ref b4]) := upd_same
    have ya4 := exc_same xa4' u4
    have yb4 := exc_same xb4 u4
    have w4 := t4.trans u4
    clear u41 u42 u43
    generalize upd (upd (upd G4b l4 (.lst [.int 6])) e4 (.tup [.int 12, .ref l4])) m4 (.lst [.ref a4, .ref b4]) = H4 at u4 el4 ee4 em4 ya4 yb4 w4 ⊢
    refine ⟨.ref a4, rfl, a4, C 12, _, v0, rfl, ya4, c12.is, c12.nf, lk _ _, .ref b4, rfl, b4, C 12, _, v0, rfl, yb4, c12.is, c12.nf, lk _ _, by show 2 ≤ sizeLine; decide, fun vl4 nv4 => ?_⟩
    have z4 := Same.upd (o := .lst [v0, v0]) nv4
    have wz4 := w4.trans z4
    refine ⟨_, rfl, e4, m4, vl4, l4, a4, b4, C 12, v0, _, 12, [6], _, _, rfl, z4 _ _ ee4, z4 _ _ el4, z4 _ _ em4, exc_same ya4 z4, exc_same yb4 z4, k12, upd_same, dp_same wz4 hd0, hs0, fun F4 sF4 => ?_⟩
    have t4 := wz4.trans sF4
    refine ⟨true, rfl, iteF ?_⟩
    refine ⟨_, rfl, (by show 1 ≤ 1000; decide), made_read fun a5 G5a sa5 xa5 => ⟨_, rfl, rfl, made_read fun b5 G5b sb5 xb5 => ⟨_, _, rfl, ?_⟩⟩⟩
    have xa5' := exc_same xa5 sb5
    have t5 := (t4.trans sa5).trans sb5
    refine ⟨by show 1 ≤ sizeLine; decide, fun l5 nl5 => ⟨by show 2 ≤ sizeLine; decide, fun e5 ne5 => ⟨.ref a5, rfl, .ref b5, rfl, by show 2 ≤ sizeLine; decide, fun m5 nm5 => ?_⟩⟩⟩
    have u51 := Same.upd (o := .lst [.int 6]) nl5
    have u52 := Same.upd (o := .tup [.int 13, .ref l5]) ne5
    have u53 := Same.upd (o := .lst [.ref a5, .ref b5]) nm5
    have u5 := (u51.trans u52).trans u53
    have el5 := (u52.trans u53) _ _ (upd_same (H := G5b) (a := l5) (o := .lst [.int 6]))
    have ee5 := u53 _ _ (upd_same (a := e5) (o := .tup [.int 13, .ref l5]))
    have em5 : upd (upd (upd G5b l5 (.lst [.int 6])) e5 (.tup [.int 13, .ref l5])) m5 (.lst [.ref a5, .ref b5]) m5 = some (.lst [.ref a5, .ref b5]) := upd_same
    have ya5 := exc_same xa5' u5
    have yb5 := exc_same xb5 u5
    have w5 := t5.trans u5
    clear u51 u52 u53
    generalize upd (upd (upd G5b l5 (.lst [.int 6])) e5 (.tup [.int 13, .ref l5])) m5 (.lst [.ref a5, .ref b5]) = H5 at u5 el5 ee5 em5 ya5 yb5 w5 ⊢
    refine ⟨.ref a5, rfl, a5, C 13, _, v0, rfl, ya5, c13.is, c13.nf, lk _ _, .ref b5, rfl, b5, C 13, _, v0, rfl, yb5, c13.is, c13.nf, lk _ _, by show 2 ≤ sizeLine; decide, fun vl5 nv5 => ?_⟩
    have z5 := Same.upd (o := .lst [v0, v0]) nv5
    have wz5 := w5.trans z5
    refine ⟨_, rfl, e5, m5, vl5, l5, a5, b5, C 13, v0, _, 13, [6], _, _, rfl, z5 _ _ ee5, z5 _ _ el5, z5 _ _ em5, exc_same ya5 z5, exc_same yb5 z5, k13, upd_same, dp_same wz5 hd0, hs0, fun F5 sF5 => ?_⟩
    have t5 := wz5.trans sF5
    exact q _ t5
def spWor (K : PySem.W.Frag) : Sp := fun vs H Q _ => ∃ (v0 v1 v2 : V) (d0 d1 d2 : PyData), vs = [v0, v1, v2] ∧ Dp K H v0 d0 ∧ Dp K H v1 d1 ∧ Dp K H v2 d2 ∧ Shows (.list [d0, d0]) 50 8000 ∧ Shows (.list [d1, d1]) 50 8000 ∧ Shows (.list [d2, d2]) 50 8000 ∧ ∀ H', Same H H' → Q (.bl true) H'
theorem scWor : FnScope ["word", "fault", "text", "a", "b"] ["word", "fault", "text"] (defScope sWor) := ⟨rfl, rfl, rfl, by decide +kernel, rfl, by decide +kernel, by decide +kernel⟩
theorem ok_wor {f fC : Addr} {fd dC : FuncData} {C : Nat → Addr} (F : Fun K "_law_words_correct" "_law_words_correct" sWor f fd) (GC : FnG P w K mg base 2 fC dC ["expected", "made", "values", "field"] (spCor K C)) (PC : Def K mg "_law_correct" fC dC ["expected", "made", "values", "field"])
    (c5 : Cls P w K mg base "InvalidCoin" "reason" (C 5)) (k5 : Kinds K C (C 5) 5 [2]) (c6 : Cls P w K mg base "InvalidDefinition" "reason" (C 6)) (k6 : Kinds K C (C 6) 6 [2]) (c10 : Cls P w K mg base "UnknownName" "name" (C 10)) (k10 : Kinds K C (C 10) 10 [3, 4]) : FnG P w K mg base 3 f fd ["word", "fault", "text"] (spWor K) := by
  refine fnG_of F scWor (fun vs H Q E h => ?_) (fun cdv A outer s H vs Q E hg hr h => ?_)
  · obtain ⟨v0, v1, v2, d0, d1, d2, rfl, _⟩ := h
    rfl
  · obtain ⟨v0, v1, v2, d0, d1, d2, rfl, hd0, hd1, hd2, hs0, hs1, hs2, q⟩ := h
    obtain ⟨fI5, fd5, M5, F5, B5, K5⟩ := c5.ex
    obtain ⟨fI6, fd6, M6, F6, B6, K6⟩ := c6.ex
    obtain ⟨fI10, fd10, M10, F10, B10, K10⟩ := c10.ex
    refine ⟨_, (pss_cons (ps_par (i := 3) (j := 4) (by rfl) scWor.nd rfl rfl (by decide) rfl rfl (pa_cons (pe_made M5.plain c5.kC F5 (hr.mono (by decide)) B5 pass0 (by rfl) c5.g (pa_cons (pv 0) pa_nil)) (pa_cons (pe_madeK M5 c5.kC F5 (hr.mono (by decide)) K5 pass0 (by rfl) c5.g (pk_cons (pv 0) pk_nil)) pa_nil)) (by rfl))
      (pss_cons (ps_if (pt_not (pt_val (pe_callG GC hg (hr.mono (by decide)) (by rfl) PC.is PC.kp PC.bi (pa_cons (pe_tup (pa_cons pe_int (pa_cons (pe_lst (pa_cons pe_int pa_nil)) pa_nil))) (pa_cons (pe_lst (pa_cons (pv 3) (pa_cons (pv 4) pa_nil))) (pa_cons (pe_lst (pa_cons (pe_exf (pv 3)) (pa_cons (pe_exf (pv 4)) pa_nil))) (pa_cons (pv 0) pa_nil))))))) (pss_one (ps_ret pe_bl)) pss_nil)
      (pss_cons (ps_par (i := 3) (j := 4) (by rfl) scWor.nd rfl rfl (by decide) rfl rfl (pa_cons (pe_made M6.plain c6.kC F6 (hr.mono (by decide)) B6 pass0 (by rfl) c6.g (pa_cons (pv 1) pa_nil)) (pa_cons (pe_madeK M6 c6.kC F6 (hr.mono (by decide)) K6 pass0 (by rfl) c6.g (pk_cons (pv 1) pk_nil)) pa_nil)) (by rfl))
      (pss_cons (ps_if (pt_not (pt_val (pe_callG GC hg (hr.mono (by decide)) (by rfl) PC.is PC.kp PC.bi (pa_cons (pe_tup (pa_cons pe_int (pa_cons (pe_lst (pa_cons pe_int pa_nil)) pa_nil))) (pa_cons (pe_lst (pa_cons (pv 3) (pa_cons (pv 4) pa_nil))) (pa_cons (pe_lst (pa_cons (pe_exf (pv 3)) (pa_cons (pe_exf (pv 4)) pa_nil))) (pa_cons (pv 1) pa_nil))))))) (pss_one (ps_ret pe_bl)) pss_nil)
      (pss_cons (ps_par (i := 3) (j := 4) (by rfl) scWor.nd rfl rfl (by decide) rfl rfl (pa_cons (pe_made M10.plain c10.kC F10 (hr.mono (by decide)) B10 pass0 (by rfl) c10.g (pa_cons (pv 2) pa_nil)) (pa_cons (pe_madeK M10 c10.kC F10 (hr.mono (by decide)) K10 pass0 (by rfl) c10.g (pk_cons (pv 2) pk_nil)) pa_nil)) (by rfl))
      (pss_one (ps_ret (pe_callG GC hg (hr.mono (by decide)) (by rfl) PC.is PC.kp PC.bi (pa_cons (pe_tup (pa_cons pe_int (pa_cons (pe_lst (pa_cons pe_int (pa_cons pe_int pa_nil))) pa_nil))) (pa_cons (pe_lst (pa_cons (pv 3) (pa_cons (pv 4) pa_nil))) (pa_cons (pe_lst (pa_cons (pe_exf (pv 3)) (pa_cons (pe_exf (pv 4)) pa_nil))) (pa_cons (pv 2) pa_nil)))))))))))), ?_⟩
    have t0 : Same H H := Same.refl H
    refine ⟨_, rfl, (by show 1 ≤ 1000; decide), made_read fun a1 G1a sa1 xa1 => ⟨_, rfl, rfl, made_read fun b1 G1b sb1 xb1 => ⟨_, _, rfl, ?_⟩⟩⟩
    have xa1' := exc_same xa1 sb1
    have t1 := (t0.trans sa1).trans sb1
    refine ⟨by show 1 ≤ sizeLine; decide, fun l1 nl1 => ⟨by show 2 ≤ sizeLine; decide, fun e1 ne1 => ⟨.ref a1, rfl, .ref b1, rfl, by show 2 ≤ sizeLine; decide, fun m1 nm1 => ?_⟩⟩⟩
    have u11 := Same.upd (o := .lst [.int 2]) nl1
    have u12 := Same.upd (o := .tup [.int 5, .ref l1]) ne1
    have u13 := Same.upd (o := .lst [.ref a1, .ref b1]) nm1
    have u1 := (u11.trans u12).trans u13
    have el1 := (u12.trans u13) _ _ (upd_same (H := G1b) (a := l1) (o := .lst [.int 2]))
    have ee1 := u13 _ _ (upd_same (a := e1) (o := .tup [.int 5, .ref l1]))
    have em1 : upd (upd (upd G1b l1 (.lst [.int 2])) e1 (.tup [.int 5, .ref l1])) m1 (.lst [.ref a1, .ref b1]) m1 = some (.lst [.ref a1, .ref b1]) := upd_same
    have ya1 := exc_same xa1' u1
    have yb1 := exc_same xb1 u1
    have w1 := t1.trans u1
    clear u11 u12 u13
    generalize upd (upd (upd G1b l1 (.lst [.int 2])) e1 (.tup [.int 5, .ref l1])) m1 (.lst [.ref a1, .ref b1]) = H1 at u1 el1 ee1 em1 ya1 yb1 w1 ⊢
    refine ⟨.ref a1, rfl, a1, C 5, _, v0, rfl, ya1, c5.is, c5.nf, lk _ _, .ref b1, rfl, b1, C 5, _, v0, rfl, yb1, c5.is, c5.nf, lk _ _, by show 2 ≤ sizeLine; decide, fun vl1 nv1 => ?_⟩
    have z1 := Same.upd (o := .lst [v0, v0]) nv1
    have wz1 := w1.trans z1
    refine ⟨_, rfl, e1, m1, vl1, l1, a1, b1, C 5, v0, _, 5, [2], _, _, rfl, z1 _ _ ee1, z1 _ _ el1, z1 _ _ em1, exc_same ya1 z1, exc_same yb1 z1, k5, upd_same, dp_same wz1 hd0, hs0, fun F1 sF1 => ?_⟩
    have t1 := wz1.trans sF1
    refine ⟨true, rfl, iteF ?_⟩
    refine ⟨_, rfl, (by show 1 ≤ 1000; decide), made_read fun a2 G2a sa2 xa2 => ⟨_, rfl, rfl, made_read fun b2 G2b sb2 xb2 => ⟨_, _, rfl, ?_⟩⟩⟩
    have xa2' := exc_same xa2 sb2
    have t2 := (t1.trans sa2).trans sb2
    refine ⟨by show 1 ≤ sizeLine; decide, fun l2 nl2 => ⟨by show 2 ≤ sizeLine; decide, fun e2 ne2 => ⟨.ref a2, rfl, .ref b2, rfl, by show 2 ≤ sizeLine; decide, fun m2 nm2 => ?_⟩⟩⟩
    have u21 := Same.upd (o := .lst [.int 2]) nl2
    have u22 := Same.upd (o := .tup [.int 6, .ref l2]) ne2
    have u23 := Same.upd (o := .lst [.ref a2, .ref b2]) nm2
    have u2 := (u21.trans u22).trans u23
    have el2 := (u22.trans u23) _ _ (upd_same (H := G2b) (a := l2) (o := .lst [.int 2]))
    have ee2 := u23 _ _ (upd_same (a := e2) (o := .tup [.int 6, .ref l2]))
    have em2 : upd (upd (upd G2b l2 (.lst [.int 2])) e2 (.tup [.int 6, .ref l2])) m2 (.lst [.ref a2, .ref b2]) m2 = some (.lst [.ref a2, .ref b2]) := upd_same
    have ya2 := exc_same xa2' u2
    have yb2 := exc_same xb2 u2
    have w2 := t2.trans u2
    clear u21 u22 u23
    generalize upd (upd (upd G2b l2 (.lst [.int 2])) e2 (.tup [.int 6, .ref l2])) m2 (.lst [.ref a2, .ref b2]) = H2 at u2 el2 ee2 em2 ya2 yb2 w2 ⊢
    refine ⟨.ref a2, rfl, a2, C 6, _, v1, rfl, ya2, c6.is, c6.nf, lk _ _, .ref b2, rfl, b2, C 6, _, v1, rfl, yb2, c6.is, c6.nf, lk _ _, by show 2 ≤ sizeLine; decide, fun vl2 nv2 => ?_⟩
    have z2 := Same.upd (o := .lst [v1, v1]) nv2
    have wz2 := w2.trans z2
    refine ⟨_, rfl, e2, m2, vl2, l2, a2, b2, C 6, v1, _, 6, [2], _, _, rfl, z2 _ _ ee2, z2 _ _ el2, z2 _ _ em2, exc_same ya2 z2, exc_same yb2 z2, k6, upd_same, dp_same wz2 hd1, hs1, fun F2 sF2 => ?_⟩
    have t2 := wz2.trans sF2
    refine ⟨true, rfl, iteF ?_⟩
    refine ⟨_, rfl, (by show 1 ≤ 1000; decide), made_read fun a3 G3a sa3 xa3 => ⟨_, rfl, rfl, made_read fun b3 G3b sb3 xb3 => ⟨_, _, rfl, ?_⟩⟩⟩
    have xa3' := exc_same xa3 sb3
    have t3 := (t2.trans sa3).trans sb3
    refine ⟨by show 2 ≤ sizeLine; decide, fun l3 nl3 => ⟨by show 2 ≤ sizeLine; decide, fun e3 ne3 => ⟨.ref a3, rfl, .ref b3, rfl, by show 2 ≤ sizeLine; decide, fun m3 nm3 => ?_⟩⟩⟩
    have u31 := Same.upd (o := .lst [.int 3, .int 4]) nl3
    have u32 := Same.upd (o := .tup [.int 10, .ref l3]) ne3
    have u33 := Same.upd (o := .lst [.ref a3, .ref b3]) nm3
    have u3 := (u31.trans u32).trans u33
    have el3 := (u32.trans u33) _ _ (upd_same (H := G3b) (a := l3) (o := .lst [.int 3, .int 4]))
    have ee3 := u33 _ _ (upd_same (a := e3) (o := .tup [.int 10, .ref l3]))
    have em3 : upd (upd (upd G3b l3 (.lst [.int 3, .int 4])) e3 (.tup [.int 10, .ref l3])) m3 (.lst [.ref a3, .ref b3]) m3 = some (.lst [.ref a3, .ref b3]) := upd_same
    have ya3 := exc_same xa3' u3
    have yb3 := exc_same xb3 u3
    have w3 := t3.trans u3
    clear u31 u32 u33
    generalize upd (upd (upd G3b l3 (.lst [.int 3, .int 4])) e3 (.tup [.int 10, .ref l3])) m3 (.lst [.ref a3, .ref b3]) = H3 at u3 el3 ee3 em3 ya3 yb3 w3 ⊢
    refine ⟨.ref a3, rfl, a3, C 10, _, v2, rfl, ya3, c10.is, c10.nf, lk _ _, .ref b3, rfl, b3, C 10, _, v2, rfl, yb3, c10.is, c10.nf, lk _ _, by show 2 ≤ sizeLine; decide, fun vl3 nv3 => ?_⟩
    have z3 := Same.upd (o := .lst [v2, v2]) nv3
    have wz3 := w3.trans z3
    refine ⟨_, rfl, e3, m3, vl3, l3, a3, b3, C 10, v2, _, 10, [3, 4], _, _, rfl, z3 _ _ ee3, z3 _ _ el3, z3 _ _ em3, exc_same ya3 z3, exc_same yb3 z3, k10, upd_same, dp_same wz3 hd2, hs2, fun F3 sF3 => ?_⟩
    have t3 := wz3.trans sF3
    exact q _ t3
def spTup (K : PySem.W.Frag) : Sp := fun vs H Q _ => ∃ (v0 v1 v2 v3 : V) (d0 d1 d2 d3 : PyData), vs = [v0, v1, v2, v3] ∧ Dp K H v0 d0 ∧ Dp K H v1 d1 ∧ Dp K H v2 d2 ∧ Dp K H v3 d3 ∧ Shows (.list [d0, d0]) 50 8000 ∧ Shows (.list [d1, d1]) 50 8000 ∧ Shows (.list [d2, d2]) 50 8000 ∧ Shows (.list [d3, d3]) 50 8000 ∧ ∀ H', Same H H' → Q (.bl true) H'
theorem scTup : FnScope ["fraction", "pit", "cycle", "users", "a", "b"] ["fraction", "pit", "cycle", "users"] (defScope sTup) := ⟨rfl, rfl, rfl, by decide +kernel, rfl, by decide +kernel, by decide +kernel⟩
theorem ok_tup {f fC : Addr} {fd dC : FuncData} {C : Nat → Addr} (F : Fun K "_law_tuples_correct" "_law_tuples_correct" sTup f fd) (GC : FnG P w K mg base 2 fC dC ["expected", "made", "values", "field"] (spCor K C)) (PC : Def K mg "_law_correct" fC dC ["expected", "made", "values", "field"])
    (c1 : Cls P w K mg base "UndefinedValue" "p" (C 1)) (k1 : Kinds K C (C 1) 1 [0]) (c4 : Cls P w K mg base "MayNotTerminate" "trap" (C 4)) (k4 : Kinds K C (C 4) 4 [2]) (c7 : Cls P w K mg base "CyclicDefinition" "names" (C 7)) (k7 : Kinds K C (C 7) 7 [2]) (c11 : Cls P w K mg base "NameInUse" "names" (C 11)) (k11 : Kinds K C (C 11) 11 [1]) : FnG P w K mg base 3 f fd ["fraction", "pit", "cycle", "users"] (spTup K) := by
  refine fnG_of F scTup (fun vs H Q E h => ?_) (fun cdv A outer s H vs Q E hg hr h => ?_)
  · obtain ⟨v0, v1, v2, v3, d0, d1, d2, d3, rfl, _⟩ := h
    rfl
  · obtain ⟨v0, v1, v2, v3, d0, d1, d2, d3, rfl, hd0, hd1, hd2, hd3, hs0, hs1, hs2, hs3, q⟩ := h
    obtain ⟨fI1, fd1, M1, F1, B1, K1⟩ := c1.ex
    obtain ⟨fI4, fd4, M4, F4, B4, K4⟩ := c4.ex
    obtain ⟨fI7, fd7, M7, F7, B7, K7⟩ := c7.ex
    obtain ⟨fI11, fd11, M11, F11, B11, K11⟩ := c11.ex
    refine ⟨_, (pss_cons (ps_par (i := 4) (j := 5) (by rfl) scTup.nd rfl rfl (by decide) rfl rfl (pa_cons (pe_made M1.plain c1.kC F1 (hr.mono (by decide)) B1 pass0 (by rfl) c1.g (pa_cons (pv 0) pa_nil)) (pa_cons (pe_madeK M1 c1.kC F1 (hr.mono (by decide)) K1 pass0 (by rfl) c1.g (pk_cons (pv 0) pk_nil)) pa_nil)) (by rfl))
      (pss_cons (ps_if (pt_not (pt_val (pe_callG GC hg (hr.mono (by decide)) (by rfl) PC.is PC.kp PC.bi (pa_cons (pe_tup (pa_cons pe_int (pa_cons (pe_lst (pa_cons pe_int pa_nil)) pa_nil))) (pa_cons (pe_lst (pa_cons (pv 4) (pa_cons (pv 5) pa_nil))) (pa_cons (pe_lst (pa_cons (pe_exf (pv 4)) (pa_cons (pe_exf (pv 5)) pa_nil))) (pa_cons (pv 0) pa_nil))))))) (pss_one (ps_ret pe_bl)) pss_nil)
      (pss_cons (ps_par (i := 4) (j := 5) (by rfl) scTup.nd rfl rfl (by decide) rfl rfl (pa_cons (pe_made M4.plain c4.kC F4 (hr.mono (by decide)) B4 pass0 (by rfl) c4.g (pa_cons (pv 1) pa_nil)) (pa_cons (pe_madeK M4 c4.kC F4 (hr.mono (by decide)) K4 pass0 (by rfl) c4.g (pk_cons (pv 1) pk_nil)) pa_nil)) (by rfl))
      (pss_cons (ps_if (pt_not (pt_val (pe_callG GC hg (hr.mono (by decide)) (by rfl) PC.is PC.kp PC.bi (pa_cons (pe_tup (pa_cons pe_int (pa_cons (pe_lst (pa_cons pe_int pa_nil)) pa_nil))) (pa_cons (pe_lst (pa_cons (pv 4) (pa_cons (pv 5) pa_nil))) (pa_cons (pe_lst (pa_cons (pe_exf (pv 4)) (pa_cons (pe_exf (pv 5)) pa_nil))) (pa_cons (pv 1) pa_nil))))))) (pss_one (ps_ret pe_bl)) pss_nil)
      (pss_cons (ps_par (i := 4) (j := 5) (by rfl) scTup.nd rfl rfl (by decide) rfl rfl (pa_cons (pe_made M7.plain c7.kC F7 (hr.mono (by decide)) B7 pass0 (by rfl) c7.g (pa_cons (pv 2) pa_nil)) (pa_cons (pe_madeK M7 c7.kC F7 (hr.mono (by decide)) K7 pass0 (by rfl) c7.g (pk_cons (pv 2) pk_nil)) pa_nil)) (by rfl))
      (pss_cons (ps_if (pt_not (pt_val (pe_callG GC hg (hr.mono (by decide)) (by rfl) PC.is PC.kp PC.bi (pa_cons (pe_tup (pa_cons pe_int (pa_cons (pe_lst (pa_cons pe_int pa_nil)) pa_nil))) (pa_cons (pe_lst (pa_cons (pv 4) (pa_cons (pv 5) pa_nil))) (pa_cons (pe_lst (pa_cons (pe_exf (pv 4)) (pa_cons (pe_exf (pv 5)) pa_nil))) (pa_cons (pv 2) pa_nil))))))) (pss_one (ps_ret pe_bl)) pss_nil)
      (pss_cons (ps_par (i := 4) (j := 5) (by rfl) scTup.nd rfl rfl (by decide) rfl rfl (pa_cons (pe_made M11.plain c11.kC F11 (hr.mono (by decide)) B11 pass0 (by rfl) c11.g (pa_cons (pv 3) pa_nil)) (pa_cons (pe_madeK M11 c11.kC F11 (hr.mono (by decide)) K11 pass0 (by rfl) c11.g (pk_cons (pv 3) pk_nil)) pa_nil)) (by rfl))
      (pss_one (ps_ret (pe_callG GC hg (hr.mono (by decide)) (by rfl) PC.is PC.kp PC.bi (pa_cons (pe_tup (pa_cons pe_int (pa_cons (pe_lst (pa_cons pe_int pa_nil)) pa_nil))) (pa_cons (pe_lst (pa_cons (pv 4) (pa_cons (pv 5) pa_nil))) (pa_cons (pe_lst (pa_cons (pe_exf (pv 4)) (pa_cons (pe_exf (pv 5)) pa_nil))) (pa_cons (pv 3) pa_nil)))))))))))))), ?_⟩
    have t0 : Same H H := Same.refl H
    refine ⟨_, rfl, (by show 1 ≤ 1000; decide), made_read fun a1 G1a sa1 xa1 => ⟨_, rfl, rfl, made_read fun b1 G1b sb1 xb1 => ⟨_, _, rfl, ?_⟩⟩⟩
    have xa1' := exc_same xa1 sb1
    have t1 := (t0.trans sa1).trans sb1
    refine ⟨by show 1 ≤ sizeLine; decide, fun l1 nl1 => ⟨by show 2 ≤ sizeLine; decide, fun e1 ne1 => ⟨.ref a1, rfl, .ref b1, rfl, by show 2 ≤ sizeLine; decide, fun m1 nm1 => ?_⟩⟩⟩
    have u11 := Same.upd (o := .lst [.int 0]) nl1
    have u12 := Same.upd (o := .tup [.int 1, .ref l1]) ne1
    have u13 := Same.upd (o := .lst [.ref a1, .ref b1]) nm1
    have u1 := (u11.trans u12).trans u13
    have el1 := (u12.trans u13) _ _ (upd_same (H := G1b) (a := l1) (o := .lst [.int 0]))
    have ee1 := u13 _ _ (upd_same (a := e1) (o := .tup [.int 1, .ref l1]))
    have em1 : upd (upd (upd G1b l1 (.lst [.int 0])) e1 (.tup [.int 1, .ref l1])) m1 (.lst [.ref a1, .ref b1]) m1 = some (.lst [.ref a1, .ref b1]) := upd_same
    have ya1 := exc_same xa1' u1
    have yb1 := exc_same xb1 u1
    have w1 := t1.trans u1
    clear u11 u12 u13
    generalize upd (upd (upd G1b l1 (.lst [.int 0])) e1 (.tup [.int 1, .ref l1])) m1 (.lst [.ref a1, .ref b1]) = H1 at u1 el1 ee1 em1 ya1 yb1 w1 ⊢
    refine ⟨.ref a1, rfl, a1, C 1, _, v0, rfl, ya1, c1.is, c1.nf, lk _ _, .ref b1, rfl, b1, C 1, _, v0, rfl, yb1, c1.is, c1.nf, lk _ _, by show 2 ≤ sizeLine; decide, fun vl1 nv1 => ?_⟩
    have z1 := Same.upd (o := .lst [v0, v0]) nv1
    have wz1 := w1.trans z1
    refine ⟨_, rfl, e1, m1, vl1, l1, a1, b1, C 1, v0, _, 1, [0], _, _, rfl, z1 _ _ ee1, z1 _ _ el1, z1 _ _ em1, exc_same ya1 z1, exc_same yb1 z1, k1, upd_same, dp_same wz1 hd0, hs0, fun F1 sF1 => ?_⟩
    have t1 := wz1.trans sF1
    refine ⟨true, rfl, iteF ?_⟩
    refine ⟨_, rfl, (by show 1 ≤ 1000; decide), made_read fun a2 G2a sa2 xa2 => ⟨_, rfl, rfl, made_read fun b2 G2b sb2 xb2 => ⟨_, _, rfl, ?_⟩⟩⟩
    have xa2' := exc_same xa2 sb2
    have t2 := (t1.trans sa2).trans sb2
    refine ⟨by show 1 ≤ sizeLine; decide, fun l2 nl2 => ⟨by show 2 ≤ sizeLine; decide, fun e2 ne2 => ⟨.ref a2, rfl, .ref b2, rfl, by show 2 ≤ sizeLine; decide, fun m2 nm2 => ?_⟩⟩⟩
    have u21 := Same.upd (o := .lst [.int 2]) nl2
    have u22 := Same.upd (o := .tup [.int 4, .ref l2]) ne2
    have u23 := Same.upd (o := .lst [.ref a2, .ref b2]) nm2
    have u2 := (u21.trans u22).trans u23
    have el2 := (u22.trans u23) _ _ (upd_same (H := G2b) (a := l2) (o := .lst [.int 2]))
    have ee2 := u23 _ _ (upd_same (a := e2) (o := .tup [.int 4, .ref l2]))
    have em2 : upd (upd (upd G2b l2 (.lst [.int 2])) e2 (.tup [.int 4, .ref l2])) m2 (.lst [.ref a2, .ref b2]) m2 = some (.lst [.ref a2, .ref b2]) := upd_same
    have ya2 := exc_same xa2' u2
    have yb2 := exc_same xb2 u2
    have w2 := t2.trans u2
    clear u21 u22 u23
    generalize upd (upd (upd G2b l2 (.lst [.int 2])) e2 (.tup [.int 4, .ref l2])) m2 (.lst [.ref a2, .ref b2]) = H2 at u2 el2 ee2 em2 ya2 yb2 w2 ⊢
    refine ⟨.ref a2, rfl, a2, C 4, _, v1, rfl, ya2, c4.is, c4.nf, lk _ _, .ref b2, rfl, b2, C 4, _, v1, rfl, yb2, c4.is, c4.nf, lk _ _, by show 2 ≤ sizeLine; decide, fun vl2 nv2 => ?_⟩
    have z2 := Same.upd (o := .lst [v1, v1]) nv2
    have wz2 := w2.trans z2
    refine ⟨_, rfl, e2, m2, vl2, l2, a2, b2, C 4, v1, _, 4, [2], _, _, rfl, z2 _ _ ee2, z2 _ _ el2, z2 _ _ em2, exc_same ya2 z2, exc_same yb2 z2, k4, upd_same, dp_same wz2 hd1, hs1, fun F2 sF2 => ?_⟩
    have t2 := wz2.trans sF2
    refine ⟨true, rfl, iteF ?_⟩
    refine ⟨_, rfl, (by show 1 ≤ 1000; decide), made_read fun a3 G3a sa3 xa3 => ⟨_, rfl, rfl, made_read fun b3 G3b sb3 xb3 => ⟨_, _, rfl, ?_⟩⟩⟩
    have xa3' := exc_same xa3 sb3
    have t3 := (t2.trans sa3).trans sb3
    refine ⟨by show 1 ≤ sizeLine; decide, fun l3 nl3 => ⟨by show 2 ≤ sizeLine; decide, fun e3 ne3 => ⟨.ref a3, rfl, .ref b3, rfl, by show 2 ≤ sizeLine; decide, fun m3 nm3 => ?_⟩⟩⟩
    have u31 := Same.upd (o := .lst [.int 2]) nl3
    have u32 := Same.upd (o := .tup [.int 7, .ref l3]) ne3
    have u33 := Same.upd (o := .lst [.ref a3, .ref b3]) nm3
    have u3 := (u31.trans u32).trans u33
    have el3 := (u32.trans u33) _ _ (upd_same (H := G3b) (a := l3) (o := .lst [.int 2]))
    have ee3 := u33 _ _ (upd_same (a := e3) (o := .tup [.int 7, .ref l3]))
    have em3 : upd (upd (upd G3b l3 (.lst [.int 2])) e3 (.tup [.int 7, .ref l3])) m3 (.lst [.ref a3, .ref b3]) m3 = some (.lst [.ref a3, .ref b3]) := upd_same
    have ya3 := exc_same xa3' u3
    have yb3 := exc_same xb3 u3
    have w3 := t3.trans u3
    clear u31 u32 u33
    generalize upd (upd (upd G3b l3 (.lst [.int 2])) e3 (.tup [.int 7, .ref l3])) m3 (.lst [.ref a3, .ref b3]) = H3 at u3 el3 ee3 em3 ya3 yb3 w3 ⊢
    refine ⟨.ref a3, rfl, a3, C 7, _, v2, rfl, ya3, c7.is, c7.nf, lk _ _, .ref b3, rfl, b3, C 7, _, v2, rfl, yb3, c7.is, c7.nf, lk _ _, by show 2 ≤ sizeLine; decide, fun vl3 nv3 => ?_⟩
    have z3 := Same.upd (o := .lst [v2, v2]) nv3
    have wz3 := w3.trans z3
    refine ⟨_, rfl, e3, m3, vl3, l3, a3, b3, C 7, v2, _, 7, [2], _, _, rfl, z3 _ _ ee3, z3 _ _ el3, z3 _ _ em3, exc_same ya3 z3, exc_same yb3 z3, k7, upd_same, dp_same wz3 hd2, hs2, fun F3 sF3 => ?_⟩
    have t3 := wz3.trans sF3
    refine ⟨true, rfl, iteF ?_⟩
    refine ⟨_, rfl, (by show 1 ≤ 1000; decide), made_read fun a4 G4a sa4 xa4 => ⟨_, rfl, rfl, made_read fun b4 G4b sb4 xb4 => ⟨_, _, rfl, ?_⟩⟩⟩
    have xa4' := exc_same xa4 sb4
    have t4 := (t3.trans sa4).trans sb4
    refine ⟨by show 1 ≤ sizeLine; decide, fun l4 nl4 => ⟨by show 2 ≤ sizeLine; decide, fun e4 ne4 => ⟨.ref a4, rfl, .ref b4, rfl, by show 2 ≤ sizeLine; decide, fun m4 nm4 => ?_⟩⟩⟩
    have u41 := Same.upd (o := .lst [.int 1]) nl4
    have u42 := Same.upd (o := .tup [.int 11, .ref l4]) ne4
    have u43 := Same.upd (o := .lst [.ref a4, .ref b4]) nm4
    have u4 := (u41.trans u42).trans u43
    have el4 := (u42.trans u43) _ _ (upd_same (H := G4b) (a := l4) (o := .lst [.int 1]))
    have ee4 := u43 _ _ (upd_same (a := e4) (o := .tup [.int 11, .ref l4]))
    have em4 : upd (upd (upd G4b l4 (.lst [.int 1])) e4 (.tup [.int 11, .ref l4])) m4 (.lst [.ref a4, .ref b4]) m4 = some (.lst [.ref a4, .ref b4]) := upd_same
    have ya4 := exc_same xa4' u4
    have yb4 := exc_same xb4 u4
    have w4 := t4.trans u4
    clear u41 u42 u43
    generalize upd (upd (upd G4b l4 (.lst [.int 1])) e4 (.tup [.int 11, .ref l4])) m4 (.lst [.ref a4, .ref b4]) = H4 at u4 el4 ee4 em4 ya4 yb4 w4 ⊢
    refine ⟨.ref a4, rfl, a4, C 11, _, v3, rfl, ya4, c11.is, c11.nf, lk _ _, .ref b4, rfl, b4, C 11, _, v3, rfl, yb4, c11.is, c11.nf, lk _ _, by show 2 ≤ sizeLine; decide, fun vl4 nv4 => ?_⟩
    have z4 := Same.upd (o := .lst [v3, v3]) nv4
    have wz4 := w4.trans z4
    refine ⟨_, rfl, e4, m4, vl4, l4, a4, b4, C 11, v3, _, 11, [1], _, _, rfl, z4 _ _ ee4, z4 _ _ el4, z4 _ _ em4, exc_same ya4 z4, exc_same yb4 z4, k11, upd_same, dp_same wz4 hd3, hs3, fun F4 sF4 => ?_⟩
    have t4 := wz4.trans sF4
    exact q _ t4
end
end Z

set_option Elab.async false
set_option linter.all false
set_option maxRecDepth 100000
set_option maxHeartbeats 4000000
set_option exponentiation.threshold 20000
namespace Z
open PySem PySem.Spec PyProof.Rows L2 GG EX
/-! the texts of data, put together -/
theorem shows_all {a b : Nat} : ∀ {ds : List PyData}, (∀ d ∈ ds, Shows d a b) → PyData.showableAll ds = true ∧ PyData.leavesShortAll 1922 ds = true ∧ PyData.hasDictAll ds = false ∧ PyData.depthAll ds ≤ a ∧ PyData.bulkAll ds ≤ ds.length * (b + 1)
  | [], _ => ⟨rfl, rfl, rfl, Nat.zero_le _, Nat.zero_le _⟩
  | d :: r, h => by
    obtain ⟨h1, h2, h3, h4, h5⟩ := shows_all (ds := r) fun m hm => h m (List.mem_cons_of_mem _ hm)
    have x := h d List.mem_cons_self
    have xs := x.s
    have xl := x.l
    have xh := x.h
    have xp := x.p
    have xb := x.b
    refine ⟨?_, ?_, ?_, ?_, ?_⟩
    · simp [PyData.showableAll, xs, h1]
    · simp [PyData.leavesShortAll, xl, h2]
    · simp [PyData.hasDictAll, xh, h3]
    · simp only [PyData.depthAll]
      omega
    · simp only [PyData.bulkAll, List.length_cons, Nat.add_mul, Nat.one_mul]
      omega
theorem shows_tup {a b : Nat} {ds : List PyData} (h : ∀ d ∈ ds, Shows d a b) : Shows (.tuple ds) (a + 1) (ds.length * (b + 1)) := by
  obtain ⟨h1, h2, h3, h4, h5⟩ := shows_all h
  refine ⟨?_, ?_, ?_, ?_, ?_⟩
  · simpa [PyData.showable] using h1
  · show PyData.leavesShort 1922 (.tuple ds) = true
    unfold PyData.leavesShort
    exact h2
  · simpa [PyData.hasDict] using h3
  · simp only [PyData.depth]
    omega
  · simpa [PyData.bulk] using h5
theorem shows_two {a b : Nat} {d : PyData} (x : Shows d a b) : Shows (.list [d, d]) (a + 1) (2 * (b + 1)) := by
  obtain ⟨h1, h2, h3, h4, h5⟩ := shows_all (ds := [d, d]) (a := a) (b := b) (by
    intro m hm
    simp only [List.mem_cons, List.not_mem_nil, or_false, or_self] at hm
    subst hm
    exact x)
  refine ⟨?_, ?_, ?_, ?_, ?_⟩
  · simpa [PyData.showable] using h1
  · show PyData.leavesShort 1922 (.list [d, d]) = true
    unfold PyData.leavesShort
    exact h2
  · simpa [PyData.hasDict] using h3
  · simp only [PyData.depth]
    omega
  · simpa [PyData.bulk] using h5
def Word (s : Str) : Prop := (s.cps.toList.all fun c => decide (c < 16 ^ 8)) = true ∧ s.cps.size ≤ 20
theorem shows_word {s : Str} (h : Word s) : Shows (.str s) 0 20 := by
  refine ⟨rfl, ?_, rfl, Nat.le_refl _, h.2⟩
  unfold PyData.leavesShort
  exact h.1
theorem shows_num {i : Int} (h : i.natAbs < 2 ^ 300) : Shows (.int i) 0 20 := by
  have l : i.natAbs.log2 < 1920 := Nat.lt_of_lt_of_le (PySem.Flt.log2_lt_of (k := 300) (by decide) h) (by decide)
  refine ⟨?_, short_int l, rfl, Nat.le_refl _, Nat.zero_le _⟩
  simpa [PyData.showable] using l
/-- a value whose text is made -/
def Fld (K : PySem.W.Frag) (H : Hp) (v : V) (a b : Nat) : Prop := ∃ d, Dp K H v d ∧ Shows d a b
theorem Fld.same {K : PySem.W.Frag} {H H' : Hp} {v : V} {a b : Nat} (x : Fld K H v a b) (s : Same H H') : Fld K H' v a b := by
  obtain ⟨d, h, k⟩ := x
  exact ⟨d, dp_same s h, k⟩
theorem Fld.mono {K : PySem.W.Frag} {H : Hp} {v : V} {a b a' b' : Nat} (x : Fld K H v a b) (h1 : a ≤ a') (h2 : b ≤ b') : Fld K H v a' b' := by
  obtain ⟨d, h, k⟩ := x
  exact ⟨d, h, k.mono h1 h2⟩
theorem fld_int {K : PySem.W.Frag} {H : Hp} {i : Int} (h : i.natAbs < 2 ^ 300) : Fld K H (.int i) 0 20 := ⟨_, .int i, shows_num h⟩
theorem fld_str {K : PySem.W.Frag} {H : Hp} {s : Str} (h : Word s) : Fld K H (.str s) 0 20 := ⟨_, .str s, shows_word h⟩
theorem fld_all {K : PySem.W.Frag} {H : Hp} {a b : Nat} : ∀ {vs : List V}, (∀ v ∈ vs, Fld K H v a b) → ∃ ds, DpAll K H vs ds ∧ (∀ d ∈ ds, Shows d a b) ∧ ds.length = vs.length
  | [], _ => ⟨[], .nil, by simp, rfl⟩
  | v :: r, h => by
    obtain ⟨ds, h1, h2, h3⟩ := fld_all (vs := r) fun x hx => h x (List.mem_cons_of_mem _ hx)
    obtain ⟨d, e1, e2⟩ := h v List.mem_cons_self
    refine ⟨d :: ds, .cons e1 h1, fun x hx => ?_, by simp [h3]⟩
    rcases List.mem_cons.mp hx with rfl | hx
    · exact e2
    · exact h2 x hx
theorem fld_tup {K : PySem.W.Frag} {H : Hp} {t : Addr} {vs : List V} {a b : Nat} (e : H t = some (.tup vs)) (h : ∀ v ∈ vs, Fld K H v a b) : Fld K H (.ref t) (a + 1) (vs.length * (b + 1)) := by
  obtain ⟨ds, h1, h2, h3⟩ := fld_all h
  refine ⟨.tuple ds, .tup (tup_of e) h1, ?_⟩
  rw [← h3]
  exact shows_tup h2
theorem Fld.two {K : PySem.W.Frag} {H : Hp} {v : V} (x : Fld K H v 10 1000) : ∃ d, Dp K H v d ∧ Shows (.list [d, d]) 50 8000 := by
  obtain ⟨d, h, k⟩ := x
  exact ⟨d, h, (shows_two k).mono (by decide) (by decide)⟩
def Pn : Nat → Hp → V → Prop
  | 0, _, v => (∃ i : Int, v = .int i ∧ i.natAbs < 2 ^ 300) ∨ ∃ x : Str, v = .str x ∧ Word x
  | n + 1, H, v => Pn n H v ∨ ∃ t vs, v = .ref t ∧ H t = some (.tup vs) ∧ vs.length ≤ 3 ∧ ∀ x ∈ vs, Pn n H x
theorem Pn.mono {H H' : Hp} (f : ∀ t xs, H t = some (.tup xs) → H' t = some (.tup xs)) : ∀ {n : Nat} {v : V}, Pn n H v → Pn n H' v
  | 0, _, h => h
  | n + 1, v, h => by
    rcases h with h | ⟨t, vs, e, et, hl, h⟩
    · exact .inl (Pn.mono f h)
    · exact .inr ⟨t, vs, e, f _ _ et, hl, fun x hx => Pn.mono f (h x hx)⟩
def Bn : Nat → Nat
  | 0 => 20
  | n + 1 => 3 * (Bn n + 1)
theorem Bn_up (n : Nat) : Bn n ≤ Bn (n + 1) := by
  show Bn n ≤ 3 * (Bn n + 1)
  omega
theorem Pn.fld {K : PySem.W.Frag} {H : Hp} : ∀ {n : Nat} {v : V}, Pn n H v → Fld K H v n (Bn n)
  | 0, v, h => by
    rcases h with ⟨i, rfl, hi⟩ | ⟨x, rfl, hx⟩
    · exact fld_int hi
    · exact fld_str hx
  | n + 1, v, h => by
    rcases h with h | ⟨t, vs, rfl, et, hl, h⟩
    · exact h.fld.mono (Nat.le_succ _) (Bn_up n)
    · exact (fld_tup et fun x hx => (h x hx).fld).mono (Nat.le_refl _) (Nat.mul_le_mul_right _ hl)
theorem pn_int {H : Hp} {i : Int} (h : i.natAbs < 2 ^ 300) : Pn 0 H (.int i) := .inl ⟨i, rfl, h⟩
theorem pn_str {H : Hp} {x : Str} (h : Word x) : Pn 0 H (.str x) := .inr ⟨x, rfl, h⟩
theorem pn_tup {H : Hp} {n : Nat} {t : Addr} {vs : List V} (e : H t = some (.tup vs)) (hl : vs.length ≤ 3) (h : ∀ x ∈ vs, Pn n H x) : Pn (n + 1) H (.ref t) := .inr ⟨t, vs, rfl, e, hl, h⟩
theorem Pn.up {H : Hp} {n : Nat} {v : V} (h : Pn n H v) : Pn (n + 1) H v := .inl h
theorem small_i {i : Int} {k : Nat} (h0 : 0 ≤ i) (h1 : i < (k : Int)) (hk : k ≤ 2 ^ 299) : i.natAbs < 2 ^ 300 := by
  have : i.natAbs < k := by omega
  exact Nat.lt_of_lt_of_le this (Nat.le_trans hk (Nat.pow_le_pow_right (by decide) (by decide)))
theorem at_mem {xs : List V} {d : Int} (h0 : 0 ≤ d) (h1 : d < xs.length) : ∃ v, atI xs d = some v ∧ v ∈ xs := by
  obtain ⟨j, rfl⟩ : ∃ j : Nat, d = (j : Int) := ⟨d.toNat, by omega⟩
  have hj : j < xs.length := by omega
  exact ⟨xs[j], atI_nat (List.getElem?_eq_getElem hj), List.getElem_mem hj⟩
theorem at_mem' {xs : List Nat} {d : Int} (h0 : 0 ≤ d) (h1 : d < xs.length) : ∃ v, atI xs d = some v ∧ v ∈ xs := by
  obtain ⟨j, rfl⟩ : ∃ j : Nat, d = (j : Int) := ⟨d.toNat, by omega⟩
  have hj : j < xs.length := by omega
  exact ⟨xs[j], atI_nat (List.getElem?_eq_getElem hj), List.getElem_mem hj⟩
theorem word_rep {r : Str} {k : Nat} {cs : List Nat} (h : r.cps.toList = (List.replicate k cs).flatten) (hc : ∀ c ∈ cs, c < 16 ^ 8) (hk : k * cs.length ≤ 20) : Word r := by
  refine ⟨?_, ?_⟩
  · rw [h, List.all_eq_true]
    intro c hm
    obtain ⟨l, hl, hcl⟩ := List.mem_flatten.mp hm
    rw [(List.mem_replicate.mp hl).2] at hcl
    exact decide_eq_true (hc c hcl)
  · rw [← Array.length_toList, h, List.length_flatten, List.map_replicate, List.sum_replicate_nat]
    exact hk
section
variable {P : Program} {w : World} {K : PySem.W.Frag} {mg : Str → Option Value} {base : Heap}
def spLaw (K : PySem.W.Frag) : Sp := fun vs H Q _ => ∃ (a : Addr) (ns : List Int), vs = [.ref a] ∧ SqL K H a (ns.map V.int) ∧ ns.length ≤ 63 ∧ ∀ H', Q (.bl true) H'
theorem scLaw : FnScope ["script", "pen", "turn", "count", "text", "word", "fault", "more", "fraction", "pit", "cycle", "users"] ["script"] (defScope sLaw) := ⟨rfl, rfl, rfl, by decide +kernel, rfl, by decide +kernel, by decide +kernel⟩
theorem ok_law {f fP fD fO fB fN fW fT : Addr} {fd dP dD dO dB dN dW dT : FuncData} {C : Nat → Addr} (F : Fun K "law" "law" sLaw f fd) (T : Names6 mg)
    (GP : FnOk P w K mg base CX0 1 fP dP ["script"] (spPen K)) (P1 : Def K mg "_law_pen" fP dP ["script"])
    (GD : FnOk P w K mg base CX0 2 fD dD ["pen", "bound"] spDraw) (P2 : Def K mg "_law_draw" fD dD ["pen", "bound"])
    (GO : FnOk P w K mg base CX0 1 fO dO ["e"] (spKinds K (ownL C))) (PO : Def K mg "_law_own_kinds" fO dO ["e"]) (GB : FnOk P w K mg base CX0 1 fB dB ["e"] (spKinds K bltL)) (PB : Def K mg "_law_built_in_kinds" fB dB ["e"])
    (GN : FnG P w K mg base 3 fN dN ["count"] (spNum K)) (PN : Def K mg "_law_numbers_correct" fN dN ["count"])
    (GW : FnG P w K mg base 3 fW dW ["word", "fault", "text"] (spWor K)) (PW_ : Def K mg "_law_words_correct" fW dW ["word", "fault", "text"])
    (GT : FnG P w K mg base 3 fT dT ["fraction", "pit", "cycle", "users"] (spTup K)) (PT_ : Def K mg "_law_tuples_correct" fT dT ["fraction", "pit", "cycle", "users"])
    (c0 : Cls0 P w K mg base "ZeroDenominator" (C 0)) (k0 : Kinds K C (C 0) 0 [0]) (c3 : Cls0 P w K mg base "InvalidSide" (C 3)) (k3 : Kinds K C (C 3) 3 [2]) :
    FnG P w K mg base 4 f fd ["script"] (spLaw K) := by
  refine fnG_of F scLaw (fun vs H Q E h => ?_) (fun cdv A outer s H vs Q E hg hr h => ?_)
  · obtain ⟨a, ns, rfl, _⟩ := h
    rfl
  · obtain ⟨a, ns, rfl, hS, hlen, q⟩ := h
    have hu : A.units + 3 + 64 < cLine := hr.units
    obtain ⟨i0, g0, M0, F0, B0⟩ := c0.ex
    obtain ⟨i3, g3, M3, F3, B3⟩ := c3.ex
    refine ⟨_, (pss_cons (ps_set (i := 1) scLaw.nd rfl (.inl rfl) (pe_call GP (hr.mono (by decide)) (by rfl) P1.is P1.kp P1.bi .nil pass0 (pa_cons (pv 0) pa_nil)))
      (pss_cons (ps_for PassesOwn.never rfl (pi_range1 rfl T.range (pa_cons (pe_callB (call_max2 rfl) (by rfl) T.max (by decide +kernel) (pa_cons pe_int (pa_cons (pe_callB (call_min2 rfl) (by rfl) T.min (by decide +kernel) (pa_cons pe_int (pa_cons (pe_callB call_len_seq (by rfl) T.len PySem.boot_len (pa_cons (pv 0) pa_nil)) pa_nil))) pa_nil))) pa_nil)) (pg_name (i := 2) scLaw.nd rfl (.inl rfl)) (pss_cons (ps_set (i := 3) scLaw.nd rfl (.inl rfl) (pe_ix ix_list (pe_lst (pa_cons (pe_call GD (hr.mono (by decide)) (by rfl) P2.is P2.kp P2.bi .nil pass0 (pa_cons (pv 1) (pa_cons pe_int pa_nil))) (pa_cons (pe_call GD (hr.mono (by decide)) (by rfl) P2.is P2.kp P2.bi .nil pass0 (pa_cons (pv 1) (pa_cons (pe_op op_pow pe_int pe_int) pa_nil))) (pa_cons pe_int pa_nil)))) (pe_call GD (hr.mono (by decide)) (by rfl) P2.is P2.kp P2.bi .nil pass0 (pa_cons (pv 1) (pa_cons pe_int pa_nil))) (fun _ _ => rfl)))
      (pss_cons (ps_set (i := 4) scLaw.nd rfl (.inl rfl) (pe_op STR.op_repS (pe_ix ix_str pe_str (pe_call GD (hr.mono (by decide)) (by rfl) P2.is P2.kp P2.bi .nil pass0 (pa_cons (pv 1) (pa_cons pe_int pa_nil))) (fun _ _ => rfl)) (pe_op op_add pe_int (pe_call GD (hr.mono (by decide)) (by rfl) P2.is P2.kp P2.bi .nil pass0 (pa_cons (pv 1) (pa_cons pe_int pa_nil))))))
      (pss_cons (ps_set (i := 5) scLaw.nd rfl (.inl rfl) (pe_ix ix_list (pe_lst (pa_cons pe_str (pa_cons pe_str (pa_cons pe_str pa_nil)))) (pe_call GD (hr.mono (by decide)) (by rfl) P2.is P2.kp P2.bi .nil pass0 (pa_cons (pv 1) (pa_cons pe_int pa_nil))) (fun _ _ => rfl)))
      (pss_cons (ps_set (i := 6) scLaw.nd rfl (.inl rfl) (pe_ix ix_list (pe_lst (pa_cons (pe_tup (pa_cons (pe_call GD (hr.mono (by decide)) (by rfl) P2.is P2.kp P2.bi .nil pass0 (pa_cons (pv 1) (pa_cons pe_int pa_nil))) (pa_cons pe_str pa_nil))) (pa_cons pe_str (pa_cons (pe_tup (pa_cons pe_str (pa_cons (pe_call GD (hr.mono (by decide)) (by rfl) P2.is P2.kp P2.bi .nil pass0 (pa_cons (pv 1) (pa_cons pe_int pa_nil))) pa_nil))) (pa_cons (pe_tup (pa_cons pe_str (pa_cons (pv 4) pa_nil))) pa_nil))))) (pe_call GD (hr.mono (by decide)) (by rfl) P2.is P2.kp P2.bi .nil pass0 (pa_cons (pv 1) (pa_cons pe_int pa_nil))) (fun _ _ => rfl)))
      (pss_cons (ps_set (i := 7) scLaw.nd rfl (.inl rfl) (pe_call GD (hr.mono (by decide)) (by rfl) P2.is P2.kp P2.bi .nil pass0 (pa_cons (pv 1) (pa_cons pe_int pa_nil))))
      (pss_cons (ps_set (i := 8) scLaw.nd rfl (.inl rfl) (pe_ix ix_list (pe_lst (pa_cons (pe_tup (pa_cons pe_int (pa_cons pe_int pa_nil))) (pa_cons (pe_tup (pa_cons pe_int (pa_cons (pe_op op_add pe_int (pv 7)) pa_nil))) (pa_cons (pe_tup (pa_cons (pe_op op_add pe_int (pv 7)) (pa_cons (pe_op op_add pe_int (pv 7)) pa_nil))) pa_nil)))) (pe_call GD (hr.mono (by decide)) (by rfl) P2.is P2.kp P2.bi .nil pass0 (pa_cons (pv 1) (pa_cons pe_int pa_nil))) (fun _ _ => rfl)))
      (pss_cons (ps_set (i := 9) scLaw.nd rfl (.inl rfl) (pe_tup (pa_cons (pe_op STR.op_repS pe_str (pe_op op_add pe_int (pe_call GD (hr.mono (by decide)) (by rfl) P2.is P2.kp P2.bi .nil pass0 (pa_cons (pv 1) (pa_cons pe_int pa_nil))))) (pa_cons (pe_tup (pa_cons (pe_call GD (hr.mono (by decide)) (by rfl) P2.is P2.kp P2.bi .nil pass0 (pa_cons (pv 1) (pa_cons pe_int pa_nil))) (pa_cons (pe_op op_add pe_int (pe_call GD (hr.mono (by decide)) (by rfl) P2.is P2.kp P2.bi .nil pass0 (pa_cons (pv 1) (pa_cons pe_int pa_nil)))) pa_nil))) pa_nil))))
      (pss_cons (ps_set (i := 10) scLaw.nd rfl (.inl rfl) (pe_ix ix_list (pe_lst (pa_cons (pe_tup (pa_cons (pv 4) (pa_cons (pv 4) pa_nil))) (pa_cons (pe_tup (pa_cons (pv 4) (pa_cons pe_str (pa_cons (pv 4) pa_nil)))) pa_nil))) (pe_call GD (hr.mono (by decide)) (by rfl) P2.is P2.kp P2.bi .nil pass0 (pa_cons (pv 1) (pa_cons pe_int pa_nil))) (fun _ _ => rfl)))
      (pss_cons (ps_set (i := 11) scLaw.nd rfl (.inl rfl) (pe_ix ix_list (pe_lst (pa_cons (pe_tup (pa_cons (pv 4) pa_nil)) (pa_cons (pe_tup (pa_cons (pv 4) (pa_cons pe_str pa_nil))) pa_nil))) (pe_call GD (hr.mono (by decide)) (by rfl) P2.is P2.kp P2.bi .nil pass0 (pa_cons (pv 1) (pa_cons pe_int pa_nil))) (fun _ _ => rfl)))
      (pss_cons (ps_if (PW.pt (pw_or (pt_not (pt_val (pe_callG GN hg (hr.mono (by decide)) (by rfl) PN.is PN.kp PN.bi (pa_cons (pv 3) pa_nil)))) (pw_or1 (pt_not (pt_val (pe_callG GW hg (hr.mono (by decide)) (by rfl) PW_.is PW_.kp PW_.bi (pa_cons (pv 5) (pa_cons (pv 6) (pa_cons (pv 4) pa_nil))))))))) (pss_one (ps_ret pe_bl)) pss_nil)
      (pss_cons (ps_if (pt_not (pt_val (pe_callG GT hg (hr.mono (by decide)) (by rfl) PT_.is PT_.kp PT_.bi (pa_cons (pv 8) (pa_cons (pv 9) (pa_cons (pv 10) (pa_cons (pv 11) pa_nil))))))) (pss_one (ps_ret pe_bl)) pss_nil)
      (pss_cons (ps_if (PW.pt (pw_or (pt_cmpR (op_neD hu) (pe_call GO (hr.mono (by decide)) (by rfl) PO.is PO.kp PO.bi .nil pass0 (pa_cons (pe_made0 M0 c0.kC F0 (hr.mono (by decide)) B0 pass0 (by rfl) c0.g) pa_nil)) (pe_lst (pa_cons pe_int pa_nil)) (nomark _)) (pw_or1 (pt_cmpR (op_neD hu) (pe_call GB (hr.mono (by decide)) (by rfl) PB.is PB.kp PB.bi .nil pass0 (pa_cons (pe_made0 M0 c0.kC F0 (hr.mono (by decide)) B0 pass0 (by rfl) c0.g) pa_nil)) (pe_lst (pa_cons pe_int pa_nil)) (nomark _))))) (pss_one (ps_ret pe_bl)) pss_nil)
      (pss_one (ps_if (PW.pt (pw_or (pt_cmpR (op_neD hu) (pe_call GO (hr.mono (by decide)) (by rfl) PO.is PO.kp PO.bi .nil pass0 (pa_cons (pe_made0 M3 c3.kC F3 (hr.mono (by decide)) B3 pass0 (by rfl) c3.g) pa_nil)) (pe_lst (pa_cons pe_int pa_nil)) (nomark _)) (pw_or1 (pt_cmpR (op_neD hu) (pe_call GB (hr.mono (by decide)) (by rfl) PB.is PB.kp PB.bi .nil pass0 (pa_cons (pe_made0 M3 c3.kC F3 (hr.mono (by decide)) B3 pass0 (by rfl) c3.g) pa_nil)) (pe_lst (pa_cons pe_int pa_nil)) (nomark _))))) (pss_one (ps_ret pe_bl)) pss_nil)))))))))))))))
      (pss_one (ps_ret pe_bl)))), ?_⟩
    refine ⟨.ref a, rfl, a, ns, rfl, hS, hlen, fun p l H1 s1 np nl p1 => ?_⟩
    have hS1 := s1.seq hS
    refine ⟨.ref a, rfl, a, _, rfl, .inl hS1, _, _, rfl, _, _, rfl, _, rfl, ?_, ?_, for_range (lo := 0) (fun i σ H' => ∃ v2 v3 v4 v5 v6 v7 v8 v9 v10 v11 : Option V, σ = [some (V.ref a), some (V.ref p), v2, v3, v4, v5, v6, v7, v8, v9, v10, v11] ∧ Pen H' p l) ⟨none, none, none, none, none, none, none, none, none, none, rfl, p1⟩ ?_ ?_⟩
    · show -(2 ^ 62) ≤ _
      repeat' split
      all_goals omega
    · show _ < (2 : Int) ^ 62
      repeat' split
      all_goals omega
    · rintro i σ H' hi ⟨v2, v3, v4, v5, v6, v7, v8, v9, v10, v11, rfl, pn⟩
      refine ⟨.ref p, rfl, p, l, 12, rfl, pn, by decide, by decide +kernel, fun xA H2 xlA xuA bxA pxA => ?_⟩
      refine ⟨.ref p, rfl, _, _, rfl, rfl, ⟨by decide, by decide, by decide⟩, p, l, 10 ^ 59, rfl, pxA, by decide, by decide +kernel, fun xB H3 xlB xuB bxB pxB => ?_⟩
      refine ⟨by show 3 ≤ sizeLine; decide, fun eC neC => ?_⟩
      have seC := Same.upd (o := .lst [.int xA, .int xB, .int 0]) neC
      have eEC : upd H3 eC (.lst [.int xA, .int xB, .int 0]) eC = some (.lst [.int xA, .int xB, .int 0]) := upd_same
      have peC := pxB.same seC
      have naC := (pxB.apart neC).1
      generalize upd H3 eC (.lst [.int xA, .int xB, .int 0]) = GC at seC eEC peC ⊢
      refine ⟨.ref p, rfl, p, l, 3, rfl, peC, by decide, by decide +kernel, fun dC H5 dlC duC bC pC => ?_⟩
      obtain ⟨wC, hwC, mwC⟩ := at_mem (xs := [.int xA, .int xB, .int 0]) dlC duC
      refine ⟨eC, _, dC, wC, rfl, rfl, SqL.of (bC.mem naC eEC), hwC, ?_⟩
      have fC : ∀ t xs, H3 t = some (.tup xs) → H5 t = some (.tup xs) := fun t xs e => bC.mem (peC.notTup (seC _ _ e)) (seC _ _ e)
      have q3 : Pn 2 H5 wC := by
        refine Pn.up (Pn.up ?_)
        simp only [List.mem_cons, List.not_mem_nil, or_false] at mwC
        rcases mwC with rfl | rfl | rfl
        · exact pn_int (small_i (k := 12) xlA xuA (by decide))
        · exact pn_int (small_i (k := 10 ^ 59) xlB xuB (by decide))
        · exact pn_int (by decide)
      refine ⟨.ref p, rfl, p, l, 26, rfl, pC, by decide, by decide +kernel, fun xD H6 xlD xuD bxD pxD => ?_⟩
      have ab : (PySem.Str.ofString "abcdefghijklmnopqrstuvwxyz").cps.toList.length = 26 := by decide +kernel
      obtain ⟨c, hc, mc⟩ := at_mem' (xs := (PySem.Str.ofString "abcdefghijklmnopqrstuvwxyz").cps.toList) xlD (by rw [ab]; exact xuD)
      refine ⟨_, xD, c, rfl, rfl, by decide +kernel, hc, ?_⟩
      refine ⟨.ref p, rfl, p, l, 6, rfl, pxD, by decide, by decide +kernel, fun xE H7 xlE xuE bxE pxE => ?_⟩
      refine ⟨_, _, rfl, rfl, _, (1 + xE).toNat, rfl, congrArg V.int (by omega), by omega, ?_, fun r hr => ?_⟩
      · show 1 * _ ≤ sizeLine
        have e : sizeLine = 16777216 := by decide
        omega
      have W4 : Word r := word_rep (cs := [c]) hr (fun z hz => by
        rw [List.mem_singleton.mp hz]
        have all : ∀ z ∈ (PySem.Str.ofString "abcdefghijklmnopqrstuvwxyz").cps.toList, z < 16 ^ 8 := by decide +kernel
        exact all c mc) (by show (1 + xE).toNat * 1 ≤ 20; omega)
      have f57 : ∀ t xs, H5 t = some (.tup xs) → H7 t = some (.tup xs) := fun t xs e => bxE.mem (pxD.notTup (bxD.mem (pC.notTup e) e)) (bxD.mem (pC.notTup e) e)
      replace q3 := q3.mono f57
      refine ⟨by show 3 ≤ sizeLine; decide, fun eF neF => ?_⟩
      have seF := Same.upd (o := .lst [.str "ends", .str "answers", .str "sure"]) neF
      have eEF : upd H7 eF (.lst [.str "ends", .str "answers", .str "sure"]) eF = some (.lst [.str "ends", .str "answers", .str "sure"]) := upd_same
      have peF := pxE.same seF
      have naF := (pxE.apart neF).1
      generalize upd H7 eF (.lst [.str "ends", .str "answers", .str "sure"]) = GF at seF eEF peF ⊢
      refine ⟨.ref p, rfl, p, l, 3, rfl, peF, by decide, by decide +kernel, fun dF H8 dlF duF bF pF => ?_⟩
      obtain ⟨wF, hwF, mwF⟩ := at_mem (xs := [.str "ends", .str "answers", .str "sure"]) dlF duF
      refine ⟨eF, _, dF, wF, rfl, rfl, SqL.of (bF.mem naF eEF), hwF, ?_⟩
      have fF : ∀ t xs, H7 t = some (.tup xs) → H8 t = some (.tup xs) := fun t xs e => bF.mem (peF.notTup (seF _ _ e)) (seF _ _ e)
      replace q3 := q3.mono fF
      have W5 : ∃ x : Str, wF = .str x ∧ Word x := by
        simp only [List.mem_cons, List.not_mem_nil, or_false] at mwF
        rcases mwF with rfl | rfl | rfl
        · exact ⟨_, rfl, by decide +kernel, by decide +kernel⟩
        · exact ⟨_, rfl, by decide +kernel, by decide +kernel⟩
        · exact ⟨_, rfl, by decide +kernel, by decide +kernel⟩
      refine ⟨.ref p, rfl, p, l, 60, rfl, pF, by decide, by decide +kernel, fun xG H9 xlG xuG bxG pxG => ?_⟩
      refine ⟨by show 2 ≤ sizeLine; decide, fun t1 n1 => ?_⟩
      have u1 := Same.upd (o := .tup [.int xG, .str "place"]) n1
      have w1 : upd H9 t1 (.tup [.int xG, .str "place"]) t1 = some (.tup [.int xG, .str "place"]) := upd_same
      have y1 := pxG.same u1
      generalize upd H9 t1 (.tup [.int xG, .str "place"]) = H10 at u1 w1 y1 ⊢
      refine ⟨.ref p, rfl, p, l, 9, rfl, y1, by decide, by decide +kernel, fun xI H11 xlI xuI bxI pxI => ?_⟩
      refine ⟨by show 2 ≤ sizeLine; decide, fun t2 n2 => ?_⟩
      have u2 := Same.upd (o := .tup [.str "row", .int xI]) n2
      have w2 : upd H11 t2 (.tup [.str "row", .int xI]) t2 = some (.tup [.str "row", .int xI]) := upd_same
      have y2 := pxI.same u2
      generalize upd H11 t2 (.tup [.str "row", .int xI]) = H12 at u2 w2 y2 ⊢
      refine ⟨_, rfl, by show 2 ≤ sizeLine; decide, fun t3 n3 => ?_⟩
      have u3 := Same.upd (o := .tup [.str "ring", .str r]) n3
      have w3 : upd H12 t3 (.tup [.str "ring", .str r]) t3 = some (.tup [.str "ring", .str r]) := upd_same
      have y3 := y2.same u3
      generalize upd H12 t3 (.tup [.str "ring", .str r]) = H13 at u3 w3 y3 ⊢
      have f89 : ∀ t xs, H8 t = some (.tup xs) → H13 t = some (.tup xs) := fun t xs e => by
        have e9 := bxG.mem (pF.notTup e) e
        have e10 := u1 _ _ e9
        have e11 := bxI.mem (y1.notTup e10) e10
        exact u3 _ _ (u2 _ _ e11)
      have w1' := u3 _ _ (u2 _ _ (bxI.mem (y1.notTup w1) w1))
      have w2' := u3 _ _ w2
      replace q3 := q3.mono f89
      refine ⟨by show 4 ≤ sizeLine; decide, fun eJ neJ => ?_⟩
      have seJ := Same.upd (o := .lst [.ref t1, .str "few", .ref t2, .ref t3]) neJ
      have eEJ : upd H13 eJ (.lst [.ref t1, .str "few", .ref t2, .ref t3]) eJ = some (.lst [.ref t1, .str "few", .ref t2, .ref t3]) := upd_same
      have peJ := y3.same seJ
      have naJ := (y3.apart neJ).1
      generalize upd H13 eJ (.lst [.ref t1, .str "few", .ref t2, .ref t3]) = GJ at seJ eEJ peJ ⊢
      refine ⟨.ref p, rfl, p, l, 4, rfl, peJ, by decide, by decide +kernel, fun dJ H14 dlJ duJ bJ pJ => ?_⟩
      obtain ⟨wJ, hwJ, mwJ⟩ := at_mem (xs := [.ref t1, .str "few", .ref t2, .ref t3]) dlJ duJ
      refine ⟨eJ, _, dJ, wJ, rfl, rfl, SqL.of (bJ.mem naJ eEJ), hwJ, ?_⟩
      have fJ : ∀ t xs, H13 t = some (.tup xs) → H14 t = some (.tup xs) := fun t xs e => bJ.mem (peJ.notTup (seJ _ _ e)) (seJ _ _ e)
      replace q3 := q3.mono fJ
      have q6 : Pn 2 H14 wJ := by
        refine Pn.mono fJ ?_
        simp only [List.mem_cons, List.not_mem_nil, or_false] at mwJ
        rcases mwJ with rfl | rfl | rfl | rfl
        · refine Pn.up (pn_tup w1' (by show 2 ≤ 3; decide) fun x hx => ?_)
          simp only [List.mem_cons, List.not_mem_nil, or_false] at hx
          rcases hx with rfl | rfl
          · exact pn_int (small_i (k := 60) xlG xuG (by decide))
          · exact pn_str ⟨by decide +kernel, by decide +kernel⟩
        · exact Pn.up (Pn.up (pn_str ⟨by decide +kernel, by decide +kernel⟩))
        · refine Pn.up (pn_tup w2' (by show 2 ≤ 3; decide) fun x hx => ?_)
          simp only [List.mem_cons, List.not_mem_nil, or_false] at hx
          rcases hx with rfl | rfl
          · exact pn_str ⟨by decide +kernel, by decide +kernel⟩
          · exact pn_int (small_i (k := 9) xlI xuI (by decide))
        · refine Pn.up (pn_tup w3 (by show 2 ≤ 3; decide) fun x hx => ?_)
          simp only [List.mem_cons, List.not_mem_nil, or_false] at hx
          rcases hx with rfl | rfl
          · exact pn_str ⟨by decide +kernel, by decide +kernel⟩
          · exact pn_str W4
      refine ⟨.ref p, rfl, p, l, 9, rfl, pJ, by decide, by decide +kernel, fun xK H15 xlK xuK bxK pxK => ?_⟩
      have f145 : ∀ t xs, H14 t = some (.tup xs) → H15 t = some (.tup xs) := fun t xs e => bxK.mem (pJ.notTup e) e
      replace q3 := q3.mono f145
      replace q6 := q6.mono f145
      refine ⟨by show 2 ≤ sizeLine; decide, fun t4 nt4 => ?_⟩
      have ut4 := Same.upd (o := .tup [.int 0, .int 1]) nt4
      have wt4 : upd H15 t4 (.tup [.int 0, .int 1]) t4 = some (.tup [.int 0, .int 1]) := upd_same
      have y4 := pxK.same ut4
      generalize upd H15 t4 (.tup [.int 0, .int 1]) = H16 at ut4 wt4 y4 ⊢
      refine ⟨_, rfl, _, _, rfl, rfl, by show 2 ≤ sizeLine; decide, fun t5 nt5 => ?_⟩
      have ut5 := Same.upd (o := .tup [.int 1, .int (2 + xK)]) nt5
      have wt5 : upd H16 t5 (.tup [.int 1, .int (2 + xK)]) t5 = some (.tup [.int 1, .int (2 + xK)]) := upd_same
      have y5 := y4.same ut5
      generalize upd H16 t5 (.tup [.int 1, .int (2 + xK)]) = H17 at ut5 wt5 y5 ⊢
      replace wt4 := ut5 _ _ wt4
      refine ⟨_, rfl, _, _, rfl, rfl, _, rfl, _, _, rfl, rfl, by show 2 ≤ sizeLine; decide, fun t6 nt6 => ?_⟩
      have ut6 := Same.upd (o := .tup [.int (1 + xK), .int (2 + xK)]) nt6
      have wt6 : upd H17 t6 (.tup [.int (1 + xK), .int (2 + xK)]) t6 = some (.tup [.int (1 + xK), .int (2 + xK)]) := upd_same
      have y6 := y5.same ut6
      generalize upd H17 t6 (.tup [.int (1 + xK), .int (2 + xK)]) = H18 at ut6 wt6 y6 ⊢
      replace wt4 := ut6 _ _ wt4
      replace wt5 := ut6 _ _ wt5
      refine ⟨by show 3 ≤ sizeLine; decide, fun eL neL => ?_⟩
      have seL := Same.upd (o := .lst [.ref t4, .ref t5, .ref t6]) neL
      have eEL : upd H18 eL (.lst [.ref t4, .ref t5, .ref t6]) eL = some (.lst [.ref t4, .ref t5, .ref t6]) := upd_same
      have peL := y6.same seL
      have naL := (y6.apart neL).1
      generalize upd H18 eL (.lst [.ref t4, .ref t5, .ref t6]) = GL at seL eEL peL ⊢
      refine ⟨.ref p, rfl, p, l, 3, rfl, peL, by decide, by decide +kernel, fun dL H19 dlL duL bL pL => ?_⟩
      obtain ⟨wL, hwL, mwL⟩ := at_mem (xs := [.ref t4, .ref t5, .ref t6]) dlL duL
      refine ⟨eL, _, dL, wL, rfl, rfl, SqL.of (bL.mem naL eEL), hwL, ?_⟩
      have fL : ∀ t xs, H18 t = some (.tup xs) → H19 t = some (.tup xs) := fun t xs e => bL.mem (peL.notTup (seL _ _ e)) (seL _ _ e)
      have f159 : ∀ t xs, H15 t = some (.tup xs) → H19 t = some (.tup xs) := fun t xs e => fL _ _ (ut6 _ _ (ut5 _ _ (ut4 _ _ e)))
      replace q3 := q3.mono f159
      replace q6 := q6.mono f159
      have q8 : Pn 2 H19 wL := by
        refine Pn.mono fL ?_
        simp only [List.mem_cons, List.not_mem_nil, or_false] at mwL
        rcases mwL with rfl | rfl | rfl
        · refine Pn.up (pn_tup wt4 (by show 2 ≤ 3; decide) fun x hx => ?_)
          simp only [List.mem_cons, List.not_mem_nil, or_false] at hx
          rcases hx with rfl | rfl
          · exact pn_int (by decide)
          · exact pn_int (by decide)
        · refine Pn.up (pn_tup wt5 (by show 2 ≤ 3; decide) fun x hx => ?_)
          simp only [List.mem_cons, List.not_mem_nil, or_false] at hx
          rcases hx with rfl | rfl
          · exact pn_int (by decide)
          · exact pn_int (small_i (k := 100) (by omega) (by omega) (by decide))
        · refine Pn.up (pn_tup wt6 (by show 2 ≤ 3; decide) fun x hx => ?_)
          simp only [List.mem_cons, List.not_mem_nil, or_false] at hx
          rcases hx with rfl | rfl
          · exact pn_int (small_i (k := 100) (by omega) (by omega) (by decide))
          · exact pn_int (small_i (k := 100) (by omega) (by omega) (by decide))
      refine ⟨.ref p, rfl, p, l, 3, rfl, pL, by decide, by decide +kernel, fun xM H20 xlM xuM bxM pxM => ?_⟩
      refine ⟨_, _, rfl, rfl, _, (1 + xM).toNat, rfl, congrArg V.int (by omega), by omega, ?_, fun r2 hr2 => ?_⟩
      · have e : sizeLine = 16777216 := by decide
        have e2 : (PySem.Str.ofString "HT").length = 2 := by decide +kernel
        rw [e2]
        omega
      have W9 : Word r2 := word_rep hr2 (by decide +kernel) (by
        have e2 : (PySem.Str.ofString "HT").cps.toList.length = 2 := by decide +kernel
        rw [e2]
        omega)
      refine ⟨.ref p, rfl, p, l, 3, rfl, pxM, by decide, by decide +kernel, fun xN H21 xlN xuN bxN pxN => ?_⟩
      refine ⟨.ref p, rfl, p, l, 9, rfl, pxN, by decide, by decide +kernel, fun xO H22 xlO xuO bxO pxO => ?_⟩
      refine ⟨_, _, rfl, rfl, by show 2 ≤ sizeLine; decide, fun t7 nt7 => ?_⟩
      have ut7 := Same.upd (o := .tup [.int xN, .int (3 + xO)]) nt7
      have wt7 : upd H22 t7 (.tup [.int xN, .int (3 + xO)]) t7 = some (.tup [.int xN, .int (3 + xO)]) := upd_same
      have y7 := pxO.same ut7
      generalize upd H22 t7 (.tup [.int xN, .int (3 + xO)]) = H23 at ut7 wt7 y7 ⊢
      refine ⟨by show 2 ≤ sizeLine; decide, fun t8 nt8 => ?_⟩
      have ut8 := Same.upd (o := .tup [.str r2, .ref t7]) nt8
      have wt8 : upd H23 t8 (.tup [.str r2, .ref t7]) t8 = some (.tup [.str r2, .ref t7]) := upd_same
      have y8 := y7.same ut8
      generalize upd H23 t8 (.tup [.str r2, .ref t7]) = H24 at ut8 wt8 y8 ⊢
      replace wt7 := ut8 _ _ wt7
      have f194 : ∀ t xs, H19 t = some (.tup xs) → H24 t = some (.tup xs) := fun t xs e => by
        have e20 := bxM.mem (pL.notTup e) e
        have e21 := bxN.mem (pxM.notTup e20) e20
        have e22 := bxO.mem (pxN.notTup e21) e21
        exact ut8 _ _ (ut7 _ _ e22)
      replace q3 := q3.mono f194
      replace q6 := q6.mono f194
      replace q8 := q8.mono f194
      have q9 : Pn 2 H24 (.ref t8) := by
        refine pn_tup wt8 (by show 2 ≤ 3; decide) fun x hx => ?_
        simp only [List.mem_cons, List.not_mem_nil, or_false] at hx
        rcases hx with rfl | rfl
        · exact Pn.up (pn_str W9)
        · refine pn_tup wt7 (by show 2 ≤ 3; decide) fun x hx => ?_
          simp only [List.mem_cons, List.not_mem_nil, or_false] at hx
          rcases hx with rfl | rfl
          · exact pn_int (small_i (k := 3) xlN xuN (by decide))
          · exact pn_int (small_i (k := 100) (by omega) (by omega) (by decide))
      refine ⟨_, rfl, _, rfl, by show 2 ≤ sizeLine; decide, fun t9 nt9 => ?_⟩
      have ut9 := Same.upd (o := .tup [.str r, .str r]) nt9
      have wt9 : upd H24 t9 (.tup [.str r, .str r]) t9 = some (.tup [.str r, .str r]) := upd_same
      have y9 := y8.same ut9
      generalize upd H24 t9 (.tup [.str r, .str r]) = H25 at ut9 wt9 y9 ⊢
      refine ⟨_, rfl, _, rfl, by show 3 ≤ sizeLine; decide, fun tA ntA => ?_⟩
      have utA := Same.upd (o := .tup [.str r, .str "zed", .str r]) ntA
      have wtA : upd H25 tA (.tup [.str r, .str "zed", .str r]) tA = some (.tup [.str r, .str "zed", .str r]) := upd_same
      have yA := y9.same utA
      generalize upd H25 tA (.tup [.str r, .str "zed", .str r]) = H26 at utA wtA yA ⊢
      replace wt9 := utA _ _ wt9
      refine ⟨by show 2 ≤ sizeLine; decide, fun eP neP => ?_⟩
      have seP := Same.upd (o := .lst [.ref t9, .ref tA]) neP
      have eEP : upd H26 eP (.lst [.ref t9, .ref tA]) eP = some (.lst [.ref t9, .ref tA]) := upd_same
      have peP := yA.same seP
      have naP := (yA.apart neP).1
      generalize upd H26 eP (.lst [.ref t9, .ref tA]) = GP at seP eEP peP ⊢
      refine ⟨.ref p, rfl, p, l, 2, rfl, peP, by decide, by decide +kernel, fun dP H27 dlP duP bP pP => ?_⟩
      obtain ⟨wP, hwP, mwP⟩ := at_mem (xs := [.ref t9, .ref tA]) dlP duP
      refine ⟨eP, _, dP, wP, rfl, rfl, SqL.of (bP.mem naP eEP), hwP, ?_⟩
      have fP : ∀ t xs, H26 t = some (.tup xs) → H27 t = some (.tup xs) := fun t xs e => bP.mem (peP.notTup (seP _ _ e)) (seP _ _ e)
      have f247 : ∀ t xs, H24 t = some (.tup xs) → H27 t = some (.tup xs) := fun t xs e => fP _ _ (utA _ _ (ut9 _ _ e))
      replace q3 := q3.mono f247
      replace q6 := q6.mono f247
      replace q8 := q8.mono f247
      replace q9 := q9.mono f247
      have q10 : Pn 2 H27 wP := by
        refine Pn.mono fP ?_
        simp only [List.mem_cons, List.not_mem_nil, or_false] at mwP
        rcases mwP with rfl | rfl
        · refine Pn.up (pn_tup wt9 (by show 2 ≤ 3; decide) fun x hx => ?_)
          simp only [List.mem_cons, List.not_mem_nil, or_false, or_self] at hx
          rcases hx with rfl
          exact pn_str W4
        · refine Pn.up (pn_tup wtA (by show 3 ≤ 3; decide) fun x hx => ?_)
          simp only [List.mem_cons, List.not_mem_nil, or_false] at hx
          rcases hx with rfl | rfl | rfl
          · exact pn_str W4
          · exact pn_str ⟨by decide +kernel, by decide +kernel⟩
          · exact pn_str W4
      refine ⟨_, rfl, by show 1 ≤ sizeLine; decide, fun tB ntB => ?_⟩
      have utB := Same.upd (o := .tup [.str r]) ntB
      have wtB : upd H27 tB (.tup [.str r]) tB = some (.tup [.str r]) := upd_same
      have yB := pP.same utB
      generalize upd H27 tB (.tup [.str r]) = H28 at utB wtB yB ⊢
      refine ⟨_, rfl, by show 2 ≤ sizeLine; decide, fun tC ntC => ?_⟩
      have utC := Same.upd (o := .tup [.str r, .str "zzzzzzz"]) ntC
      have wtC : upd H28 tC (.tup [.str r, .str "zzzzzzz"]) tC = some (.tup [.str r, .str "zzzzzzz"]) := upd_same
      have yC := yB.same utC
      generalize upd H28 tC (.tup [.str r, .str "zzzzzzz"]) = H29 at utC wtC yC ⊢
      replace wtB := utC _ _ wtB
      refine ⟨by show 2 ≤ sizeLine; decide, fun eR neR => ?_⟩
      have seR := Same.upd (o := .lst [.ref tB, .ref tC]) neR
      have eER : upd H29 eR (.lst [.ref tB, .ref tC]) eR = some (.lst [.ref tB, .ref tC]) := upd_same
      have peR := yC.same seR
      have naR := (yC.apart neR).1
      generalize upd H29 eR (.lst [.ref tB, .ref tC]) = GR at seR eER peR ⊢
      refine ⟨.ref p, rfl, p, l, 2, rfl, peR, by decide, by decide +kernel, fun dR H30 dlR duR bR pR => ?_⟩
      obtain ⟨wR, hwR, mwR⟩ := at_mem (xs := [.ref tB, .ref tC]) dlR duR
      refine ⟨eR, _, dR, wR, rfl, rfl, SqL.of (bR.mem naR eER), hwR, ?_⟩
      have fR : ∀ t xs, H29 t = some (.tup xs) → H30 t = some (.tup xs) := fun t xs e => bR.mem (peR.notTup (seR _ _ e)) (seR _ _ e)
      have f270 : ∀ t xs, H27 t = some (.tup xs) → H30 t = some (.tup xs) := fun t xs e => fR _ _ (utC _ _ (utB _ _ e))
      replace q3 := q3.mono f270
      replace q6 := q6.mono f270
      replace q8 := q8.mono f270
      replace q9 := q9.mono f270
      replace q10 := q10.mono f270
      have q11 : Pn 2 H30 wR := by
        refine Pn.mono fR ?_
        simp only [List.mem_cons, List.not_mem_nil, or_false] at mwR
        rcases mwR with rfl | rfl
        · refine Pn.up (pn_tup wtB (by show 1 ≤ 3; decide) fun x hx => ?_)
          simp only [List.mem_cons, List.not_mem_nil, or_false] at hx
          rcases hx with rfl
          exact pn_str W4
        · refine Pn.up (pn_tup wtC (by show 2 ≤ 3; decide) fun x hx => ?_)
          simp only [List.mem_cons, List.not_mem_nil, or_false] at hx
          rcases hx with rfl | rfl
          · exact pn_str W4
          · exact pn_str ⟨by decide +kernel, by decide +kernel⟩
      obtain ⟨xw, rfl, W5⟩ := W5
      obtain ⟨d3, D3, S3⟩ := ((q3.fld (K := K)).mono (show 2 ≤ 10 by decide) (show 192 ≤ 1000 by decide)).two
      obtain ⟨d4, D4, S4⟩ := ((fld_str (K := K) (H := H30) W4).mono (show 0 ≤ 10 by decide) (show 20 ≤ 1000 by decide)).two
      obtain ⟨d5, D5, S5⟩ := ((fld_str (K := K) (H := H30) W5).mono (show 0 ≤ 10 by decide) (show 20 ≤ 1000 by decide)).two
      obtain ⟨d6, D6, S6⟩ := ((q6.fld (K := K)).mono (show 2 ≤ 10 by decide) (show 192 ≤ 1000 by decide)).two
      obtain ⟨d8, D8, S8⟩ := ((q8.fld (K := K)).mono (show 2 ≤ 10 by decide) (show 192 ≤ 1000 by decide)).two
      obtain ⟨d9, D9, S9⟩ := ((q9.fld (K := K)).mono (show 2 ≤ 10 by decide) (show 192 ≤ 1000 by decide)).two
      obtain ⟨d10, D10, S10⟩ := ((q10.fld (K := K)).mono (show 2 ≤ 10 by decide) (show 192 ≤ 1000 by decide)).two
      obtain ⟨d11, D11, S11⟩ := ((q11.fld (K := K)).mono (show 2 ≤ 10 by decide) (show 192 ≤ 1000 by decide)).two
      refine ⟨_, rfl, _, d3, rfl, D3, S3, fun H31 s31 => ⟨true, rfl, iteF ?_⟩⟩
      refine ⟨_, rfl, _, rfl, _, rfl, _, _, _, d5, d6, d4, rfl, dp_same s31 D5, dp_same s31 D6, dp_same s31 D4, S5, S6, S4, fun H32 s32 => ⟨true, rfl, iteF ?_⟩⟩
      have s302 := s31.trans s32
      refine ⟨_, rfl, _, rfl, _, rfl, _, rfl, _, _, _, _, d8, d9, d10, d11, rfl, dp_same s302 D8, dp_same s302 D9, dp_same s302 D10, dp_same s302 D11, S8, S9, S10, S11, fun H33 s33 => ⟨true, rfl, iteF ?_⟩⟩
      have p33 := pR.same (s302.trans s33)
      clear q3 q6 q8 q9 q10 q11
      obtain ⟨ksS, lkS, hkS, ikS⟩ := k0.own
      obtain ⟨lsS, llS, hlS, ilS⟩ := k0.blt
      refine fun aS naS => ⟨aS, rfl, rfl, aS, C 0, [], ksS, rfl, .inl ⟨rfl, upd_same⟩, k0.is, lkS, hkS, fun oS JS sjS noS eoS => ?_⟩
      rw [ikS] at eoS
      refine ⟨by show 1 ≤ sizeLine; decide, fun gS ngS => ?_⟩
      have sgS := Same.upd (o := .lst [.int 0]) ngS
      refine ⟨_, _, dp_nats (SqL.of (sgS _ _ eoS)), dp_nats (ns := [0]) (SqL.of upd_same), PySem.W.ke_shaped_ints _, PySem.W.ke_shaped_ints _, _, rfl, ?_⟩
      rw [eqv_nats]
      refine iteF ?_
      have pgS := ((p33.same (Same.upd (o := exo aS (C 0) none) naS)).same sjS).same sgS
      generalize upd JS gS (.lst [.int 0]) = J2S at pgS ⊢
      refine fun a2S na2S => ⟨a2S, rfl, rfl, a2S, C 0, [], lsS, rfl, .inl ⟨rfl, upd_same⟩, k0.is, llS, hlS, fun o2S J3S sj2S no2S eo2S => ?_⟩
      rw [ilS] at eo2S
      refine ⟨by show 1 ≤ sizeLine; decide, fun hS nhS => ?_⟩
      have shS := Same.upd (o := .lst [.int 0]) nhS
      refine ⟨_, _, dp_nats (SqL.of (shS _ _ eo2S)), dp_nats (ns := [0]) (SqL.of upd_same), PySem.W.ke_shaped_ints _, PySem.W.ke_shaped_ints _, _, rfl, ?_⟩
      rw [eqv_nats]
      refine iteF ?_
      have phS := ((pgS.same (Same.upd (o := exo a2S (C 0) none) na2S)).same sj2S).same shS
      generalize upd J3S hS (.lst [.int 0]) = J4S at phS ⊢
      obtain ⟨ksU, lkU, hkU, ikU⟩ := k3.own
      obtain ⟨lsU, llU, hlU, ilU⟩ := k3.blt
      refine fun aU naU => ⟨aU, rfl, rfl, aU, C 3, [], ksU, rfl, .inl ⟨rfl, upd_same⟩, k3.is, lkU, hkU, fun oU JU sjU noU eoU => ?_⟩
      rw [ikU] at eoU
      refine ⟨by show 1 ≤ sizeLine; decide, fun gU ngU => ?_⟩
      have sgU := Same.upd (o := .lst [.int 3]) ngU
      refine ⟨_, _, dp_nats (SqL.of (sgU _ _ eoU)), dp_nats (ns := [3]) (SqL.of upd_same), PySem.W.ke_shaped_ints _, PySem.W.ke_shaped_ints _, _, rfl, ?_⟩
      rw [eqv_nats]
      refine iteF ?_
      have pgU := ((phS.same (Same.upd (o := exo aU (C 3) none) naU)).same sjU).same sgU
      generalize upd JU gU (.lst [.int 3]) = J2U at pgU ⊢
      refine fun a2U na2U => ⟨a2U, rfl, rfl, a2U, C 3, [], lsU, rfl, .inl ⟨rfl, upd_same⟩, k3.is, llU, hlU, fun o2U J3U sj2U no2U eo2U => ?_⟩
      rw [ilU] at eo2U
      refine ⟨by show 1 ≤ sizeLine; decide, fun hU nhU => ?_⟩
      have shU := Same.upd (o := .lst [.int 2]) nhU
      refine ⟨_, _, dp_nats (SqL.of (shU _ _ eo2U)), dp_nats (ns := [2]) (SqL.of upd_same), PySem.W.ke_shaped_ints _, PySem.W.ke_shaped_ints _, _, rfl, ?_⟩
      rw [eqv_nats]
      refine iteF ?_
      have phU := ((pgU.same (Same.upd (o := exo a2U (C 3) none) na2U)).same sj2U).same shU
      generalize upd J3U hU (.lst [.int 2]) = J4U at phU ⊢
      exact ⟨_, _, _, _, _, _, _, _, _, _, rfl, phU⟩
    · rintro σ H' ⟨v2, v3, v4, v5, v6, v7, v8, v9, v10, v11, rfl, pn⟩
      exact q _
end
end Z

set_option Elab.async false
set_option linter.all false
set_option maxRecDepth 100000
set_option maxHeartbeats 8000000
namespace Z
open PySem PySem.Spec PyProof.Rows L2 GG EX
theorem init_kw {K : PySem.W.Frag} {x qual : Str} {st : Stmt} {f : Addr} {fd : FuncData} {a b : Str} (F : Fun K x qual st f fd)
    (h : ∀ (kV doc pm : Value) (an : Option Addr) (cd ct u v : Value), bindArgs (PySem.W.fnOf x qual (defArgs st) (defBody st) (defScope st) .none kV doc pm an cd ct) ⟨[u], [(b, v)]⟩ = pure [(a, u), (b, v)]) :
    KBn K fd [a, b] 1 [b] (fun us ws => us ++ ws) (fun vs zs => vs ++ zs) := by
  obtain ⟨oc, od, kV, doc, pm, an, cd, ct, slots, rfl, found, code⟩ := F.ex
  refine ⟨fun s us ws _ l0 l2 => ?_, fun r1 r2 => r1.append r2⟩
  match us, ws, l0, l2 with
  | [u], [v], _, _ => exact .of_eq (h kV doc pm an cd ct u v)
theorem cls_some {K : PySem.W.Frag} {C : Addr} {tail : List Value} {nw : String} (T : ExC K C tail nw) : (PySem.W.clsIn K C).isSome = true := by
  obtain ⟨cd, h, _⟩ := T.data
  rw [h]
  rfl
theorem own_len (C : Nat → Addr) : (ownL C).length = 14 := rfl
theorem own_at (C : Nat → Addr) {j : Nat} {c : V × Value} (h : (ownL C)[j]? = some c) : j < 14 ∧ c.2 = .ref (C j) := by
  have lt : j < 14 := (List.getElem?_eq_some_iff.mp h).1
  refine ⟨lt, ?_⟩
  match j, lt with
  | 0, _ => cases h; rfl
  | 1, _ => cases h; rfl
  | 2, _ => cases h; rfl
  | 3, _ => cases h; rfl
  | 4, _ => cases h; rfl
  | 5, _ => cases h; rfl
  | 6, _ => cases h; rfl
  | 7, _ => cases h; rfl
  | 8, _ => cases h; rfl
  | 9, _ => cases h; rfl
  | 10, _ => cases h; rfl
  | 11, _ => cases h; rfl
  | 12, _ => cases h; rfl
  | 13, _ => cases h; rfl
  | j + 14, h => omega
theorem own_of {K : PySem.W.Frag} {C : Nat → Addr} {i : Nat} {tail : List Value} {nw : String} (hi : i < 14) (T : ExC K (C i) tail nw) (no : ∀ D, tail.contains (.ref D) = false) (dist : [C 0, C 1, C 2, C 3, C 4, C 5, C 6, C 7, C 8, C 9, C 10, C 11, C 12, C 13].Nodup)
    (cls : ∀ j, j < 14 → (PySem.W.clsIn K (C j)).isSome = true ∧ PySem.W.typeIn K (.ref (C j)) = some (.type "type")) :
    ∃ ks : List Bool, ks.length = (ownL C).length ∧ (∀ (j : Nat) (c : V × Value) (b : Bool), (ownL C)[j]? = some c → ks[j]? = some b → PySem.W.kitOne K (.ref (C i)) c.2 = some b) ∧ idx ks (ownL C).length = [i] := by
  have inj : ∀ a b, a < 14 → b < 14 → C a = C b → a = b := by
    intro a b ha hb e
    have d : ((List.range 14).map C).Nodup := dist
    have ga : ((List.range 14).map C)[a]'(by simpa using ha) = C a := by simp
    have gb : ((List.range 14).map C)[b]'(by simpa using hb) = C b := by simp
    exact (List.getElem_inj d).mp (ga.trans (e.trans gb.symm))
  refine ⟨(List.range 14).map fun j => decide (i = j), by simp [own_len], fun j c b hc hb => ?_, ?_⟩
  · obtain ⟨lt, e⟩ := own_at C hc
    rw [List.getElem?_map, List.getElem?_range lt] at hb
    have eb : b = decide (i = j) := (Option.some.inj hb).symm
    rw [e, eb, kit_own T no (cls j lt).1 (cls j lt).2]
    congr 1
    by_cases z : i = j
    · subst z
      simp
    · rw [decide_eq_false z, decide_eq_false (fun q => z (inj _ _ hi lt q))]
  · rw [own_len]
    match i, hi with
    | 0, _ => decide
    | 1, _ => decide
    | 2, _ => decide
    | 3, _ => decide
    | 4, _ => decide
    | 5, _ => decide
    | 6, _ => decide
    | 7, _ => decide
    | 8, _ => decide
    | 9, _ => decide
    | 10, _ => decide
    | 11, _ => decide
    | 12, _ => decide
    | 13, _ => decide
    | i + 14, h => omega
theorem blt_of {K : PySem.W.Frag} {D : Addr} {tail : List Value} {nw : String} {bs : List Nat} (T : ExC K D tail nw) (h : idx (bltL.map fun c => tail.contains c.2) bltL.length = bs) :
    ∃ ks : List Bool, ks.length = bltL.length ∧ (∀ (j : Nat) (c : V × Value) (b : Bool), bltL[j]? = some c → ks[j]? = some b → PySem.W.kitOne K (.ref D) c.2 = some b) ∧ idx ks bltL.length = bs := by
  refine ⟨bltL.map fun c => tail.contains c.2, by simp, fun j c b hc hb => ?_, h⟩
  rw [List.getElem?_map, hc] at hb
  have eb : b = tail.contains c.2 := (Option.some.inj hb).symm
  subst eb
  have lt : j < 8 := (List.getElem?_eq_some_iff.mp hc).1
  match j, lt with
  | 0, _ => cases hc; exact kit_blt T (by decide +kernel)
  | 1, _ => cases hc; exact kit_blt T (by decide +kernel)
  | 2, _ => cases hc; exact kit_blt T (by decide +kernel)
  | 3, _ => cases hc; exact kit_blt T (by decide +kernel)
  | 4, _ => cases hc; exact kit_blt T (by decide +kernel)
  | 5, _ => cases hc; exact kit_blt T (by decide +kernel)
  | 6, _ => cases hc; exact kit_blt T (by decide +kernel)
  | 7, _ => cases hc; exact kit_blt T (by decide +kernel)
  | j + 8, h => omega
theorem all_mk {w : World} {K : PySem.W.Frag} {h : Heap} {mg : Str → Option Value} {fa f0 f1 f2 f3 f4 f5 f6 f7 f8 f9 : Addr} (X : K.In h) (G : h.Ns mainGlobals mg) (hfa : mg "law" = some (.ref fa))
    {od0 an0 od1 an1 od2 an2 od3 an3 od4 an4 od5 an5 od6 an6 od7 an7 od8 an8 od9 an9 : Option Addr} {sl0 sl1 sl2 sl3 sl4 sl5 sl6 sl7 sl8 sl9 : Array (Option Value)} {oc0 kV0 dc0 pm0 cd0 ct0 oc1 kV1 dc1 pm1 cd1 ct1 oc2 kV2 dc2 pm2 cd2 ct2 oc3 kV3 dc3 pm3 cd3 ct3 oc4 kV4 dc4 pm4 cd4 ct4 oc5 kV5 dc5 pm5 cd5 ct5 oc6 kV6 dc6 pm6 cd6 ct6 oc7 kV7 dc7 pm7 cd7 ct7 oc8 kV8 dc8 pm8 cd8 ct8 oc9 kV9 dc9 pm9 cd9 ct9 : Value}
    (a0 : PySem.W.nsIn K mainGlobals "_law_pen" = some (some (.ref f0))) (l0 : K.lookup f0 = some ⟨oc0, od0, .func (PySem.W.fnOf "_law_pen" "_law_pen" (defArgs sPen) (defBody sPen) (defScope sPen) .none kV0 dc0 pm0 an0 cd0 ct0), sl0⟩) (c0 : PySem.W.codeIn K cd0 "_law_pen" = true) (k0 : PySem.W.keepIn K (.ref f0) = true)
    (a1 : PySem.W.nsIn K mainGlobals "_law_fresh" = some (some (.ref f1))) (l1 : K.lookup f1 = some ⟨oc1, od1, .func (PySem.W.fnOf "_law_fresh" "_law_fresh" (defArgs sFresh) (defBody sFresh) (defScope sFresh) .none kV1 dc1 pm1 an1 cd1 ct1), sl1⟩) (c1 : PySem.W.codeIn K cd1 "_law_fresh" = true) (k1 : PySem.W.keepIn K (.ref f1) = true)
    (a2 : PySem.W.nsIn K mainGlobals "_law_draw" = some (some (.ref f2))) (l2 : K.lookup f2 = some ⟨oc2, od2, .func (PySem.W.fnOf "_law_draw" "_law_draw" (defArgs sDraw) (defBody sDraw) (defScope sDraw) .none kV2 dc2 pm2 an2 cd2 ct2), sl2⟩) (c2 : PySem.W.codeIn K cd2 "_law_draw" = true) (k2 : PySem.W.keepIn K (.ref f2) = true)
    (a3 : PySem.W.nsIn K mainGlobals "_law_own_kinds" = some (some (.ref f3))) (l3 : K.lookup f3 = some ⟨oc3, od3, .func (PySem.W.fnOf "_law_own_kinds" "_law_own_kinds" (defArgs sOwn) (defBody sOwn) (defScope sOwn) .none kV3 dc3 pm3 an3 cd3 ct3), sl3⟩) (c3 : PySem.W.codeIn K cd3 "_law_own_kinds" = true) (k3 : PySem.W.keepIn K (.ref f3) = true)
    (a4 : PySem.W.nsIn K mainGlobals "_law_built_in_kinds" = some (some (.ref f4))) (l4 : K.lookup f4 = some ⟨oc4, od4, .func (PySem.W.fnOf "_law_built_in_kinds" "_law_built_in_kinds" (defArgs sBlt) (defBody sBlt) (defScope sBlt) .none kV4 dc4 pm4 an4 cd4 ct4), sl4⟩) (c4 : PySem.W.codeIn K cd4 "_law_built_in_kinds" = true) (k4 : PySem.W.keepIn K (.ref f4) = true)
    (a5 : PySem.W.nsIn K mainGlobals "_law_correct" = some (some (.ref f5))) (l5 : K.lookup f5 = some ⟨oc5, od5, .func (PySem.W.fnOf "_law_correct" "_law_correct" (defArgs sCor) (defBody sCor) (defScope sCor) .none kV5 dc5 pm5 an5 cd5 ct5), sl5⟩) (c5 : PySem.W.codeIn K cd5 "_law_correct" = true) (k5 : PySem.W.keepIn K (.ref f5) = true)
    (a6 : PySem.W.nsIn K mainGlobals "_law_numbers_correct" = some (some (.ref f6))) (l6 : K.lookup f6 = some ⟨oc6, od6, .func (PySem.W.fnOf "_law_numbers_correct" "_law_numbers_correct" (defArgs sNum) (defBody sNum) (defScope sNum) .none kV6 dc6 pm6 an6 cd6 ct6), sl6⟩) (c6 : PySem.W.codeIn K cd6 "_law_numbers_correct" = true) (k6 : PySem.W.keepIn K (.ref f6) = true)
    (a7 : PySem.W.nsIn K mainGlobals "_law_words_correct" = some (some (.ref f7))) (l7 : K.lookup f7 = some ⟨oc7, od7, .func (PySem.W.fnOf "_law_words_correct" "_law_words_correct" (defArgs sWor) (defBody sWor) (defScope sWor) .none kV7 dc7 pm7 an7 cd7 ct7), sl7⟩) (c7 : PySem.W.codeIn K cd7 "_law_words_correct" = true) (k7 : PySem.W.keepIn K (.ref f7) = true)
    (a8 : PySem.W.nsIn K mainGlobals "_law_tuples_correct" = some (some (.ref f8))) (l8 : K.lookup f8 = some ⟨oc8, od8, .func (PySem.W.fnOf "_law_tuples_correct" "_law_tuples_correct" (defArgs sTup) (defBody sTup) (defScope sTup) .none kV8 dc8 pm8 an8 cd8 ct8), sl8⟩) (c8 : PySem.W.codeIn K cd8 "_law_tuples_correct" = true) (k8 : PySem.W.keepIn K (.ref f8) = true)
    (a9 : PySem.W.nsIn K mainGlobals "law" = some (some (.ref f9))) (l9 : K.lookup f9 = some ⟨oc9, od9, .func (PySem.W.fnOf "law" "law" (defArgs sLaw) (defBody sLaw) (defScope sLaw) .none kV9 dc9 pm9 an9 cd9 ct9), sl9⟩) (c9 : PySem.W.codeIn K cd9 "law" = true) (k9 : PySem.W.keepIn K (.ref f9) = true)
    (z_list : PySem.W.nsIn K mainGlobals "list" = some none)
    (z_tuple : PySem.W.nsIn K mainGlobals "tuple" = some none)
    (z_len : PySem.W.nsIn K mainGlobals "len" = some none)
    (z_range : PySem.W.nsIn K mainGlobals "range" = some none)
    (z_max : PySem.W.nsIn K mainGlobals "max" = some none)
    (z_min : PySem.W.nsIn K mainGlobals "min" = some none)
    (z_repr : PySem.W.nsIn K mainGlobals "repr" = some none)
    (z_enumerate : PySem.W.nsIn K mainGlobals "enumerate" = some none)
    (z_isinstance : PySem.W.nsIn K mainGlobals "isinstance" = some none)
    (z_ZeroDivisionError : PySem.W.nsIn K mainGlobals "ZeroDivisionError" = some none)
    (z_RuntimeError : PySem.W.nsIn K mainGlobals "RuntimeError" = some none)
    (z_ValueError : PySem.W.nsIn K mainGlobals "ValueError" = some none)
    (z_LookupError : PySem.W.nsIn K mainGlobals "LookupError" = some none)
    (z_KeyError : PySem.W.nsIn K mainGlobals "KeyError" = some none)
    (z_IndexError : PySem.W.nsIn K mainGlobals "IndexError" = some none)
    (z_OverflowError : PySem.W.nsIn K mainGlobals "OverflowError" = some none)
    (z_NotImplementedError : PySem.W.nsIn K mainGlobals "NotImplementedError" = some none)
    {C0 C1 C2 C3 C4 C5 C6 C7 C8 C9 C10 C11 C12 C13 : Addr}
    {I0 N0 : Addr} {nm0 qn0 : Str} {bs0 su0 : List Value} {sn0 : List Str} {ab0 : Bool} {co0 : Option Bool} {dd0 : Option Addr} {p00_ p10_ p20_ p30_ p50_ : Option Value} {io0 ik0 id0 ip0 ic0 it0 : Value} {ie0 ia0 : Option Addr} {is0 : Array (Option Value)}
    (X0g : PySem.W.nsIn K mainGlobals "ZeroDenominator" = some (some (.ref C0)))
    (X0x : K.lookup C0 = some (excClassObj nm0 qn0 C0 N0 bs0 tZero true sn0 su0 ab0 co0 dd0 p00_ p10_ p20_ p30_ p50_ "ZeroDivisionError.__new__"))
    (X0sa : PySem.W.findIn K (.ref C0) "__setattr__" = some (some (.builtin "object.__setattr__")))
    (X0kC : PySem.W.keepIn K (.ref C0) = true)
    (X0ga : PySem.W.findIn K (.ref C0) "__getattribute__" = some (some (.builtin "BaseException.__getattribute__")))
    (X0gg : PySem.W.findIn K (.ref C0) "__getattr__" = some none)
    (X0ex : PySem.W.subIn K (.ref C0) (.type "BaseException") = some true)
    (X0hd : PySem.W.hasDictIn K C0 = true)
    (X0kl : PySem.W.findIn K (.ref C0) "__class__" = some (some (.builtin "object.__class__")))
    (X0ob : PySem.W.mroIn K C0 (.type "object") = some true)
    (X0ty : PySem.W.typeIn K (.ref C0) = some (.type "type"))
    (X0iC : PySem.W.findIn K (.ref C0) "__init__" = some (some (.ref I0)))
    (X0tI : PySem.W.typeIn K (.ref I0) = some (.type "function"))
    (X0l : K.lookup I0 = some ⟨io0, ie0, .func (PySem.W.fnOf "__init__" "ZeroDenominator.__init__" (defArgs sI0) (defBody sI0) (defScope sI0) .none ik0 id0 ip0 ia0 ic0 it0), is0⟩)
    (X0c : PySem.W.codeIn K ic0 "ZeroDenominator.__init__" = true)
    (X0k : PySem.W.keepIn K (.ref I0) = true)
    {I1 N1 : Addr} {nm1 qn1 : Str} {bs1 su1 : List Value} {sn1 : List Str} {ab1 : Bool} {co1 : Option Bool} {dd1 : Option Addr} {p01_ p11_ p21_ p31_ p51_ : Option Value} {io1 ik1 id1 ip1 ic1 it1 : Value} {ie1 ia1 : Option Addr} {is1 : Array (Option Value)}
    (X1g : PySem.W.nsIn K mainGlobals "UndefinedValue" = some (some (.ref C1)))
    (X1x : K.lookup C1 = some (excClassObj nm1 qn1 C1 N1 bs1 tZero true sn1 su1 ab1 co1 dd1 p01_ p11_ p21_ p31_ p51_ "ZeroDivisionError.__new__"))
    (X1sa : PySem.W.findIn K (.ref C1) "__setattr__" = some (some (.builtin "object.__setattr__")))
    (X1kC : PySem.W.keepIn K (.ref C1) = true)
    (X1ga : PySem.W.findIn K (.ref C1) "__getattribute__" = some (some (.builtin "BaseException.__getattribute__")))
    (X1gg : PySem.W.findIn K (.ref C1) "__getattr__" = some none)
    (X1ex : PySem.W.subIn K (.ref C1) (.type "BaseException") = some true)
    (X1hd : PySem.W.hasDictIn K C1 = true)
    (X1kl : PySem.W.findIn K (.ref C1) "__class__" = some (some (.builtin "object.__class__")))
    (X1ob : PySem.W.mroIn K C1 (.type "object") = some true)
    (X1ty : PySem.W.typeIn K (.ref C1) = some (.type "type"))
    (X1nf : PySem.W.findIn K (.ref C1) "p" = some none)
    (X1iC : PySem.W.findIn K (.ref C1) "__init__" = some (some (.ref I1)))
    (X1tI : PySem.W.typeIn K (.ref I1) = some (.type "function"))
    (X1l : K.lookup I1 = some ⟨io1, ie1, .func (PySem.W.fnOf "__init__" "UndefinedValue.__init__" (defArgs sI1) (defBody sI1) (defScope sI1) .none ik1 id1 ip1 ia1 ic1 it1), is1⟩)
    (X1c : PySem.W.codeIn K ic1 "UndefinedValue.__init__" = true)
    (X1k : PySem.W.keepIn K (.ref I1) = true)
    {I2 N2 : Addr} {nm2 qn2 : Str} {bs2 su2 : List Value} {sn2 : List Str} {ab2 : Bool} {co2 : Option Bool} {dd2 : Option Addr} {p02_ p12_ p22_ p32_ p52_ : Option Value} {io2 ik2 id2 ip2 ic2 it2 : Value} {ie2 ia2 : Option Addr} {is2 : Array (Option Value)}
    (X2g : PySem.W.nsIn K mainGlobals "AlreadyEnded" = some (some (.ref C2)))
    (X2x : K.lookup C2 = some (excClassObj nm2 qn2 C2 N2 bs2 tRun true sn2 su2 ab2 co2 dd2 p02_ p12_ p22_ p32_ p52_ "RuntimeError.__new__"))
    (X2sa : PySem.W.findIn K (.ref C2) "__setattr__" = some (some (.builtin "object.__setattr__")))
    (X2kC : PySem.W.keepIn K (.ref C2) = true)
    (X2ga : PySem.W.findIn K (.ref C2) "__getattribute__" = some (some (.builtin "BaseException.__getattribute__")))
    (X2gg : PySem.W.findIn K (.ref C2) "__getattr__" = some none)
    (X2ex : PySem.W.subIn K (.ref C2) (.type "BaseException") = some true)
    (X2hd : PySem.W.hasDictIn K C2 = true)
    (X2kl : PySem.W.findIn K (.ref C2) "__class__" = some (some (.builtin "object.__class__")))
    (X2ob : PySem.W.mroIn K C2 (.type "object") = some true)
    (X2ty : PySem.W.typeIn K (.ref C2) = some (.type "type"))
    (X2nf : PySem.W.findIn K (.ref C2) "tosses" = some none)
    (X2iC : PySem.W.findIn K (.ref C2) "__init__" = some (some (.ref I2)))
    (X2tI : PySem.W.typeIn K (.ref I2) = some (.type "function"))
    (X2l : K.lookup I2 = some ⟨io2, ie2, .func (PySem.W.fnOf "__init__" "AlreadyEnded.__init__" (defArgs sI2) (defBody sI2) (defScope sI2) .none ik2 id2 ip2 ia2 ic2 it2), is2⟩)
    (X2c : PySem.W.codeIn K ic2 "AlreadyEnded.__init__" = true)
    (X2k : PySem.W.keepIn K (.ref I2) = true)
    {I3 N3 : Addr} {nm3 qn3 : Str} {bs3 su3 : List Value} {sn3 : List Str} {ab3 : Bool} {co3 : Option Bool} {dd3 : Option Addr} {p03_ p13_ p23_ p33_ p53_ : Option Value} {io3 ik3 id3 ip3 ic3 it3 : Value} {ie3 ia3 : Option Addr} {is3 : Array (Option Value)}
    (X3g : PySem.W.nsIn K mainGlobals "InvalidSide" = some (some (.ref C3)))
    (X3x : K.lookup C3 = some (excClassObj nm3 qn3 C3 N3 bs3 tVal true sn3 su3 ab3 co3 dd3 p03_ p13_ p23_ p33_ p53_ "ValueError.__new__"))
    (X3sa : PySem.W.findIn K (.ref C3) "__setattr__" = some (some (.builtin "object.__setattr__")))
    (X3kC : PySem.W.keepIn K (.ref C3) = true)
    (X3ga : PySem.W.findIn K (.ref C3) "__getattribute__" = some (some (.builtin "BaseException.__getattribute__")))
    (X3gg : PySem.W.findIn K (.ref C3) "__getattr__" = some none)
    (X3ex : PySem.W.subIn K (.ref C3) (.type "BaseException") = some true)
    (X3hd : PySem.W.hasDictIn K C3 = true)
    (X3kl : PySem.W.findIn K (.ref C3) "__class__" = some (some (.builtin "object.__class__")))
    (X3ob : PySem.W.mroIn K C3 (.type "object") = some true)
    (X3ty : PySem.W.typeIn K (.ref C3) = some (.type "type"))
    (X3iC : PySem.W.findIn K (.ref C3) "__init__" = some (some (.ref I3)))
    (X3tI : PySem.W.typeIn K (.ref I3) = some (.type "function"))
    (X3l : K.lookup I3 = some ⟨io3, ie3, .func (PySem.W.fnOf "__init__" "InvalidSide.__init__" (defArgs sI3) (defBody sI3) (defScope sI3) .none ik3 id3 ip3 ia3 ic3 it3), is3⟩)
    (X3c : PySem.W.codeIn K ic3 "InvalidSide.__init__" = true)
    (X3k : PySem.W.keepIn K (.ref I3) = true)
    {I4 N4 : Addr} {nm4 qn4 : Str} {bs4 su4 : List Value} {sn4 : List Str} {ab4 : Bool} {co4 : Option Bool} {dd4 : Option Addr} {p04_ p14_ p24_ p34_ p54_ : Option Value} {io4 ik4 id4 ip4 ic4 it4 : Value} {ie4 ia4 : Option Addr} {is4 : Array (Option Value)}
    (X4g : PySem.W.nsIn K mainGlobals "MayNotTerminate" = some (some (.ref C4)))
    (X4x : K.lookup C4 = some (excClassObj nm4 qn4 C4 N4 bs4 tVal true sn4 su4 ab4 co4 dd4 p04_ p14_ p24_ p34_ p54_ "ValueError.__new__"))
    (X4sa : PySem.W.findIn K (.ref C4) "__setattr__" = some (some (.builtin "object.__setattr__")))
    (X4kC : PySem.W.keepIn K (.ref C4) = true)
    (X4ga : PySem.W.findIn K (.ref C4) "__getattribute__" = some (some (.builtin "BaseException.__getattribute__")))
    (X4gg : PySem.W.findIn K (.ref C4) "__getattr__" = some none)
    (X4ex : PySem.W.subIn K (.ref C4) (.type "BaseException") = some true)
    (X4hd : PySem.W.hasDictIn K C4 = true)
    (X4kl : PySem.W.findIn K (.ref C4) "__class__" = some (some (.builtin "object.__class__")))
    (X4ob : PySem.W.mroIn K C4 (.type "object") = some true)
    (X4ty : PySem.W.typeIn K (.ref C4) = some (.type "type"))
    (X4nf : PySem.W.findIn K (.ref C4) "trap" = some none)
    (X4iC : PySem.W.findIn K (.ref C4) "__init__" = some (some (.ref I4)))
    (X4tI : PySem.W.typeIn K (.ref I4) = some (.type "function"))
    (X4l : K.lookup I4 = some ⟨io4, ie4, .func (PySem.W.fnOf "__init__" "MayNotTerminate.__init__" (defArgs sI4) (defBody sI4) (defScope sI4) .none ik4 id4 ip4 ia4 ic4 it4), is4⟩)
    (X4c : PySem.W.codeIn K ic4 "MayNotTerminate.__init__" = true)
    (X4k : PySem.W.keepIn K (.ref I4) = true)
    {I5 N5 : Addr} {nm5 qn5 : Str} {bs5 su5 : List Value} {sn5 : List Str} {ab5 : Bool} {co5 : Option Bool} {dd5 : Option Addr} {p05_ p15_ p25_ p35_ p55_ : Option Value} {io5 ik5 id5 ip5 ic5 it5 : Value} {ie5 ia5 : Option Addr} {is5 : Array (Option Value)}
    (X5g : PySem.W.nsIn K mainGlobals "InvalidCoin" = some (some (.ref C5)))
    (X5x : K.lookup C5 = some (excClassObj nm5 qn5 C5 N5 bs5 tVal true sn5 su5 ab5 co5 dd5 p05_ p15_ p25_ p35_ p55_ "ValueError.__new__"))
    (X5sa : PySem.W.findIn K (.ref C5) "__setattr__" = some (some (.builtin "object.__setattr__")))
    (X5kC : PySem.W.keepIn K (.ref C5) = true)
    (X5ga : PySem.W.findIn K (.ref C5) "__getattribute__" = some (some (.builtin "BaseException.__getattribute__")))
    (X5gg : PySem.W.findIn K (.ref C5) "__getattr__" = some none)
    (X5ex : PySem.W.subIn K (.ref C5) (.type "BaseException") = some true)
    (X5hd : PySem.W.hasDictIn K C5 = true)
    (X5kl : PySem.W.findIn K (.ref C5) "__class__" = some (some (.builtin "object.__class__")))
    (X5ob : PySem.W.mroIn K C5 (.type "object") = some true)
    (X5ty : PySem.W.typeIn K (.ref C5) = some (.type "type"))
    (X5nf : PySem.W.findIn K (.ref C5) "reason" = some none)
    (X5iC : PySem.W.findIn K (.ref C5) "__init__" = some (some (.ref I5)))
    (X5tI : PySem.W.typeIn K (.ref I5) = some (.type "function"))
    (X5l : K.lookup I5 = some ⟨io5, ie5, .func (PySem.W.fnOf "__init__" "InvalidCoin.__init__" (defArgs sI5) (defBody sI5) (defScope sI5) .none ik5 id5 ip5 ia5 ic5 it5), is5⟩)
    (X5c : PySem.W.codeIn K ic5 "InvalidCoin.__init__" = true)
    (X5k : PySem.W.keepIn K (.ref I5) = true)
    {I6 N6 : Addr} {nm6 qn6 : Str} {bs6 su6 : List Value} {sn6 : List Str} {ab6 : Bool} {co6 : Option Bool} {dd6 : Option Addr} {p06_ p16_ p26_ p36_ p56_ : Option Value} {io6 ik6 id6 ip6 ic6 it6 : Value} {ie6 ia6 : Option Addr} {is6 : Array (Option Value)}
    (X6g : PySem.W.nsIn K mainGlobals "InvalidDefinition" = some (some (.ref C6)))
    (X6x : K.lookup C6 = some (excClassObj nm6 qn6 C6 N6 bs6 tVal true sn6 su6 ab6 co6 dd6 p06_ p16_ p26_ p36_ p56_ "ValueError.__new__"))
    (X6sa : PySem.W.findIn K (.ref C6) "__setattr__" = some (some (.builtin "object.__setattr__")))
    (X6kC : PySem.W.keepIn K (.ref C6) = true)
    (X6ga : PySem.W.findIn K (.ref C6) "__getattribute__" = some (some (.builtin "BaseException.__getattribute__")))
    (X6gg : PySem.W.findIn K (.ref C6) "__getattr__" = some none)
    (X6ex : PySem.W.subIn K (.ref C6) (.type "BaseException") = some true)
    (X6hd : PySem.W.hasDictIn K C6 = true)
    (X6kl : PySem.W.findIn K (.ref C6) "__class__" = some (some (.builtin "object.__class__")))
    (X6ob : PySem.W.mroIn K C6 (.type "object") = some true)
    (X6ty : PySem.W.typeIn K (.ref C6) = some (.type "type"))
    (X6nf : PySem.W.findIn K (.ref C6) "reason" = some none)
    (X6iC : PySem.W.findIn K (.ref C6) "__init__" = some (some (.ref I6)))
    (X6tI : PySem.W.typeIn K (.ref I6) = some (.type "function"))
    (X6l : K.lookup I6 = some ⟨io6, ie6, .func (PySem.W.fnOf "__init__" "InvalidDefinition.__init__" (defArgs sI6) (defBody sI6) (defScope sI6) .none ik6 id6 ip6 ia6 ic6 it6), is6⟩)
    (X6c : PySem.W.codeIn K ic6 "InvalidDefinition.__init__" = true)
    (X6k : PySem.W.keepIn K (.ref I6) = true)
    {I7 N7 : Addr} {nm7 qn7 : Str} {bs7 su7 : List Value} {sn7 : List Str} {ab7 : Bool} {co7 : Option Bool} {dd7 : Option Addr} {p07_ p17_ p27_ p37_ p57_ : Option Value} {io7 ik7 id7 ip7 ic7 it7 : Value} {ie7 ia7 : Option Addr} {is7 : Array (Option Value)}
    (X7g : PySem.W.nsIn K mainGlobals "CyclicDefinition" = some (some (.ref C7)))
    (X7x : K.lookup C7 = some (excClassObj nm7 qn7 C7 N7 bs7 tVal true sn7 su7 ab7 co7 dd7 p07_ p17_ p27_ p37_ p57_ "ValueError.__new__"))
    (X7sa : PySem.W.findIn K (.ref C7) "__setattr__" = some (some (.builtin "object.__setattr__")))
    (X7kC : PySem.W.keepIn K (.ref C7) = true)
    (X7ga : PySem.W.findIn K (.ref C7) "__getattribute__" = some (some (.builtin "BaseException.__getattribute__")))
    (X7gg : PySem.W.findIn K (.ref C7) "__getattr__" = some none)
    (X7ex : PySem.W.subIn K (.ref C7) (.type "BaseException") = some true)
    (X7hd : PySem.W.hasDictIn K C7 = true)
    (X7kl : PySem.W.findIn K (.ref C7) "__class__" = some (some (.builtin "object.__class__")))
    (X7ob : PySem.W.mroIn K C7 (.type "object") = some true)
    (X7ty : PySem.W.typeIn K (.ref C7) = some (.type "type"))
    (X7nf : PySem.W.findIn K (.ref C7) "names" = some none)
    (X7iC : PySem.W.findIn K (.ref C7) "__init__" = some (some (.ref I7)))
    (X7tI : PySem.W.typeIn K (.ref I7) = some (.type "function"))
    (X7l : K.lookup I7 = some ⟨io7, ie7, .func (PySem.W.fnOf "__init__" "CyclicDefinition.__init__" (defArgs sI7) (defBody sI7) (defScope sI7) .none ik7 id7 ip7 ia7 ic7 it7), is7⟩)
    (X7c : PySem.W.codeIn K ic7 "CyclicDefinition.__init__" = true)
    (X7k : PySem.W.keepIn K (.ref I7) = true)
    {I8 N8 : Addr} {nm8 qn8 : Str} {bs8 su8 : List Value} {sn8 : List Str} {ab8 : Bool} {co8 : Option Bool} {dd8 : Option Addr} {p08_ p18_ p28_ p38_ p58_ : Option Value} {io8 ik8 id8 ip8 ic8 it8 : Value} {ie8 ia8 : Option Addr} {is8 : Array (Option Value)}
    (X8g : PySem.W.nsIn K mainGlobals "UnknownCheckpoint" = some (some (.ref C8)))
    (X8x : K.lookup C8 = some (excClassObj nm8 qn8 C8 N8 bs8 tLook true sn8 su8 ab8 co8 dd8 p08_ p18_ p28_ p38_ p58_ "LookupError.__new__"))
    (X8sa : PySem.W.findIn K (.ref C8) "__setattr__" = some (some (.builtin "object.__setattr__")))
    (X8kC : PySem.W.keepIn K (.ref C8) = true)
    (X8ga : PySem.W.findIn K (.ref C8) "__getattribute__" = some (some (.builtin "BaseException.__getattribute__")))
    (X8gg : PySem.W.findIn K (.ref C8) "__getattr__" = some none)
    (X8ex : PySem.W.subIn K (.ref C8) (.type "BaseException") = some true)
    (X8hd : PySem.W.hasDictIn K C8 = true)
    (X8kl : PySem.W.findIn K (.ref C8) "__class__" = some (some (.builtin "object.__class__")))
    (X8ob : PySem.W.mroIn K C8 (.type "object") = some true)
    (X8ty : PySem.W.typeIn K (.ref C8) = some (.type "type"))
    (X8nf : PySem.W.findIn K (.ref C8) "number" = some none)
    (X8iC : PySem.W.findIn K (.ref C8) "__init__" = some (some (.ref I8)))
    (X8tI : PySem.W.typeIn K (.ref I8) = some (.type "function"))
    (X8l : K.lookup I8 = some ⟨io8, ie8, .func (PySem.W.fnOf "__init__" "UnknownCheckpoint.__init__" (defArgs sI8) (defBody sI8) (defScope sI8) .none ik8 id8 ip8 ia8 ic8 it8), is8⟩)
    (X8c : PySem.W.codeIn K ic8 "UnknownCheckpoint.__init__" = true)
    (X8k : PySem.W.keepIn K (.ref I8) = true)
    {I9 N9 : Addr} {nm9 qn9 : Str} {bs9 su9 : List Value} {sn9 : List Str} {ab9 : Bool} {co9 : Option Bool} {dd9 : Option Addr} {p09_ p19_ p29_ p39_ p59_ : Option Value} {io9 ik9 id9 ip9 ic9 it9 : Value} {ie9 ia9 : Option Addr} {is9 : Array (Option Value)}
    (X9g : PySem.W.nsIn K mainGlobals "ParseError" = some (some (.ref C9)))
    (X9x : K.lookup C9 = some (excClassObj nm9 qn9 C9 N9 bs9 tLook true sn9 su9 ab9 co9 dd9 p09_ p19_ p29_ p39_ p59_ "LookupError.__new__"))
    (X9sa : PySem.W.findIn K (.ref C9) "__setattr__" = some (some (.builtin "object.__setattr__")))
    (X9kC : PySem.W.keepIn K (.ref C9) = true)
    (X9ga : PySem.W.findIn K (.ref C9) "__getattribute__" = some (some (.builtin "BaseException.__getattribute__")))
    (X9gg : PySem.W.findIn K (.ref C9) "__getattr__" = some none)
    (X9ex : PySem.W.subIn K (.ref C9) (.type "BaseException") = some true)
    (X9hd : PySem.W.hasDictIn K C9 = true)
    (X9kl : PySem.W.findIn K (.ref C9) "__class__" = some (some (.builtin "object.__class__")))
    (X9ob : PySem.W.mroIn K C9 (.type "object") = some true)
    (X9ty : PySem.W.typeIn K (.ref C9) = some (.type "type"))
    (X9nf : PySem.W.findIn K (.ref C9) "number" = some none)
    (X9iC : PySem.W.findIn K (.ref C9) "__init__" = some (some (.ref I9)))
    (X9tI : PySem.W.typeIn K (.ref I9) = some (.type "function"))
    (X9l : K.lookup I9 = some ⟨io9, ie9, .func (PySem.W.fnOf "__init__" "ParseError.__init__" (defArgs sI9) (defBody sI9) (defScope sI9) .none ik9 id9 ip9 ia9 ic9 it9), is9⟩)
    (X9c : PySem.W.codeIn K ic9 "ParseError.__init__" = true)
    (X9k : PySem.W.keepIn K (.ref I9) = true)
    {I10 N10 : Addr} {nm10 qn10 : Str} {bs10 su10 : List Value} {sn10 : List Str} {ab10 : Bool} {co10 : Option Bool} {dd10 : Option Addr} {p010_ p110_ p210_ p310_ p510_ : Option Value} {io10 ik10 id10 ip10 ic10 it10 : Value} {ie10 ia10 : Option Addr} {is10 : Array (Option Value)}
    (X10g : PySem.W.nsIn K mainGlobals "UnknownName" = some (some (.ref C10)))
    (X10x : K.lookup C10 = some (excClassObj nm10 qn10 C10 N10 bs10 tKey true sn10 su10 ab10 co10 dd10 p010_ p110_ p210_ p310_ p510_ "LookupError.__new__"))
    (X10sa : PySem.W.findIn K (.ref C10) "__setattr__" = some (some (.builtin "object.__setattr__")))
    (X10kC : PySem.W.keepIn K (.ref C10) = true)
    (X10ga : PySem.W.findIn K (.ref C10) "__getattribute__" = some (some (.builtin "BaseException.__getattribute__")))
    (X10gg : PySem.W.findIn K (.ref C10) "__getattr__" = some none)
    (X10ex : PySem.W.subIn K (.ref C10) (.type "BaseException") = some true)
    (X10hd : PySem.W.hasDictIn K C10 = true)
    (X10kl : PySem.W.findIn K (.ref C10) "__class__" = some (some (.builtin "object.__class__")))
    (X10ob : PySem.W.mroIn K C10 (.type "object") = some true)
    (X10ty : PySem.W.typeIn K (.ref C10) = some (.type "type"))
    (X10nf : PySem.W.findIn K (.ref C10) "name" = some none)
    (X10iC : PySem.W.findIn K (.ref C10) "__init__" = some (some (.ref I10)))
    (X10tI : PySem.W.typeIn K (.ref I10) = some (.type "function"))
    (X10l : K.lookup I10 = some ⟨io10, ie10, .func (PySem.W.fnOf "__init__" "UnknownName.__init__" (defArgs sI10) (defBody sI10) (defScope sI10) .none ik10 id10 ip10 ia10 ic10 it10), is10⟩)
    (X10c : PySem.W.codeIn K ic10 "UnknownName.__init__" = true)
    (X10k : PySem.W.keepIn K (.ref I10) = true)
    {I11 N11 : Addr} {nm11 qn11 : Str} {bs11 su11 : List Value} {sn11 : List Str} {ab11 : Bool} {co11 : Option Bool} {dd11 : Option Addr} {p011_ p111_ p211_ p311_ p511_ : Option Value} {io11 ik11 id11 ip11 ic11 it11 : Value} {ie11 ia11 : Option Addr} {is11 : Array (Option Value)}
    (X11g : PySem.W.nsIn K mainGlobals "NameInUse" = some (some (.ref C11)))
    (X11x : K.lookup C11 = some (excClassObj nm11 qn11 C11 N11 bs11 tRun true sn11 su11 ab11 co11 dd11 p011_ p111_ p211_ p311_ p511_ "RuntimeError.__new__"))
    (X11sa : PySem.W.findIn K (.ref C11) "__setattr__" = some (some (.builtin "object.__setattr__")))
    (X11kC : PySem.W.keepIn K (.ref C11) = true)
    (X11ga : PySem.W.findIn K (.ref C11) "__getattribute__" = some (some (.builtin "BaseException.__getattribute__")))
    (X11gg : PySem.W.findIn K (.ref C11) "__getattr__" = some none)
    (X11ex : PySem.W.subIn K (.ref C11) (.type "BaseException") = some true)
    (X11hd : PySem.W.hasDictIn K C11 = true)
    (X11kl : PySem.W.findIn K (.ref C11) "__class__" = some (some (.builtin "object.__class__")))
    (X11ob : PySem.W.mroIn K C11 (.type "object") = some true)
    (X11ty : PySem.W.typeIn K (.ref C11) = some (.type "type"))
    (X11nf : PySem.W.findIn K (.ref C11) "names" = some none)
    (X11iC : PySem.W.findIn K (.ref C11) "__init__" = some (some (.ref I11)))
    (X11tI : PySem.W.typeIn K (.ref I11) = some (.type "function"))
    (X11l : K.lookup I11 = some ⟨io11, ie11, .func (PySem.W.fnOf "__init__" "NameInUse.__init__" (defArgs sI11) (defBody sI11) (defScope sI11) .none ik11 id11 ip11 ia11 ic11 it11), is11⟩)
    (X11c : PySem.W.codeIn K ic11 "NameInUse.__init__" = true)
    (X11k : PySem.W.keepIn K (.ref I11) = true)
    {I12 N12 : Addr} {nm12 qn12 : Str} {bs12 su12 : List Value} {sn12 : List Str} {ab12 : Bool} {co12 : Option Bool} {dd12 : Option Addr} {p012_ p112_ p212_ p312_ p512_ : Option Value} {io12 ik12 id12 ip12 ic12 it12 : Value} {ie12 ia12 : Option Addr} {is12 : Array (Option Value)}
    (X12g : PySem.W.nsIn K mainGlobals "LimitExceeded" = some (some (.ref C12)))
    (X12x : K.lookup C12 = some (excClassObj nm12 qn12 C12 N12 bs12 tOver true sn12 su12 ab12 co12 dd12 p012_ p112_ p212_ p312_ p512_ "OverflowError.__new__"))
    (X12sa : PySem.W.findIn K (.ref C12) "__setattr__" = some (some (.builtin "object.__setattr__")))
    (X12kC : PySem.W.keepIn K (.ref C12) = true)
    (X12ga : PySem.W.findIn K (.ref C12) "__getattribute__" = some (some (.builtin "BaseException.__getattribute__")))
    (X12gg : PySem.W.findIn K (.ref C12) "__getattr__" = some none)
    (X12ex : PySem.W.subIn K (.ref C12) (.type "BaseException") = some true)
    (X12hd : PySem.W.hasDictIn K C12 = true)
    (X12kl : PySem.W.findIn K (.ref C12) "__class__" = some (some (.builtin "object.__class__")))
    (X12ob : PySem.W.mroIn K C12 (.type "object") = some true)
    (X12ty : PySem.W.typeIn K (.ref C12) = some (.type "type"))
    (X12nf : PySem.W.findIn K (.ref C12) "limit" = some none)
    (X12iC : PySem.W.findIn K (.ref C12) "__init__" = some (some (.ref I12)))
    (X12tI : PySem.W.typeIn K (.ref I12) = some (.type "function"))
    (X12l : K.lookup I12 = some ⟨io12, ie12, .func (PySem.W.fnOf "__init__" "LimitExceeded.__init__" (defArgs sI12) (defBody sI12) (defScope sI12) .none ik12 id12 ip12 ia12 ic12 it12), is12⟩)
    (X12c : PySem.W.codeIn K ic12 "LimitExceeded.__init__" = true)
    (X12k : PySem.W.keepIn K (.ref I12) = true)
    {I13 N13 : Addr} {nm13 qn13 : Str} {bs13 su13 : List Value} {sn13 : List Str} {ab13 : Bool} {co13 : Option Bool} {dd13 : Option Addr} {p013_ p113_ p213_ p313_ p513_ : Option Value} {io13 ik13 id13 ip13 ic13 it13 : Value} {ie13 ia13 : Option Addr} {is13 : Array (Option Value)}
    (X13g : PySem.W.nsIn K mainGlobals "StepLimitExceeded" = some (some (.ref C13)))
    (X13x : K.lookup C13 = some (excClassObj nm13 qn13 C13 N13 bs13 tOver true sn13 su13 ab13 co13 dd13 p013_ p113_ p213_ p313_ p513_ "OverflowError.__new__"))
    (X13sa : PySem.W.findIn K (.ref C13) "__setattr__" = some (some (.builtin "object.__setattr__")))
    (X13kC : PySem.W.keepIn K (.ref C13) = true)
    (X13ga : PySem.W.findIn K (.ref C13) "__getattribute__" = some (some (.builtin "BaseException.__getattribute__")))
    (X13gg : PySem.W.findIn K (.ref C13) "__getattr__" = some none)
    (X13ex : PySem.W.subIn K (.ref C13) (.type "BaseException") = some true)
    (X13hd : PySem.W.hasDictIn K C13 = true)
    (X13kl : PySem.W.findIn K (.ref C13) "__class__" = some (some (.builtin "object.__class__")))
    (X13ob : PySem.W.mroIn K C13 (.type "object") = some true)
    (X13ty : PySem.W.typeIn K (.ref C13) = some (.type "type"))
    (X13nf : PySem.W.findIn K (.ref C13) "limit" = some none)
    (X13iC : PySem.W.findIn K (.ref C13) "__init__" = some (some (.ref I13)))
    (X13tI : PySem.W.typeIn K (.ref I13) = some (.type "function"))
    (X13l : K.lookup I13 = some ⟨io13, ie13, .func (PySem.W.fnOf "__init__" "StepLimitExceeded.__init__" (defArgs sI13) (defBody sI13) (defScope sI13) .none ik13 id13 ip13 ia13 ic13 it13), is13⟩)
    (X13c : PySem.W.codeIn K ic13 "StepLimitExceeded.__init__" = true)
    (X13k : PySem.W.keepIn K (.ref I13) = true)
    (gt : PySem.W.specialIn K (.builtin "object.__class__") "__get__" = some (some (.builtin "getset_descriptor.__get__")))
    (tk : PySem.W.takesIn K (.builtin "object.__class__") = some true)
    (dist : [C0, C1, C2, C3, C4, C5, C6, C7, C8, C9, C10, C11, C12, C13].Nodup)
    : ∃ fd : FuncData, (∀ (s : Shared) (v : Value), BindsTo s fd ⟨[v], []⟩ [("script", v)]) ∧ ∀ base : Heap, K.In base → base.Ns mainGlobals mg → FnG (PySem.Challenge.rw_bentcoin_k06_what_is_refused).prog w K mg base 4 fa fd ["script"] (spLaw K) := by
  have e := hfa.symm.trans (PySem.W.mg_of X G a9)
  cases e
  have F0 := fun_mk (st := sPen) l0 c0 k0
  have b0 := F0.binds (ps := ["script"]) fun _ _ _ _ _ _ us hl => match us, hl with | [_], _ => rfl
  have F1 := fun_mk (st := sFresh) l1 c1 k1
  have b1 := F1.binds (ps := ["pen"]) fun _ _ _ _ _ _ us hl => match us, hl with | [_], _ => rfl
  have F2 := fun_mk (st := sDraw) l2 c2 k2
  have b2 := F2.binds (ps := ["pen", "bound"]) fun _ _ _ _ _ _ us hl => match us, hl with | [_, _], _ => rfl
  have F3 := fun_mk (st := sOwn) l3 c3 k3
  have b3 := F3.binds (ps := ["e"]) fun _ _ _ _ _ _ us hl => match us, hl with | [_], _ => rfl
  have F4 := fun_mk (st := sBlt) l4 c4 k4
  have b4 := F4.binds (ps := ["e"]) fun _ _ _ _ _ _ us hl => match us, hl with | [_], _ => rfl
  have F5 := fun_mk (st := sCor) l5 c5 k5
  have b5 := F5.binds (ps := ["expected", "made", "values", "field"]) fun _ _ _ _ _ _ us hl => match us, hl with | [_, _, _, _], _ => rfl
  have F6 := fun_mk (st := sNum) l6 c6 k6
  have b6 := F6.binds (ps := ["count"]) fun _ _ _ _ _ _ us hl => match us, hl with | [_], _ => rfl
  have F7 := fun_mk (st := sWor) l7 c7 k7
  have b7 := F7.binds (ps := ["word", "fault", "text"]) fun _ _ _ _ _ _ us hl => match us, hl with | [_, _, _], _ => rfl
  have F8 := fun_mk (st := sTup) l8 c8 k8
  have b8 := F8.binds (ps := ["fraction", "pit", "cycle", "users"]) fun _ _ _ _ _ _ us hl => match us, hl with | [_, _, _, _], _ => rfl
  have F9 := fun_mk (st := sLaw) l9 c9 k9
  refine ⟨PySem.W.fnOf "law" "law" (defArgs sLaw) (defBody sLaw) (defScope sLaw) .none kV9 dc9 pm9 an9 cd9 ct9, fun s v => .of_eq rfl, fun base _ _ => ?_⟩
  have m : ∀ {x : Str} {u : Value}, PySem.W.nsIn K mainGlobals x = some (some u) → mg x = some u := fun e => PySem.W.mg_of X G e
  have T : Names6 mg := ⟨⟨PySem.W.mg_none_of X G z_list, PySem.W.mg_none_of X G z_tuple, PySem.W.mg_none_of X G z_len, PySem.W.mg_none_of X G z_range⟩, PySem.W.mg_none_of X G z_max, PySem.W.mg_none_of X G z_min, PySem.W.mg_none_of X G z_enumerate, PySem.W.mg_none_of X G z_repr, PySem.W.mg_none_of X G z_isinstance⟩
  obtain ⟨C, hC⟩ : ∃ C : Nat → Addr, C 0 = C0 ∧ C 1 = C1 ∧ C 2 = C2 ∧ C 3 = C3 ∧ C 4 = C4 ∧ C 5 = C5 ∧ C 6 = C6 ∧ C 7 = C7 ∧ C 8 = C8 ∧ C 9 = C9 ∧ C 10 = C10 ∧ C 11 = C11 ∧ C 12 = C12 ∧ C 13 = C13 := ⟨fun n => [C0, C1, C2, C3, C4, C5, C6, C7, C8, C9, C10, C11, C12, C13].getD n 0, rfl, rfl, rfl, rfl, rfl, rfl, rfl, rfl, rfl, rfl, rfl, rfl, rfl, rfl⟩
  obtain ⟨h0, h1, h2, h3, h4, h5, h6, h7, h8, h9, h10, h11, h12, h13⟩ := hC
  subst h0
  subst h1
  subst h2
  subst h3
  subst h4
  subst h5
  subst h6
  subst h7
  subst h8
  subst h9
  subst h10
  subst h11
  subst h12
  subst h13
  have T0 : ExC K (C 0) tZero "ZeroDivisionError.__new__" := ⟨⟨_, _, _, _, _, _, _, _, _, _, _, _, _, _, X0x⟩, lZero, X0sa, X0kC⟩
  have X0cl : (PySem.W.clsIn K (C 0)).isSome = true := cls_some T0
  have E0 : ExIs K (C 0) := ⟨X0cl, X0ga, X0gg, X0ex, X0hd, X0kl, gt, tk, X0ob⟩
  have J0 := fun_mk (st := sI0) X0l X0c X0k
  have M0 : MakesK (PySem.Challenge.rw_bentcoin_k06_what_is_refused).prog w K (C 0) I0 := makesK_of PySem.F.excBase_ZeroDivisionError T0 (by decide +kernel) (by decide +kernel) (by decide +kernel) X0iC X0tI
  have c0_ : Cls0 (PySem.Challenge.rw_bentcoin_k06_what_is_refused).prog w K mg base "ZeroDenominator" (C 0) := ⟨⟨_, _, M0.plain, ok_i0 J0, J0.binds (ps := ["self"]) fun _ _ _ _ _ _ us hl => (match us, hl with | [_], _ => rfl)⟩, m X0g, X0kC, E0⟩
  have T1 : ExC K (C 1) tZero "ZeroDivisionError.__new__" := ⟨⟨_, _, _, _, _, _, _, _, _, _, _, _, _, _, X1x⟩, lZero, X1sa, X1kC⟩
  have X1cl : (PySem.W.clsIn K (C 1)).isSome = true := cls_some T1
  have E1 : ExIs K (C 1) := ⟨X1cl, X1ga, X1gg, X1ex, X1hd, X1kl, gt, tk, X1ob⟩
  have J1 := fun_mk (st := sI1) X1l X1c X1k
  have M1 : MakesK (PySem.Challenge.rw_bentcoin_k06_what_is_refused).prog w K (C 1) I1 := makesK_of PySem.F.excBase_ZeroDivisionError T1 (by decide +kernel) (by decide +kernel) (by decide +kernel) X1iC X1tI
  have c1_ : Cls (PySem.Challenge.rw_bentcoin_k06_what_is_refused).prog w K mg base "UndefinedValue" "p" (C 1) := ⟨⟨_, _, M1, ok_i1 J1 T1 X1nf, J1.binds (ps := ["self", "p"]) fun _ _ _ _ _ _ us hl => (match us, hl with | [_, _], _ => rfl), init_kw J1 fun _ _ _ _ _ _ _ _ => rfl⟩, m X1g, X1kC, E1, X1nf⟩
  have T2 : ExC K (C 2) tRun "RuntimeError.__new__" := ⟨⟨_, _, _, _, _, _, _, _, _, _, _, _, _, _, X2x⟩, lRun, X2sa, X2kC⟩
  have X2cl : (PySem.W.clsIn K (C 2)).isSome = true := cls_some T2
  have E2 : ExIs K (C 2) := ⟨X2cl, X2ga, X2gg, X2ex, X2hd, X2kl, gt, tk, X2ob⟩
  have J2 := fun_mk (st := sI2) X2l X2c X2k
  have M2 : MakesK (PySem.Challenge.rw_bentcoin_k06_what_is_refused).prog w K (C 2) I2 := makesK_of PySem.F.excBase_RuntimeError T2 (by decide +kernel) (by decide +kernel) (by decide +kernel) X2iC X2tI
  have c2_ : Cls (PySem.Challenge.rw_bentcoin_k06_what_is_refused).prog w K mg base "AlreadyEnded" "tosses" (C 2) := ⟨⟨_, _, M2, ok_i2 J2 T2 X2nf, J2.binds (ps := ["self", "tosses"]) fun _ _ _ _ _ _ us hl => (match us, hl with | [_, _], _ => rfl), init_kw J2 fun _ _ _ _ _ _ _ _ => rfl⟩, m X2g, X2kC, E2, X2nf⟩
  have T3 : ExC K (C 3) tVal "ValueError.__new__" := ⟨⟨_, _, _, _, _, _, _, _, _, _, _, _, _, _, X3x⟩, lVal, X3sa, X3kC⟩
  have X3cl : (PySem.W.clsIn K (C 3)).isSome = true := cls_some T3
  have E3 : ExIs K (C 3) := ⟨X3cl, X3ga, X3gg, X3ex, X3hd, X3kl, gt, tk, X3ob⟩
  have J3 := fun_mk (st := sI3) X3l X3c X3k
  have M3 : MakesK (PySem.Challenge.rw_bentcoin_k06_what_is_refused).prog w K (C 3) I3 := makesK_of PySem.F.excBase_ValueError T3 (by decide +kernel) (by decide +kernel) (by decide +kernel) X3iC X3tI
  have c3_ : Cls0 (PySem.Challenge.rw_bentcoin_k06_what_is_refused).prog w K mg base "InvalidSide" (C 3) := ⟨⟨_, _, M3.plain, ok_i3 J3, J3.binds (ps := ["self"]) fun _ _ _ _ _ _ us hl => (match us, hl with | [_], _ => rfl)⟩, m X3g, X3kC, E3⟩
  have T4 : ExC K (C 4) tVal "ValueError.__new__" := ⟨⟨_, _, _, _, _, _, _, _, _, _, _, _, _, _, X4x⟩, lVal, X4sa, X4kC⟩
  have X4cl : (PySem.W.clsIn K (C 4)).isSome = true := cls_some T4
  have E4 : ExIs K (C 4) := ⟨X4cl, X4ga, X4gg, X4ex, X4hd, X4kl, gt, tk, X4ob⟩
  have J4 := fun_mk (st := sI4) X4l X4c X4k
  have M4 : MakesK (PySem.Challenge.rw_bentcoin_k06_what_is_refused).prog w K (C 4) I4 := makesK_of PySem.F.excBase_ValueError T4 (by decide +kernel) (by decide +kernel) (by decide +kernel) X4iC X4tI
  have c4_ : Cls (PySem.Challenge.rw_bentcoin_k06_what_is_refused).prog w K mg base "MayNotTerminate" "trap" (C 4) := ⟨⟨_, _, M4, ok_i4 J4 T4 X4nf, J4.binds (ps := ["self", "trap"]) fun _ _ _ _ _ _ us hl => (match us, hl with | [_, _], _ => rfl), init_kw J4 fun _ _ _ _ _ _ _ _ => rfl⟩, m X4g, X4kC, E4, X4nf⟩
  have T5 : ExC K (C 5) tVal "ValueError.__new__" := ⟨⟨_, _, _, _, _, _, _, _, _, _, _, _, _, _, X5x⟩, lVal, X5sa, X5kC⟩
  have X5cl : (PySem.W.clsIn K (C 5)).isSome = true := cls_some T5
  have E5 : ExIs K (C 5) := ⟨X5cl, X5ga, X5gg, X5ex, X5hd, X5kl, gt, tk, X5ob⟩
  have J5 := fun_mk (st := sI5) X5l X5c X5k
  have M5 : MakesK (PySem.Challenge.rw_bentcoin_k06_what_is_refused).prog w K (C 5) I5 := makesK_of PySem.F.excBase_ValueError T5 (by decide +kernel) (by decide +kernel) (by decide +kernel) X5iC X5tI
  have c5_ : Cls (PySem.Challenge.rw_bentcoin_k06_what_is_refused).prog w K mg base "InvalidCoin" "reason" (C 5) := ⟨⟨_, _, M5, ok_i5 J5 T5 X5nf, J5.binds (ps := ["self", "reason"]) fun _ _ _ _ _ _ us hl => (match us, hl with | [_, _], _ => rfl), init_kw J5 fun _ _ _ _ _ _ _ _ => rfl⟩, m X5g, X5kC, E5, X5nf⟩
  have T6 : ExC K (C 6) tVal "ValueError.__new__" := ⟨⟨_, _, _, _, _, _, _, _, _, _, _, _, _, _, X6x⟩, lVal, X6sa, X6kC⟩
  have X6cl : (PySem.W.clsIn K (C 6)).isSome = true := cls_some T6
  have E6 : ExIs K (C 6) := ⟨X6cl, X6ga, X6gg, X6ex, X6hd, X6kl, gt, tk, X6ob⟩
  have J6 := fun_mk (st := sI6) X6l X6c X6k
  have M6 : MakesK (PySem.Challenge.rw_bentcoin_k06_what_is_refused).prog w K (C 6) I6 := makesK_of PySem.F.excBase_ValueError T6 (by decide +kernel) (by decide +kernel) (by decide +kernel) X6iC X6tI
  have c6_ : Cls (PySem.Challenge.rw_bentcoin_k06_what_is_refused).prog w K mg base "InvalidDefinition" "reason" (C 6) := ⟨⟨_, _, M6, ok_i6 J6 T6 X6nf, J6.binds (ps := ["self", "reason"]) fun _ _ _ _ _ _ us hl => (match us, hl with | [_, _], _ => rfl), init_kw J6 fun _ _ _ _ _ _ _ _ => rfl⟩, m X6g, X6kC, E6, X6nf⟩
  have T7 : ExC K (C 7) tVal "ValueError.__new__" := ⟨⟨_, _, _, _, _, _, _, _, _, _, _, _, _, _, X7x⟩, lVal, X7sa, X7kC⟩
  have X7cl : (PySem.W.clsIn K (C 7)).isSome = true := cls_some T7
  have E7 : ExIs K (C 7) := ⟨X7cl, X7ga, X7gg, X7ex, X7hd, X7kl, gt, tk, X7ob⟩
  have J7 := fun_mk (st := sI7) X7l X7c X7k
  have M7 : MakesK (PySem.Challenge.rw_bentcoin_k06_what_is_refused).prog w K (C 7) I7 := makesK_of PySem.F.excBase_ValueError T7 (by decide +kernel) (by decide +kernel) (by decide +kernel) X7iC X7tI
  have c7_ : Cls (PySem.Challenge.rw_bentcoin_k06_what_is_refused).prog w K mg base "CyclicDefinition" "names" (C 7) := ⟨⟨_, _, M7, ok_i7 J7 T7 X7nf, J7.binds (ps := ["self", "names"]) fun _ _ _ _ _ _ us hl => (match us, hl with | [_, _], _ => rfl), init_kw J7 fun _ _ _ _ _ _ _ _ => rfl⟩, m X7g, X7kC, E7, X7nf⟩
  have T8 : ExC K (C 8) tLook "LookupError.__new__" := ⟨⟨_, _, _, _, _, _, _, _, _, _, _, _, _, _, X8x⟩, lLook, X8sa, X8kC⟩
  have X8cl : (PySem.W.clsIn K (C 8)).isSome = true := cls_some T8
  have E8 : ExIs K (C 8) := ⟨X8cl, X8ga, X8gg, X8ex, X8hd, X8kl, gt, tk, X8ob⟩
  have J8 := fun_mk (st := sI8) X8l X8c X8k
  have M8 : MakesK (PySem.Challenge.rw_bentcoin_k06_what_is_refused).prog w K (C 8) I8 := makesK_of PySem.F.excBase_LookupError T8 (by decide +kernel) (by decide +kernel) (by decide +kernel) X8iC X8tI
  have c8_ : Cls (PySem.Challenge.rw_bentcoin_k06_what_is_refused).prog w K mg base "UnknownCheckpoint" "number" (C 8) := ⟨⟨_, _, M8, ok_i8 J8 T8 X8nf, J8.binds (ps := ["self", "number"]) fun _ _ _ _ _ _ us hl => (match us, hl with | [_, _], _ => rfl), init_kw J8 fun _ _ _ _ _ _ _ _ => rfl⟩, m X8g, X8kC, E8, X8nf⟩
  have T9 : ExC K (C 9) tLook "LookupError.__new__" := ⟨⟨_, _, _, _, _, _, _, _, _, _, _, _, _, _, X9x⟩, lLook, X9sa, X9kC⟩
  have X9cl : (PySem.W.clsIn K (C 9)).isSome = true := cls_some T9
  have E9 : ExIs K (C 9) := ⟨X9cl, X9ga, X9gg, X9ex, X9hd, X9kl, gt, tk, X9ob⟩
  have J9 := fun_mk (st := sI9) X9l X9c X9k
  have M9 : MakesK (PySem.Challenge.rw_bentcoin_k06_what_is_refused).prog w K (C 9) I9 := makesK_of PySem.F.excBase_LookupError T9 (by decide +kernel) (by decide +kernel) (by decide +kernel) X9iC X9tI
  have c9_ : Cls (PySem.Challenge.rw_bentcoin_k06_what_is_refused).prog w K mg base "ParseError" "number" (C 9) := ⟨⟨_, _, M9, ok_i9 J9 T9 X9nf, J9.binds (ps := ["self", "number"]) fun _ _ _ _ _ _ us hl => (match us, hl with | [_, _], _ => rfl), init_kw J9 fun _ _ _ _ _ _ _ _ => rfl⟩, m X9g, X9kC, E9, X9nf⟩
  have T10 : ExC K (C 10) tKey "LookupError.__new__" := ⟨⟨_, _, _, _, _, _, _, _, _, _, _, _, _, _, X10x⟩, lKey, X10sa, X10kC⟩
  have X10cl : (PySem.W.clsIn K (C 10)).isSome = true := cls_some T10
  have E10 : ExIs K (C 10) := ⟨X10cl, X10ga, X10gg, X10ex, X10hd, X10kl, gt, tk, X10ob⟩
  have J10 := fun_mk (st := sI10) X10l X10c X10k
  have M10 : MakesK (PySem.Challenge.rw_bentcoin_k06_what_is_refused).prog w K (C 10) I10 := makesK_of PySem.F.excBase_LookupError T10 (by decide +kernel) (by decide +kernel) (by decide +kernel) X10iC X10tI
  have c10_ : Cls (PySem.Challenge.rw_bentcoin_k06_what_is_refused).prog w K mg base "UnknownName" "name" (C 10) := ⟨⟨_, _, M10, ok_i10 J10 T10 X10nf, J10.binds (ps := ["self", "name"]) fun _ _ _ _ _ _ us hl => (match us, hl with | [_, _], _ => rfl), init_kw J10 fun _ _ _ _ _ _ _ _ => rfl⟩, m X10g, X10kC, E10, X10nf⟩
  have T11 : ExC K (C 11) tRun "RuntimeError.__new__" := ⟨⟨_, _, _, _, _, _, _, _, _, _, _, _, _, _, X11x⟩, lRun, X11sa, X11kC⟩
  have X11cl : (PySem.W.clsIn K (C 11)).isSome = true := cls_some T11
  have E11 : ExIs K (C 11) := ⟨X11cl, X11ga, X11gg, X11ex, X11hd, X11kl, gt, tk, X11ob⟩
  have J11 := fun_mk (st := sI11) X11l X11c X11k
  have M11 : MakesK (PySem.Challenge.rw_bentcoin_k06_what_is_refused).prog w K (C 11) I11 := makesK_of PySem.F.excBase_RuntimeError T11 (by decide +kernel) (by decide +kernel) (by decide +kernel) X11iC X11tI
  have c11_ : Cls (PySem.Challenge.rw_bentcoin_k06_what_is_refused).prog w K mg base "NameInUse" "names" (C 11) := ⟨⟨_, _, M11, ok_i11 J11 T11 X11nf, J11.binds (ps := ["self", "names"]) fun _ _ _ _ _ _ us hl => (match us, hl with | [_, _], _ => rfl), init_kw J11 fun _ _ _ _ _ _ _ _ => rfl⟩, m X11g, X11kC, E11, X11nf⟩
  have T12 : ExC K (C 12) tOver "OverflowError.__new__" := ⟨⟨_, _, _, _, _, _, _, _, _, _, _, _, _, _, X12x⟩, lOver, X12sa, X12kC⟩
  have X12cl : (PySem.W.clsIn K (C 12)).isSome = true := cls_some T12
  have E12 : ExIs K (C 12) := ⟨X12cl, X12ga, X12gg, X12ex, X12hd, X12kl, gt, tk, X12ob⟩
  have J12 := fun_mk (st := sI12) X12l X12c X12k
  have M12 : MakesK (PySem.Challenge.rw_bentcoin_k06_what_is_refused).prog w K (C 12) I12 := makesK_of PySem.F.excBase_OverflowError T12 (by decide +kernel) (by decide +kernel) (by decide +kernel) X12iC X12tI
  have c12_ : Cls (PySem.Challenge.rw_bentcoin_k06_what_is_refused).prog w K mg base "LimitExceeded" "limit" (C 12) := ⟨⟨_, _, M12, ok_i12 J12 T12 X12nf, J12.binds (ps := ["self", "limit"]) fun _ _ _ _ _ _ us hl => (match us, hl with | [_, _], _ => rfl), init_kw J12 fun _ _ _ _ _ _ _ _ => rfl⟩, m X12g, X12kC, E12, X12nf⟩
  have T13 : ExC K (C 13) tOver "OverflowError.__new__" := ⟨⟨_, _, _, _, _, _, _, _, _, _, _, _, _, _, X13x⟩, lOver, X13sa, X13kC⟩
  have X13cl : (PySem.W.clsIn K (C 13)).isSome = true := cls_some T13
  have E13 : ExIs K (C 13) := ⟨X13cl, X13ga, X13gg, X13ex, X13hd, X13kl, gt, tk, X13ob⟩
  have J13 := fun_mk (st := sI13) X13l X13c X13k
  have M13 : MakesK (PySem.Challenge.rw_bentcoin_k06_what_is_refused).prog w K (C 13) I13 := makesK_of PySem.F.excBase_OverflowError T13 (by decide +kernel) (by decide +kernel) (by decide +kernel) X13iC X13tI
  have c13_ : Cls (PySem.Challenge.rw_bentcoin_k06_what_is_refused).prog w K mg base "StepLimitExceeded" "limit" (C 13) := ⟨⟨_, _, M13, ok_i13 J13 T13 X13nf, J13.binds (ps := ["self", "limit"]) fun _ _ _ _ _ _ us hl => (match us, hl with | [_, _], _ => rfl), init_kw J13 fun _ _ _ _ _ _ _ _ => rfl⟩, m X13g, X13kC, E13, X13nf⟩
  have own : ∀ (i : Nat) {tail : List Value} {nw : String}, i < 14 → ExC K (C i) tail nw → (∀ D, tail.contains (.ref D) = false) → ∃ ks : List Bool, ks.length = (ownL C).length ∧ (∀ (j : Nat) (c : V × Value) (b : Bool), (ownL C)[j]? = some c → ks[j]? = some b → PySem.W.kitOne K (.ref (C i)) c.2 = some b) ∧ idx ks (ownL C).length = [i] := by
    intro i tail nw hi T no
    exact own_of hi T no dist (fun j hj => by
      match j, hj with
      | 0, _ => exact ⟨X0cl, X0ty⟩
      | 1, _ => exact ⟨X1cl, X1ty⟩
      | 2, _ => exact ⟨X2cl, X2ty⟩
      | 3, _ => exact ⟨X3cl, X3ty⟩
      | 4, _ => exact ⟨X4cl, X4ty⟩
      | 5, _ => exact ⟨X5cl, X5ty⟩
      | 6, _ => exact ⟨X6cl, X6ty⟩
      | 7, _ => exact ⟨X7cl, X7ty⟩
      | 8, _ => exact ⟨X8cl, X8ty⟩
      | 9, _ => exact ⟨X9cl, X9ty⟩
      | 10, _ => exact ⟨X10cl, X10ty⟩
      | 11, _ => exact ⟨X11cl, X11ty⟩
      | 12, _ => exact ⟨X12cl, X12ty⟩
      | 13, _ => exact ⟨X13cl, X13ty⟩
      | j + 14, h => omega)
  have k0_ : Kinds K C (C 0) 0 [0] := ⟨E0, own 0 (by decide) T0 fun _ => rfl, blt_of T0 (by decide +kernel)⟩
  have k1_ : Kinds K C (C 1) 1 [0] := ⟨E1, own 1 (by decide) T1 fun _ => rfl, blt_of T1 (by decide +kernel)⟩
  have k2_ : Kinds K C (C 2) 2 [1] := ⟨E2, own 2 (by decide) T2 fun _ => rfl, blt_of T2 (by decide +kernel)⟩
  have k3_ : Kinds K C (C 3) 3 [2] := ⟨E3, own 3 (by decide) T3 fun _ => rfl, blt_of T3 (by decide +kernel)⟩
  have k4_ : Kinds K C (C 4) 4 [2] := ⟨E4, own 4 (by decide) T4 fun _ => rfl, blt_of T4 (by decide +kernel)⟩
  have k5_ : Kinds K C (C 5) 5 [2] := ⟨E5, own 5 (by decide) T5 fun _ => rfl, blt_of T5 (by decide +kernel)⟩
  have k6_ : Kinds K C (C 6) 6 [2] := ⟨E6, own 6 (by decide) T6 fun _ => rfl, blt_of T6 (by decide +kernel)⟩
  have k7_ : Kinds K C (C 7) 7 [2] := ⟨E7, own 7 (by decide) T7 fun _ => rfl, blt_of T7 (by decide +kernel)⟩
  have k8_ : Kinds K C (C 8) 8 [3] := ⟨E8, own 8 (by decide) T8 fun _ => rfl, blt_of T8 (by decide +kernel)⟩
  have k9_ : Kinds K C (C 9) 9 [3] := ⟨E9, own 9 (by decide) T9 fun _ => rfl, blt_of T9 (by decide +kernel)⟩
  have k10_ : Kinds K C (C 10) 10 [3, 4] := ⟨E10, own 10 (by decide) T10 fun _ => rfl, blt_of T10 (by decide +kernel)⟩
  have k11_ : Kinds K C (C 11) 11 [1] := ⟨E11, own 11 (by decide) T11 fun _ => rfl, blt_of T11 (by decide +kernel)⟩
  have k12_ : Kinds K C (C 12) 12 [6] := ⟨E12, own 12 (by decide) T12 fun _ => rfl, blt_of T12 (by decide +kernel)⟩
  have k13_ : Kinds K C (C 13) 13 [6] := ⟨E13, own 13 (by decide) T13 fun _ => rfl, blt_of T13 (by decide +kernel)⟩
  have G0 := ok_pen (P := PySem.Challenge.pw_bentcoin_k06_what_is_refused) (w := w) (mg := mg) (base := base) F0 T.toNames
  have G1 := ok_fresh (P := PySem.Challenge.pw_bentcoin_k06_what_is_refused) (w := w) (mg := mg) (base := base) F1 T.toNames
  have G2 := ok_draw F2 G1 (m a1) k1 b1
  have G3 := ok_own (P := PySem.Challenge.pw_bentcoin_k06_what_is_refused) (w := w) (mg := mg) (base := base) F3 T (C := C) (m X0g) (m X1g) (m X2g) (m X3g) (m X4g) (m X5g) (m X6g) (m X7g) (m X8g) (m X9g) (m X10g) (m X11g) (m X12g) (m X13g)
  have G4 := ok_blt (P := PySem.Challenge.pw_bentcoin_k06_what_is_refused) (w := w) (mg := mg) (base := base) F4 T (PySem.W.mg_none_of X G z_ZeroDivisionError) (PySem.W.mg_none_of X G z_RuntimeError) (PySem.W.mg_none_of X G z_ValueError) (PySem.W.mg_none_of X G z_LookupError) (PySem.W.mg_none_of X G z_KeyError) (PySem.W.mg_none_of X G z_IndexError) (PySem.W.mg_none_of X G z_OverflowError) (PySem.W.mg_none_of X G z_NotImplementedError)
  have G5 := ok_cor (C := C) F5 T G3 ⟨m a3, k3, b3⟩ G4 ⟨m a4, k4, b4⟩
  have G6 := ok_num F6 G5 ⟨m a5, k5, b5⟩ c2_ k2_ c8_ k8_ c9_ k9_ c12_ k12_ c13_ k13_
  have G7 := ok_wor F7 G5 ⟨m a5, k5, b5⟩ c5_ k5_ c6_ k6_ c10_ k10_
  have G8 := ok_tup F8 G5 ⟨m a5, k5, b5⟩ c1_ k1_ c4_ k4_ c7_ k7_ c11_ k11_
  exact ok_law F9 T G0 ⟨m a0, k0, b0⟩ G2 ⟨m a2, k2, b2⟩ G3 ⟨m a3, k3, b3⟩ G4 ⟨m a4, k4, b4⟩ G6 ⟨m a6, k6, b6⟩ G7 ⟨m a7, k7, b7⟩ G8 ⟨m a8, k8, b8⟩ c0_ k0_ c3_ k3_
end Z
open PySem PySem.W PyProof.Rows
set_option maxRecDepth 100000 in
set_option maxHeartbeats 0 in
theorem PySem.Challenge.cw_bentcoin_k06_what_is_refused_holds : PySem.Challenge.rw_bentcoin_k06_what_is_refused.Holds := by
  w_on; o_law; k_head; (case hw => w_witness2)
  k_fill
  refine GG.walkG (l := PySem.Challenge.rw_bentcoin_k06_what_is_refused) (n := 63) (k := 4) (x := "script") (sp := Z.spLaw) rfl (by decide) rfl ⟨rfl, by decide, by decide⟩ (fun w h Y => PySem.W.kIn_of Y) ?F (fun _ _ a ns hl hS => ⟨a, ns, rfl, hS, hl, fun _ => rfl⟩)
  case F =>
    intro w mg fa h KX G hmg
    refine' Z.all_mk KX G hmg ?a0 ?l0 ?c0 ?k0 ?a1 ?l1 ?c1 ?k1 ?a2 ?l2 ?c2 ?k2 ?a3 ?l3 ?c3 ?k3 ?a4 ?l4 ?c4 ?k4 ?a5 ?l5 ?c5 ?k5 ?a6 ?l6 ?c6 ?k6 ?a7 ?l7 ?c7 ?k7 ?a8 ?l8 ?c8 ?k8 ?a9 ?l9 ?c9 ?k9 ?z_list ?z_tuple ?z_len ?z_range ?z_max ?z_min ?z_repr ?z_enumerate ?z_isinstance ?z_ZeroDivisionError ?z_RuntimeError ?z_ValueError ?z_LookupError ?z_KeyError ?z_IndexError ?z_OverflowError ?z_NotImplementedError ?X0g ?X0x ?X0sa ?X0kC ?X0ga ?X0gg ?X0ex ?X0hd ?X0kl ?X0ob ?X0ty ?X0iC ?X0tI ?X0l ?X0c ?X0k ?X1g ?X1x ?X1sa ?X1kC ?X1ga ?X1gg ?X1ex ?X1hd ?X1kl ?X1ob ?X1ty ?X1nf ?X1iC ?X1tI ?X1l ?X1c ?X1k ?X2g ?X2x ?X2sa ?X2kC ?X2ga ?X2gg ?X2ex ?X2hd ?X2kl ?X2ob ?X2ty ?X2nf ?X2iC ?X2tI ?X2l ?X2c ?X2k ?X3g ?X3x ?X3sa ?X3kC ?X3ga ?X3gg ?X3ex ?X3hd ?X3kl ?X3ob ?X3ty ?X3iC ?X3tI ?X3l ?X3c ?X3k ?X4g ?X4x ?X4sa ?X4kC ?X4ga ?X4gg ?X4ex ?X4hd ?X4kl ?X4ob ?X4ty ?X4nf ?X4iC ?X4tI ?X4l ?X4c ?X4k ?X5g ?X5x ?X5sa ?X5kC ?X5ga ?X5gg ?X5ex ?X5hd ?X5kl ?X5ob ?X5ty ?X5nf ?X5iC ?X5tI ?X5l ?X5c ?X5k ?X6g ?X6x ?X6sa ?X6kC ?X6ga ?X6gg ?X6ex ?X6hd ?X6kl ?X6ob ?X6ty ?X6nf ?X6iC ?X6tI ?X6l ?X6c ?X6k ?X7g ?X7x ?X7sa ?X7kC ?X7ga ?X7gg ?X7ex ?X7hd ?X7kl ?X7ob ?X7ty ?X7nf ?X7iC ?X7tI ?X7l ?X7c ?X7k ?X8g ?X8x ?X8sa ?X8kC ?X8ga ?X8gg ?X8ex ?X8hd ?X8kl ?X8ob ?X8ty ?X8nf ?X8iC ?X8tI ?X8l ?X8c ?X8k ?X9g ?X9x ?X9sa ?X9kC ?X9ga ?X9gg ?X9ex ?X9hd ?X9kl ?X9ob ?X9ty ?X9nf ?X9iC ?X9tI ?X9l ?X9c ?X9k ?X10g ?X10x ?X10sa ?X10kC ?X10ga ?X10gg ?X10ex ?X10hd ?X10kl ?X10ob ?X10ty ?X10nf ?X10iC ?X10tI ?X10l ?X10c ?X10k ?X11g ?X11x ?X11sa ?X11kC ?X11ga ?X11gg ?X11ex ?X11hd ?X11kl ?X11ob ?X11ty ?X11nf ?X11iC ?X11tI ?X11l ?X11c ?X11k ?X12g ?X12x ?X12sa ?X12kC ?X12ga ?X12gg ?X12ex ?X12hd ?X12kl ?X12ob ?X12ty ?X12nf ?X12iC ?X12tI ?X12l ?X12c ?X12k ?X13g ?X13x ?X13sa ?X13kC ?X13ga ?X13gg ?X13ex ?X13hd ?X13kl ?X13ob ?X13ty ?X13nf ?X13iC ?X13tI ?X13l ?X13c ?X13k ?gt ?tk ?dist
    (case a0 => k_is)
    (case l0 => k_is)
    (case c0 => k_is)
    (case k0 => k_is)
    (case a1 => k_is)
    (case l1 => k_is)
    (case c1 => k_is)
    (case k1 => k_is)
    (case a2 => k_is)
    (case l2 => k_is)
    (case c2 => k_is)
    (case k2 => k_is)
    (case a3 => k_is)
    (case l3 => k_is)
    (case c3 => k_is)
    (case k3 => k_is)
    (case a4 => k_is)
    (case l4 => k_is)
    (case c4 => k_is)
    (case k4 => k_is)
    (case a5 => k_is)
    (case l5 => k_is)
    (case c5 => k_is)
    (case k5 => k_is)
    (case a6 => k_is)
    (case l6 => k_is)
    (case c6 => k_is)
    (case k6 => k_is)
    (case a7 => k_is)
    (case l7 => k_is)
    (case c7 => k_is)
    (case k7 => k_is)
    (case a8 => k_is)
    (case l8 => k_is)
    (case c8 => k_is)
    (case k8 => k_is)
    (case a9 => k_is)
    (case l9 => k_is)
    (case c9 => k_is)
    (case k9 => k_is)
    (case z_list => k_is)
    (case z_tuple => k_is)
    (case z_len => k_is)
    (case z_range => k_is)
    (case z_max => k_is)
    (case z_min => k_is)
    (case z_repr => k_is)
    (case z_enumerate => k_is)
    (case z_isinstance => k_is)
    (case z_ZeroDivisionError => k_is)
    (case z_RuntimeError => k_is)
    (case z_ValueError => k_is)
    (case z_LookupError => k_is)
    (case z_KeyError => k_is)
    (case z_IndexError => k_is)
    (case z_OverflowError => k_is)
    (case z_NotImplementedError => k_is)
    (case X0g => k_is)
    (case X0x => k_is)
    (case X0sa => k_is)
    (case X0kC => k_is)
    (case X0ga => k_is)
    (case X0gg => k_is)
    (case X0ex => k_is)
    (case X0hd => k_is)
    (case X0kl => k_is)
    (case X0ob => k_is)
    (case X0ty => k_is)
    (case X0iC => k_is)
    (case X0tI => k_is)
    (case X0l => k_is)
    (case X0c => k_is)
    (case X0k => k_is)
    (case X1g => k_is)
    (case X1x => k_is)
    (case X1sa => k_is)
    (case X1kC => k_is)
    (case X1ga => k_is)
    (case X1gg => k_is)
    (case X1ex => k_is)
    (case X1hd => k_is)
    (case X1kl => k_is)
    (case X1ob => k_is)
    (case X1ty => k_is)
    (case X1nf => k_is)
    (case X1iC => k_is)
    (case X1tI => k_is)
    (case X1l => k_is)
    (case X1c => k_is)
    (case X1k => k_is)
    (case X2g => k_is)
    (case X2x => k_is)
    (case X2sa => k_is)
    (case X2kC => k_is)
    (case X2ga => k_is)
    (case X2gg => k_is)
    (case X2ex => k_is)
    (case X2hd => k_is)
    (case X2kl => k_is)
    (case X2ob => k_is)
    (case X2ty => k_is)
    (case X2nf => k_is)
    (case X2iC => k_is)
    (case X2tI => k_is)
    (case X2l => k_is)
    (case X2c => k_is)
    (case X2k => k_is)
    (case X3g => k_is)
    (case X3x => k_is)
    (case X3sa => k_is)
    (case X3kC => k_is)
    (case X3ga => k_is)
    (case X3gg => k_is)
    (case X3ex => k_is)
    (case X3hd => k_is)
    (case X3kl => k_is)
    (case X3ob => k_is)
    (case X3ty => k_is)
    (case X3iC => k_is)
    (case X3tI => k_is)
    (case X3l => k_is)
    (case X3c => k_is)
    (case X3k => k_is)
    (case X4g => k_is)
    (case X4x => k_is)
    (case X4sa => k_is)
    (case X4kC => k_is)
    (case X4ga => k_is)
    (case X4gg => k_is)
    (case X4ex => k_is)
    (case X4hd => k_is)
    (case X4kl => k_is)
    (case X4ob => k_is)
    (case X4ty => k_is)
    (case X4nf => k_is)
    (case X4iC => k_is)
    (case X4tI => k_is)
    (case X4l => k_is)
    (case X4c => k_is)
    (case X4k => k_is)
    (case X5g => k_is)
    (case X5x => k_is)
    (case X5sa => k_is)
    (case X5kC => k_is)
    (case X5ga => k_is)
    (case X5gg => k_is)
    (case X5ex => k_is)
    (case X5hd => k_is)
    (case X5kl => k_is)
    (case X5ob => k_is)
    (case X5ty => k_is)
    (case X5nf => k_is)
    (case X5iC => k_is)
    (case X5tI => k_is)
    (case X5l => k_is)
    (case X5c => k_is)
    (case X5k => k_is)
    (case X6g => k_is)
    (case X6x => k_is)
    (case X6sa => k_is)
    (case X6kC => k_is)
    (case X6ga => k_is)
    (case X6gg => k_is)
    (case X6ex => k_is)
    (case X6hd => k_is)
    (case X6kl => k_is)
    (case X6ob => k_is)
    (case X6ty => k_is)
    (case X6nf => k_is)
    (case X6iC => k_is)
    (case X6tI => k_is)
    (case X6l => k_is)
    (case X6c => k_is)
    (case X6k => k_is)
    (case X7g => k_is)
    (case X7x => k_is)
    (case X7sa => k_is)
    (case X7kC => k_is)
    (case X7ga => k_is)
    (case X7gg => k_is)
    (case X7ex => k_is)
    (case X7hd => k_is)
    (case X7kl => k_is)
    (case X7ob => k_is)
    (case X7ty => k_is)
    (case X7nf => k_is)
    (case X7iC => k_is)
    (case X7tI => k_is)
    (case X7l => k_is)
    (case X7c => k_is)
    (case X7k => k_is)
    (case X8g => k_is)
    (case X8x => k_is)
    (case X8sa => k_is)
    (case X8kC => k_is)
    (case X8ga => k_is)
    (case X8gg => k_is)
    (case X8ex => k_is)
    (case X8hd => k_is)
    (case X8kl => k_is)
    (case X8ob => k_is)
    (case X8ty => k_is)
    (case X8nf => k_is)
    (case X8iC => k_is)
    (case X8tI => k_is)
    (case X8l => k_is)
    (case X8c => k_is)
    (case X8k => k_is)
    (case X9g => k_is)
    (case X9x => k_is)
    (case X9sa => k_is)
    (case X9kC => k_is)
    (case X9ga => k_is)
    (case X9gg => k_is)
    (case X9ex => k_is)
    (case X9hd => k_is)
    (case X9kl => k_is)
    (case X9ob => k_is)
    (case X9ty => k_is)
    (case X9nf => k_is)
    (case X9iC => k_is)
    (case X9tI => k_is)
    (case X9l => k_is)
    (case X9c => k_is)
    (case X9k => k_is)
    (case X10g => k_is)
    (case X10x => k_is)
    (case X10sa => k_is)
    (case X10kC => k_is)
    (case X10ga => k_is)
    (case X10gg => k_is)
    (case X10ex => k_is)
    (case X10hd => k_is)
    (case X10kl => k_is)
    (case X10ob => k_is)
    (case X10ty => k_is)
    (case X10nf => k_is)
    (case X10iC => k_is)
    (case X10tI => k_is)
    (case X10l => k_is)
    (case X10c => k_is)
    (case X10k => k_is)
    (case X11g => k_is)
    (case X11x => k_is)
    (case X11sa => k_is)
    (case X11kC => k_is)
    (case X11ga => k_is)
    (case X11gg => k_is)
    (case X11ex => k_is)
    (case X11hd => k_is)
    (case X11kl => k_is)
    (case X11ob => k_is)
    (case X11ty => k_is)
    (case X11nf => k_is)
    (case X11iC => k_is)
    (case X11tI => k_is)
    (case X11l => k_is)
    (case X11c => k_is)
    (case X11k => k_is)
    (case X12g => k_is)
    (case X12x => k_is)
    (case X12sa => k_is)
    (case X12kC => k_is)
    (case X12ga => k_is)
    (case X12gg => k_is)
    (case X12ex => k_is)
    (case X12hd => k_is)
    (case X12kl => k_is)
    (case X12ob => k_is)
    (case X12ty => k_is)
    (case X12nf => k_is)
    (case X12iC => k_is)
    (case X12tI => k_is)
    (case X12l => k_is)
    (case X12c => k_is)
    (case X12k => k_is)
    (case X13g => k_is)
    (case X13x => k_is)
    (case X13sa => k_is)
    (case X13kC => k_is)
    (case X13ga => k_is)
    (case X13gg => k_is)
    (case X13ex => k_is)
    (case X13hd => k_is)
    (case X13kl => k_is)
    (case X13ob => k_is)
    (case X13ty => k_is)
    (case X13nf => k_is)
    (case X13iC => k_is)
    (case X13tI => k_is)
    (case X13l => k_is)
    (case X13c => k_is)
    (case X13k => k_is)
    (case gt => k_is)
    (case tk => k_is)
    (case dist => decide +kernel)
