import PyProof.Rows.All
import Wide.All
import OpenK.AllK
import Wide.FinOn
import HandS.ForMost
import HandS.Defaults
import HandS.Wide
import HandS.Rev
import HandS.Flow
import HandS.Conv
import KE.GoesEnum
import PyProof.StrLawsIn
import HandS.Zip
import HandS.DictComp
import HandS.Walk
import KE.DataAny
import HandS.SortRule
import HandS.SortInts
import PySem.Challenge.RW_bentcoin_k28_whole_tapes_counted_step_by
set_option Elab.async false
set_option maxRecDepth 100000
set_option maxHeartbeats 4000000
/-! Defs that are run where no text of an object is being made: so that repr gives the whole text. -/
namespace GG
open PySem PySem.Spec PyProof.Rows L2
section
variable {P : Program} {w : World} {K : PySem.W.Frag} {mg : Str → Option Value} {base : Heap}
structure FnG (P : Program) (w : World) (K : PySem.W.Frag) (mg : Str → Option Value) (base : Heap) (k : Nat) (f : Addr) (fd : FuncData) (ps : List Str) (sp : Sp) : Prop where
  size : ∀ vs H Q E, sp vs H Q E → vs.length = ps.length
  goes : ∀ (A : Around) (o : List Env) (s : Shared) (H : Hp) (ar : Args) (us : List Value) (vs : List V) (Q : VK) (E : XK),
    A.guards = some [] → Room k A → Env0 P w K mg base A o s H → BindsTo s fd ar (ps.zip us) → Vals vs us → sp vs H Q E →
    codeAny (model P w) A (.call (.ref f) ar) (CR CX0 o P w H s Q E) s

theorem fnG_of {x qual : Str} {st : Stmt} {f : Addr} {fd : FuncData} {N ps : List Str} {k : Nat} {sp : Sp}
    (F : Fun K x qual st f fd) (S : FnScope N ps (defScope st)) (size : ∀ vs H Q E, sp vs H Q E → vs.length = ps.length)
    (body : ∀ (cd : Value) (A : Around) (o : List Env) (s : Shared) (H : Hp) (vs : List V) (Q : VK) (E : XK),
      A.guards = some [] → Room k (A.deeper (envOfC qual (defScope st) s.heap.objs.size f cd)) → sp vs H Q E →
      ∃ t, PSs (cxOf CX0 P w K mg base N qual (defScope st) f cd A o s H E).nox (defBody st) t ∧
        t { nx := fun _ H' => Q .non H', rt := Q } (start N vs) H) :
    FnG P w K mg base (k + 1) f fd ps sp := by
  obtain ⟨oc, od, kV, doc, pm, an, cd, ct, slots, rfl, found, code⟩ := F.ex
  refine ⟨size, ?_⟩
  intro A o s H ar us vs Q E gA room e0 hbind given asked
  have inK : K.In s.heap := e0.mod.kin.keeps fun b u e => (e0.bs b u e).1
  have free : s.heap.NoLimit := e0.mod.nolimit.keeps fun b u e => (e0.bs b u e).1
  have many := size vs H Q E asked
  have kinds : ∀ y ∈ ps.zip us, (defScope st).names.lookup y.1 = some .local ∨ ((defScope st).names.lookup y.1 = some .cell ∧
      ((cellsFrom (s.heap.objs.size + 1) (defScope st).names []).lookup y.1).isSome = true) := by
    rintro ⟨n, v⟩ hy
    cases S.par n (List.of_mem_zip hy).1 with
    | inl q => exact Or.inl q
    | inr q => exact Or.inr ⟨q, PySem.W.cellsFrom_some _ _ _ (Or.inl q)⟩
  apply codeAny_call_function room.depth (inK _ _ found) rfl S.co S.gen rfl (PySem.W.codeRec_of inK code)
  apply hbind
  apply wpAny_newFunctionEnv_cells S.kind kinds
  intro env he s1 ready
  subst he
  refine ⟨free.keeps ready.toInCall.keep, ?_⟩
  apply codeAny_func
  obtain ⟨t, ht, hq⟩ := body cd A o s H vs Q E gA (room.deeper _) asked
  have first := inv_start (E := E) (CX := CX0) S room.hd e0 many given ready
  refine wpAny_mono (ht.nox.run [] s1 (start N vs) H _ first hq) (fun fl s' hs => ?_) (fun e s' hs => hs)
  cases fl with
  | next =>
    obtain ⟨σ', H', J, q⟩ := hs
    exact ⟨V.non, H', J.os, J.bare, J.base, J.hok, rfl, q⟩
  | ret u =>
    obtain ⟨v, σ', H', J, rv, q⟩ := hs
    exact ⟨v, H', J.os, J.bare, J.base, J.hok, rv, q⟩
  | brk => exact hs.elim fun _ z => z.elim fun _ z => z.elim fun _ z => z.elim
  | cont => exact hs.elim fun _ z => z.elim fun _ z => z.elim fun _ z => z.elim

/-- what is left of the heap when the script stands alone in it -/
def one (a : Addr) (o : HO) : Hp := fun b => if b = a then some o else none
theorem one_at {a : Addr} {o : HO} : one a o a = some o := if_pos rfl
theorem one_no {a b : Addr} {o : HO} (h : b ≠ a) : one a o b = none := if_neg h

section
variable {mb : Str → Option Value} {k : Nat} {fa a : Addr} {fd : FuncData} {x : Str} {sp : Sp} {s₁ : Shared} {vs : List Value} {ns : List Int}
abbrev Fine (s₁ : Shared) (r : Result) (s' : Shared) : Prop := r = .ok (.ret (.bool true)) ∧ OldK s₁.heap s'.heap ∧ s'.os = s₁.os ∧ AllBare s'.gens

/-- from a heap in which at most the script is told of -/
theorem from_heap {H : Hp} (inK : K.In (hidT s₁.heap H)) (names : (hidT s₁.heap H).Ns mainGlobals mg) (blt : (hidT s₁.heap H).Ns builtinsNs mb)
    (known : ∀ y : Str, y ≠ "__name__" → mb y = bootBuiltins y) (free : (hidT s₁.heap H).NoLimit) (none_ : s₁.gens = #[])
    (alone : ∀ b, H b = none ∨ ∃ o xs, H b = some (.frz o (.lst xs))) (hok : HOk P w H s₁.heap) (room : Room k callerA)
    (F : FnG P w K mg (hidT s₁.heap H) k fa fd [x] sp) (binds : ∀ (s : Shared) (u : Value), BindsTo s fd ⟨[u], []⟩ [(x, u)])
    (asked : sp [.ref a] H (fun v _ => v = .bl true) fun _ _ _ => False) :
    codeAny (model P w) callerA (.call (.ref fa) ⟨[.ref a], []⟩) (Fine s₁) s₁ := by
  have entry : Env0 P w K mg (hidT s₁.heap H) callerA [] s₁ H :=
    { frames := rfl, mod := ⟨inK, names, ⟨mb, blt, known⟩, free⟩, bs := fun b u e => of_hidT e, bsz := Nat.le_of_eq (hidT_size _ _), funs := trivial,
      frf := fun b hb => absurd (show b ∈ ([] : List Addr) from hb) (by simp), hok := hok, bare := .of_eq none_ }
  have run := F.goes callerA [] s₁ H ⟨[.ref a], []⟩ [.ref a] [.ref a] _ _ rfl room entry (binds s₁ (.ref a)) (.cons rfl .nil) asked
  refine codeAny_mono run fun r s' got => ?_
  cases r with
  | error e => exact False.elim got
  | ok fl =>
    cases fl with
    | ret u =>
      obtain ⟨v, H', os, bare, un, hok', ru, yes⟩ := got
      have yes' : v = .bl true := yes
      subst yes'
      have eu : u = Value.bool true := ru
      subst eu
      refine ⟨rfl, OldK.of_keep ?_, os, bare⟩
      intro b u e
      rcases alone b with q | ⟨ob, xs, q⟩
      · exact un.keep b u e q (fun z => absurd (show b ∈ ([] : List Addr) from z) (by simp)) (by simp)
      · have e1 := (hok b _ q).1
        have e2 := (hok' b _ (un.frzs b ob _ q)).1
        rw [e] at e1
        cases e1
        exact e2
    | next => exact False.elim got
    | brk => exact False.elim got
    | cont => exact False.elim got
/-- the law's call, its promise once -/
theorem lawG (inK : K.In s₁.heap) (names : s₁.heap.Ns mainGlobals mg) (blt : s₁.heap.Ns builtinsNs mb) (known : ∀ y : Str, y ≠ "__name__" → mb y = bootBuiltins y)
    (free : s₁.heap.NoLimit) (none_ : s₁.gens = #[]) (script : s₁.heap.get? a = some { cls := .type "list", data := .seq vs.toArray }) (nums : IntsAre vs ns)
    (few : ns.length ≤ sizeLine) (room : Room k callerA) (F : ∀ base : Heap, K.In base → base.Ns mainGlobals mg → FnG P w K mg base k fa fd [x] sp)
    (binds : ∀ (s : Shared) (u : Value), BindsTo s fd ⟨[u], []⟩ [(x, u)]) (asked : ∀ H : Hp, SqL K H a (ns.map V.int) → sp [.ref a] H (fun v _ => v = .bl true) fun _ _ _ => False) :
    codeAny (model P w) callerA (.call (.ref fa) ⟨[.ref a], []⟩) (Fine s₁) s₁ := by
  have rel := vals_ints nums
  have len := nums.length
  cases look : K.lookup a with
  | some o =>
    have e := inK a o look
    rw [script] at e
    cases e
    have keep : ∀ {b : Addr} {u : Obj}, s₁.heap.get? b = some u → (hidT s₁.heap fun _ => none).get? b = some u := fun e => hidT_get e rfl
    have ns' : ∀ {b : Addr} {m : Str → Option Value}, s₁.heap.Ns b m → (hidT s₁.heap fun _ => none).Ns b m := fun ⟨o, es, ep, e, d, r⟩ => ⟨o, es, ep, keep e, d, r⟩
    have inK' : K.In (hidT s₁.heap fun _ => none) := fun b u e => keep (inK b u e)
    refine from_heap inK' (ns' names) (ns' blt) known (let ⟨mc, h1, h2⟩ := free; ⟨mc, ns' h1, h2⟩) none_ (fun _ => .inl rfl) (fun b u z => nomatch z) room (F _ inK' (ns' names)) binds ?_
    exact asked _ (.inr ⟨_, vs.toArray, _, look, rfl, rfl, rfl, by rw [List.size_toArray, len]; exact few, by simpa using rel⟩)
  | none =>
    have keep : ∀ {b : Addr} {u : Obj}, b ≠ a → s₁.heap.get? b = some u → (hidT s₁.heap (one a (.frz { cls := .type "list", data := .seq vs.toArray } (.lst (ns.map V.int))))).get? b = some u := fun n e => hidT_get e (one_no n)
    have ns' : ∀ {b : Addr} {m : Str → Option Value}, s₁.heap.Ns b m → (hidT s₁.heap (one a (.frz { cls := .type "list", data := .seq vs.toArray } (.lst (ns.map V.int))))).Ns b m := by
      rintro b m ⟨o, es, ep, e, d, r⟩
      refine ⟨o, es, ep, keep (fun z => ?_) e, d, r⟩
      rw [z, script] at e
      cases e
      cases d
    have inK' : K.In (hidT s₁.heap (one a (.frz { cls := .type "list", data := .seq vs.toArray } (.lst (ns.map V.int))))) := fun b u e => keep (fun z => by rw [z, look] at e; cases e) (inK b u e)
    refine from_heap inK' (ns' names) (ns' blt) known (let ⟨mc, h1, h2⟩ := free; ⟨mc, ns' h1, h2⟩) none_ (fun b => ?_) (fun b u z => ?_) room (F _ inK' (ns' names)) binds (asked _ (.inl (.inr ⟨_, one_at⟩)))
    · by_cases e : b = a
      · exact .inr ⟨_, _, by rw [e]; exact one_at⟩
      · exact .inl (one_no e)
    · by_cases e : b = a
      · subst e
        have z' := one_at.symm.trans z
        cases z'
        exact ⟨script, by rw [List.length_map]; exact few, vs, _, rel, script⟩
      · have z' := (one_no e).symm.trans z
        cases z'
end
end
/-- the end of a proof: as the layer's own, for such a promise -/
theorem walkG {l : PySem.W.OpenLaw} {n k : Nat} {q : Program} {loose : List Str} {XP : (Str → Option Value) → Heap → Prop} {YP : World → Heap → Prop} {d : DefRec} {K : Params → PySem.W.Frag}
    {sp : PySem.W.Frag → Sp} {x : Str} (most : l.most = some n) (few : n ≤ sizeLine) (plain : d.params.defaults = []) (room : Room k callerA) (inY : ∀ (w : World) (h : Heap), YP w h → (K w.params).In h)
    (F : ∀ (w : World) (mg : Str → Option Value) (fa : Addr) (h : Heap), (K w.params).In h → h.Ns mainGlobals mg → mg d.name = some (.ref fa) →
      ∃ fd : FuncData, (∀ (s : Shared) (u : Value), BindsTo s fd ⟨[u], []⟩ [(x, u)]) ∧
        ∀ base : Heap, (K w.params).In base → base.Ns mainGlobals mg → FnG l.prog w (K w.params) mg base k fa fd [x] (sp (K w.params)))
    (asked : ∀ (K : PySem.W.Frag) (H : Hp) (a : Addr) (ns : List Int), ns.length ≤ n → SqL K H a (ns.map V.int) → sp K [.ref a] H (fun v _ => v = .bl true) fun _ _ _ => False) :
    PySem.W.WalkO q loose XP YP l.row.toRowW d [] (fun f vs => PySem.call f vs) := by
  apply Att.attach_call most plain
  intro w s₀ s₁ mg mb fa o pm cd doc a vs ns G Y _ _ _ named script nums size none_
  have inK := inY w _ Y
  obtain ⟨fd, binds, hF⟩ := F w mg fa _ inK G.T.g named
  exact lawG inK G.T.g G.T.b G.T.builtins G.T.nolimit none_ script nums (Nat.le_trans size few) room hF binds fun H hs => asked _ H a ns size hs

/-! the text of data -/
/-- data whose text is made: no dict, no int too long, not too deep, not too many -/
structure Shows (d : PyData) (deep many : Nat) : Prop where
  s : d.showable = true
  l : d.leavesShort 1922 = true
  h : d.hasDict = false
  p : d.depth ≤ deep
  b : d.bulk ≤ many
theorem Shows.mono {d : PyData} {a b a' b' : Nat} (x : Shows d a b) (h1 : a ≤ a') (h2 : b ≤ b') : Shows d a' b' := ⟨x.s, x.l, x.h, Nat.le_trans x.p h1, Nat.le_trans x.b h2⟩
theorem Shows.room {d : PyData} (x : Shows d 50 8000) : d.shown.length ≤ sizeLine := by
  have h := PyData.shown_le_bulk 1922 (by decide) d x.l
  have hb := x.b
  have e : sizeLine = 16777216 := by decide
  have := Nat.mul_le_mul_left 1924 hb
  omega
theorem short_int {i : Int} (h : i.natAbs.log2 < 1920) : (PyData.int i).leavesShort 1922 = true := by
  simp only [PyData.leavesShort, decide_eq_true_eq]
  have e := int_text_length_le (k := 1920) (by decide) h
  rw [PyData.shown_int, PySem.ofString_length]
  omega
theorem ints_show : ∀ {ns : List Int}, (∀ n ∈ ns, n.natAbs.log2 < 1920) → PyData.showableAll (ns.map PyData.int) = true ∧ PyData.leavesShortAll 1922 (ns.map PyData.int) = true ∧ PyData.hasDictAll (ns.map PyData.int) = false ∧ PyData.depthAll (ns.map PyData.int) = 0 ∧ PyData.bulkAll (ns.map PyData.int) = ns.length
  | [], _ => ⟨rfl, rfl, rfl, rfl, rfl⟩
  | n :: r, h => by
    obtain ⟨h1, h2, h3, h4, h5⟩ := ints_show (ns := r) fun m hm => h m (List.mem_cons_of_mem _ hm)
    have hn := h n List.mem_cons_self
    have hs := short_int hn
    refine ⟨?_, ?_, ?_, ?_, ?_⟩
    · simp [PyData.showableAll, PyData.showable, h1, hn]
    · simp [PyData.leavesShortAll, h2, hs]
    · simp [PyData.hasDictAll, PyData.hasDict, h3]
    · simp [PyData.depthAll, PyData.depth, h4]
    · simp [PyData.bulkAll, PyData.bulk, h5]; omega
theorem shows_ints {ns : List Int} (h : ∀ n ∈ ns, n.natAbs.log2 < 1920) : Shows (.tuple (ns.map PyData.int)) 1 ns.length := by
  obtain ⟨h1, h2, h3, h4, h5⟩ := ints_show h
  exact ⟨by simp [PyData.showable, h1], by simp [PyData.leavesShort, h2], by simp [PyData.hasDict, h3], by simp [PyData.depth, h4], by simp [PyData.bulk, h5]⟩
section
variable {X : Cx}
def rRepr (K : PySem.W.Frag) : List V → Hp → VK → Prop := fun vs H Q => ∃ (a : Addr) (d : PyData), vs = [.ref a] ∧ Dp K H (.ref a) d ∧ Shows d 50 8000 ∧ Q (.str d.shown) H
theorem call_repr {k : Nat} (hg : X.A.guards = some []) (room : Room k X.A) : CallR X (.builtin "repr") (rRepr X.K) := by
  intro pins s σ H vs us Q I r h
  obtain ⟨a, d, rfl, hd, hs, q⟩ := h
  obtain ⟨u, rfl, ru⟩ := vals1 r
  have eu : u = Value.ref a := ru
  subst eu
  obtain ⟨as, reads⟩ := Dp.reads I d (.ref a) (.ref a) hd rfl
  have hu := room.un
  have hp := hs.p
  refine repr_of_reads' reads hs.s (fun e => by rw [hs.h] at e; cases e) hg (by omega) (fun _ _ e => e) (fun h' u tk hk => ?_) hs.room
  exact ⟨.str d.shown, H, I.kept hk, ⟨u, rfl⟩, q⟩
/-! x *= e of ints -/
theorem ip_mulW : PIp X .Mult (fun x y H Q => ∃ i j : Int, x = .int i ∧ y = .int j ∧ IntMulOk i j ∧ Q (.int (i * j)) H) := by
  intro pins s σ H x y v u Q I rx ry h
  obtain ⟨i, j, ex, ey, ok, q⟩ := h
  subst ex ey
  obtain ⟨t, et⟩ := rx
  obtain ⟨t', et'⟩ := ry
  subst et et'
  exact imul_int ⟨V.int (i * j), H, I.tok _, ⟨_, rfl⟩, q⟩ ok
/-! f(k = v, ..): all by their names -/
variable {CX : CXT} {k : Nat} {f : Addr} {fd : FuncData} {ps ks : List Str} {sp : Sp} {E : XK} {x : Str} {p pos : Pos} {kws : List Keyword} {t tk : TA}
  {g : List Value → List Value → List Value} {gV : List V → List V → List V}
def tNamed (sp : Sp) (gV : List V → List V → List V) (E : XK) (m : Nat) (tk : TA) : TE := fun σ H Q => tk σ H fun zs H1 => zs.length = m ∧ sp (gV [] zs) H1 Q E
theorem pe_named (F : FnOk X.prog X.w X.K X.mg X.base CX k f fd ps sp) (room : Room k X.A) (glob : Gl X x) (is : X.mg x = some (.ref f)) (keep : PySem.W.keepIn X.K (.ref f) = true)
    (bound : KBn X.K fd ps 0 ks g gV) (pass : Passes CX X E) (args : PK X kws tk) (all : (backToKw pos (keywordEach kws X.env)).all (·.1.isSome) = true := by rfl)
    (names : (backToKw pos (keywordEach kws X.env)).filterMap (·.1) = ks := by rfl) (nodebug : (x == ("__debug__" : Str)) = false := by decide)
    (plain : ((backTo pos (starEach [] X.env)).any (·.1) || (backToKw pos (keywordEach kws X.env)).any (·.1.isNone)) = false := by rfl) :
    PE X (.Call (.Name x p) [] kws pos) (tNamed sp gV E ks.length tk) := by
  constructor
  intro pins s σ H Q I h
  apply wpAny_Call_Name_kw
  refine ld_glob I glob is ?_ nodebug
  apply PySem.W.callWith_KW0 I.ok.mod.kin keep all _ plain
  have run := args.run pos pins s σ H _ I h
  refine thn run fun ws s2 done => ?_
  obtain ⟨zs, H2, I2, rz, many, q⟩ := done
  refine ⟨I2.kIn, ?_⟩
  rw [names]
  have few : ws.length = ks.length := by rw [← rz.length]; exact many
  first
  | exact run_fnN (us := []) (vs := []) F room bound pass I2 .nil rz rfl few q
  | exact run_fnN (us := []) (vs := []) F room bound pass I2 .nil rz rfl many q
def turned {α : Type} : List α → List α
  | [u, v] => [v, u]
  | l => l
theorem turned_vals : ∀ {zs : List V} {ws : List Value}, Vals zs ws → Vals (turned zs) (turned ws)
  | _, _, .nil => .nil
  | _, _, .cons a .nil => .cons a .nil
  | _, _, .cons a (.cons b .nil) => .cons b (.cons a .nil)
  | _, _, .cons a (.cons b (.cons c r)) => .cons a (.cons b (.cons c r))
/-- two parameters, both by name, the second ahead -/
theorem named2 {K : PySem.W.Frag} {x qual : Str} {st : Stmt} {a b : Str} (F : Fun K x qual st f fd)
    (h : ∀ (kV doc pm : Value) (an : Option Addr) (cd ct u v : Value), bindArgs (PySem.W.fnOf x qual (defArgs st) (defBody st) (defScope st) .none kV doc pm an cd ct) ⟨[], [(b, u), (a, v)]⟩ = pure [(a, v), (b, u)]) :
    KBn K fd [a, b] 0 [b, a] (fun _ ws => turned ws) (fun _ zs => turned zs) := by
  obtain ⟨oc, od, kV, doc, pm, an, cd, ct, slots, rfl, found, code⟩ := F.ex
  refine ⟨fun s us ws _ l0 l2 => ?_, fun _ r => turned_vals r⟩
  match us, ws, l0, l2 with
  | [], [u, v], _, _ => exact .of_eq (h kV doc pm an cd ct u v)
theorem max_is (calm : X.calm = true) : CallR X (.builtin "max") (fun vs H Q => ∃ i j k : Int, vs = [.int i, .int j] ∧ k = (if j > i then j else i) ∧ Q (.int k) H) := by
  intro pins s σ H vs us Q I r h
  obtain ⟨i, j, k, e, ek, q⟩ := h
  subst ek
  exact call_max2 calm pins s σ H vs us Q I r ⟨i, j, e, q⟩
/-! a def that wants that no text is being made, called -/
theorem pe_callG {F : FuncData} {es : List Expr} {e : Expr} (G : FnG X.prog X.w X.K X.mg X.base k f F ps sp) (quiet : X.A.guards = some []) (room : Room k X.A) (glob : Gl X x) (is : X.mg x = some (.ref f)) (keep : PySem.W.keepIn X.K (.ref f) = true)
    (bound : Binds X.K F ps []) (args : PA X (e :: es) t) (nodebug : (x == ("__debug__" : Str)) = false := by decide) (star : starEach (e :: es) X.env = (false, eval e X.env) :: starEach es X.env := by rfl)
    (plain : (backTo pos (starEach es X.env)).any (·.1) = false := by rfl) : PE X (.Call (.Name x p) (e :: es) [] pos) (tCall sp [] E0 t) := by
  constructor
  intro pins s σ H Q I h
  apply wpAny_Call_Name_kw
  refine ld_glob I glob is ?_ nodebug
  refine PySem.W.callWith_K (h₀ := X.base) I.ok.mod.kin keep (thn (args.run pos pins s σ H _ I h) fun us s1 got => ?_) star plain
  obtain ⟨vs, H1, I1, r, asked⟩ := got
  refine ⟨I1.kIn, ?_⟩
  have asked' : sp vs H1 Q E0 := by simpa using asked
  have many : (us ++ []).length = ps.length := by rw [List.append_nil, ← r.length]; exact G.size _ _ _ _ asked'
  have bind := bound s1 us I1.kIn many
  rw [List.append_nil] at bind
  apply wpAny_call
  refine codeAny_mono (G.goes X.A X.stack s1 H1 ⟨us, []⟩ us vs Q E0 quiet room I1.env0 bind r asked') fun res s' hq => ?_
  cases res with
  | error e => exact False.elim hq
  | ok fl =>
    cases fl with
    | ret u => exact I1.after hq
    | next => exact False.elim hq
    | brk => exact False.elim hq
    | cont => exact False.elim hq
/-! repr of None, or of data -/
def rRepr2 (K : PySem.W.Frag) : List V → Hp → VK → Prop := fun vs H Q => (vs = [.non] ∧ Q (.str "None") H) ∨ rRepr K vs H Q
theorem call_repr2 {k : Nat} (hg : X.A.guards = some []) (room : Room k X.A) : CallR X (.builtin "repr") (rRepr2 X.K) := by
  intro pins s σ H vs us Q I r h
  rcases h with ⟨ev, q⟩ | h
  · subst ev
    obtain ⟨u, eu, ru⟩ := vals1 r
    subst eu
    have e : u = Value.none := ru
    subst e
    exact PySem.P.repr_of_none ⟨.str _, H, I.tok _, ⟨_, rfl⟩, q⟩
  · exact call_repr hg room pins s σ H vs us Q I r h
end
end GG

set_option Elab.async false
set_option linter.all false
set_option maxRecDepth 100000
set_option maxHeartbeats 4000000
namespace Z
open PySem PySem.Spec PyProof.Rows L2 GG
def top (i : Nat) : Stmt := PySem.Challenge.pw_bentcoin_k28_whole_tapes_counted_step_by.main.body.getD i (.Pass ⟨0, 0, 0, 0⟩)
abbrev sPen : Stmt := top 6
abbrev sFresh : Stmt := top 7
abbrev sDraw : Stmt := top 8
/-- what follows an if, once for all ways to it -/
theorem if_tail {c : TT} {a b : TS} {D : Ends} {σ : L2.St} {H : Hp} (W : L2.St → Hp → Prop) (tail : ∀ σ H, W σ H → D.nx σ H) (go : (∀ σ H, W σ H → D.nx σ H) → tIfS c a b D σ H) : tIfS c a b D σ H := go tail
theorem on {t u : TS} {D : Ends} {σ : L2.St} {H : Hp} (h : t { D with nx := u D } σ H) : tSeq t u D σ H := h
theorem put_c {v : V} {i : Nat} {D : Ends} {σ : L2.St} {H : Hp} (h : D.nx (σ.set i (some v)) H) : tAsg (tC v) (gName i) D σ H := h
/-! heaps -/
theorem Same.upd {H : Hp} {p : Addr} {o : HO} (h : H p = none) : Same H (L2.upd H p o) := fun b x e => by
  rw [upd_ne (ne_of_none e h)]
  exact e
/-- all that was told of stands, but what is at a -/
def But (a : Addr) (H H' : Hp) : Prop := ∀ b o, H b = some o → b ≠ a → H' b = some o
theorem But.refl (a : Addr) (H : Hp) : But a H H := fun _ _ e _ => e
theorem But.trans {a : Addr} {H H1 H2 : Hp} (x : But a H H1) (y : But a H1 H2) : But a H H2 := fun b o e n => y b o (x b o e n) n
theorem But.of {a : Addr} {H H1 : Hp} (x : Same H H1) : But a H H1 := fun b o e _ => x b o e
theorem But.put {a : Addr} {H : Hp} {o : HO} : But a H (L2.upd H a o) := fun b u e n => by
  rw [upd_ne n]
  exact e
theorem But.free {a : Addr} {H H' : Hp} {l : Addr} (e : But a H H') (n : l ≠ a) (h : H' l = none) : H l = none := by
  cases q : H l with
  | none => rfl
  | some o =>
    rw [e l o q n] at h
    cases h
theorem But.same {a : Addr} {H H0 H' : Hp} (s : Same H0 H) (n : H0 a = none) (b : But a H H') : Same H0 H' := fun c o e => b c o (s c o e) (ne_of_none e n)
theorem But.seq {a c : Addr} {K : PySem.W.Frag} {H H' : Hp} {xs : List V} (e : But a H H') (n : c ≠ a) (h : SqL K H c xs) : SqL K H' c xs := by
  rcases h with (h | ⟨o, h⟩) | h
  · exact .inl (.inl (e _ _ h n))
  · exact .inl (.inr ⟨o, e _ _ h n⟩)
  · exact .inr h
/-- a pen stands at a -/
def Pen (H : Hp) (a l : Addr) : Prop := ∃ (cs : List Int) (pos val : Int), H a = some (.lst [.ref l, .int pos, .int val]) ∧ H l = some (.lst (cs.map V.int)) ∧ 0 ≤ pos
theorem Pen.ne {H : Hp} {a l : Addr} {cs : List Int} {p v : Int} (h : H a = some (.lst [.ref l, .int p, .int v])) (e : H l = some (.lst (cs.map V.int))) : l ≠ a := by
  intro z
  subst z
  rw [h] at e
  cases cs with
  | nil => cases e
  | cons x r => cases e
theorem Pen.put {H : Hp} {a l : Addr} {cs : List Int} {p v q u : Int} (h : H a = some (.lst [.ref l, .int p, .int v])) (e : H l = some (.lst (cs.map V.int))) (hq : 0 ≤ q) : Pen (upd H a (.lst [.ref l, .int q, .int u])) a l :=
  ⟨cs, q, u, upd_same, by rw [upd_ne (Pen.ne h e)]; exact e, hq⟩
theorem Pen.same {H H' : Hp} {a l : Addr} (p : Pen H a l) (s : Same H H') : Pen H' a l := by
  obtain ⟨cs, q, v, h1, h2, h3⟩ := p
  exact ⟨cs, q, v, s _ _ h1, s _ _ h2, h3⟩
theorem dpInts {K : PySem.W.Frag} {H : Hp} : ∀ ns : List Int, DpAll K H (ns.map V.int) (ns.map PyData.int)
  | [] => .nil
  | n :: r => .cons (.int n) (dpInts r)
theorem cut_to {α : Type} (xs : List V) (n : Nat) : ∃ m, cutV xs none (some (n : Int)) = xs.take m := ⟨_, by unfold cutV; rw [HT.sIx_none]; rfl⟩
/-- a row without the zeros at its end -/
def strip (l : List Int) : List Int := (l.reverse.dropWhile (· == 0)).reverse
theorem strip_nil : strip [] = [] := rfl
theorem strip_zero (l : List Int) : strip (l ++ [0]) = strip l := by
  unfold strip
  rw [List.reverse_append]
  rfl
theorem strip_last {l : List Int} {z : Int} (h : z ≠ 0) : strip (l ++ [z]) = l ++ [z] := by
  unfold strip
  rw [List.reverse_append]
  show (List.dropWhile (· == 0) (z :: l.reverse)).reverse = _
  rw [List.dropWhile_cons_of_neg (by simpa using h), List.reverse_cons, List.reverse_reverse]
theorem strip_mem {l : List Int} {c : Int} (h : c ∈ strip l) : c ∈ l := by
  unfold strip at h
  rw [List.mem_reverse] at h
  exact List.mem_reverse.mp ((List.dropWhile_sublist _).subset h)
theorem strip_len (l : List Int) : (strip l).length ≤ l.length := by
  unfold strip
  rw [List.length_reverse]
  have := (List.dropWhile_sublist (· == 0) (l := l.reverse)).length_le
  rwa [List.length_reverse] at this
theorem strip_strip (l : List Int) : strip (strip l) = strip l := by
  rcases List.eq_nil_or_concat (strip l) with e | ⟨r, z, e⟩
  · rw [e]; rfl
  · rw [List.concat_eq_append] at e
    by_cases h : z = 0
    · exfalso
      have e2 : l.reverse.dropWhile (· == 0) = z :: r.reverse := by
        have := congrArg List.reverse e
        unfold strip at this
        rw [List.reverse_reverse, List.reverse_append] at this
        exact this
      have := List.head?_dropWhile_not (p := fun x : Int => x == 0) (l := l.reverse)
      rw [e2] at this
      simp [h] at this
    · rw [e, strip_last h]
theorem eqv_nil : ∀ {xs : List Int}, xs ≠ [] → (!PyData.eqv (.list (xs.map PyData.int)) (.list [])) = true
  | [], h => absurd rfl h
  | _ :: _, _ => rfl
structure Names (mg : Str → Option Value) : Prop where
  list : mg "list" = none
  tuple : mg "tuple" = none
  len : mg "len" = none
  range : mg "range" = none
structure Def (K : PySem.W.Frag) (mg : Str → Option Value) (x : Str) (f : Addr) (fd : FuncData) (ps : List Str) : Prop where
  is : mg x = some (.ref f)
  kp : PySem.W.keepIn K (.ref f) = true
  bi : Binds K fd ps []
theorem Pen.apart {H : Hp} {a l e : Addr} (p : Pen H a l) (h : H e = none) : e ≠ a ∧ e ≠ l := by
  obtain ⟨cs, pos, val, ha, hl, _⟩ := p
  exact ⟨(ne_of_none ha h).symm, (ne_of_none hl h).symm⟩
theorem Pen.notTup {H : Hp} {a l e : Addr} {xs : List V} (p : Pen H a l) (h : H e = some (.tup xs)) : e ≠ a := by
  obtain ⟨cs, pos, val, ha, hl, _⟩ := p
  rintro rfl
  rw [ha] at h
  cases h
theorem But.mem {a p : Addr} {H H' : Hp} {o : HO} (b : But a H H') (n : p ≠ a) (e : H p = some o) : H' p = some o := b p o e n
/-- what follows a value, once for all ways to it -/
theorem asg_tail {te : TE} {g : TG} {D : Ends} {σ : L2.St} {H : Hp} (W : V → Hp → Prop) (tail : ∀ v H', W v H' → g v σ H' D.nx) (go : (∀ v H', W v H' → g v σ H' D.nx) → te σ H fun x H1 => g x σ H1 D.nx) : tAsg te g D σ H := go tail
theorem log_le {b : Int} (h : b.natAbs < 2 ^ 100) : b.natAbs.log2 < 9000 := Nat.lt_of_lt_of_le (PySem.Flt.log2_lt_of (k := 100) (by decide) h) (by decide)
section
variable {P : Program} {w : World} {K : PySem.W.Frag} {mg : Str → Option Value} {base : Heap}
/-! ### the pen -/
def spPen (K : PySem.W.Frag) : Sp := fun vs H Q _ => ∃ (s : Addr) (ns : List Int), vs = [.ref s] ∧ SqL K H s (ns.map V.int) ∧ ns.length ≤ 63 ∧ ∀ p l H', Same H H' → H p = none → H l = none → Pen H' p l → Q (.ref p) H'
theorem scPen : FnScope ["script"] ["script"] (defScope sPen) := ⟨rfl, rfl, rfl, by decide +kernel, rfl, by decide +kernel, by decide +kernel⟩
theorem ok_pen {f : Addr} {fd : FuncData} (F : Fun K "_law_pen" "_law_pen" sPen f fd) (T : Names mg) : FnOk P w K mg base CX0 1 f fd ["script"] (spPen K) := by
  refine F.ok scPen (fun vs H Q E h => ?_) (fun cdv A outer s H vs Q E hr h => ?_)
  · obtain ⟨a, ns, rfl, _⟩ := h
    rfl
  · obtain ⟨a, ns, rfl, hS, hlen, q⟩ := h
    refine ⟨_, pss_one (ps_ret (pe_lst (pa_cons (pe_callTy call_list_of (by rfl) T.list (by decide +kernel) (pa_cons (pe_slice sl_list (pv 0) po_none (po_some pe_int)) pa_nil)) (pa_cons pe_int (pa_cons pe_int pa_nil))))), ?_⟩
    refine ⟨.ref a, rfl, 63, rfl, a, _, rfl, hS, fun c nc => ?_⟩
    refine ⟨c, _, rfl, .inl (.inl (.inl upd_same)), fun l nl => ?_⟩
    refine ⟨by show 3 ≤ sizeLine; decide, fun p np => ?_⟩
    obtain ⟨m, em⟩ := cut_to (α := Int) (ns.map V.int) 63
    have em : cutV (ns.map V.int) none (some 63) = (ns.map V.int).take m := em
    have lp : l ≠ p := ne_of_none upd_same np
    have h1 := (Same.trans (Same.upd (o := .lst (cutV (ns.map V.int) none (some 63))) nc) (Same.trans (Same.upd (o := .lst (cutV (ns.map V.int) none (some 63))) nl) (Same.upd (o := .lst [.ref l, .int 0, .int 0]) np)))
    refine q p l _ h1 (Same.free (Same.trans (Same.upd nc) (Same.upd nl)) np) (Same.free (Same.upd nc) nl) ⟨ns.take m, 0, 0, upd_same, ?_, by decide⟩
    rw [upd_ne lp, upd_same, em, List.map_take]
/-! ### a fresh number -/
def spFresh : Sp := fun vs H Q _ => ∃ (a l : Addr), vs = [.ref a] ∧ Pen H a l ∧ ∀ (v : Int) H', But a H H' → Pen H' a l → Q (.int v) H'
theorem scFresh : FnScope ["pen", "at", "cell", "p", "one", "found", "turn"] ["pen"] (defScope sFresh) := ⟨rfl, rfl, rfl, by decide +kernel, rfl, by decide +kernel, by decide +kernel⟩
theorem ok_fresh {f : Addr} {fd : FuncData} (F : Fun K "_law_fresh" "_law_fresh" sFresh f fd) (T : Names mg) : FnOk P w K mg base CX0 1 f fd ["pen"] spFresh := by
  refine F.ok scFresh (fun vs H Q E h => ?_) (fun cdv A outer s H vs Q E hr h => ?_)
  · obtain ⟨a, l, rfl, _⟩ := h
    rfl
  · obtain ⟨a, l, rfl, ⟨cs, pos, val, ha, hl, hp⟩, q⟩ := h
    have hu : A.units + 3 + 64 < cLine := hr.units
    refine ⟨_, pss_cons (ps_set (i := 1) scFresh.nd rfl (.inl rfl) (pe_ix ix_list (pv 0) pe_int (fun _ _ => rfl)))
      (pss_cons (ps_asg (pe_op op_add (pv 1) pe_int) (pg_sub (pv 0) pe_int set_list))
      (pss_cons (ps_set (i := 2) scFresh.nd rfl (.inl rfl) pe_int)
      (pss_cons (ps_if (pt_cmpR (op_neD hu) (pe_ix ix_list (pv 0) pe_int (fun _ _ => rfl)) (pe_lst pa_nil) (nomark _))
        (pss_one (ps_set (i := 2) scFresh.nd rfl (.inl rfl) (pe_ix ix_list (pe_ix ix_list (pv 0) pe_int (fun _ _ => rfl)) (pe_op op_mod (pv 1) (pe_callB call_len_seq (by rfl) T.len PySem.boot_len (pa_cons (pe_ix ix_list (pv 0) pe_int (fun _ _ => rfl)) pa_nil))) (fun _ _ => rfl)))) pss_nil)
      (pss_cons (ps_if (PW.pt (pw_and (pt_cmpR op_lt (pv 1) (pe_callB call_len_seq (by rfl) T.len PySem.boot_len (pa_cons (pe_ix ix_list (pv 0) pe_int (fun _ _ => rfl)) pa_nil)) (nomark _)) (pw_and1 (pt_cmpR op_ge (pv 2) (pe_op op_pow pe_int pe_int) (nomark _)))))
        (pss_one (ps_ret (pe_op op_sub (pv 2) (pe_op op_pow pe_int pe_int)))) pss_nil)
      (pss_cons (ps_set (i := 3) scFresh.nd rfl (.inl rfl) pe_int)
      (pss_cons (ps_set (i := 4) scFresh.nd rfl (.inl rfl) (pe_op op_mod (pe_op op_add (pe_op op_add (pe_op op_mul (pv 2) pe_int) (pe_op op_mul pe_int (pv 1))) pe_int) (pv 3)))
      (pss_cons (ps_set (i := 5) scFresh.nd rfl (.inl rfl) (pv 4))
      (pss_cons (ps_for PassesOwn.never rfl (pi_range1 rfl T.range (pa_cons pe_int pa_nil)) (pg_name (i := 6) scFresh.nd rfl (.inl rfl))
        (pss_cons (ps_set (i := 4) scFresh.nd rfl (.inl rfl) (pe_op op_mod (pe_op op_add (pe_op op_add (pe_op op_mul (pv 4) (pv 4)) (pe_op op_mul (pe_op op_mul pe_int (pe_op op_add (pv 6) pe_int)) (pe_op op_add (pv 1) pe_int))) (pv 2)) (pv 3)))
        (pss_one (ps_set (i := 5) scFresh.nd rfl (.inl rfl) (pe_op op_add (pe_op op_mul (pv 5) (pv 3)) (pv 4))))))
      (pss_one (ps_ret (pv 5))))))))))), ?_⟩
    -- position = pen[1]; pen[1] = position + 1; cell = 0
    refine ⟨.ref a, rfl, a, _, 1, .int pos, rfl, rfl, SqL.of ha, atI_nat (j := 1) rfl, ?_⟩
    refine ⟨_, rfl, _, _, rfl, rfl, .ref a, rfl, a, _, 1, 1, rfl, rfl, ha, rfl, ?_⟩
    have ha1 : upd H a (.lst [.ref l, .int (pos + 1), .int val]) a = some (.lst [.ref l, .int (pos + 1), .int val]) := upd_same
    have hl1 : upd H a (.lst [.ref l, .int (pos + 1), .int val]) l = some (.lst (cs.map V.int)) := by
      rw [upd_ne (Pen.ne ha hl)]
      exact hl
    have b1 : But a H (upd H a (.lst [.ref l, .int (pos + 1), .int val])) := But.put
    change (_ : Hp → Prop) (upd H a (.lst [.ref l, .int (pos + 1), .int val]))
    generalize upd H a (.lst [.ref l, .int (pos + 1), .int val]) = H1 at ha1 hl1 b1 ⊢
    -- if pen[0] != []
    have ec : cs = [] ∨ ∃ x r, cs = x :: r := by
      cases cs with
      | nil => exact .inl rfl
      | cons x r => exact .inr ⟨x, r, rfl⟩
    dsimp only
    refine on (put_c ?_)
    dsimp only
    refine on (if_tail (fun σ H' => ∃ cell : Int, σ = [some (V.ref a), some (V.int pos), some (V.int cell), none, none, none, none] ∧ Same H1 H') ?_ (fun t => ?_))
    rotate_left
    · refine ⟨.ref a, rfl, a, _, 0, .ref l, rfl, rfl, SqL.of ha1, atI_nat (j := 0) rfl, Nat.zero_le _, fun e0 ne0 => ?_⟩
      have s2 : Same H1 (upd H1 e0 (.lst [])) := Same.upd ne0
      have ha2 := s2 _ _ ha1
      have hl2 := s2 _ _ hl1
      have d0 : Dp K (upd H1 e0 (.lst [])) (.ref e0) (.list []) := .lst (SqL.of upd_same) .nil
      generalize upd H1 e0 (.lst []) = H2 at s2 ha2 hl2 d0 ⊢
      refine ⟨.list (cs.map PyData.int), .list [], .lst (SqL.of hl2) (dpInts cs), d0, PySem.W.ke_shaped_ints cs, rfl, _, rfl, ?_⟩
      rcases ec with rfl | ⟨x, r, rfl⟩
      · exact iteF (t _ _ ⟨0, rfl, s2⟩)
      · refine iteT ?_
        have hpos : pos % (((x :: r).length : Nat) : Int) < ((x :: r).length : Nat) ∧ 0 ≤ pos % (((x :: r).length : Nat) : Int) := by
          have : (0 : Int) < ((x :: r).length : Nat) := by rw [List.length_cons]; omega
          exact ⟨Int.emod_lt_of_pos _ this, Int.emod_nonneg _ (by omega)⟩
        obtain ⟨j, ej⟩ : ∃ j : Nat, pos % (((x :: r).length : Nat) : Int) = (j : Int) := ⟨(pos % (((x :: r).length : Nat) : Int)).toNat, by omega⟩
        have hj : j < (x :: r).length := by omega
        refine ⟨.ref a, rfl, a, _, 0, .ref l, rfl, rfl, SqL.of ha2, atI_nat (j := 0) rfl, .int pos, rfl, .ref a, rfl, a, _, 0, .ref l, rfl, rfl, SqL.of ha2, atI_nat (j := 0) rfl, l, _, rfl, .inl (SqL.of hl2), _, _, rfl, rfl, ?_, ?_⟩
        · show (0 : Int) < _
          rw [List.length_map, List.length_cons]
          omega
        · refine ⟨l, _, _, .int (x :: r)[j], rfl, rfl, SqL.of hl2, ?_, t _ _ ⟨_, rfl, s2⟩⟩
          rw [List.length_map, ej]
          exact atI_nat (by rw [List.getElem?_map, List.getElem?_eq_getElem hj]; rfl)
    · rintro σ H' ⟨cell, rfl, s2⟩
      have ha2 := s2 _ _ ha1
      have hl2 := s2 _ _ hl1
      have b2 : But a H H' := b1.trans (But.of s2)
      have p2 : Pen H' a l := ⟨cs, pos + 1, val, ha2, hl2, by omega⟩
      -- if position < len(pen[0]) and cell >= 10 ** 18: return cell - 10 ** 18
      dsimp only
      refine on (if_tail (fun σ H3 => σ = [some (V.ref a), some (V.int pos), some (V.int cell), none, none, none, none] ∧ H3 = H') ?_ (fun t => ?_))
      rotate_left
      · refine ⟨_, rfl, .ref a, rfl, a, _, 0, .ref l, rfl, rfl, SqL.of ha2, atI_nat (j := 0) rfl, l, _, rfl, .inl (SqL.of hl2), _, _, rfl, rfl, _, rfl, ite2 (fun _ => ?_) (fun _ => iteF (t _ _ ⟨rfl, rfl⟩))⟩
        refine ⟨_, rfl, _, _, rfl, rfl, ⟨by decide, by decide, by decide⟩, _, _, rfl, rfl, _, rfl, ite2 (fun _ => ?_) (fun _ => t _ _ ⟨rfl, rfl⟩)⟩
        exact ⟨_, rfl, _, _, rfl, rfl, ⟨by decide, by decide, by decide⟩, _, _, rfl, rfl, q _ _ b2 p2⟩
      · rintro σ H3 ⟨rfl, rfl⟩
        -- state, mixed, the six turns
        refine ⟨_, rfl, _, _, rfl, rfl, .inr ⟨by decide, by decide⟩, _, rfl, _, _, rfl, rfl, .inl ⟨by decide, by decide⟩, _, _, rfl, rfl, _, _, rfl, rfl, _, rfl, _, _, rfl, rfl, (by show (0 : Int) < 2305843009213693951; decide), _, rfl,
          6, rfl, by decide, by decide, for_range (lo := 0) (n := 6) (fun i σ H4 => ∃ (st mx : Int) (v : Option V), σ = [some (V.ref a), some (V.int pos), some (V.int cell), some (V.int 2305843009213693951), some (V.int st), some (V.int mx), v] ∧ H4 = H3 ∧ 0 ≤ st ∧ st < 2305843009213693951)
            ⟨_, _, none, rfl, rfl, Int.emod_nonneg _ (by decide), Int.emod_lt_of_pos _ (by decide)⟩ ?_ ?_⟩
        · rintro i σ H4 hi ⟨st, mx, v, rfl, rfl, h0, h1⟩
          refine ⟨_, rfl, _, rfl, _, _, rfl, rfl, .inl ⟨by omega, by omega⟩, _, rfl, _, _, rfl, rfl, _, _, rfl, rfl, .inl ⟨by decide, by decide⟩, _, rfl, _, _, rfl, rfl, _, _, rfl, rfl, .inl ⟨by show -(2 ^ 64) < (69621 : Int) * (0 + (i : Int) + 1); omega, by show (69621 : Int) * (0 + (i : Int) + 1) < 2 ^ 64; omega⟩, _, _, rfl, rfl,
            _, rfl, _, _, rfl, rfl, _, rfl, _, _, rfl, rfl, (by show (0 : Int) < 2305843009213693951; decide), _, rfl, _, rfl, _, _, rfl, rfl, .inr ⟨by decide, by decide⟩, _, rfl, _, _, rfl, rfl, ?_⟩
          exact ⟨_, _, _, rfl, rfl, Int.emod_nonneg _ (by decide), Int.emod_lt_of_pos _ (by decide)⟩
        · rintro σ H4 ⟨st, mx, v, rfl, rfl, h0, h1⟩
          exact ⟨_, rfl, q _ _ b2 p2⟩
/-! ### a number below a bound -/
def spDraw : Sp := fun vs H Q _ => ∃ (a l : Addr) (b : Int), vs = [.ref a, .int b] ∧ Pen H a l ∧ 0 < b ∧ b.natAbs.log2 < 9000 ∧ ∀ (d : Int) H', 0 ≤ d → d < b → But a H H' → Pen H' a l → Q (.int d) H'
theorem scDraw : FnScope ["pen", "many", "digit"] ["pen", "many"] (defScope sDraw) := ⟨rfl, rfl, rfl, by decide +kernel, rfl, by decide +kernel, by decide +kernel⟩
theorem ok_draw {f g : Addr} {fd gd : FuncData} (F : Fun K "_law_draw" "_law_draw" sDraw f fd) (GF : FnOk P w K mg base CX0 1 g gd ["pen"] spFresh) (mF : mg "_law_fresh" = some (.ref g)) (kF : PySem.W.keepIn K (.ref g) = true) (bF : Binds K gd ["pen"] []) :
    FnOk P w K mg base CX0 2 f fd ["pen", "many"] spDraw := by
  refine F.ok scDraw (fun vs H Q E h => ?_) (fun cdv A outer s H vs Q E hr h => ?_)
  · obtain ⟨a, l, b, rfl, _⟩ := h
    rfl
  · obtain ⟨a, l, b, rfl, pn, hb, hb2, q⟩ := h
    refine ⟨_, pss_cons (ps_if (pt_cmpR op_lt (pe_ix ix_list (pv 0) pe_int (fun _ _ => rfl)) (pv 1) (nomark _))
        (pss_one (ps_asg (pe_call GF hr (by rfl) mF kF bF .nil pass0 (pa_cons (pv 0) pa_nil)) (pg_sub (pv 0) pe_int set_list))) pss_nil)
      (pss_cons (ps_set (i := 2) scDraw.nd rfl (.inl rfl) (pe_op op_mod (pe_ix ix_list (pv 0) pe_int (fun _ _ => rfl)) (pv 1)))
      (pss_cons (ps_asg (pe_op op_fdivW (pe_ix ix_list (pv 0) pe_int (fun _ _ => rfl)) (pv 1)) (pg_sub (pv 0) pe_int set_list))
      (pss_one (ps_ret (pv 2))))), ?_⟩
    refine on (if_tail (fun σ H' => σ = [some (V.ref a), some (V.int b), none] ∧ Pen H' a l ∧ But a H H') ?_ (fun t => ?_))
    rotate_left
    · obtain ⟨cs, pos, val, ha, hl, hp⟩ := id pn
      refine ⟨.ref a, rfl, a, _, 2, .int val, rfl, rfl, SqL.of ha, atI_nat (j := 2) rfl, _, rfl, _, _, rfl, rfl, _, rfl, ite2 (fun _ => ?_) (fun _ => t _ _ ⟨rfl, pn, But.refl _ _⟩)⟩
      refine ⟨.ref a, rfl, a, l, rfl, pn, fun v H1 b1 p1 => ?_⟩
      obtain ⟨cs, pos, val, ha, hl, hp⟩ := p1
      exact ⟨.ref a, rfl, a, _, 2, 2, rfl, rfl, ha, rfl, t _ _ ⟨rfl, Pen.put ha hl hp, b1.trans But.put⟩⟩
    · rintro σ H1 ⟨rfl, ⟨cs, pos, val, ha, hl, hp⟩, b1⟩
      refine ⟨.ref a, rfl, a, _, 2, .int val, rfl, rfl, SqL.of ha, atI_nat (j := 2) rfl, _, rfl, _, _, rfl, rfl, hb, .ref a, rfl, a, _, 2, .int val, rfl, rfl, SqL.of ha, atI_nat (j := 2) rfl, _, rfl, _, _, rfl, rfl, ⟨hb, hb2⟩, .ref a, rfl, a, _, 2, 2, rfl, rfl, ha, rfl, _, rfl, ?_⟩
      exact q _ _ (Int.emod_nonneg _ (by omega)) (Int.emod_lt_of_pos _ hb) (b1.trans But.put) (Pen.put ha hl hp)
end
end Z

set_option Elab.async false
set_option linter.all false
set_option maxRecDepth 100000
set_option maxHeartbeats 4000000
namespace Z
open PySem PySem.Spec PyProof.Rows L2 GG
abbrev sEnds : Stmt := top 9
abbrev sMach : Stmt := top 10
abbrev sNumb : Stmt := top 11
/-! ### machines -/
inductive Pl where
  | toss (a b : Int)
  | fin (n : Int)
  | never
def Pl.row : Pl → List V
  | .toss a b => [.str "toss", .int a, .int b]
  | .fin n => [.str "end", .int n]
  | .never => [.str "never"]
def Pl.ok (m : Nat) : Pl → Prop
  | .toss a b => 0 ≤ a ∧ a < m ∧ 0 ≤ b ∧ b < m
  | .fin n => 0 ≤ n ∧ n < 100
  | .never => True
def Pl.still (p : Pl) : Prop := p = .never ∨ ∃ n, p = .fin n ∧ 0 ≤ n ∧ n < 100
theorem Pl.still.ok {p : Pl} (h : p.still) (m : Nat) : p.ok m := by
  rcases h with rfl | ⟨n, rfl, h1, h2⟩
  · trivial
  · exact ⟨h1, h2⟩
def Pl.isT : Pl → Bool
  | .toss _ _ => true
  | _ => false
theorem Pl.still.isT {p : Pl} (h : p.still) : p.isT = false := by
  rcases h with rfl | ⟨n, rfl, _⟩ <;> rfl
inductive Pls (H : Hp) : List V → List Pl → Prop where
  | nil : Pls H [] []
  | cons {t : Addr} {p : Pl} {rs : List V} {ps : List Pl} : H t = some (.tup p.row) → Pls H rs ps → Pls H (.ref t :: rs) (p :: ps)
theorem Pls.mono {H H' : Hp} (f : ∀ t xs, H t = some (.tup xs) → H' t = some (.tup xs)) {rs : List V} {ps : List Pl} (h : Pls H rs ps) : Pls H' rs ps := by
  induction h with
  | nil => exact .nil
  | cons e _ ih => exact .cons (f _ _ e) ih
theorem Pls.snoc {H : Hp} {rs : List V} {ps : List Pl} (h : Pls H rs ps) {t : Addr} {p : Pl} (e : H t = some (.tup p.row)) : Pls H (rs ++ [.ref t]) (ps ++ [p]) := by
  induction h with
  | nil => exact .cons e .nil
  | cons e' _ ih => exact .cons e' ih
theorem Pls.len {H : Hp} {rs : List V} {ps : List Pl} (h : Pls H rs ps) : rs.length = ps.length := by
  induction h with
  | nil => rfl
  | cons _ _ ih => simp [ih]
theorem Pls.get {H : Hp} {rs : List V} {ps : List Pl} (h : Pls H rs ps) : ∀ {i : Nat} {p : Pl}, ps[i]? = some p → ∃ t, rs[i]? = some (.ref t) ∧ H t = some (.tup p.row) := by
  induction h with
  | nil => intro i p e; simp at e
  | @cons t q rs ps e' _ ih =>
    intro i p e
    cases i with
    | zero =>
      have : q = p := by simpa using e
      subst this
      exact ⟨t, rfl, e'⟩
    | succ i => exact ih (by simpa using e)
def Mach (H : Hp) (m : Addr) (ps : List Pl) : Prop := ∃ rs, H m = some (.tup rs) ∧ Pls H rs ps
theorem Mach.mono {H H' : Hp} (f : ∀ t xs, H t = some (.tup xs) → H' t = some (.tup xs)) {m : Addr} {ps : List Pl} (h : Mach H m ps) : Mach H' m ps := by
  obtain ⟨rs, e, h⟩ := h
  exact ⟨rs, f _ _ e, h.mono f⟩
theorem Mach.same {H H' : Hp} (s : Same H H') {m : Addr} {ps : List Pl} (h : Mach H m ps) : Mach H' m ps := h.mono fun t xs e => s _ _ e
theorem Mach.but {H H' : Hp} {a l m : Addr} {ps : List Pl} (pn : Pen H a l) (b : But a H H') (h : Mach H m ps) : Mach H' m ps := h.mono fun t xs e => b.mem (pn.notTup e) e
structure WF (ps : List Pl) : Prop where
  ne : 0 < ps.length
  le : ps.length ≤ 30
  ok : ∀ p ∈ ps, p.ok ps.length
theorem WF.get {ps : List Pl} (w : WF ps) {a : Int} (h0 : 0 ≤ a) (h1 : a < ps.length) : ∃ p, ps[a.toNat]? = some p ∧ p.ok ps.length := by
  have lt : a.toNat < ps.length := by omega
  exact ⟨ps[a.toNat], List.getElem?_eq_getElem lt, w.ok _ (List.getElem_mem lt)⟩
theorem str_toss_end : (V.str "end" : V) ≠ V.str "toss" := by intro h; exact absurd (V.str.inj h) (by decide +kernel)
theorem str_toss_never : (V.str "never" : V) ≠ V.str "toss" := by intro h; exact absurd (V.str.inj h) (by decide +kernel)
theorem str_end_toss : (V.str "toss" : V) ≠ V.str "end" := by intro h; exact absurd (V.str.inj h) (by decide +kernel)
theorem str_end_never : (V.str "never" : V) ≠ V.str "end" := by intro h; exact absurd (V.str.inj h) (by decide +kernel)
theorem str_never_toss : (V.str "toss" : V) ≠ V.str "never" := by intro h; exact absurd (V.str.inj h) (by decide +kernel)
theorem str_never_end : (V.str "end" : V) ≠ V.str "never" := by intro h; exact absurd (V.str.inj h) (by decide +kernel)
section
variable {P : Program} {w : World} {K : PySem.W.Frag} {mg : Str → Option Value} {base : Heap}
def spEnds : Sp := fun vs H Q _ => ∃ (a l q : Addr) (ns : List Int), vs = [.ref a, .ref q] ∧ Pen H a l ∧ H q = some (.lst (ns.map V.int)) ∧ 0 < ns.length ∧ ns.length ≤ 60 ∧ (∀ n ∈ ns, 0 ≤ n ∧ n < 100) ∧
  ∀ (t : Addr) (p : Pl) H', But a H H' → H t = none → H' t = some (.tup p.row) → Pen H' a l → p.still → Q (.ref t) H'
theorem Pen.notInts {H : Hp} {a l q : Addr} {ns : List Int} (p : Pen H a l) (h : H q = some (.lst (ns.map V.int))) : q ≠ a := by
  obtain ⟨cs, pos, val, ha, hl, _⟩ := p
  rintro rfl
  rw [ha] at h
  cases ns with
  | nil => cases h
  | cons x r => cases h
theorem scEnds : FnScope ["pen", "answers"] ["pen", "answers"] (defScope sEnds) := ⟨rfl, rfl, rfl, by decide +kernel, rfl, by decide +kernel, by decide +kernel⟩
theorem ok_ends {f g : Addr} {fd gd : FuncData} (F : Fun K "_law_ends" "_law_ends" sEnds f fd) (T : Names mg) (GD : FnOk P w K mg base CX0 2 g gd ["pen", "many"] spDraw) (PD : Def K mg "_law_draw" g gd ["pen", "many"]) :
    FnOk P w K mg base CX0 3 f fd ["pen", "answers"] spEnds := by
  refine F.ok scEnds (fun vs H Q E h => ?_) (fun cdv A outer s H vs Q E hr h => ?_)
  · obtain ⟨a, l, q, ns, rfl, _⟩ := h
    rfl
  · obtain ⟨a, l, r, ns, rfl, pn, hr1, h0, h60, hns, q⟩ := h
    refine ⟨_, (pss_cons (ps_if (pt_cmpR op_eq (pe_call GD (hr.mono (by decide)) (by rfl) PD.is PD.kp PD.bi .nil pass0 (pa_cons (pv 0) (pa_cons pe_int pa_nil))) pe_int (nomark _)) (pss_one (ps_ret (pe_tup (pa_cons pe_str pa_nil)))) pss_nil)
      (pss_one (ps_ret (pe_tup (pa_cons pe_str (pa_cons (pe_ix ix_list (pv 1) (pe_call GD (hr.mono (by decide)) (by rfl) PD.is PD.kp PD.bi .nil pass0 (pa_cons (pv 0) (pa_cons (pe_callB call_len_seq (by rfl) T.len PySem.boot_len (pa_cons (pv 1) pa_nil)) pa_nil))) (fun _ _ => rfl)) pa_nil)))))), ?_⟩
    refine ⟨.ref a, rfl, a, l, 7, rfl, pn, by decide, by decide +kernel, fun d H1 u0 u1 b1 p1 => ⟨rfl, _, rfl, ite2 (fun _ => ?_) (fun _ => ?_)⟩⟩
    · refine ⟨by show 1 ≤ sizeLine; decide, fun t nt => ?_⟩
      exact q t .never _ (b1.trans (But.of (Same.upd nt))) (b1.free (p1.apart nt).1 nt) upd_same (p1.same (Same.upd nt)) (.inl rfl)
    · have hr2 := b1.mem (pn.notInts hr1) hr1
      refine ⟨.ref r, rfl, .ref a, rfl, .ref r, rfl, r, _, rfl, .inl (SqL.of hr2), a, l, _, rfl, p1, ?_, ?_, fun d2 H2 v0 v1 b2 p2 => ?_⟩
      · rw [List.length_map]
        omega
      · rw [List.length_map]
        refine log_le (Nat.lt_of_le_of_lt (show _ ≤ 60 by omega) (by decide))
      · rw [List.length_map] at v1
        obtain ⟨j, rfl⟩ : ∃ j : Nat, d2 = (j : Int) := ⟨d2.toNat, by omega⟩
        have hj : j < ns.length := by omega
        refine ⟨r, _, j, .int ns[j], rfl, rfl, SqL.of (b2.mem (p1.notInts hr2) hr2), atI_nat (by rw [List.getElem?_map, List.getElem?_eq_getElem hj]; rfl), by show 2 ≤ sizeLine; decide, fun t nt => ?_⟩
        have b3 := b1.trans b2
        exact q t (.fin ns[j]) _ (b3.trans (But.of (Same.upd nt))) (b3.free (p2.apart nt).1 nt) upd_same (p2.same (Same.upd nt)) (.inr ⟨_, rfl, hns _ (List.getElem_mem hj)⟩)
/-! ### the numbers of the places changed -/
structure Order (n : Nat) (os : List Int) : Prop where
  len : os.length = n
  all : ∀ k : Int, 0 ≤ k → k < n → k ∈ os
  ok : ∀ k ∈ os, 0 ≤ k ∧ k < n
def spNumb : Sp := fun vs H Q _ => ∃ (m o : Addr) (ps : List Pl) (os : List Int), vs = [.ref m, .ref o] ∧ Mach H m ps ∧ WF ps ∧ H o = some (.lst (os.map V.int)) ∧ Order ps.length os ∧
  ∀ (t : Addr) (qs : List Pl) H', Same H H' → H t = none → Mach H' t qs → WF qs → qs.length = ps.length → ((∃ p ∈ ps, p.isT = false) → ∃ q ∈ qs, q.isT = false) → Q (.ref t) H'
theorem flat_ints : ∀ ns : List Int, (ns.map V.int).all flatV = true
  | [] => rfl
  | _ :: r => flat_ints r
theorem find_int {os : List Int} {k : Int} (h : k ∈ os) : ∃ j : Nat, j < os.length ∧ (os.map V.int)[j]? = some (V.int k) ∧ ∀ (m : Nat) (z : V), m < j → (os.map V.int)[m]? = some z → eqV z (V.int k) = false := by
  induction os with
  | nil => cases h
  | cons x r ih =>
    by_cases e : x = k
    · subst e
      exact ⟨0, by simp, rfl, fun m z hm => absurd hm (Nat.not_lt_zero m)⟩
    · have h' : k ∈ r := by
        rcases List.mem_cons.mp h with z | z
        · exact absurd z.symm e
        · exact z
      obtain ⟨j, h1, h2, h3⟩ := ih h'
      refine ⟨j + 1, by simpa using h1, h2, fun m z hm hz => ?_⟩
      cases m with
      | zero =>
        have : z = V.int x := by simpa using hz.symm
        subst this
        show (x == k) = false
        simpa using e
      | succ m => exact h3 m z (by omega) (by simpa using hz)
theorem scNumb : FnScope ["machine", "order", "found", "old", "place"] ["machine", "order"] (defScope sNumb) := ⟨rfl, rfl, rfl, by decide +kernel, rfl, by decide +kernel, by decide +kernel⟩
theorem ok_numb {f : Addr} {fd : FuncData} (F : Fun K "_law_numbered" "_law_numbered" sNumb f fd) (T : Names mg) : FnOk P w K mg base CX0 1 f fd ["machine", "order"] spNumb := by
  refine F.ok scNumb (fun vs H Q E h => ?_) (fun cdv A outer s H vs Q E hr h => ?_)
  · obtain ⟨m, o, ps, os, rfl, _⟩ := h
    rfl
  · obtain ⟨m, o, ps, os, rfl, hm, hw, ho, hos, q⟩ := h
    refine ⟨_, (pss_cons (ps_set (i := 2) scNumb.nd rfl (.inl rfl) (pe_lst pa_nil))
      (pss_cons (ps_for PassesOwn.never rfl (pi_list (pv 1)) (pg_name (i := 3) scNumb.nd rfl (.inl rfl)) (pss_cons (ps_set (i := 4) scNumb.nd rfl (.inl rfl) (pe_ix ix_tup (pv 0) (pv 3) (fun _ _ => rfl)))
      (pss_cons (ps_if (pt_cmpR op_eq (pe_ix ix_tup (pv 4) pe_int (fun _ _ => rfl)) pe_str (nomark _)) (pss_one (ps_set (i := 4) scNumb.nd rfl (.inl rfl) (pe_tup (pa_cons pe_str (pa_cons (pe_bm PySem.F.plainAttrs_list PySem.F.slot_list_index PySem.F.type_list_index mt_index (pv 1) (pa_cons (pe_ix ix_tup (pv 4) pe_int (fun _ _ => rfl)) pa_nil)) (pa_cons (pe_bm PySem.F.plainAttrs_list PySem.F.slot_list_index PySem.F.type_list_index mt_index (pv 1) (pa_cons (pe_ix ix_tup (pv 4) pe_int (fun _ _ => rfl)) pa_nil)) pa_nil)))))) pss_nil)
      (pss_one (ps_expr (pe_bm PySem.F.plainAttrs_list PySem.F.slot_list_append PySem.F.type_list_append mt_append (pv 2) (pa_cons (pv 4) pa_nil)))))))
      (pss_one (ps_ret (pe_callTy call_tuple_of (by rfl) T.tuple (by decide +kernel) (pa_cons (pv 2) pa_nil)))))), ?_⟩
    refine ⟨Nat.zero_le _, fun L nL => ?_⟩
    have s1 : Same H (upd H L (.lst [])) := Same.upd nL
    have eL : upd H L (.lst []) L = some (.lst []) := upd_same
    change (_ : Hp → Prop) (upd H L (.lst []))
    generalize upd H L (.lst []) = H1 at s1 eL ⊢
    refine ⟨.ref o, rfl, o, rfl, ⟨_, SqL.of (s1 _ _ ho)⟩, for_list (K := K) (a := o) (xs := os.map V.int) (fun i σ H' => ∃ (v3 v4 : Option V) (rs : List V) (qs : List Pl), σ = [some (V.ref m), some (V.ref o), some (V.ref L), v3, v4] ∧ Same H H' ∧ H' L = some (.lst rs) ∧ Pls H' rs qs ∧ qs.length = i ∧ (∀ p ∈ qs, p.ok ps.length) ∧ ∀ (j k : Nat) (p : Pl), j < i → os[j]? = some ((k : Nat) : Int) → ps[k]? = some p → ∃ q, qs[j]? = some q ∧ q.isT = p.isT)
      ⟨_, _, [], [], rfl, s1, eL, .nil, rfl, by simp, fun j k p h => absurd h (Nat.not_lt_zero _)⟩ (fun i σ H' _ ⟨_, _, _, _, _, s, _⟩ => SqL.of (s _ _ ho)) ?_ ?_⟩
    · rintro i x σ H2 hx ⟨v3, v4, rs, qs, rfl, s2, e2, pl, len, okq, still⟩
      have hi : i < os.length := by
        have := (List.getElem?_eq_some_iff.mp hx).1
        rwa [List.length_map] at this
      have ex : x = .int os[i] := by
        rw [List.getElem?_map, List.getElem?_eq_getElem hi] at hx
        exact (Option.some.inj hx).symm
      subst ex
      obtain ⟨k0, k1⟩ := hos.ok _ (List.getElem_mem hi)
      obtain ⟨p, hp, okp⟩ := hw.get k0 k1
      obtain ⟨rs0, em, pls0⟩ := hm.same s2
      obtain ⟨t, ht, et⟩ := pls0.get hp
      obtain ⟨j, ej⟩ : ∃ j : Nat, os[i] = (j : Int) := ⟨os[i].toNat, by omega⟩
      rw [ej, Int.toNat_natCast] at hp ht
      have hlen : rs.length < sizeLine := by
        have := pl.len
        have := hos.len
        have := hw.le
        have e : sizeLine = 16777216 := by decide
        omega
      refine ⟨.ref m, rfl, .int os[i], rfl, m, rs0, _, .ref t, rfl, rfl, SqT.of em, by rw [ej]; exact atI_nat ht, ?_⟩
      dsimp only
      refine on (if_tail (fun σ H3 => ∃ (t' : Addr) (p' : Pl), σ = [some (V.ref m), some (V.ref o), some (V.ref L), some (V.int os[i]), some (V.ref t')] ∧ Same H2 H3 ∧ H3 t' = some (.tup p'.row) ∧ p'.ok ps.length ∧ p'.isT = p.isT) ?_ (fun tl => ?_))
      rotate_left
      · cases p with
        | toss x y =>
          refine ⟨.ref t, rfl, t, _, 0, .str "toss", rfl, rfl, SqT.of et, atI_nat (j := 0) rfl, rfl, _, rfl, ?_⟩
          rw [decide_eq_true rfl]
          refine iteT ?_
          obtain ⟨x0, x1, y0, y1⟩ := okp
          obtain ⟨jx, jx1, jx2, jx3⟩ := find_int (hos.all x x0 x1)
          obtain ⟨jy, jy1, jy2, jy3⟩ := find_int (hos.all y y0 y1)
          have ho2 := s2 _ _ ho
          refine ⟨.ref o, rfl, .inl ⟨rfl, _, SqL.of ho2⟩, .ref t, rfl, t, _, 1, .int x, rfl, rfl, SqT.of et, atI_nat (j := 1) rfl, o, _, .int x, jx, .int x, rfl, rfl, SqL.of ho2, rfl, flat_ints os, jx2, by show (x == x) = true; simp, jx3, ?_⟩
          refine ⟨.ref o, rfl, .inl ⟨rfl, _, SqL.of ho2⟩, .ref t, rfl, t, _, 2, .int y, rfl, rfl, SqT.of et, atI_nat (j := 2) rfl, o, _, .int y, jy, .int y, rfl, rfl, SqL.of ho2, rfl, flat_ints os, jy2, by show (y == y) = true; simp, jy3, ?_⟩
          refine ⟨by show 3 ≤ sizeLine; decide, fun t' nt => tl _ _ ⟨t', .toss (jx : Nat) (jy : Nat), rfl, Same.upd nt, upd_same, ?_⟩⟩
          have := hos.len
          exact ⟨⟨by omega, by omega, by omega, by omega⟩, rfl⟩
        | fin n =>
          refine ⟨.ref t, rfl, t, _, 0, .str "end", rfl, rfl, SqT.of et, atI_nat (j := 0) rfl, rfl, _, rfl, ?_⟩
          rw [decide_eq_false str_toss_end]
          exact iteF (tl _ _ ⟨t, .fin n, rfl, Same.refl _, et, okp, rfl⟩)
        | never =>
          refine ⟨.ref t, rfl, t, _, 0, .str "never", rfl, rfl, SqT.of et, atI_nat (j := 0) rfl, rfl, _, rfl, ?_⟩
          rw [decide_eq_false str_toss_never]
          exact iteF (tl _ _ ⟨t, .never, rfl, Same.refl _, et, okp, rfl⟩)
      · rintro σ H3 ⟨t', p', rfl, s3, et', okp', same'⟩
        have e3 := s3 _ _ e2
        refine ⟨.ref L, rfl, .inl ⟨rfl, _, SqL.of e3⟩, .ref t', rfl, L, _, _, rfl, rfl, e3, hlen, ?_⟩
        have ntL : ∀ b xs, H3 b = some (.tup xs) → b ≠ L := by
          rintro b xs e rfl
          rw [e3] at e
          cases e
        refine ⟨_, _, rs ++ [.ref t'], qs ++ [p'], rfl, ?_, upd_same, ?_, by simp [len], ?_, ?_⟩
        · intro b u e
          rw [upd_ne (ne_of_none e nL)]
          exact s3 _ _ (s2 _ _ e)
        · exact ((pl.mono fun b xs e => s3 _ _ e).snoc et').mono fun b xs e => by rw [upd_ne (ntL _ _ e)]; exact e
        · intro x hx
          rcases List.mem_append.mp hx with hx | hx
          · exact okq x hx
          · rw [List.mem_singleton.mp hx]
            exact okp'
        · intro j' k' p2 hj' ho' hp'
          rcases Nat.lt_or_ge j' i with l | l
          · obtain ⟨q', hq', e'⟩ := still j' k' p2 l ho' hp'
            exact ⟨q', by rw [List.getElem?_append_left (by omega)]; exact hq', e'⟩
          · have ei : j' = i := by omega
            subst ei
            rw [List.getElem?_eq_getElem hi, ej] at ho'
            have ek : k' = j := by
              have := Option.some.inj ho'
              omega
            subst ek
            rw [hp] at hp'
            have ep := Option.some.inj hp'
            subst ep
            exact ⟨p', by rw [List.getElem?_append_right (by omega), len, Nat.sub_self]; rfl, same'⟩
    · rintro σ H2 ⟨v3, v4, rs, qs, rfl, s2, e2, pl, len, okq, still⟩
      rw [List.length_map] at still
      rw [List.length_map, hos.len] at len
      refine ⟨.ref L, rfl, L, _, rfl, .inl ⟨SqL.of e2, fun t nt => ?_⟩⟩
      have s3 := Same.upd (o := .tup rs) nt
      exact q t qs _ (s2.trans s3) (s2.free nt) ⟨rs, upd_same, pl.mono fun b xs e => s3 _ _ e⟩ ⟨by have := hw.ne; omega, by have := hw.le; omega, by rw [len]; exact okq⟩ len (fun ⟨p, hp, hf⟩ => by
        obtain ⟨k, hk, ek⟩ := List.getElem_of_mem hp
        obtain ⟨j, hj, ej⟩ := List.getElem_of_mem (hos.all (k : Nat) (by omega) (by omega))
        obtain ⟨q', hq', e'⟩ := still j k p hj (by rw [List.getElem?_eq_getElem hj, ej]) (by rw [List.getElem?_eq_getElem hk, ek])
        exact ⟨q', List.mem_of_getElem? hq', e'.trans hf⟩)
/-! ### a machine that is drawn -/
theorem ixN_nat {n j : Nat} (h : j < n) : ixN n (j : Int) = some j := by
  unfold ixN
  rw [if_pos (by omega), if_pos (by omega)]
  simp
theorem order_swap {n z : Nat} (h : z < n) : Order n ((((List.range n).map fun i : Nat => (i : Int)).set 0 (z : Int)).set z 0) := by
  have len : ((List.range n).map fun i : Nat => (i : Int)).length = n := by simp
  refine ⟨by simp, fun k k0 k1 => ?_, fun k hk => ?_⟩
  · obtain ⟨j, rfl⟩ : ∃ j : Nat, k = (j : Int) := ⟨k.toNat, by omega⟩
    have hj : j < n := by omega
    refine List.mem_of_getElem? (i := if j = 0 then z else if j = z then 0 else j) ?_
    rw [List.getElem?_set, List.getElem?_set]
    by_cases e0 : j = 0
    · subst e0
      rw [if_pos rfl, if_pos rfl, List.length_set, len, if_pos h]
      rfl
    · rw [if_neg e0]
      by_cases ez : j = z
      · subst ez
        rw [if_pos rfl, if_neg e0, if_pos rfl, len, if_pos (by omega)]
      · rw [if_neg ez, if_neg (fun q => ez q.symm), if_neg (fun q => e0 q.symm), List.getElem?_map, List.getElem?_range hj]
        rfl
  · rcases List.mem_or_eq_of_mem_set hk with hk | rfl
    · rcases List.mem_or_eq_of_mem_set hk with hk | rfl
      · obtain ⟨i, hi, rfl⟩ := List.mem_map.mp hk
        have := List.mem_range.mp hi
        omega
      · omega
    · omega
theorem first_is {n : Nat} (h : 0 < n) {d : Int} (d0 : 0 ≤ d) (d1 : d < 6) : ∃ z : Nat, z < n ∧ atI [V.int ((n : Int) - 1), V.int 0, V.int 0, V.int 0, V.int 0, V.int 0] d = some (V.int (z : Nat)) := by
  rcases (show d = 0 ∨ d = 1 ∨ d = 2 ∨ d = 3 ∨ d = 4 ∨ d = 5 by omega) with rfl | rfl | rfl | rfl | rfl | rfl
  · refine ⟨n - 1, by omega, ?_⟩
    rw [show ((n - 1 : Nat) : Int) = (n : Int) - 1 by omega]
    rfl
  all_goals exact ⟨0, h, rfl⟩
theorem rg_is (n : Nat) : rgV 0 (n : Int) = ((List.range n).map fun i : Nat => (i : Int)).map V.int := by
  unfold rgV
  rw [List.map_map, show ((n : Int) - 0).toNat = n by omega]
  refine List.map_congr_left fun i _ => ?_
  show V.int (0 + (i : Int)) = V.int (i : Int)
  rw [Int.zero_add]
def spMach : Sp := fun vs H Q _ => ∃ (a l r : Addr) (m : Int) (ns : List Int), vs = [.ref a, .int m, .ref r] ∧ Pen H a l ∧ 0 ≤ m ∧ m ≤ 20 ∧ H r = some (.lst (ns.map V.int)) ∧ 0 < ns.length ∧ ns.length ≤ 60 ∧ (∀ n ∈ ns, 0 ≤ n ∧ n < 100) ∧
  ∀ (t : Addr) (ps : List Pl) H', But a H H' → H t = none → Mach H' t ps → WF ps → Pen H' a l → (ps.length : Int) ≤ m + 3 → (∃ p ∈ ps, p.isT = false) → Q (.ref t) H'
theorem scMach : FnScope ["pen", "most", "answers", "tosses", "others", "many", "first", "places", "at", "order"] ["pen", "most", "answers"] (defScope sMach) := ⟨rfl, rfl, rfl, by decide +kernel, rfl, by decide +kernel, by decide +kernel⟩
theorem ok_mach {f g e n : Addr} {fd gd ed nd : FuncData} (F : Fun K "_law_machine" "_law_machine" sMach f fd) (T : Names mg) (GD : FnOk P w K mg base CX0 2 g gd ["pen", "many"] spDraw) (PD : Def K mg "_law_draw" g gd ["pen", "many"])
    (GE : FnOk P w K mg base CX0 3 e ed ["pen", "answers"] spEnds) (PE_ : Def K mg "_law_ends" e ed ["pen", "answers"]) (GN : FnOk P w K mg base CX0 1 n nd ["machine", "order"] spNumb) (PN : Def K mg "_law_numbered" n nd ["machine", "order"]) :
    FnOk P w K mg base CX0 4 f fd ["pen", "most", "answers"] spMach := by
  refine F.ok scMach (fun vs H Q E h => ?_) (fun cdv A outer s H vs Q E hr h => ?_)
  · obtain ⟨a, l, r, m, ns, rfl, _⟩ := h
    rfl
  · obtain ⟨a, l, r, m, ns, rfl, pn, m0, m20, hr1, h0, h60, hns, q⟩ := h
    refine ⟨_, (pss_cons (ps_par (i := 3) (j := 4) (by rfl) scMach.nd rfl rfl (by decide) rfl rfl (pa_cons (pe_call GD (hr.mono (by decide)) (by rfl) PD.is PD.kp PD.bi .nil pass0 (pa_cons (pv 0) (pa_cons (pe_op op_add (pv 1) pe_int) pa_nil))) (pa_cons (pe_op op_add pe_int (pe_call GD (hr.mono (by decide)) (by rfl) PD.is PD.kp PD.bi .nil pass0 (pa_cons (pv 0) (pa_cons pe_int pa_nil)))) pa_nil)) (by rfl))
      (pss_cons (ps_set (i := 5) scMach.nd rfl (.inl rfl) (pe_op op_add (pv 3) (pv 4)))
      (pss_cons (ps_set (i := 6) scMach.nd rfl (.inl rfl) (pe_ifExp (pt_cmpR op_gt (pv 3) pe_int (nomark _)) (pe_ix ix_list (pe_lst (pa_cons (pe_op op_sub (pv 5) pe_int) (pa_cons pe_int (pa_cons pe_int (pa_cons pe_int (pa_cons pe_int (pa_cons pe_int pa_nil))))))) (pe_call GD (hr.mono (by decide)) (by rfl) PD.is PD.kp PD.bi .nil pass0 (pa_cons (pv 0) (pa_cons pe_int pa_nil))) (fun _ _ => rfl)) pe_int))
      (pss_cons (ps_set (i := 7) scMach.nd rfl (.inl rfl) (pe_lst pa_nil))
      (pss_cons (ps_for PassesOwn.never rfl (pi_range1 rfl T.range (pa_cons (pv 5) pa_nil)) (pg_name (i := 8) scMach.nd rfl (.inl rfl)) (pss_one (ps_if (pt_cmpR op_lt (pv 8) (pv 3) (nomark _)) (pss_one (ps_expr (pe_bm PySem.F.plainAttrs_list PySem.F.slot_list_append PySem.F.type_list_append mt_append (pv 7) (pa_cons (pe_tup (pa_cons pe_str (pa_cons (pe_call GD (hr.mono (by decide)) (by rfl) PD.is PD.kp PD.bi .nil pass0 (pa_cons (pv 0) (pa_cons (pv 5) pa_nil))) (pa_cons (pe_call GD (hr.mono (by decide)) (by rfl) PD.is PD.kp PD.bi .nil pass0 (pa_cons (pv 0) (pa_cons (pv 5) pa_nil))) pa_nil)))) pa_nil)))) (pss_one (ps_expr (pe_bm PySem.F.plainAttrs_list PySem.F.slot_list_append PySem.F.type_list_append mt_append (pv 7) (pa_cons (pe_call GE (hr.mono (by decide)) (by rfl) PE_.is PE_.kp PE_.bi .nil pass0 (pa_cons (pv 0) (pa_cons (pv 2) pa_nil))) pa_nil)))))))
      (pss_cons (ps_set (i := 9) scMach.nd rfl (.inl rfl) (pe_listRg rfl (by rfl) T.list (prg_1 (by rfl) T.range (pv 5))))
      (pss_cons (ps_asg (pe_tup (pa_cons (pe_ix ix_list (pv 9) (pv 6) (fun _ _ => rfl)) (pa_cons (pe_ix ix_list (pv 9) pe_int (fun _ _ => rfl)) pa_nil))) (pg_tup rfl (pgs_cons (pg_sub (pv 9) pe_int set_list) (pgs_cons (pg_sub (pv 9) (pv 6) set_list) pgs_nil))))
      (pss_one (ps_ret (pe_call GN (hr.mono (by decide)) (by rfl) PN.is PN.kp PN.bi .nil pass0 (pa_cons (pe_callTy call_tuple_of (by rfl) T.tuple (by decide +kernel) (pa_cons (pv 7) pa_nil)) (pa_cons (pv 9) pa_nil)))))))))))), ?_⟩
    refine ⟨.ref a, rfl, .int m, rfl, _, _, rfl, rfl, a, l, m + 1, rfl, pn, by omega, log_le (Nat.lt_of_le_of_lt (show _ ≤ 100 by omega) (by decide)), fun d H1 u0 u1 b1 p1 => ?_⟩
    refine ⟨.ref a, rfl, a, l, 3, rfl, p1, by decide, by decide +kernel, fun d2 H2 v0 v1 b2 p2 => ⟨_, _, rfl, rfl, _, _, rfl, ?_⟩⟩
    obtain ⟨n, hn⟩ : ∃ n : Nat, d + (1 + d2) = (n : Int) := ⟨(d + (1 + d2)).toNat, by omega⟩
    refine ⟨_, rfl, _, rfl, _, _, rfl, rfl, ?_⟩
    dsimp only
    rw [hn]
    have n0 : 0 < n := by omega
    have n30 : n ≤ 30 := by omega
    have b12 := b1.trans b2
    refine on (asg_tail (fun v H' => ∃ z : Nat, v = .int (z : Nat) ∧ z < n ∧ But a H H' ∧ Pen H' a l) ?_ (fun t => ?_))
    rotate_left
    · refine ⟨_, rfl, _, _, rfl, rfl, _, rfl, ite2 (fun _ => ?_) (fun _ => t _ _ ⟨0, rfl, n0, b12, p2⟩)⟩
      refine ⟨_, rfl, _, _, rfl, rfl, by show 6 ≤ sizeLine; decide, fun e ne => ?_⟩
      have s3 : Same H2 (upd H2 e (.lst [.int ((n : Int) - 1), .int 0, .int 0, .int 0, .int 0, .int 0])) := Same.upd ne
      have he : upd H2 e (.lst [.int ((n : Int) - 1), .int 0, .int 0, .int 0, .int 0, .int 0]) e = some (.lst [.int ((n : Int) - 1), .int 0, .int 0, .int 0, .int 0, .int 0]) := upd_same
      have p3 := p2.same s3
      have nea := (p2.apart ne).1
      generalize upd H2 e (.lst [.int ((n : Int) - 1), .int 0, .int 0, .int 0, .int 0, .int 0]) = H3 at s3 he p3 ⊢
      refine ⟨.ref a, rfl, a, l, 6, rfl, p3, by decide, by decide +kernel, fun d3 H4 w0 w1 b4 p4 => ?_⟩
      obtain ⟨z, hz, ez⟩ := first_is n0 w0 w1
      exact ⟨e, _, d3, .int (z : Nat), rfl, rfl, SqL.of (b4.mem nea he), ez, t _ _ ⟨z, rfl, hz, (b12.trans (But.of s3)).trans b4, p4⟩⟩
    · rintro v H3 ⟨z, rfl, hz, b3, p3⟩
      refine ⟨Nat.zero_le _, fun L nL => ?_⟩
      have aL := p3.apart nL
      have nLH : H L = none := b3.free aL.1 nL
      have b4 : But a H (upd H3 L (.lst [])) := b3.trans (But.of (Same.upd nL))
      have p4 : Pen (upd H3 L (.lst [])) a l := p3.same (Same.upd nL)
      have eL : upd H3 L (.lst []) L = some (.lst []) := upd_same
      change (_ : Hp → Prop) (upd H3 L (.lst []))
      generalize upd H3 L (.lst []) = H4 at b4 p4 eL ⊢
      clear nL
      refine ⟨_, rfl, _, rfl, by omega, by omega, for_range (lo := 0) (n := n) (fun i σ H' => ∃ (v8 : Option V) (rs : List V) (ps : List Pl), σ = [some (V.ref a), some (V.int m), some (V.ref r), some (V.int d), some (V.int (1 + d2)), some (V.int (n : Nat)), some (V.int (z : Nat)), some (V.ref L), v8, none] ∧ But a H H' ∧ Pen H' a l ∧ H' L = some (.lst rs) ∧ Pls H' rs ps ∧ ps.length = i ∧ (∀ p ∈ ps, p.ok n) ∧ ∀ k : Nat, d ≤ k → k < i → ∃ p, ps[k]? = some p ∧ p.isT = false)
        ⟨_, [], [], rfl, b4, p4, eL, .nil, rfl, by simp, fun k _ h => absurd h (Nat.not_lt_zero _)⟩ ?_ ?_⟩
      · rintro i σ H5 hi ⟨v8, rs, ps, rfl, b5, p5, e5, pl, len, okp, quiet⟩
        have hlen : rs.length < sizeLine := by
          have := pl.len
          have e : sizeLine = 16777216 := by decide
          omega
        have fin : ∀ (t : Addr) (p : Pl) (H7 : Hp), But a H5 H7 → Pen H7 a l → H7 t = some (.tup p.row) → p.ok n → (d ≤ ((i : Nat) : Int) → p.isT = false) → H7 L = some (.lst rs) ∧ ∃ (v8 : Option V) (rs' : List V) (ps' : List Pl), [some (V.ref a), some (V.int m), some (V.ref r), some (V.int d), some (V.int (1 + d2)), some (V.int (n : Nat)), some (V.int (z : Nat)), some (V.ref L), some (V.int (0 + (i : Nat))), none] = [some (V.ref a), some (V.int m), some (V.ref r), some (V.int d), some (V.int (1 + d2)), some (V.int (n : Nat)), some (V.int (z : Nat)), some (V.ref L), v8, none] ∧
            But a H (upd H7 L (.lst (rs ++ [V.ref t]))) ∧ Pen (upd H7 L (.lst (rs ++ [V.ref t]))) a l ∧ upd H7 L (.lst (rs ++ [V.ref t])) L = some (.lst rs') ∧ Pls (upd H7 L (.lst (rs ++ [V.ref t]))) rs' ps' ∧ ps'.length = i + 1 ∧ (∀ p ∈ ps', p.ok n) ∧ ∀ k : Nat, d ≤ k → k < i + 1 → ∃ p, ps'[k]? = some p ∧ p.isT = false := by
          intro t p H7 b7 p7 et okt tq
          have e7 := b7.mem aL.1 e5
          refine ⟨e7, _, rs ++ [V.ref t], ps ++ [p], rfl, ?_, ?_, upd_same, ?_, by simp [len], ?_, ?_⟩
          · intro b o e nb
            rw [upd_ne (ne_of_none e nLH)]
            exact b7 _ _ (b5 _ _ e nb) nb
          · obtain ⟨cs, pos, val, h1, h2, h3⟩ := p7
            exact ⟨cs, pos, val, by rw [upd_ne aL.1.symm]; exact h1, by rw [upd_ne aL.2.symm]; exact h2, h3⟩
          · have pl7 : Pls H7 rs ps := pl.mono fun b xs e => b7.mem (p5.notTup e) e
            refine (pl7.snoc et).mono fun b xs e => ?_
            rw [upd_ne (by rintro rfl; rw [e7] at e; cases e)]
            exact e
          · intro x hx
            rcases List.mem_append.mp hx with hx | hx
            · exact okp x hx
            · rw [List.mem_singleton.mp hx]
              exact okt
          · intro k hk hk2
            rcases Nat.lt_or_ge k i with l | l
            · obtain ⟨p', hp', e'⟩ := quiet k hk l
              exact ⟨p', by rw [List.getElem?_append_left (by omega)]; exact hp', e'⟩
            · have ek : k = i := by omega
              subst ek
              exact ⟨p, by rw [List.getElem?_append_right (by omega), len, Nat.sub_self]; rfl, tq hk⟩
        have hb : (0 : Int) < (n : Nat) := by omega
        have hb2 : ((n : Nat) : Int).natAbs.log2 < 9000 := log_le (Nat.lt_of_le_of_lt (show _ ≤ 100 by omega) (by decide))
        refine ⟨_, rfl, _, rfl, _, _, rfl, rfl, _, rfl, ite2 (fun hlt => ?_) (fun _ => ?_)⟩
        · have hlt : (0 : Int) + (i : Nat) < d := by simpa using hlt
          refine ⟨.ref L, rfl, .inl ⟨rfl, _, SqL.of e5⟩, .ref a, rfl, _, rfl, a, l, _, rfl, p5, hb, hb2, fun x H6 x0 x1 b6 p6 => ?_⟩
          refine ⟨.ref a, rfl, _, rfl, a, l, _, rfl, p6, hb, hb2, fun y H7 y0 y1 b7 p7 => ⟨by show 3 ≤ sizeLine; decide, fun t nt => ?_⟩⟩
          obtain ⟨e8, go⟩ := fin t (.toss x y) _ ((b6.trans b7).trans (But.of (Same.upd nt))) (p7.same (Same.upd nt)) upd_same ⟨x0, x1, y0, y1⟩ (fun h => by omega)
          exact ⟨L, _, _, rfl, rfl, e8, hlen, go⟩
        · refine ⟨.ref L, rfl, .inl ⟨rfl, _, SqL.of e5⟩, .ref a, rfl, .ref r, rfl, a, l, r, ns, rfl, p5, b5.mem (pn.notInts hr1) hr1, h0, h60, hns, fun t p H6 b6 nt et p6 st => ?_⟩
          obtain ⟨e8, go⟩ := fin t p H6 b6 p6 et (st.ok n) (fun _ => st.isT)
          exact ⟨L, _, _, rfl, rfl, e8, hlen, go⟩
      · rintro σ H5 ⟨v8, rs, ps, rfl, b5, p5, e5, pl, len, okp, quiet⟩
        refine ⟨_, rfl, _, rfl, RgOk.of_le (by decide) (by omega) (by decide) (by omega), fun O nO => ?_⟩
        rw [rg_is]
        have aO := p5.apart nO
        have nOH : H O = none := b5.free aO.1 nO
        have s6 := Same.upd (o := .lst (((List.range n).map fun i : Nat => (i : Int)).map V.int)) nO
        have e6 : upd H5 O (.lst (((List.range n).map fun i : Nat => (i : Int)).map V.int)) O = some (.lst (((List.range n).map fun i : Nat => (i : Int)).map V.int)) := upd_same
        generalize upd H5 O (.lst (((List.range n).map fun i : Nat => (i : Int)).map V.int)) = H6 at s6 e6 ⊢
        have gz : ∀ j : Nat, j < n → (((List.range n).map fun i : Nat => (i : Int)).map V.int)[j]? = some (V.int (j : Nat)) := fun j hj => by
          rw [List.getElem?_map, List.getElem?_map, List.getElem?_range hj]
          rfl
        refine ⟨.ref O, rfl, _, rfl, O, _, _, .int (z : Nat), rfl, rfl, SqL.of e6, atI_nat (gz z hz), .ref O, rfl, O, _, 0, .int 0, rfl, rfl, SqL.of e6, atI_nat (j := 0) (gz 0 n0), by show 2 ≤ sizeLine; decide, fun t nt => ?_⟩
        have s7 := Same.upd (o := .tup [.int (z : Nat), .int 0]) nt
        have e7 := s7 _ _ e6
        have et : upd H6 t (.tup [.int (z : Nat), .int 0]) t = some (.tup [.int (z : Nat), .int 0]) := upd_same
        generalize upd H6 t (.tup [.int (z : Nat), .int 0]) = H7 at s7 e7 et ⊢
        have ln : (((List.range n).map fun i : Nat => (i : Int)).map V.int).length = n := by simp
        refine ⟨t, _, rfl, SqT.of et, rfl, _, _, rfl, .ref O, rfl, O, _, 0, 0, rfl, rfl, e7, by rw [ln]; exact ixN_nat (j := 0) n0, ?_⟩
        refine ⟨_, _, rfl, .ref O, rfl, _, rfl, O, _, _, z, rfl, rfl, upd_same, by rw [List.length_set, ln]; exact ixN_nat hz, rfl, ?_⟩
        have nOO : ∀ b o, H5 b = some o → b ≠ O := fun b o e => ne_of_none e nO
        have s57 := s6.trans s7
        have up : ∀ (x y : HO) b o, H5 b = some o → upd (upd H7 O x) O y b = some o := fun x y b o e => by
          rw [upd_ne (nOO b o e), upd_ne (nOO b o e)]
          exact s57 _ _ e
        have e8 : upd (upd H7 O (.lst ((((List.range n).map fun i : Nat => (i : Int)).map V.int).set 0 (.int (z : Nat))))) O (.lst (((((List.range n).map fun i : Nat => (i : Int)).map V.int).set 0 (.int (z : Nat))).set z (.int 0))) O = some (.lst (((((List.range n).map fun i : Nat => (i : Int)).set 0 (z : Int)).set z 0).map V.int)) := by
          rw [upd_same, List.map_set, List.map_set]
        have up := up (.lst ((((List.range n).map fun i : Nat => (i : Int)).map V.int).set 0 (.int (z : Nat)))) (.lst (((((List.range n).map fun i : Nat => (i : Int)).map V.int).set 0 (.int (z : Nat))).set z (.int 0)))
        change (_ : Hp → Prop) (upd (upd H7 O (.lst ((((List.range n).map fun i : Nat => (i : Int)).map V.int).set 0 (.int (z : Nat))))) O (.lst (((((List.range n).map fun i : Nat => (i : Int)).map V.int).set 0 (.int (z : Nat))).set z (.int 0))))
        generalize upd (upd H7 O (.lst ((((List.range n).map fun i : Nat => (i : Int)).map V.int).set 0 (.int (z : Nat))))) O (.lst (((((List.range n).map fun i : Nat => (i : Int)).map V.int).set 0 (.int (z : Nat))).set z (.int 0))) = H8 at e8 up ⊢
        have s58 : Same H5 H8 := up
        refine ⟨.ref L, rfl, L, _, rfl, .inl ⟨SqL.of (up _ _ e5), fun p np => ?_⟩⟩
        have s9 := Same.upd (o := .tup rs) np
        have s59 := s58.trans s9
        refine ⟨.ref O, rfl, p, O, ps, _, rfl, ⟨rs, upd_same, pl.mono fun b xs e => s59 _ _ e⟩, ⟨by omega, by omega, by rw [len]; exact okp⟩, s9 _ _ e8, by rw [len]; exact order_swap hz, fun t qs H9 s10 nt hm hw hq hstill => ?_⟩
        have s50 := s59.trans s10
        exact q t qs H9 (b5.trans (But.of s50)) (b5.free ((p5.same s59).apart nt).1 (s59.free nt)) hm hw (p5.same s50) (by rw [hq, len]; omega) (hstill (by
          obtain ⟨p', hp', e'⟩ := quiet d.toNat (by omega) (by omega)
          exact ⟨p', List.mem_of_getElem? hp', e'⟩))
end
end Z

set_option Elab.async false
set_option maxRecDepth 100000
set_option maxHeartbeats 4000000
/-! enumerate(t), t a tuple -/
namespace EN
open PySem PySem.Spec PyProof.Rows L2
open Sem (wp)
theorem new_enum {v : Value} {o : Obj} {G : Heap → Prop} (B : Begins v o G) :
    Meets (Builtin.«enumerate.__new__» ⟨[.type "enumerate", v], []⟩) (fun _ R s => G s.heap ∧
      R (.ok (.ret (.ref (s.heap.push o).objs.size)))
        { s with heap := (s.heap.push o).push { cls := .type "enumerate", data := .fields #[.none, .bool false, .ref s.heap.objs.size, rawInt 0, .none, .none] } }) := by
  refine .of_wp fun prog w A R s h => ?_
  obtain ⟨hp, g, d, tk, os⟩ := s
  obtain ⟨hG, h⟩ := h
  have sub := sub_enumerate
  have begin_ : ∀ {A' : Around} {E : Value → Shared → Prop} {Q : Value → Shared → Prop}, Q (.ref hp.objs.size) ⟨hp.push o, g, d, tk, os⟩ →
      wpAny (model prog w) A' (pyIter v) Q E ⟨hp, g, d, tk, os⟩ := fun q => B.iter prog w _ _ ⟨hp, g, d, tk, os⟩ _ hG q
  wp_walk using begin_
  refine wpAny_stack_any fun st => wpAny_pure ?_
  split
  · rename_i c _ _ _ _ _
    cases (c == Value.type "enumerate")
    all_goals
      wp_walk using begin_
      exact ⟨_, rfl, h⟩
  · wp_walk using begin_
    exact ⟨_, rfl, h⟩
theorem call_enum {prog : Program} {w : World} {A : Around} {E : Value → Shared → Prop} {s : Shared} {v : Value} {o : Obj} {G : Heap → Prop} {Q : Value → Shared → Prop} (B : Begins v o G) (hG : G s.heap)
    (h : ∀ h', IsEnum h' (s.heap.objs.size + 1) s.heap.objs.size 0 .none → h'.get? s.heap.objs.size = some o →
      (∀ b u, s.heap.get? b = some u → h'.get? b = some u) → Q (.ref (s.heap.objs.size + 1)) { s with heap := h' }) :
    wpAny (model prog w) A (call (.type "enumerate") [v]) Q E s := by
  apply callType_new F.called_enumerate (by decide) (F.typeCall_enumerate_1 _) (F.newCall_enumerate_1 _) (fun obj => F.args_object_init_2 obj _) F.entry_enumerate_new (new_enum B)
  refine ⟨hG, ?_⟩
  have size : (s.heap.push o).objs.size = s.heap.objs.size + 1 := Heap.size_push ..
  show _ ∧ _
  rw [size]
  have made : IsEnum ((s.heap.push o).push { cls := .type "enumerate", data := .fields #[.none, .bool false, .ref s.heap.objs.size, rawInt 0, .none, .none] }) (s.heap.objs.size + 1) s.heap.objs.size 0 .none := by
    have e := Heap.get?_push_size (s.heap.push o) (o := { cls := .type "enumerate", data := .fields #[.none, .bool false, .ref s.heap.objs.size, rawInt 0, .none, .none] }) rfl
    rwa [size] at e
  refine ⟨⟨_, made, rfl⟩, h _ made ?_ ?_⟩
  · exact Heap.get?_push_of_some _ (Heap.get?_push_size _ B.free)
  · intro b u e
    exact Heap.get?_push_of_some _ (Heap.get?_push_of_some _ e)

/-- the tuple at a, each item in a new pair with its place -/
def Pairs (K : PySem.W.Frag) (a : Addr) : It where
  go := fun i H => ∃ (xs : List V) (x : V), SqT K H a xs ∧ xs[i]? = some x
  yld := fun i H v H' => ∃ T x, v = .ref T ∧ H T = none ∧ H' = upd H T (.tup [.int (i : Nat), x]) ∧ ∀ xs, SqT K H a xs → xs[i]? = some x
  stop := fun i H => ∃ xs : List V, SqT K H a xs ∧ xs.length ≤ i
theorem turn_pairs {P : Program} {w : World} {K : PySem.W.Frag} {elts : List Expr} {kk : Nat} {tpos : Pos} (a e it : Addr) :
    Turn P w K (.Tuple elts kk tpos) (Pairs K a) [e, it] e (fun i h => (∃ old, IsEnum h e it ((i : Nat) : Int) old) ∧ h.IsTupleIter it a i ∧ e ≠ it) where
  mem := List.mem_cons_self ..
  obj := by
    rintro i h ⟨⟨old, he⟩, ⟨o, ho, hc, hd⟩, _⟩ b hb
    simp only [List.mem_cons, List.not_mem_nil, or_false] at hb
    rcases hb with rfl | rfl
    · exact ⟨_, he, fun v q => nomatch q⟩
    · exact ⟨o, ho, fun v q => by rw [hd] at q; cases q⟩
  keep := by
    rintro i h h' ⟨⟨old, he⟩, hi, hne⟩ k
    exact ⟨⟨old, k e (by simp) _ he⟩, hi.at fun o q => k it (by simp) o q, hne⟩
  item := by
    intro X hP hw hK calm i pins s σ H E I hf st hg
    subst hP hw hK
    obtain ⟨⟨old, he⟩, hit, hne⟩ := st
    obtain ⟨xs, x, hq, hx⟩ := hg
    obtain ⟨its, rv, p, hz⟩ := I.tuple hq
    obtain ⟨u, hu, ru⟩ := rv.get hx
    have le : e < s.heap.objs.size := Heap.lt_size he
    have li : it < s.heap.objs.size := by obtain ⟨_, q, _⟩ := hit; exact Heap.lt_size q
    have tup : s.heap.IsTuple a its.toArray := p
    have nai : a ≠ it := by
      rintro rfl
      obtain ⟨o1, q1, c1, _⟩ := tup
      obtain ⟨o2, q2, c2, _⟩ := hit
      rw [q1] at q2
      cases q2
      rw [c1] at c2
      injection c2 with c3
      exact absurd c3 (by decide)
    have nae : a ≠ e := by
      rintro rfl
      obtain ⟨o1, q1, c1, _⟩ := tup
      have q2 : s.heap.get? a = _ := he
      rw [q1] at q2
      cases q2
      injection c1 with c3
      exact absurd c3 (by decide)
    have lt : i < its.toArray.size := by
      have := (List.getElem?_eq_some_iff.mp hu).1
      simpa using this
    refine wpAny_pyNext_enum_itemD (Draws.tuple (A := X.A.in1) (by exact I.ok.hd calm) it a nai its.toArray) he ⟨hit, tup⟩ lt hne (by simp [hne, Ne.symm nae]) fun y h' tk hy ho st' hT hsz hk => ?_
    have ey : y = u := by
      have : its.toArray[i]? = some u := by simpa using hu
      exact Option.some.inj (hy.symm.trans this)
    subst ey
    refine ⟨_, rfl, wpAny_letOwnedTupleGo_enum (s := { s with heap := h', toks := tk + 1 }) ho fun h2 he2 sb => ?_⟩
    have sb' : Heap.SameBut e h' h2 := sb
    have hT2 : h2.get? s.heap.objs.size = some { cls := .type "tuple", data := .seq #[.int i tk, y] } := (sb'.2 _ (Nat.ne_of_gt le)).trans hT
    have new : ObjOk X.prog X.w (upd H s.heap.objs.size (.tup [.int (i : Nat), x])) h2 s.heap.objs.size (.tup [.int (i : Nat), x]) :=
      ⟨by show 2 ≤ sizeLine; decide, [.int i tk, y], .cons ⟨_, rfl⟩ (.cons ru .nil), ⟨_, hT2, rfl, _, rfl⟩⟩
    have I2 : Inv X pins σ (upd H s.heap.objs.size (.tup [.int (i : Nat), x])) { s with heap := h2, toks := tk + 1 } := by
      refine I.turnedNew (ch := [e, it]) (fun b ob hb q => ?_) hf (Nat.le_refl _) new
      have ne : b ≠ e := fun z => hb (by simp [z])
      have ni : b ≠ it := fun z => hb (by simp [z])
      exact (sb'.2 b ne).trans (hk b ob ne ni q)
    refine ⟨.ref s.heap.objs.size, _, I2, rfl, ⟨_, x, rfl, I.hok.fresh (Nat.le_refl _), rfl, fun ys hy => by rw [I.tuple_inj hy hq]; exact hx⟩, ⟨⟨y, ?_⟩, st'.1.at fun o q => (sb'.2 it (Ne.symm hne)).trans q, hne⟩, fun b hb => ?_⟩
    · have e1 : ((i + 1 : Nat) : Int) = (i : Int) + 1 := by omega
      rw [e1]
      exact he2
    · have lb : b < s.heap.objs.size := by
        simp only [List.mem_cons, List.not_mem_nil, or_false] at hb
        rcases hb with rfl | rfl
        · exact le
        · exact li
      rw [upd_ne (Nat.ne_of_lt lb)]
      exact (hf b hb).1
  done := by
    intro X hP hw hK calm i pins s σ H E I hf st hg
    subst hP hw hK
    obtain ⟨⟨old, he⟩, hit, hne⟩ := st
    obtain ⟨xs, hq, hx⟩ := hg
    obtain ⟨its, rv, p, hz⟩ := I.tuple hq
    have tup : s.heap.IsTuple a its.toArray := p
    have nai : a ≠ it := by
      rintro rfl
      obtain ⟨o1, q1, c1, _⟩ := tup
      obtain ⟨o2, q2, c2, _⟩ := hit
      rw [q1] at q2
      cases q2
      rw [c1] at c2
      injection c2 with c3
      exact absurd c3 (by decide)
    obtain ⟨f0, f1, f2, f3, f4, f5⟩ := hf it (by simp)
    have hl := rv.length
    have none_ : its.toArray[i]? = none := by simp; omega
    have hT : s.TypeIs (.ref e) "enumerate" := ⟨_, he, rfl⟩
    unfold pyNext
    refine wpAny_bind (wpAny_attempt (wpAny_callSpecial?_slot (name := Str.ofString "__next__") hT F.slot_enumerate_next
      (wpAny_call_entry F.slot_enumerate_next hT F.entry_enumerate_next ?_ (F.args_enumerate_next_1 _))))
    show wpAny _ _ (field (.ref e) 2 >>= _) _ _ _
    refine wpAny_bind (wpAny_field he rfl (x := .ref it) rfl ?_)
    refine wpAny_bind (wpAny_nextOf_tuple_end (I.ok.hd calm) hit tup none_ fun h' x he' hx' => ?_)
    obtain ⟨o, ho, hc⟩ := hx'
    refine wpAny_bind (wpAny_isInstance (T := "StopIteration") (b := true) ⟨o, ho, hc⟩ isSubtype_stop ?_)
    refine wpAny_pure ⟨rfl, ?_⟩
    exact I.turned (t' := s.toks) (fun b o hb q => he' b o hb q) f0 f1 f3 f4 f5
  self := by
    rintro A i s Q E ⟨⟨old, he⟩, _⟩ h
    exact wpAny_pyIter_enum he h
section
variable {X : Cx}
def tPairs (K : PySem.W.Frag) (ta : TA) : TI := fun σ H R => ta σ H fun vs H1 => ∃ a xs, vs = [.ref a] ∧ SqT K H1 a xs ∧ R (Pairs K a) H1
theorem pi_pairs {e : Expr} {ta : TA} {p pos tpos : Pos} {elts : List Expr} {kk : Nat} (glob : Gl X "enumerate") (none_ : X.mg "enumerate" = none) (args : PA X [e] ta)
    (star : starEach [e] X.env = [(false, eval e X.env)] := by rfl) : PI X (.Tuple elts kk tpos) (.Call (.Name "enumerate" p) [e] [] pos) (tPairs X.K ta) := by
  constructor
  intro pins s σ H R I h
  refine Call_ (ld_blt I glob none_ boot_enumerate ?_)
  refine PyProof.Rows.callWith_type1 (thn (args.run pos pins s σ H _ I h) fun us s1 got => ?_) star rfl
  obtain ⟨vs, H1, I1, r1, a, xs, ex, hq, q⟩ := got
  subst ex
  obtain ⟨u, eu, ru⟩ := vals1 r1
  subst eu
  have eu : u = Value.ref a := ru
  subst eu
  obtain ⟨its, rv, p', hz⟩ := I1.tuple hq
  refine call_enum (begins_tuple a its.toArray) p' fun h' he hit hk => wpAny_pyIter_enum he ?_
  have I2 : Inv X pins σ H1 { s1 with heap := h' } := I1.kept (t' := s1.toks) hk
  refine ⟨s1.heap.objs.size + 1, [s1.heap.objs.size + 1, s1.heap.objs.size], _, _, H1, rfl, I2, turn_pairs a (s1.heap.objs.size + 1) s1.heap.objs.size, ⟨⟨.none, he⟩, ⟨_, hit, rfl, rfl⟩, Nat.succ_ne_self _⟩, fun b hb => ?_, q⟩
  have above : s1.heap.objs.size ≤ b := by
    simp only [List.mem_cons, List.not_mem_nil, or_false] at hb
    rcases hb with rfl | rfl
    · exact Nat.le_add_right _ _
    · exact Nat.le_refl _
  exact I1.fpOk above (I1.hok.fresh above)
/-- the loop over the pairs -/
theorem for_pairs {K : PySem.W.Frag} {a : Addr} {xs : List V} {g : TG} {tb : TS} {D : Ends} {σ : L2.St} {H : Hp} (Pv : Nat → L2.St → Hp → Prop) (h0 : Pv 0 σ H) (hl : ∀ i σ H, i ≤ xs.length → Pv i σ H → SqT K H a xs)
    (turn : ∀ i x σ H T, xs[i]? = some x → Pv i σ H → H T = none → g (.ref T) σ (upd H T (.tup [.int (i : Nat), x])) fun σ2 H2 => tb { D with nx := Pv (i + 1), ct := Pv (i + 1), bk := D.nx } σ2 H2) (done : ∀ σ H, Pv xs.length σ H → D.nx σ H) :
    ∃ W : Nat → Nat → L2.St → Hp → Prop, (∃ m, W 0 m σ H) ∧ ∀ i m σ H, W i m σ H →
      ((Pairs K a).stop i H ∧ D.nx σ H) ∨ ((Pairs K a).go i H ∧ ∃ N : L2.St → Hp → Prop, (∀ σ' H', N σ' H' → ∃ m', m' < m ∧ W (i + 1) m' σ' H') ∧ ∀ x H', (Pairs K a).yld i H x H' → g x σ H' fun σ2 H2 => tb { D with nx := N, ct := N, bk := D.nx } σ2 H2) := by
  refine ⟨fun i m σ H => m = xs.length - i ∧ i ≤ xs.length ∧ Pv i σ H, ⟨xs.length, by simp, Nat.zero_le _, h0⟩, ?_⟩
  rintro i m σ H ⟨rfl, le, pv⟩
  have here := hl i σ H le pv
  rcases Nat.lt_or_ge i xs.length with lt | ge
  · refine .inr ⟨⟨xs, xs[i], here, List.getElem?_eq_getElem lt⟩, Pv (i + 1), fun σ' H' n => ⟨xs.length - (i + 1), by omega, rfl, lt, n⟩, ?_⟩
    rintro v H' ⟨T, x, rfl, nT, rfl, hx⟩
    exact turn i x σ H T (hx xs here) pv nT
  · have e : i = xs.length := by omega
    subst e
    exact .inl ⟨⟨xs, here, Nat.le_refl _⟩, done σ H pv⟩
end
end EN

set_option Elab.async false
set_option linter.all false
set_option maxRecDepth 100000
set_option maxHeartbeats 4000000
/-! enumerate(z), z a text -/
namespace EN
open PySem PySem.Spec PyProof.Rows L2
open Sem (wp)
def Signs (z : Str) : It where
  go := fun i _ => i < z.cps.size
  yld := fun i H v H' => ∃ T c, v = .ref T ∧ H T = none ∧ H' = upd H T (.tup [.int (i : Nat), .str ⟨#[c]⟩]) ∧ z.cps[i]? = some c
  stop := fun i _ => z.cps.size ≤ i
theorem turn_signs {P : Program} {w : World} {K : PySem.W.Frag} {elts : List Expr} {kk : Nat} {tpos : Pos} (z : Str) (t : Tok) (e it : Addr) :
    Turn P w K (.Tuple elts kk tpos) (Signs z) [e, it] e (fun i h => i ≤ z.cps.size ∧ (∃ old, IsEnum h e it ((i : Nat) : Int) old) ∧ h.IsStrIter it (strIterType z) z t i ∧ e ≠ it) where
  mem := List.mem_cons_self ..
  obj := by
    rintro i h ⟨_, ⟨old, he⟩, ⟨o, ho, hc, hd⟩, _⟩ b hb
    simp only [List.mem_cons, List.not_mem_nil, or_false] at hb
    rcases hb with rfl | rfl
    · exact ⟨_, he, fun v q => nomatch q⟩
    · exact ⟨o, ho, fun v q => by rw [hd] at q; cases q⟩
  keep := by
    rintro i h h' ⟨le, ⟨old, he⟩, hi, hne⟩ k
    obtain ⟨o, ho, r⟩ := hi
    exact ⟨le, ⟨old, k e (by simp) _ he⟩, ⟨o, k it (by simp) o ho, r⟩, hne⟩
  item := by
    intro X hP hw hK calm i pins s σ H E I hf st hg
    subst hP hw hK
    obtain ⟨_, ⟨old, he⟩, hit, hne⟩ := st
    have lt : i < z.cps.size := hg
    have le : e < s.heap.objs.size := Heap.lt_size he
    have li : it < s.heap.objs.size := by obtain ⟨_, q, _⟩ := hit; exact Heap.lt_size q
    refine wpAny_pyNext_enum_itemD (Draws.text (A := X.A.in1) (by exact I.ok.hd calm) it z t) he hit lt hne (by simp [hne]) fun y h' tk hy ho st' hT hsz hk => ?_
    obtain ⟨c, u, hc, rfl⟩ := hy
    refine ⟨_, rfl, wpAny_letOwnedTupleGo_enum (s := { s with heap := h', toks := tk + 1 }) ho fun h2 he2 sb => ?_⟩
    have sb' : Heap.SameBut e h' h2 := sb
    have hT2 : h2.get? s.heap.objs.size = some { cls := .type "tuple", data := .seq #[.int i tk, .str ⟨#[c]⟩ u] } := (sb'.2 _ (Nat.ne_of_gt le)).trans hT
    have new : ObjOk X.prog X.w (upd H s.heap.objs.size (.tup [.int (i : Nat), .str ⟨#[c]⟩])) h2 s.heap.objs.size (.tup [.int (i : Nat), .str ⟨#[c]⟩]) :=
      ⟨by show 2 ≤ sizeLine; decide, [.int i tk, .str ⟨#[c]⟩ u], .cons ⟨_, rfl⟩ (.cons ⟨_, rfl⟩ .nil), ⟨_, hT2, rfl, _, rfl⟩⟩
    have I2 : Inv X pins σ (upd H s.heap.objs.size (.tup [.int (i : Nat), .str ⟨#[c]⟩])) { s with heap := h2, toks := tk + 1 } := by
      refine I.turnedNew (ch := [e, it]) (fun b ob hb q => ?_) hf (Nat.le_refl _) new
      have ne : b ≠ e := fun z => hb (by simp [z])
      have ni : b ≠ it := fun z => hb (by simp [z])
      exact (sb'.2 b ne).trans (hk b ob ne ni q)
    refine ⟨.ref s.heap.objs.size, _, I2, rfl, ⟨_, c, rfl, I.hok.fresh (Nat.le_refl _), rfl, hc⟩, ⟨lt, ⟨.str ⟨#[c]⟩ u, ?_⟩, ?_, hne⟩, fun b hb => ?_⟩
    · have e1 : ((i + 1 : Nat) : Int) = (i : Int) + 1 := by omega
      rw [e1]
      exact he2
    · obtain ⟨o, q, r⟩ := st'
      exact ⟨o, (sb'.2 it (Ne.symm hne)).trans q, r⟩
    · have lb : b < s.heap.objs.size := by
        simp only [List.mem_cons, List.not_mem_nil, or_false] at hb
        rcases hb with rfl | rfl
        · exact le
        · exact li
      rw [upd_ne (Nat.ne_of_lt lb)]
      exact (hf b hb).1
  done := by
    intro X hP hw hK calm i pins s σ H E I hf st hg
    subst hP hw hK
    obtain ⟨le, ⟨old, he⟩, hit, hne⟩ := st
    have ge : z.cps.size ≤ i := hg
    obtain rfl : i = z.cps.size := by omega
    obtain ⟨f0, f1, f2, f3, f4, f5⟩ := hf it (by simp)
    have hT : s.TypeIs (.ref e) "enumerate" := ⟨_, he, rfl⟩
    unfold pyNext
    refine wpAny_bind (wpAny_attempt (wpAny_callSpecial?_slot (name := Str.ofString "__next__") hT F.slot_enumerate_next
      (wpAny_call_entry F.slot_enumerate_next hT F.entry_enumerate_next ?_ (F.args_enumerate_next_1 _))))
    show wpAny _ _ (field (.ref e) 2 >>= _) _ _ _
    refine wpAny_bind (wpAny_field he rfl (x := .ref it) rfl ?_)
    refine wpAny_bind ((Draws.text (prog := X.prog) (w := X.w) (A := X.A.in1) (by exact I.ok.hd calm) it z t).done s _ _ hit fun h' x he' hx' => ?_)
    obtain ⟨o, ho, hc⟩ := hx'
    refine wpAny_bind (wpAny_isInstance (T := "StopIteration") (b := true) ⟨o, ho, hc⟩ isSubtype_stop ?_)
    refine wpAny_pure ⟨rfl, ?_⟩
    exact I.turned (t' := s.toks) (fun b o hb q => he' b o hb q) f0 f1 f3 f4 f5
  self := by
    rintro A i s Q E ⟨_, ⟨old, he⟩, _⟩ h
    exact wpAny_pyIter_enum he h
section
variable {X : Cx}
def tSigns (ta : TA) : TI := fun σ H R => ta σ H fun vs H1 => ∃ z : Str, vs = [.str z] ∧ R (Signs z) H1
theorem pi_signs {e : Expr} {ta : TA} {p pos tpos : Pos} {elts : List Expr} {kk : Nat} (glob : Gl X "enumerate") (none_ : X.mg "enumerate" = none) (args : PA X [e] ta)
    (star : starEach [e] X.env = [(false, eval e X.env)] := by rfl) : PI X (.Tuple elts kk tpos) (.Call (.Name "enumerate" p) [e] [] pos) (tSigns ta) := by
  constructor
  intro pins s σ H R I h
  refine Call_ (ld_blt I glob none_ boot_enumerate ?_)
  refine PyProof.Rows.callWith_type1 (thn (args.run pos pins s σ H _ I h) fun us s1 got => ?_) star rfl
  obtain ⟨vs, H1, I1, r1, z, ex, q⟩ := got
  subst ex
  obtain ⟨u, eu, ru⟩ := vals1 r1
  subst eu
  obtain ⟨t, eu⟩ : ∃ t, u = Value.str z t := ru
  subst eu
  refine call_enum (begins_text z t) trivial fun h' he hit hk => wpAny_pyIter_enum he ?_
  have I2 : Inv X pins σ H1 { s1 with heap := h' } := I1.kept (t' := s1.toks) hk
  refine ⟨s1.heap.objs.size + 1, [s1.heap.objs.size + 1, s1.heap.objs.size], _, _, H1, rfl, I2, turn_signs z t (s1.heap.objs.size + 1) s1.heap.objs.size, ⟨Nat.zero_le _, ⟨.none, he⟩, ⟨_, hit, rfl, rfl⟩, Nat.succ_ne_self _⟩, fun b hb => ?_, q⟩
  have above : s1.heap.objs.size ≤ b := by
    simp only [List.mem_cons, List.not_mem_nil, or_false] at hb
    rcases hb with rfl | rfl
    · exact Nat.le_add_right _ _
    · exact Nat.le_refl _
  exact I1.fpOk above (I1.hok.fresh above)
/-- the loop over the signs -/
theorem for_signs {z : Str} {g : TG} {tb : TS} {D : Ends} {σ : L2.St} {H : Hp} (Pv : Nat → L2.St → Hp → Prop) (h0 : Pv 0 σ H)
    (turn : ∀ i c σ H T, z.cps[i]? = some c → Pv i σ H → H T = none → g (.ref T) σ (upd H T (.tup [.int (i : Nat), .str ⟨#[c]⟩])) fun σ2 H2 => tb { D with nx := Pv (i + 1), ct := Pv (i + 1), bk := D.nx } σ2 H2) (done : ∀ σ H, Pv z.cps.size σ H → D.nx σ H) :
    ∃ W : Nat → Nat → L2.St → Hp → Prop, (∃ m, W 0 m σ H) ∧ ∀ i m σ H, W i m σ H →
      ((Signs z).stop i H ∧ D.nx σ H) ∨ ((Signs z).go i H ∧ ∃ N : L2.St → Hp → Prop, (∀ σ' H', N σ' H' → ∃ m', m' < m ∧ W (i + 1) m' σ' H') ∧ ∀ x H', (Signs z).yld i H x H' → g x σ H' fun σ2 H2 => tb { D with nx := N, ct := N, bk := D.nx } σ2 H2) := by
  refine ⟨fun i m σ H => m = z.cps.size - i ∧ i ≤ z.cps.size ∧ Pv i σ H, ⟨z.cps.size, by simp, Nat.zero_le _, h0⟩, ?_⟩
  rintro i m σ H ⟨rfl, le, pv⟩
  rcases Nat.lt_or_ge i z.cps.size with lt | ge
  · refine .inr ⟨lt, Pv (i + 1), fun σ' H' n => ⟨z.cps.size - (i + 1), by omega, rfl, lt, n⟩, ?_⟩
    rintro v H' ⟨T, c, rfl, nT, rfl, hc⟩
    exact turn i c σ H T hc pv nT
  · have e : i = z.cps.size := by omega
    subst e
    exact .inl ⟨Nat.le_refl _, done σ H pv⟩
end
end EN

set_option Elab.async false
set_option linter.all false
set_option maxRecDepth 100000
set_option maxHeartbeats 4000000
/-! z.count(one sign); tapes as texts -/
namespace CO
open PySem PySem.StrLaws PySem.Builtin PySem.Builtin.Str
theorem walk (x : Str) (c : Nat) : ∀ (n a : Nat) (st : Array Nat × Nat), st.fst.size ≤ a → st.snd ≤ a → a + n ≤ x.length + 1 →
    ((forIn (List.range' a n) st (occBody x ⟨#[c]⟩ x.length (x.length + 1))).run.fst).size = st.fst.size + ((x.cps.toList.drop a).take n).count c
  | 0, a, st, _, _, _ => by simp
  | n + 1, a, st, h1, h2, h3 => by
    rw [List.range'_succ, List.forIn_cons]
    have one := subAt_one x c a
    have len : (⟨#[c]⟩ : Str).length = 1 := rfl
    have step : ((x.cps.toList.drop a).take (n + 1)).count c = (if x.cps.toList[a]? = some c then 1 else 0) + ((x.cps.toList.drop (a + 1)).take n).count c := by
      cases e : x.cps.toList[a]? with
      | none =>
        have ge : x.cps.toList.length ≤ a := by simpa using e
        rw [List.drop_eq_nil_of_le ge, List.drop_eq_nil_of_le (by omega)]
        simp
      | some d =>
        obtain ⟨lt, ed⟩ := List.getElem?_eq_some_iff.mp e
        rw [List.drop_eq_getElem_cons lt, List.take_succ_cons, List.count_cons, ed]
        by_cases hd : d = c
        · subst hd
          simp
          omega
        · simp [hd]
    rw [step]
    unfold occBody
    by_cases hc : x.cps.toList[a]? = some c
    · obtain ⟨q1, q2⟩ := one.mpr hc
      rw [if_pos ⟨⟨⟨by omega, h2⟩, q1⟩, q2⟩, if_pos hc]
      show ((forIn (List.range' (a + 1) n) (st.fst.push a, a + (⟨#[c]⟩ : Str).length) (occBody x ⟨#[c]⟩ x.length (x.length + 1))).run.fst).size = _
      rw [walk x c n (a + 1) _ (by show (st.fst.push a).size ≤ _; rw [Array.size_push]; omega) (by show a + 1 ≤ a + 1; exact Nat.le_refl _) (by omega)]
      show (st.fst.push a).size + _ = _
      rw [Array.size_push]
      omega
    · rw [if_neg (fun z => hc (one.mp ⟨z.1.2, z.2⟩)), if_neg hc]
      show ((forIn (List.range' (a + 1) n) (st.fst, st.snd) (occBody x ⟨#[c]⟩ x.length (x.length + 1))).run.fst).size = _
      rw [walk x c n (a + 1) _ (by show st.fst.size ≤ _; omega) (by show st.snd ≤ _; omega) (by omega)]
      show st.fst.size + _ = _
      simp only [if_neg hc, Nat.zero_add]
theorem count_one (x : Str) (c : Nat) : Txt.count x ⟨#[c]⟩ = (x.cps.toList.count c : Nat) := by
  unfold Txt.count
  rw [occ_eq]
  have h := walk x c (x.length + 1 - 0) 0 (#[], 0) (Nat.le_refl _) (Nat.le_refl _) (by omega)
  have e : (x.cps.toList.drop 0).take (x.length + 1 - 0) = x.cps.toList := by
    rw [List.drop_zero]
    exact List.take_of_length_le (by rw [Array.length_toList]; show x.length ≤ _; omega)
  rw [e] at h
  rw [Array.length_toList, h]
  simp
end CO

set_option Elab.async false
set_option linter.all false
set_option maxRecDepth 100000
set_option maxHeartbeats 4000000
/-! a comprehension over zip of two lists; binomials -/
namespace ZC
open PySem PySem.Spec PyProof.Rows L2 GG
theorem lc_zL {K : PySem.W.Frag} {a b : Addr} {xs ys : List V} {g : TG} {tt : TT} {te : TE} {vs : List Nat} {σ : L2.St} {H1 : Hp} {D : Addr} {Qd : Hp → Prop} (len : xs.length = ys.length) (Pv : Nat → Hp → Prop) (h0 : Pv 0 (upd H1 D (.lst []))) (hl : ∀ i H, Pv i H → SqL K H a xs ∧ SqL K H b ys)
    (turn : ∀ i x y H T, xs[i]? = some x → ys[i]? = some y → Pv i H → H T = none → g (.ref T) (wipe σ vs) (upd H T (.tup [x, y])) fun σ2 H2 => wipe σ2 vs = wipe σ vs ∧ tt σ2 H2 fun c H3 =>
      if c = true then te σ2 H3 fun y H4 => ∃ acc, H4 D = some (.lst acc) ∧ acc.length < sizeLine ∧ Pv (i + 1) (upd H4 D (.lst (acc ++ [y]))) else Pv (i + 1) H3) (done : ∀ H, Pv xs.length H → Qd H) :
    ∃ W : Nat → Nat → Hp → Prop, (∃ m, W 0 m (upd H1 D (.lst []))) ∧ ∀ i m H, W i m H →
      ((Itz K a b).stop i H ∧ Qd H) ∨ ((Itz K a b).go i H ∧ ∃ Nx : Hp → Prop, (∀ H', Nx H' → ∃ m', m' < m ∧ W (i + 1) m' H') ∧
        ∀ x H', (Itz K a b).yld i H x H' → g x (wipe σ vs) H' fun σ2 H2 => wipe σ2 vs = wipe σ vs ∧ tt σ2 H2 fun c H3 =>
          if c = true then te σ2 H3 fun y H4 => ∃ acc, H4 D = some (.lst acc) ∧ acc.length < sizeLine ∧ Nx (upd H4 D (.lst (acc ++ [y]))) else Nx H3) := by
  refine ⟨fun i m H => m = xs.length - i ∧ i ≤ xs.length ∧ Pv i H, ⟨_, rfl, Nat.zero_le _, h0⟩, ?_⟩
  rintro i m H ⟨rfl, le, pv⟩
  obtain ⟨qx, qy⟩ := hl i H pv
  rcases Nat.lt_or_ge i xs.length with lt | ge
  · have hx : xs[i]? = some xs[i] := List.getElem?_eq_getElem lt
    have lt2 : i < ys.length := by omega
    have hy : ys[i]? = some ys[i] := List.getElem?_eq_getElem lt2
    refine .inr ⟨⟨xs, ys, _, _, qx, qy, hx, hy⟩, Pv (i + 1), fun H' n => ⟨xs.length - (i + 1), by omega, rfl, lt, n⟩, ?_⟩
    rintro v H' ⟨T, x, y, rfl, nT, rfl, f1, f2⟩
    exact turn i x y H T (f1 xs qx) (f2 ys qy) pv nT
  · have e : i = xs.length := by omega
    subst e
    exact .inl ⟨⟨xs, ys, qx, qy, .inl (Nat.le_refl _)⟩, done H pv⟩

/-- the binomial number -/
def ch : Nat → Nat → Nat
  | _, 0 => 1
  | 0, _ + 1 => 0
  | n + 1, k + 1 => ch n k + ch n (k + 1)
theorem ch_over : ∀ (n k : Nat), n < k → ch n k = 0
  | 0, k + 1, _ => rfl
  | n + 1, k + 1, h => by
    show ch n k + ch n (k + 1) = 0
    rw [ch_over n k (by omega), ch_over n (k + 1) (by omega)]
theorem ch_zero (n : Nat) : ch n 0 = 1 := by cases n <;> rfl
theorem ch_le : ∀ (n k : Nat), ch n k ≤ 2 ^ n
  | n, 0 => by
    rw [ch_zero]
    exact Nat.one_le_two_pow
  | 0, k + 1 => Nat.zero_le _
  | n + 1, k + 1 => by
    show ch n k + ch n (k + 1) ≤ 2 ^ (n + 1)
    have := ch_le n k
    have := ch_le n (k + 1)
    rw [Nat.pow_succ]
    omega
def bin (n : Nat) : List Int := (List.range (n + 1)).map fun k => (ch n k : Int)
theorem bin_len (n : Nat) : (bin n).length = n + 1 := by simp [bin]
theorem bin_get {n k : Nat} (h : k ≤ n) : (bin n)[k]? = some (ch n k : Int) := by
  unfold bin
  rw [List.getElem?_map, List.getElem?_range (by omega)]
  rfl
/-- the two summands at a place -/
theorem bin_left {n k : Nat} (h : k ≤ n + 1) : (bin n ++ [0])[k]? = some (ch n k : Int) := by
  rcases Nat.lt_or_ge k (n + 1) with lt | ge
  · rw [List.getElem?_append_left (by rw [bin_len]; exact lt), bin_get (by omega)]
  · have e : k = n + 1 := by omega
    subst e
    rw [List.getElem?_append_right (by rw [bin_len]; exact Nat.le_refl _), bin_len, Nat.sub_self, ch_over n (n + 1) (by omega)]
    rfl
def low (n : Nat) : Nat → Int
  | 0 => 0
  | j + 1 => (ch n j : Int)
theorem bin_right {n k : Nat} (h : k ≤ n + 1) : ((0 : Int) :: bin n)[k]? = some (low n k) := by
  cases k with
  | zero => rfl
  | succ j =>
    rw [List.getElem?_cons_succ, bin_get (by omega)]
    rfl
theorem bin_step (n k : Nat) : (ch (n + 1) k : Int) = (ch n k : Int) + low n k := by
  cases k with
  | zero => simp [ch_zero, low]
  | succ j =>
    show ((ch n j + ch n (j + 1) : Nat) : Int) = _
    rw [Int.natCast_add]
    exact Int.add_comm _ _
end ZC

set_option Elab.async false
set_option linter.all false
set_option maxRecDepth 100000
set_option maxHeartbeats 4000000
/-! tapes as lists of tosses -/
namespace Z
open PySem PySem.Spec PyProof.Rows L2 ZC
def sg (b : Bool) : Str := if b then "H" else "T"
def word (t : List Bool) : Str := ⟨(t.map fun b => if b then 72 else 84).toArray⟩
theorem sg_len (b : Bool) : (sg b).length = 1 := by cases b <;> decide +kernel
theorem sg_cps (b : Bool) : (sg b).cps.toList = [if b then 72 else 84] := by cases b <;> decide +kernel
theorem sg_one (b : Bool) : sg b = ⟨#[if b then 72 else 84]⟩ := by cases b <;> decide +kernel
theorem sg_inj {b c : Bool} (h : sg b = sg c) : b = c := by
  cases b <;> cases c
  · rfl
  · exact absurd h (by decide +kernel)
  · exact absurd h (by decide +kernel)
  · rfl
theorem word_list (t : List Bool) : (word t).cps.toList = t.map fun b => if b then 72 else 84 := by
  unfold word
  rw [List.toList_toArray]
theorem word_len (t : List Bool) : (word t).length = t.length := by
  show (word t).cps.size = _
  rw [← Array.length_toList, word_list, List.length_map]
theorem word_at {t : List Bool} {i c : Nat} (h : (word t).cps[i]? = some c) : ∃ b, t[i]? = some b ∧ (⟨#[c]⟩ : Str) = sg b := by
  have h' : (word t).cps.toList[i]? = some c := by rw [Array.getElem?_toList]; exact h
  rw [word_list, List.getElem?_map] at h'
  cases e : t[i]? with
  | none => rw [e] at h'; cases h'
  | some b =>
    rw [e] at h'
    refine ⟨b, rfl, ?_⟩
    have ec : (if b then 72 else 84) = c := Option.some.inj h'
    rw [← ec, ← sg_one]
theorem str_ext {x y : Str} (e : x.cps.toList = y.cps.toList) : x = y := by
  obtain ⟨x⟩ := x
  obtain ⟨y⟩ := y
  exact congrArg Str.mk (Array.toList_inj.mp e)
theorem word_app (t u : List Bool) : word t ++ word u = word (t ++ u) := by
  refine str_ext ?_
  show ((word t).cps ++ (word u).cps).toList = _
  rw [Array.toList_append, word_list, word_list, word_list, List.map_append]
theorem word_one (b : Bool) : word [b] = sg b := str_ext (by rw [word_list, sg_cps]; rfl)
theorem word_snoc (t : List Bool) (b : Bool) : word t ++ sg b = word (t ++ [b]) := by rw [← word_one, word_app]
theorem word_cons (t : List Bool) (b : Bool) : sg b ++ word t = word (b :: t) := by rw [← word_one, word_app]; rfl
theorem cut_word {t : List Bool} {j k : Nat} (h : j ≤ k) (h' : k ≤ t.length) : cutS (word t) (some (j : Int)) (some (k : Int)) = word ((t.drop j).take (k - j)) := by
  have e1 : HT.sIx (word t).length 0 (some (j : Int)) = j := by
    rw [HT.sIx_nat, word_len]
    omega
  have e2 : HT.sIx (word t).length (word t).length (some (k : Int)) = k := by
    rw [HT.sIx_nat, word_len]
    omega
  refine str_ext ?_
  unfold cutS
  rw [e1, e2, List.toList_toArray, word_list, word_list, List.map_take, List.map_drop]
def hd (t : List Bool) : Nat := t.count true
theorem count_H (t : List Bool) : Txt.count (word t) "H" = (hd t : Int) := by
  have e : (("H" : String) : Str) = ⟨#[72]⟩ := by decide +kernel
  rw [e, CO.count_one, word_list]
  unfold hd
  congr 1
  induction t with
  | nil => rfl
  | cons b t ih =>
    rw [List.map_cons, List.count_cons, List.count_cons, ih]
    cases b <;> rfl
theorem hd_le (t : List Bool) : hd t ≤ t.length := List.count_le_length
/-- the rank of a tape among those with as many heads -/
def rk : List Bool → Nat
  | [] => 0
  | true :: t => rk t
  | false :: t => (if 0 < hd t then ch t.length (hd t - 1) else 0) + rk t
end Z

set_option Elab.async false
set_option linter.all false
set_option maxRecDepth 100000
set_option maxHeartbeats 4000000
namespace Z
open PySem PySem.Spec PyProof.Rows L2 GG
/-! ways through a machine -/
def place (ps : List Pl) (a : Int) : Pl := ps.getD a.toNat .never
theorem place_get {ps : List Pl} {a : Int} {p : Pl} (h : ps[a.toNat]? = some p) : place ps a = p := by
  unfold place
  rw [List.getD_eq_getElem?_getD, h]
  rfl
theorem Mach.at {H : Hp} {m : Addr} {ps : List Pl} (hm : Mach H m ps) (hw : WF ps) {a : Int} (h0 : 0 ≤ a) (h1 : a < ps.length) : ∃ (rs : List V) (t : Addr), H m = some (.tup rs) ∧ atI rs a = some (.ref t) ∧ H t = some (.tup (place ps a).row) := by
  obtain ⟨rs, em, pl⟩ := hm
  obtain ⟨p, hp, _⟩ := hw.get h0 h1
  obtain ⟨t, ht, et⟩ := pl.get hp
  rw [place_get hp]
  obtain ⟨j, rfl⟩ : ∃ j : Nat, a = (j : Int) := ⟨a.toNat, by omega⟩
  exact ⟨rs, t, em, atI_nat (by rw [Int.toNat_natCast] at ht; exact ht), et⟩
def In (ps : List Pl) (a : Int) : Prop := 0 ≤ a ∧ a < ps.length
theorem wf_succ {ps : List Pl} (hw : WF ps) {a x y : Int} (h : In ps a) (e : place ps a = .toss x y) : In ps x ∧ In ps y := by
  obtain ⟨p, hp, okp⟩ := hw.get h.1 h.2
  rw [place_get hp] at e
  subst e
  obtain ⟨a1, a2, a3, a4⟩ := okp
  exact ⟨⟨a1, a2⟩, a3, a4⟩
inductive Rch (ps : List Pl) (s : Int) : Int → Prop
  | here : Rch ps s s
  | heads {k x y : Int} : Rch ps s k → place ps k = .toss x y → Rch ps s x
  | tails {k x y : Int} : Rch ps s k → place ps k = .toss x y → Rch ps s y
theorem Rch.inn {ps : List Pl} (hw : WF ps) {s k : Int} (hs : In ps s) (h : Rch ps s k) : In ps k := by
  induction h with
  | here => exact hs
  | heads _ e ih => exact (wf_succ hw ih e).1
  | tails _ e ih => exact (wf_succ hw ih e).2
theorem Rch.trans {ps : List Pl} {a b c : Int} (h : Rch ps a b) (g : Rch ps b c) : Rch ps a c := by
  induction g with
  | here => exact h
  | heads _ e ih => exact ih.heads e
  | tails _ e ih => exact ih.tails e
/-- what holds at the start and is handed on holds at all that is reached -/
theorem Rch.all {ps : List Pl} {s : Int} {S : Int → Prop} (h0 : S s) (h : ∀ k x y, S k → place ps k = .toss x y → S x ∧ S y) {k : Int} (r : Rch ps s k) : S k := by
  induction r with
  | here => exact h0
  | heads _ e ih => exact (h _ _ _ ih e).1
  | tails _ e ih => exact (h _ _ _ ih e).2
/-! lists of places -/
theorem nodup_len : ∀ (n : Nat) (l : List Int), l.Nodup → (∀ x ∈ l, 0 ≤ x ∧ x < n) → l.length ≤ n
  | 0, l, _, h => by
    cases l with
    | nil => exact Nat.le_refl _
    | cons x r =>
      have := h x List.mem_cons_self
      omega
  | n + 1, l, nd, h => by
    have h2 := nodup_len n (l.filter (· ≠ (n : Int))) (nd.filter _) fun x hx => by
      rw [List.mem_filter] at hx
      have := h x hx.1
      have e : x ≠ n := by simpa using hx.2
      omega
    have h3 : ∀ l : List Int, l.Nodup → l.length ≤ (l.filter (· ≠ (n : Int))).length + 1 := fun l => by
      induction l with
      | nil => intro _; exact Nat.zero_le _
      | cons x r ih =>
        intro nd
        have nd' := List.nodup_cons.mp nd
        by_cases e : x = n
        · subst e
          rw [List.filter_cons_of_neg (by simp)]
          have : r.filter (· ≠ (n : Int)) = r := by
            rw [List.filter_eq_self]
            intro y hy
            have : y ≠ n := fun z => nd'.1 (z ▸ hy)
            simpa using this
          rw [this, List.length_cons]
          exact Nat.le_refl _
        · rw [List.filter_cons_of_pos (by simpa using e), List.length_cons, List.length_cons]
          have := ih nd'.2
          omega
    have := h3 l nd
    omega
theorem lt_unique : ∀ {xs ys : List Int}, xs.Pairwise (· < ·) → ys.Pairwise (· < ·) → (∀ k, k ∈ xs ↔ k ∈ ys) → xs = ys
  | [], [], _, _, _ => rfl
  | [], y :: ys, _, _, h => absurd ((h y).mpr List.mem_cons_self) List.not_mem_nil
  | x :: xs, [], _, _, h => absurd ((h x).mp List.mem_cons_self) List.not_mem_nil
  | x :: xs, y :: ys, hx, hy, h => by
    have hx' := List.pairwise_cons.mp hx
    have hy' := List.pairwise_cons.mp hy
    have e : x = y := by
      rcases List.mem_cons.mp ((h x).mp List.mem_cons_self) with e | m
      · exact e
      · rcases List.mem_cons.mp ((h y).mpr List.mem_cons_self) with e | m2
        · exact e.symm
        · have := hx'.1 y m2
          have := hy'.1 x m
          omega
    subst e
    congr 1
    refine lt_unique hx'.2 hy'.2 fun k => ⟨fun m => ?_, fun m => ?_⟩
    · rcases List.mem_cons.mp ((h k).mp (List.mem_cons_of_mem _ m)) with e | m2
      · have := hx'.1 k m
        omega
      · exact m2
    · rcases List.mem_cons.mp ((h k).mpr (List.mem_cons_of_mem _ m)) with e | m2
      · have := hy'.1 k m
        omega
      · exact m2
theorem le_lt : ∀ {xs : List Int}, xs.Pairwise (· ≤ ·) → xs.Nodup → xs.Pairwise (· < ·)
  | [], _, _ => .nil
  | x :: xs, h, nd => by
    have h' := List.pairwise_cons.mp h
    have nd' := List.nodup_cons.mp nd
    refine List.pairwise_cons.mpr ⟨fun y hy => ?_, le_lt h'.2 nd'.2⟩
    have := h'.1 y hy
    have : x ≠ y := fun e => nd'.1 (e ▸ hy)
    omega
/-- the places that are reached, in order -/
def Places (ps : List Pl) (s : Int) (ks : List Int) : Prop := ks.Pairwise (· < ·) ∧ ∀ k, k ∈ ks ↔ Rch ps s k
theorem Places.eq {ps : List Pl} {s : Int} {xs ys : List Int} (h : Places ps s xs) (g : Places ps s ys) : xs = ys := lt_unique h.1 g.1 fun k => (h.2 k).trans (g.2 k).symm
theorem lt_nodup : ∀ {xs : List Int}, xs.Pairwise (· < ·) → xs.Nodup
  | [], _ => .nil
  | x :: xs, h => by
    have h' := List.pairwise_cons.mp h
    refine List.nodup_cons.mpr ⟨fun m => ?_, lt_nodup h'.2⟩
    have := h'.1 x m
    omega
theorem Places.len {ps : List Pl} (hw : WF ps) {s : Int} (hs : In ps s) {ks : List Int} (h : Places ps s ks) : ks.length ≤ ps.length := nodup_len _ _ (lt_nodup h.1) fun k hk => ((h.2 k).mp hk).inn hw hs
theorem places_of {ps : List Pl} {s : Int} {ks ls : List Int} (nd : ks.Nodup) (hk : ∀ k, k ∈ ks ↔ Rch ps s k) (pm : ls.Perm ks) (pw : ls.Pairwise (· ≤ ·)) : Places ps s ls :=
  ⟨le_lt pw (pm.nodup_iff.mpr nd), fun k => (pm.mem_iff).trans (hk k)⟩
/-! ends within so many tosses -/
def eB (ps : List Pl) : Nat → Int → Bool
  | 0, k => match place ps k with
    | .fin _ => true
    | _ => false
  | j + 1, k => eB ps j k || match place ps k with
    | .toss x y => eB ps j x || eB ps j y
    | _ => false
def lvl (ps : List Pl) (d : Nat) (k : Int) : Option Nat := (List.range (d + 1)).find? fun j => eB ps j k
theorem eB_up {ps : List Pl} {j : Nat} {k : Int} (h : eB ps j k = true) : eB ps (j + 1) k = true := by
  show (eB ps j k || _) = true
  rw [h, Bool.true_or]
theorem eB_le {ps : List Pl} {i j : Nat} {k : Int} (l : i ≤ j) (h : eB ps i k = true) : eB ps j k = true := by
  induction l with
  | refl => exact h
  | step _ ih => exact eB_up ih
theorem lvl_none {ps : List Pl} {d : Nat} {k : Int} : lvl ps d k = none ↔ eB ps d k = false := by
  unfold lvl
  rw [List.find?_eq_none]
  constructor
  · intro h
    have := h d (List.mem_range.mpr (Nat.lt_succ_self d))
    simpa using this
  · intro h j hj e
    have := eB_le (Nat.le_of_lt_succ (List.mem_range.mp hj)) e
    rw [h] at this
    cases this
theorem lvl_succ (ps : List Pl) (d : Nat) (k : Int) : lvl ps (d + 1) k = (match lvl ps d k with | some j => some j | none => if eB ps (d + 1) k then some (d + 1) else none) := by
  unfold lvl
  rw [List.range_succ, List.find?_append]
  cases h : (List.range (d + 1)).find? fun j => eB ps j k with
  | some j => rfl
  | none =>
    rw [Option.none_or, List.find?_cons]
    cases eB ps (d + 1) k <;> rfl
theorem lvl_some {ps : List Pl} {d j : Nat} {k : Int} (h : lvl ps d k = some j) : j ≤ d ∧ eB ps j k = true ∧ ∀ i, i < j → eB ps i k = false := by
  unfold lvl at h
  obtain ⟨h1, i, h2, h3, h4⟩ := List.find?_eq_some_iff_getElem.mp h
  rw [List.getElem_range] at h3
  subst h3
  rw [List.length_range] at h2
  refine ⟨by omega, h1, fun m hm => ?_⟩
  have := h4 m hm
  rw [List.getElem_range] at this
  simpa using this
theorem lvl_at {ps : List Pl} {d j : Nat} {k : Int} (l : j ≤ d) (e : eB ps j k = true) (m : ∀ i, i < j → eB ps i k = false) : lvl ps d k = some j := by
  cases h : lvl ps d k with
  | none =>
    have := lvl_none.mp h
    rw [eB_le l e] at this
    cases this
  | some i =>
    obtain ⟨_, h2, h3⟩ := lvl_some h
    rcases Nat.lt_trichotomy i j with a | a | a
    · rw [m i a] at h2
      cases h2
    · rw [a]
    · rw [h3 j a] at e
      cases e
/-- no end within d tosses, one within d + 1: a side has it just at d -/
theorem lvl_turn {ps : List Pl} {d : Nat} {k x y : Int} (e : place ps k = .toss x y) (no : lvl ps d k = none) : eB ps (d + 1) k = (decide (lvl ps d x = some d) || decide (lvl ps d y = some d)) := by
  have nk := lvl_none.mp no
  have one : ∀ z, (z = x ∨ z = y) → eB ps d z = decide (lvl ps d z = some d) := fun z hz => by
    cases h : eB ps d z with
    | true =>
      refine (decide_eq_true (lvl_at (Nat.le_refl _) h fun i hi => ?_)).symm
      cases g : eB ps i z with
      | false => rfl
      | true =>
        have : eB ps (i + 1) k = true := by
          show (eB ps i k || _) = true
          rw [e]
          rcases hz with rfl | rfl <;> simp [g]
        have := eB_le (show i + 1 ≤ d by omega) this
        rw [nk] at this
        cases this
    | false =>
      refine (decide_eq_false fun z => ?_).symm
      have := (lvl_some z).2.1
      rw [h] at this
      cases this
  show (eB ps d k || _) = _
  rw [nk, e, Bool.false_or]
  show (eB ps d x || eB ps d y) = _
  rw [one x (.inl rfl), one y (.inr rfl)]
/-- a place from which an end is reached -/
def Op (ps : List Pl) (k : Int) : Prop := ∃ e n, Rch ps k e ∧ place ps e = .fin n
theorem op_of_eB {ps : List Pl} : ∀ {j : Nat} {k : Int}, eB ps j k = true → Op ps k
  | 0, k, h => by
    cases e : place ps k with
    | fin n => exact ⟨k, n, .here, e⟩
    | toss x y => rw [eB, e] at h; cases h
    | never => rw [eB, e] at h; cases h
  | j + 1, k, h => by
    have h : (eB ps j k || match place ps k with | .toss x y => eB ps j x || eB ps j y | _ => false) = true := h
    rw [Bool.or_eq_true] at h
    rcases h with h | h
    · exact op_of_eB h
    · cases e : place ps k with
      | fin n => exact ⟨k, n, .here, e⟩
      | toss x y =>
        rw [e] at h
        have h : (eB ps j x || eB ps j y) = true := h
        rw [Bool.or_eq_true] at h
        rcases h with h | h
        · obtain ⟨z, n, r, f⟩ := op_of_eB h
          exact ⟨z, n, (Rch.here.heads e).trans r, f⟩
        · obtain ⟨z, n, r, f⟩ := op_of_eB h
          exact ⟨z, n, (Rch.here.tails e).trans r, f⟩
      | never => rw [e] at h; cases h
theorem eB_of_op {ps : List Pl} {k : Int} (h : Op ps k) : ∃ j, eB ps j k = true := by
  obtain ⟨e, n, r, f⟩ := h
  have : ∀ {a : Int}, Rch ps k a → ∀ j, eB ps j a = true → ∃ i, eB ps i k = true := fun {a} r => by
    induction r with
    | here => exact fun j h => ⟨j, h⟩
    | @heads b x y _ eb ih =>
      intro j hj
      refine ih (j + 1) ?_
      show (eB ps j b || _) = true
      rw [eb]
      simp [hj]
    | @tails b x y _ eb ih =>
      intro j hj
      refine ih (j + 1) ?_
      show (eB ps j b || _) = true
      rw [eb]
      simp [hj]
  exact this r 0 (by rw [eB, f])
/-- as many levels as places -/
theorem levels {ps : List Pl} (hw : WF ps) : ∀ (j : Nat) {k : Int}, In ps k → eB ps j k = true → (∀ i, i < j → eB ps i k = false) → ∃ l : List Int, l.length = j + 1 ∧ l.Nodup ∧ (∀ x ∈ l, In ps x) ∧ ∀ x ∈ l, ∃ i, i ≤ j ∧ eB ps i x = true ∧ ∀ h, h < i → eB ps h x = false
  | 0, k, hk, h, m => ⟨[k], rfl, by simp, fun x hx => by rw [List.mem_singleton.mp hx]; exact hk, fun x hx => by rw [List.mem_singleton.mp hx]; exact ⟨0, Nat.le_refl _, h, m⟩⟩
  | j + 1, k, hk, h, m => by
    have nk := m j (Nat.lt_succ_self j)
    have h' : (eB ps j k || match place ps k with | .toss x y => eB ps j x || eB ps j y | _ => false) = true := h
    rw [nk, Bool.false_or] at h'
    cases e : place ps k with
    | fin n => rw [e] at h'; cases h'
    | never => rw [e] at h'; cases h'
    | toss x y =>
      rw [e] at h'
      have go : ∀ z, (z = x ∨ z = y) → eB ps j z = true → ∃ l : List Int, l.length = j + 1 + 1 ∧ l.Nodup ∧ (∀ x ∈ l, In ps x) ∧ ∀ x ∈ l, ∃ i, i ≤ j + 1 ∧ eB ps i x = true ∧ ∀ h, h < i → eB ps h x = false := fun z hz hj => by
        have inz : In ps z := by
          have := wf_succ hw hk e
          rcases hz with rfl | rfl
          · exact this.1
          · exact this.2
        have mz : ∀ i, i < j → eB ps i z = false := fun i hi => by
          cases g : eB ps i z with
          | false => rfl
          | true =>
            have : eB ps (i + 1) k = true := by
              show (eB ps i k || _) = true
              rw [e]
              rcases hz with rfl | rfl <;> simp [g]
            rw [m (i + 1) (by omega)] at this
            cases this
        obtain ⟨l, l1, l2, l3, l4⟩ := levels hw j inz hj mz
        refine ⟨k :: l, by simp [l1], List.nodup_cons.mpr ⟨fun hm => ?_, l2⟩, fun x hx => ?_, fun x hx => ?_⟩
        · obtain ⟨i, hi, h1, h2⟩ := l4 k hm
          rw [m i (by omega)] at h1
          cases h1
        · rcases List.mem_cons.mp hx with rfl | hx
          · exact hk
          · exact l3 x hx
        · rcases List.mem_cons.mp hx with rfl | hx
          · exact ⟨j + 1, Nat.le_refl _, h, m⟩
          · obtain ⟨i, hi, h1⟩ := l4 x hx
            exact ⟨i, by omega, h1⟩
      have h' : (eB ps j x || eB ps j y) = true := h'
      rw [Bool.or_eq_true] at h'
      rcases h' with h' | h'
      · exact go x (.inl rfl) h'
      · exact go y (.inr rfl) h'
theorem lvl_op {ps : List Pl} (hw : WF ps) {k : Int} (hk : In ps k) : lvl ps (ps.length - 1) k = none ↔ ¬ Op ps k := by
  rw [lvl_none]
  constructor
  · intro h o
    obtain ⟨j, hj⟩ := eB_of_op o
    obtain ⟨i, hi, mi⟩ : ∃ i, eB ps i k = true ∧ ∀ h, h < i → eB ps h k = false := by
      have : ∀ j, eB ps j k = true → ∃ i, eB ps i k = true ∧ ∀ h, h < i → eB ps h k = false := fun j => by
        induction j using Nat.strongRecOn with
        | _ j ih =>
          intro hj
          by_cases q : ∃ i, i < j ∧ eB ps i k = true
          · obtain ⟨i, l, hi⟩ := q
            exact ih i l hi
          · exact ⟨j, hj, fun i l => by
              cases g : eB ps i k with
              | false => rfl
              | true => exact absurd ⟨i, l, g⟩ q⟩
      exact this j hj
    obtain ⟨l, l1, l2, l3, _⟩ := levels hw i hk hi mi
    have := nodup_len _ _ l2 l3
    have := eB_le (show i ≤ ps.length - 1 by omega) hi
    rw [h] at this
    cases this
  · intro o
    cases g : eB ps (ps.length - 1) k with
    | false => rfl
    | true => exact absurd (op_of_eB g) o
end Z

set_option Elab.async false
set_option linter.all false
set_option maxRecDepth 100000
set_option maxHeartbeats 4000000
namespace Z
open PySem PySem.Spec PyProof.Rows L2 GG
/-! tapes, the last toss first, and how many lead where -/
def tps : Nat → List (List Bool)
  | 0 => [[]]
  | n + 1 => (tps n).map (true :: ·) ++ (tps n).map (false :: ·)
theorem tps_len : ∀ {n : Nat} {r : List Bool}, r ∈ tps n → r.length = n
  | 0, r, h => by
    rw [List.mem_singleton.mp h]
    rfl
  | n + 1, r, h => by
    rcases List.mem_append.mp h with h | h <;>
    · obtain ⟨q, hq, rfl⟩ := List.mem_map.mp h
      rw [List.length_cons, tps_len hq]
theorem tps_all : ∀ (r : List Bool), r ∈ tps r.length
  | [] => List.mem_singleton.mpr rfl
  | true :: r => List.mem_append_left _ (List.mem_map.mpr ⟨r, tps_all r, rfl⟩)
  | false :: r => List.mem_append_right _ (List.mem_map.mpr ⟨r, tps_all r, rfl⟩)
theorem tps_mem {n : Nat} {r : List Bool} : r ∈ tps n ↔ r.length = n := ⟨tps_len, fun h => h ▸ tps_all r⟩
theorem tps_count (n : Nat) (P : List Bool → Bool) : (tps (n + 1)).countP P = (tps n).countP (fun r => P (true :: r)) + (tps n).countP (fun r => P (false :: r)) := by
  show ((tps n).map (true :: ·) ++ (tps n).map (false :: ·)).countP P = _
  rw [List.countP_append, List.countP_map, List.countP_map]
  rfl
def hds (r : List Bool) : Nat := r.countP id
theorem hds_t (r : List Bool) : hds (true :: r) = hds r + 1 := by
  unfold hds
  rw [List.countP_cons_of_pos rfl]
theorem hds_f (r : List Bool) : hds (false :: r) = hds r := by
  unfold hds
  rw [List.countP_cons_of_neg (by decide)]
theorem hds_le (r : List Bool) : hds r ≤ r.length := List.countP_le_length
def side (ps : List Pl) (b : Bool) (q : Int) : Option Int := match place ps q with
  | .toss x y => some (if b then x else y)
  | _ => none
/-- where a tape leads, if it is not stopped ahead of its end -/
def ats (ps : List Pl) : List Bool → Option Int
  | [] => some 0
  | b :: r => (ats ps r).bind (side ps b)
theorem side_in {ps : List Pl} (hw : WF ps) {b : Bool} {q z : Int} (hq : In ps q) (h : side ps b q = some z) : In ps z := by
  unfold side at h
  cases e : place ps q with
  | toss x y =>
    rw [e] at h
    obtain ⟨h1, h2⟩ := wf_succ hw hq e
    cases b with
    | true => cases h; exact h1
    | false => cases h; exact h2
  | fin n => rw [e] at h; cases h
  | never => rw [e] at h; cases h
theorem ats_in {ps : List Pl} (hw : WF ps) : ∀ {r : List Bool} {z : Int}, ats ps r = some z → In ps z
  | [], z, h => by
    have e : (0 : Int) = z := Option.some.inj h
    subst e
    have := hw.ne
    exact ⟨by omega, by omega⟩
  | b :: r, z, h => by
    obtain ⟨q, h1, h2⟩ := Option.bind_eq_some_iff.mp h
    exact side_in hw (ats_in hw h1) h2
/-- the numbers of heads, of the tapes of n tosses for which P -/
def cnt (n : Nat) (P : List Bool → Bool) : List Int := (List.range (n + 1)).map fun h => (((tps n).countP fun r => decide (hds r = h) && P r : Nat) : Int)
theorem cnt_len (n : Nat) (P : List Bool → Bool) : (cnt n P).length = n + 1 := by simp [cnt]
theorem cnt_congr {n : Nat} {P P' : List Bool → Bool} (h : ∀ r, r.length = n → P r = P' r) : cnt n P = cnt n P' := by
  unfold cnt
  refine List.map_congr_left fun x _ => ?_
  congr 1
  refine List.countP_congr fun r hr => ?_
  rw [h r (tps_len hr)]
theorem cnt_zero {n : Nat} {P : List Bool → Bool} (h : ∀ r, r.length = n → P r = false) : cnt n P = List.replicate (n + 1) 0 := by
  unfold cnt
  refine List.ext_getElem (by simp) fun i h1 h2 => ?_
  rw [List.getElem_map, List.getElem_replicate]
  have : ((tps n).countP fun r => decide (hds r = (List.range (n + 1))[i]'(by simpa using h1)) && P r) = 0 := by
    rw [List.countP_eq_zero]
    intro r hr
    rw [h r (tps_len hr)]
    simp
  rw [this]
  rfl
/-- xs added from the place off on -/
def bump (off : Nat) (row xs : List Int) : List Int := (List.range row.length).map fun h => row.getD h 0 + if off ≤ h then xs.getD (h - off) 0 else 0
theorem bump_len (off : Nat) (row xs : List Int) : (bump off row xs).length = row.length := by simp [bump]
theorem bump_nil (off : Nat) (row : List Int) : bump off row [] = row := by
  unfold bump
  refine List.ext_getElem (by simp) fun i h1 h2 => ?_
  rw [List.getElem_map, List.getElem_range, List.getD_eq_getElem?_getD, List.getElem?_eq_getElem h2]
  simp
theorem bump_get {off : Nat} {row xs : List Int} {h : Nat} (hl : h < row.length) : (bump off row xs)[h]? = some (row.getD h 0 + if off ≤ h then xs.getD (h - off) 0 else 0) := by
  unfold bump
  rw [List.getElem?_map, List.getElem?_range hl]
  rfl
/-- one step of the loop that adds -/
theorem bump_step {off : Nat} {row xs : List Int} {i : Nat} {x : Int} (hx : xs[i]? = some x) (hl : i + off < row.length) {v : Int} (hv : (bump off row (xs.take i))[i + off]? = some v) : (bump off row (xs.take i)).set (i + off) (v + x) = bump off row (xs.take (i + 1)) := by
  have hi : i < xs.length := (List.getElem?_eq_some_iff.mp hx).1
  refine List.ext_getElem? fun h => ?_
  rw [List.getElem?_set, bump_len]
  by_cases e : i + off = h
  · subst e
    rw [if_pos rfl, if_pos hl, bump_get hl]
    rw [bump_get hl] at hv
    have hv := Option.some.inj hv
    rw [if_pos (by omega), Nat.add_sub_cancel] at hv ⊢
    rw [List.getD_eq_getElem?_getD (l := xs.take i), List.getElem?_take, if_neg (Nat.lt_irrefl i)] at hv
    rw [List.getD_eq_getElem?_getD (l := xs.take (i + 1)), List.getElem?_take, if_pos (by omega), hx]
    simp only [Option.getD_none, Option.getD_some] at hv ⊢
    rw [← hv]
    simp
  · rw [if_neg e]
    by_cases hh : h < row.length
    · rw [bump_get hh, bump_get hh]
      congr 2
      by_cases ho : off ≤ h
      · rw [if_pos ho, if_pos ho, List.getD_eq_getElem?_getD, List.getD_eq_getElem?_getD, List.getElem?_take, List.getElem?_take]
        by_cases hlt : h - off < i
        · rw [if_pos hlt, if_pos (by omega)]
        · rw [if_neg hlt, if_neg (by omega)]
      · rw [if_neg ho, if_neg ho]
    · rw [List.getElem?_eq_none (by rw [bump_len]; omega), List.getElem?_eq_none (by rw [bump_len]; omega)]
theorem cnt_get {n h : Nat} {P : List Bool → Bool} : (cnt n P).getD h 0 = (((tps n).countP fun r => decide (hds r = h) && P r : Nat) : Int) := by
  unfold cnt
  rw [List.getD_eq_getElem?_getD, List.getElem?_map]
  by_cases l : h < n + 1
  · rw [List.getElem?_range l]
    rfl
  · rw [List.getElem?_eq_none (by simpa using l)]
    show (0 : Int) = _
    have : ((tps n).countP fun r => decide (hds r = h) && P r) = 0 := by
      rw [List.countP_eq_zero]
      intro r hr
      have := hds_le r
      have e := tps_len hr
      have : hds r ≠ h := by omega
      simp [this]
    rw [this]
    rfl
theorem countP_or {α : Type} (P Q R : α → Bool) (l : List α) (h : ∀ x ∈ l, P x = (Q x || R x) ∧ (Q x && R x) = false) : l.countP P = l.countP Q + l.countP R := by
  induction l with
  | nil => rfl
  | cons x r ih =>
    obtain ⟨h1, h2⟩ := h x List.mem_cons_self
    have ih := ih fun y hy => h y (List.mem_cons_of_mem _ hy)
    rw [List.countP_cons, List.countP_cons, List.countP_cons, ih, h1]
    cases eq : Q x <;> cases er : R x <;> rw [eq, er] at h2 <;> simp at h2 ⊢ <;> omega
/-- the tapes of one more toss, of which the last toss is b and P holds of what goes ahead: Q = Q0 or that -/
theorem bump_cnt {n : Nat} {b : Bool} {P Q0 Q : List Bool → Bool} (h : ∀ c r, r.length = n → Q (c :: r) = (Q0 (c :: r) || (c == b && P r)) ∧ (Q0 (c :: r) && (c == b && P r)) = false) :
    bump (if b then 1 else 0) (cnt (n + 1) Q0) (cnt n P) = cnt (n + 1) Q := by
  refine List.ext_getElem? fun j => ?_
  by_cases hj : j < (cnt (n + 1) Q0).length
  · rw [bump_get hj]
    have hj' : j < n + 2 := by rw [cnt_len] at hj; omega
    have e : (cnt (n + 1) Q)[j]? = some ((cnt (n + 1) Q).getD j 0) := by
      rw [List.getD_eq_getElem?_getD, List.getElem?_eq_getElem (by rw [cnt_len]; omega)]
      rfl
    rw [e, cnt_get, cnt_get, cnt_get]
    have key : ((tps (n + 1)).countP fun r => decide (hds r = j) && Q r) = ((tps (n + 1)).countP fun r => decide (hds r = j) && Q0 r) + if (if b then 1 else 0) ≤ j then ((tps n).countP fun r => decide (hds r = j - if b then 1 else 0) && P r) else 0 := by
      rw [tps_count, tps_count]
      cases b with
      | true =>
        have ef : ((tps n).countP fun r => decide (hds (false :: r) = j) && Q (false :: r)) = ((tps n).countP fun r => decide (hds (false :: r) = j) && Q0 (false :: r)) := List.countP_congr fun r hr => by
          have := (h false r (tps_len hr)).1
          simp only [show (false == true) = false from rfl, Bool.false_and, Bool.or_false] at this
          rw [this]
        have et : ((tps n).countP fun r => decide (hds (true :: r) = j) && Q (true :: r)) = ((tps n).countP fun r => decide (hds (true :: r) = j) && Q0 (true :: r)) + ((tps n).countP fun r => decide (hds (true :: r) = j) && P r) := countP_or _ _ _ _ fun r hr => by
          obtain ⟨h1, h2⟩ := h true r (tps_len hr)
          rw [h1]
          simp only [show (true == true) = true from rfl, Bool.true_and] at h2 ⊢
          cases decide (hds (true :: r) = j)
          · exact ⟨rfl, rfl⟩
          · exact ⟨rfl, h2⟩
        rw [ef, et]
        by_cases j1 : 1 ≤ j
        · rw [if_pos rfl, if_pos j1]
          have : ((tps n).countP fun r => decide (hds (true :: r) = j) && P r) = ((tps n).countP fun r => decide (hds r = j - 1) && P r) := List.countP_congr fun r hr => by
            rw [hds_t]
            have : (hds r + 1 = j) ↔ hds r = j - 1 := by omega
            rw [decide_eq_decide.mpr this]
          rw [this]
          omega
        · rw [if_pos rfl, if_neg j1]
          have : ((tps n).countP fun r => decide (hds (true :: r) = j) && P r) = 0 := by
            rw [List.countP_eq_zero]
            intro r hr
            rw [hds_t]
            have : ¬ hds r + 1 = j := by omega
            simp [this]
          rw [this]
          omega
      | false =>
        have et : ((tps n).countP fun r => decide (hds (true :: r) = j) && Q (true :: r)) = ((tps n).countP fun r => decide (hds (true :: r) = j) && Q0 (true :: r)) := List.countP_congr fun r hr => by
          have := (h true r (tps_len hr)).1
          simp only [show (true == false) = false from rfl, Bool.false_and, Bool.or_false] at this
          rw [this]
        have ef : ((tps n).countP fun r => decide (hds (false :: r) = j) && Q (false :: r)) = ((tps n).countP fun r => decide (hds (false :: r) = j) && Q0 (false :: r)) + ((tps n).countP fun r => decide (hds (false :: r) = j) && P r) := countP_or _ _ _ _ fun r hr => by
          obtain ⟨h1, h2⟩ := h false r (tps_len hr)
          rw [h1]
          simp only [show (false == false) = true from rfl, Bool.true_and] at h2 ⊢
          cases decide (hds (false :: r) = j)
          · exact ⟨rfl, rfl⟩
          · exact ⟨rfl, h2⟩
        rw [ef, et]
        have : ((tps n).countP fun r => decide (hds (false :: r) = j) && P r) = ((tps n).countP fun r => decide (hds r = j) && P r) := List.countP_congr fun r hr => by
          rw [hds_f]
        rw [this]
        simp
        omega
    rw [key, Int.natCast_add]
    congr 2
    cases b <;> simp <;> split <;> rfl
  · rw [List.getElem?_eq_none (by rw [bump_len]; omega), List.getElem?_eq_none (by rw [cnt_len] at hj ⊢; omega)]
/-- of one length -/
theorem bump_cnt0 {n : Nat} {P Q0 Q : List Bool → Bool} (h : ∀ r, r.length = n → Q r = (Q0 r || P r) ∧ (Q0 r && P r) = false) : bump 0 (cnt n Q0) (cnt n P) = cnt n Q := by
  refine List.ext_getElem? fun j => ?_
  by_cases hj : j < (cnt n Q0).length
  · rw [bump_get hj]
    have hj' : j < n + 1 := by rw [cnt_len] at hj; omega
    have e : (cnt n Q)[j]? = some ((cnt n Q).getD j 0) := by
      rw [List.getD_eq_getElem?_getD, List.getElem?_eq_getElem (by rw [cnt_len]; omega)]
      rfl
    rw [e, cnt_get, cnt_get, if_pos (Nat.zero_le _), Nat.sub_zero, cnt_get]
    have key : ((tps n).countP fun r => decide (hds r = j) && Q r) = ((tps n).countP fun r => decide (hds r = j) && Q0 r) + ((tps n).countP fun r => decide (hds r = j) && P r) := countP_or _ _ _ _ fun r hr => by
      obtain ⟨h1, h2⟩ := h r (tps_len hr)
      rw [h1]
      cases decide (hds r = j) <;> simp at h2 ⊢
      exact h2
    rw [key, Int.natCast_add]
  · rw [List.getElem?_eq_none (by rw [bump_len]; omega), List.getElem?_eq_none (by rw [cnt_len] at hj ⊢; omega)]
end Z

set_option Elab.async false
set_option linter.all false
set_option maxRecDepth 100000
set_option maxHeartbeats 4000000
/-! dict comprehensions: as a statement of their own, over any walk; dicts of int keys by a function -/
namespace DCX
open PySem PySem.Spec PyProof.Rows L2 GG
section
variable {X : Cx}
theorem ps_setDc {i : Nat} {y : Str} {py : Pos} {kx vx tg iter : Expr} {ifs : List Expr} {scope : Scope} {own : List (Str × Nat)} {pos spos : Pos} {wi : TI} {g : TG} {tt : TT} {tk tv : TE} (hc : X.calm = true) (hN : X.N.Nodup) (hy : X.N[i]? = some y) (hyl : X.env.scope.names.lookup y = some .local)
    (hsw : swapsWith (.DictComp kx vx [⟨tg, iter, ifs, 0⟩] scope pos) (some (.Name y py)) spos.line X.env = pure true) (hi : PI X tg iter wi) (ok : BlkOk X.N X.env.scope scope own)
    (hg : ∀ (s : Shared) (H : Hp) (C : Addr) (cl : List (Str × Addr)) (fp : List Addr), PG (X.blk s H scope (compEnvC scope cl C X.env) fp) tg g) (ht : ∀ (s : Shared) (H : Hp) (C : Addr) (cl : List (Str × Addr)) (fp : List Addr), PTs (X.blk s H scope (compEnvC scope cl C X.env) fp) ifs tt)
    (hk : ∀ (s : Shared) (H : Hp) (C : Addr) (cl : List (Str × Addr)) (fp : List Addr), PE (X.blk s H scope (compEnvC scope cl C X.env) fp) kx tk)
    (he : ∀ (s : Shared) (H : Hp) (C : Addr) (cl : List (Str × Addr)) (fp : List Addr), PE (X.blk s H scope (compEnvC scope cl C X.env) fp) vx tv) (hs : ∀ x, foldedSetIterable iter X.env x = pure x := by intro _; rfl) :
    PS X (.Assign [.Name y py] (.DictComp kx vx [⟨tg, iter, ifs, 0⟩] scope pos) spos) (tAsg (tDc wi g tt tk tv (own.map (·.2))) (gName i)) := by
  refine ⟨fun pins s σ H D I h => ?_⟩
  rw [exec_Assign_Name_used _ _ _ _ hsw]
  refine wpAny_bind (wpAny_standAt (wpAny_bind ?_))
  show wpAny _ X.A (do let _ ← comprehension (.DictComp kx vx [⟨tg, iter, ifs, 0⟩] scope pos) scope X.env (firstIterPos [⟨tg, iter, ifs, 0⟩] pos) newDict false (eval iter X.env) (some (assign (.Name y py) X.env))) _ _ s
  have h : tDc wi g tt tk tv (own.map (·.2)) σ H (fun x H1 => gName i x σ H1 D.nx) := h
  refine wpAny_bind (thn (dc_core (Qf := fun _ s' => SP X pins D .next s') hc hN I hi ok hg ht hk he hs h fun L C s' m H' I' q hn f => ?_) fun _ s' hq => wpAny_pure (wpAny_pure hq))
  show wpAny _ _ (assign (.Name y py) X.env (.ref L)) _ _ _
  refine wpAny_assign_Name (store_ok2 (v := V.ref L) I' hN hy (.inl hyl) rfl (fun s2 I2 ⟨a, sb, ha⟩ => ?_) (.inr hyl))
  obtain ⟨f0, f1, f2, f3, f4, f5⟩ := f
  have haC : C ≠ a := by
    rcases ha with z | z
    · rw [z]; exact f1
    · exact fun e => f4 y a z e.symm
  refine ⟨m, hn.sameBut sb haC, fun h3 sb3 => ?_⟩
  exact ⟨_, H', I2.turned (t' := s2.toks) (fun b o hb e => (sb3.2 b hb).trans e) f0 f1 f3 f4 f5, q⟩
theorem sw_trueD {kx vx : Expr} {gs : List Comprehension} {scope : Scope} {pos py : Pos} {y : Str} {l : Nat} {env : Env} (hk : env.scope.kind = .function) (hy : env.scope.names.lookup y = some .local) (hl : (py.line == pos.line) = true)
    (ha : (scope.names.any fun (n, k) => n == y && (k == .local || k == .cell)) = false) : swapsWith (.DictComp kx vx gs scope pos) (some (.Name y py)) l env = pure true := by
  have ky : env.kindOf y = some .local := hy
  have hb : env.blockKind = .function := by unfold Env.blockKind; rw [hk]; rfl
  unfold swapsWith
  simp only [hb, ky, ha, Expr.pos, hl]
  rfl
end
section
variable {J : It} {n : Nat} {G : Hp → Prop} {Y : Nat → Hp → V → Hp → Prop}
theorem dc_it (w : Walk J n G Y) {g : TG} {tt : TT} {tk tv : TE} {vs : List Nat} {σ : L2.St} {H1 : Hp} {D : Addr} {Qd : Hp → Prop} (Pv : Nat → Hp → Prop) (h0 : Pv 0 (upd H1 D (.dK []))) (hG : ∀ i H, i ≤ n → Pv i H → G H)
    (hs : ∀ i x H H', i < n → Pv i H → Y i H x H' → g x (wipe σ vs) H' fun σ2 H2 => wipe σ2 vs = wipe σ vs ∧ tt σ2 H2 fun b H3 =>
      if b = true then tk σ2 H3 fun y H4 => tv σ2 H4 fun z H5 => ∃ kvs k, y = kV k ∧ H5 D = some (.dK kvs) ∧ kvs.length < sizeLine ∧ Pv (i + 1) (upd H5 D (.dK (putK kvs k z))) else Pv (i + 1) H3) (hd : ∀ H, Pv n H → Qd H) :
    ∃ W : Nat → Nat → Hp → Prop, (∃ m, W 0 m (upd H1 D (.dK []))) ∧ ∀ i m H, W i m H →
      (J.stop i H ∧ Qd H) ∨ (J.go i H ∧ ∃ Nx : Hp → Prop, (∀ H', Nx H' → ∃ m', m' < m ∧ W (i + 1) m' H') ∧ ∀ x H', J.yld i H x H' → g x (wipe σ vs) H' fun σ2 H2 => wipe σ2 vs = wipe σ vs ∧ tt σ2 H2 fun b H3 =>
        if b = true then tk σ2 H3 fun y H4 => tv σ2 H4 fun z H5 => ∃ kvs k, y = kV k ∧ H5 D = some (.dK kvs) ∧ kvs.length < sizeLine ∧ Nx (upd H5 D (.dK (putK kvs k z))) else Nx H3) := by
  refine ⟨fun i m H => m = n - i ∧ i ≤ n ∧ Pv i H, ⟨n, by simp, Nat.zero_le _, h0⟩, ?_⟩
  rintro i m H ⟨rfl, hi, p⟩
  have q := hG i H hi p
  by_cases hlt : i < n
  · refine .inr ⟨w.goes i H hlt q, Pv (i + 1), fun H' p' => ⟨n - (i + 1), by omega, rfl, hlt, p'⟩, fun x H' y => hs i x H H' hlt p (w.yields i H x H' hlt q y)⟩
  · have e : i = n := by omega
    subst e
    exact .inl ⟨w.stops H q, hd H p⟩
end
/-! dicts of int keys -/
def kd (ks : List Int) (f : Int → V) : List (Key × V) := ks.map fun k => ((.inl k : Key), f k)
theorem kd_len (ks : List Int) (f : Int → V) : (kd ks f).length = ks.length := by simp [kd]
theorem kd_congr {ks : List Int} {f g : Int → V} (h : ∀ k ∈ ks, f k = g k) : kd ks f = kd ks g := List.map_congr_left fun k hk => by rw [h k hk]
theorem kd_get {ks : List Int} {f : Int → V} {i : Nat} {k : Key} {v : V} (h : (kd ks f)[i]? = some (k, v)) : ∃ z, ks[i]? = some z ∧ k = .inl z ∧ v = f z := by
  unfold kd at h
  rw [List.getElem?_map] at h
  obtain ⟨z, hz, e⟩ := Option.map_eq_some_iff.mp h
  cases e
  exact ⟨z, hz, rfl, rfl⟩
theorem kd_val (z : Int) (f : Int → V) : ∀ ks : List Int, valV (kd ks f) (.inl z) = if z ∈ ks then some (f z) else none
  | [] => rfl
  | k :: r => by
    by_cases e : k = z
    · subst e
      rw [if_pos List.mem_cons_self]
      exact valV_pos (p := ((.inl k : Key), f k)) rfl
    · show valV (((.inl k : Key), f k) :: kd r f) _ = _
      rw [valV_neg (p := ((.inl k : Key), f k)) (fun h => e (Sum.inl.inj h)), kd_val z f r]
      by_cases m : z ∈ r
      · rw [if_pos m, if_pos (List.mem_cons_of_mem _ m)]
      · rw [if_neg m, if_neg (fun h => by rcases List.mem_cons.mp h with h | h; exact e h.symm; exact m h)]
def ov (z : Int) (v : V) (f : Int → V) : Int → V := fun k => if k = z then v else f k
theorem kd_new {ks : List Int} {f : Int → V} {z : Int} {v : V} (h : z ∉ ks) : putK (kd ks f) (.inl z) v = kd (ks ++ [z]) (ov z v f) := by
  rw [putK_new v (by rw [kd_val, if_neg h])]
  unfold kd
  rw [List.map_append]
  congr 1
  · refine List.map_congr_left fun k hk => ?_
    unfold ov
    rw [if_neg (fun e => h (by rw [← e]; exact hk))]
  · show [((.inl z : Key), v)] = [((.inl z : Key), ov z v f z)]
    unfold ov
    rw [if_pos rfl]
theorem kd_old {ks : List Int} {f : Int → V} {z : Int} {v : V} (h : z ∈ ks) : putK (kd ks f) (.inl z) v = kd ks (ov z v f) := by
  unfold putK
  rw [valV_any, kd_val, if_pos h, if_pos (show (some (f z)).isSome = true from rfl)]
  unfold kd
  rw [List.map_map]
  refine List.map_congr_left fun k _ => ?_
  unfold ov
  by_cases e : k = z
  · subst e
    simp
  · show (if (Sum.inl k : Key) = Sum.inl z then _ else _) = _
    rw [if_neg (fun q => e (Sum.inl.inj q)), if_neg e]
theorem kd_put (ks : List Int) (f : Int → V) (z : Int) (v : V) : putK (kd ks f) (.inl z) v = kd (if z ∈ ks then ks else ks ++ [z]) (ov z v f) := by
  by_cases h : z ∈ ks
  · rw [if_pos h, kd_old h]
  · rw [if_neg h, kd_new h]
end DCX

set_option Elab.async false
set_option linter.all false
set_option maxRecDepth 100000
set_option maxHeartbeats 4000000
/-! operators and calls that the layer has for fewer numbers -/
namespace OPS
open PySem PySem.Spec PyProof.Rows L2
section
variable {X : Cx}
/-- a divisor of either sign -/
def CDivZ (_ j : Int) : Prop := j ≠ 0 ∧ j.natAbs.log2 < 9000
theorem op_fdivZ : OpR X (binaryOp .FloorDiv) (rI CDivZ fun i j => .int (i.fdiv j)) := opI fun _ _ _ _ _ _ _ c q => floordiv_int c.1 q (.inl (PyProof.noPylong_of_log2 c.2))
theorem call_divmodZ : CallR X (.builtin "divmod") (fun vs H Q => ∃ i j : Int, vs = [.int i, .int j] ∧ CDivZ i j ∧ ∀ p, H p = none → Q (.ref p) (upd H p (.tup [.int (i.fdiv j), .int (i.fmod j)]))) := by
  intro pins s σ H vs us Q I r h
  obtain ⟨i, j, ev, c, q⟩ := h
  subst ev
  obtain ⟨u, v, eu, ⟨t, et⟩, ⟨t', et'⟩⟩ := vals2 r
  subst eu et et'
  apply divmod_int c.1 _ (.inl (PyProof.noPylong_of_log2 c.2))
  have free : H s.heap.objs.size = none := I.hok.fresh (Nat.le_refl _)
  refine ⟨.ref s.heap.objs.size, _, I.laid (fun b o e => Heap.get?_push_of_some _ e) (Nat.le_refl _) ?_, rfl, q _ free⟩
  exact ⟨by show 2 ≤ sizeLine; decide, [.int (i.fdiv j) s.toks, .int (i.fmod j) (s.toks + 1)], .cons ⟨_, rfl⟩ (.cons ⟨_, rfl⟩ .nil), ⟨_, Heap.get?_push_size s.heap rfl, rfl, 0, rfl⟩⟩
/-- xs[i] as read ahead of xs[i] op= .. -/
theorem get_list : PGet X (fun o i H Q => ∃ (p : Addr) (xs : List V) (k : Nat) (v : V), o = .ref p ∧ i = .int (k : Int) ∧ SqL X.K H p xs ∧ xs[k]? = some v ∧ Q v H) := by
  intro pins s σ H o i ov iv Q I ro ri h
  obtain ⟨p, xs, k, v, eo, ei, hq, hv, q⟩ := h
  subst eo ei
  have eov : ov = Value.ref p := ro
  subst eov
  obtain ⟨t, et⟩ := ri
  subst et
  obtain ⟨its, r, pl, hz⟩ := I.list hq
  obtain ⟨u, hu, ru⟩ := r.get hv
  have lt : k < its.length := (List.getElem?_eq_some_iff.mp hu).1
  have hl := r.length
  have hn := line63
  refine wpAny_getItem_list pl.isList (by omega) (by omega) (x := u) (by simpa using hu) ⟨v, H, I, ru, q⟩
/-- any(xs), xs a list of ints -/
def rAnyI (K : PySem.W.Frag) : List V → Hp → VK → Prop := fun vs H Q => ∃ (a : Addr) (ns : List Int), vs = [.ref a] ∧ SqL K H a (ns.map V.int) ∧ Q (.bl (ns.any fun n => n != 0)) H
theorem dpI {K : PySem.W.Frag} {H : Hp} : ∀ ns : List Int, DpAll K H (ns.map V.int) (ns.map PyData.int)
  | [] => .nil
  | n :: r => .cons (.int n) (dpI r)
theorem plain_ints : ∀ ns : List Int, PyData.plainAll (ns.map PyData.int) = true
  | [] => rfl
  | _ :: r => by simp [PyData.plainAll, PyData.plain, plain_ints r]
theorem any_truthy : ∀ ns : List Int, (ns.map PyData.int).any PyData.truthy = ns.any fun n => n != 0
  | [] => rfl
  | n :: r => by simp [PyData.truthy, List.any_map]; rfl
theorem call_anyI (calm : X.calm = true) : CallR X (.builtin "any") (rAnyI X.K) := by
  intro pins s σ H vs us Q I r h
  obtain ⟨a, ns, ev, hs, q⟩ := h
  subst ev
  rw [Vals.ref1 r]
  obtain ⟨as, reads⟩ := Dp.reads I (.list (ns.map PyData.int)) (.ref a) (.ref a) (.lst hs (dpI ns)) rfl
  obtain ⟨its, rv, hl, _⟩ := I.list hs
  cases reads with
  | list hg hc hd hr =>
    rename_i o vs n bs
    refine PySem.W.any_list_data (vs := vs) (I.ok.hd calm) ⟨_, hg, hc, _, hd⟩ hr (plain_ints ns) (fun x hx => ?_) fun h' tk hk => ?_
    · obtain ⟨n, _, rfl⟩ := List.mem_map.mp hx
      trivial
    · exact ⟨.bl _, H, I.kept hk, by rw [any_truthy]; rfl, q⟩
end
end OPS

set_option Elab.async false
set_option linter.all false
set_option maxRecDepth 100000
set_option maxHeartbeats 4000000
/-! rules with the written part named, for use within comprehensions -/
namespace KX
open PySem PySem.Spec PyProof.Rows L2 GG
theorem ix_tupK {X : Cx} {K : PySem.W.Frag} (hK : X.K = K) : IxR X (rIxT K) := by
  subst hK
  exact ix_tup
theorem ix_listK {X : Cx} {K : PySem.W.Frag} (hK : X.K = K) : IxR X (rIxL K) := by
  subst hK
  exact ix_list
theorem call_tupK {X : Cx} {K : PySem.W.Frag} (hK : X.K = K) : CallR X (.type "tuple") (fun vs H Q => ∃ p ys, vs = [.ref p] ∧ ((SqL K H p ys ∧ ∀ l, H l = none → Q (.ref l) (upd H l (.tup ys))) ∨ (SqT K H p ys ∧ Q (.ref p) H))) := by
  subst hK
  exact call_tuple_of
theorem call_listK {X : Cx} {K : PySem.W.Frag} (hK : X.K = K) : CallR X (.type "list") (fun xs H Q => ∃ p ys, xs = [.ref p] ∧ (SqL K H p ys ∨ SqT K H p ys) ∧ ∀ l, H l = none → Q (.ref l) (upd H l (.lst ys))) := by
  subst hK
  exact call_list_of
theorem op_inK {X : Cx} {K : PySem.W.Frag} (hK : X.K = K) : OpR X (compareOp .In) (rIn K false) := by
  subst hK
  exact op_in_seq
theorem op_notInK {X : Cx} {K : PySem.W.Frag} (hK : X.K = K) : OpR X (compareOp .NotIn) (rIn K true) := by
  subst hK
  exact op_notIn_seq
end KX

set_option Elab.async false
set_option linter.all false
set_option maxRecDepth 100000
set_option maxHeartbeats 4000000
namespace KX
open PySem PySem.Spec PyProof.Rows L2 GG
theorem pi_listK {X : Cx} {K : PySem.W.Frag} {tg e : Expr} {te : TE} (hK : X.K = K) (he : PE X e te) : PI X tg e (iList K te) := by
  subst hK
  exact pi_list he
theorem pi_tupK {X : Cx} {K : PySem.W.Frag} {tg e : Expr} {te : TE} (hK : X.K = K) (he : PE X e te) : PI X tg e (iTup K te) := by
  subst hK
  exact pi_tup he
/-- over a list or a tuple -/
def SeqIt (K : PySem.W.Frag) (H : Hp) (a : Addr) (J : It) : Prop := ((∃ xs, SqL K H a xs) ∧ J = Itl K a) ∨ ((∃ xs, SqT K H a xs) ∧ J = Itt K a)
def iSeq (K : PySem.W.Frag) (tl : TE) : TI := fun σ H R => tl σ H fun x H1 => ∃ a J, x = .ref a ∧ SeqIt K H1 a J ∧ R J H1
theorem pi_seqK {X : Cx} {K : PySem.W.Frag} {tg l : Expr} {tl : TE} (hK : X.K = K) (hl : PE X l tl) : PI X tg l (iSeq K tl) := by
  subst hK
  refine ⟨fun pins s σ H R I h => ?_⟩
  refine thn (hl.run pins s σ H _ I h) fun v s1 ⟨x, H1, I1, r1, q1⟩ => ?_
  obtain ⟨a, J, e, hJ, q⟩ := q1
  subst e
  cases r1
  rcases hJ with ⟨⟨xs, hq⟩, rfl⟩ | ⟨⟨xs, hq⟩, rfl⟩
  · obtain ⟨its, rv, p, hz⟩ := I1.list hq
    refine wpAny_pyIter_list p.isList ?_
    refine ⟨s1.heap.objs.size, [s1.heap.objs.size], _, _, H1, rfl, I1.kept (t' := s1.toks) fun b o e => Heap.get?_push_of_some _ e, turn_list a _, ⟨_, Heap.get?_push_size _ rfl, rfl, rfl⟩, fun b hb => ?_, q⟩
    have e : b = s1.heap.objs.size := by simpa using hb
    subst e
    exact I1.fpOk (Nat.le_refl _) (I1.hok.fresh (Nat.le_refl _))
  · obtain ⟨its, rv, p, hz⟩ := I1.tuple hq
    refine wpAny_pyIter_tuple (show s1.heap.IsTuple a its.toArray from p) ?_
    refine ⟨s1.heap.objs.size, [s1.heap.objs.size], _, _, H1, rfl, I1.kept (t' := s1.toks) fun b o e => Heap.get?_push_of_some _ e, turn_tuple a _, ⟨_, Heap.get?_push_size _ rfl, rfl, rfl⟩, fun b hb => ?_, q⟩
    have e : b = s1.heap.objs.size := by simpa using hb
    subst e
    exact I1.fpOk (Nat.le_refl _) (I1.hok.fresh (Nat.le_refl _))
end KX

set_option Elab.async false
set_option linter.all false
set_option maxRecDepth 100000
set_option maxHeartbeats 4000000
namespace Z
open PySem PySem.Spec PyProof.Rows L2 GG DCX
abbrev sToss : Stmt := top 1
abbrev sOnce : Stmt := top 4
def Pl.tosses : Pl → Bool
  | .toss _ _ => true
  | _ => false
section
variable {P : Program} {w : World} {K : PySem.W.Frag} {mg : Str → Option Value} {base : Heap}
def spToss : Sp := fun vs H Q _ => ∃ (t : Addr) (p : Pl), vs = [.ref t] ∧ H t = some (.tup p.row) ∧ Q (.bl p.tosses) H
theorem scToss : FnScope ["state"] ["state"] (defScope sToss) := ⟨rfl, rfl, rfl, by decide +kernel, rfl, by decide +kernel, by decide +kernel⟩
theorem ok_toss {f : Addr} {fd : FuncData} (F : Fun K "is_toss" "is_toss" sToss f fd) : FnOk P w K mg base CX0 1 f fd ["state"] spToss := by
  refine F.ok scToss (fun vs H Q E h => ?_) (fun cdv A outer s H vs Q E hr h => ?_)
  · obtain ⟨t, p, rfl, _⟩ := h
    rfl
  · obtain ⟨t, p, rfl, et, q⟩ := h
    refine ⟨_, (pss_one (ps_ret (pe_cmpR op_eq (pe_ix ix_tup (pv 0) pe_int (fun _ _ => rfl)) pe_str (nomark _)))), ?_⟩
    cases p with
    | toss x y =>
      refine ⟨.ref t, rfl, t, _, 0, .str "toss", rfl, rfl, SqT.of et, atI_nat (j := 0) rfl, rfl, ?_⟩
      rw [decide_eq_true rfl]
      exact q
    | fin n =>
      refine ⟨.ref t, rfl, t, _, 0, .str "end", rfl, rfl, SqT.of et, atI_nat (j := 0) rfl, rfl, ?_⟩
      rw [decide_eq_false str_toss_end]
      exact q
    | never =>
      refine ⟨.ref t, rfl, t, _, 0, .str "never", rfl, rfl, SqT.of et, atI_nat (j := 0) rfl, rfl, ?_⟩
      rw [decide_eq_false str_toss_never]
      exact q
/-! ### one toss of all -/
def gP (ps : List Pl) (z : Int) (r : List Bool) : Bool := decide (ats ps r = some z)
/-- the last toss is one of ds, from its place -/
def via (ps : List Pl) (ds : List (Int × Bool)) : List Bool → Bool
  | [] => false
  | b :: r => match ats ps r with
    | some q => decide ((q, b) ∈ ds)
    | none => false
def dsOf (ks : List Int) : List (Int × Bool) := ks.flatMap fun q => [(q, false), (q, true)]
theorem dsOf_mem {ks : List Int} {q : Int} {b : Bool} : (q, b) ∈ dsOf ks ↔ q ∈ ks := by
  unfold dsOf
  rw [List.mem_flatMap]
  constructor
  · rintro ⟨k, hk, h⟩
    simp only [List.mem_cons, List.not_mem_nil, or_false, Prod.mk.injEq] at h
    rcases h with ⟨rfl, _⟩ | ⟨rfl, _⟩ <;> exact hk
  · intro h
    refine ⟨q, h, ?_⟩
    cases b <;> simp
theorem dsOf_snoc (ks : List Int) (q : Int) : dsOf (ks ++ [q]) = dsOf ks ++ [(q, false), (q, true)] := by
  unfold dsOf
  rw [List.flatMap_append]
  rfl
def Lv (ps : List Pl) (n : Nat) (k : Int) : Prop := ∃ r, r.length = n ∧ ats ps r = some k
def rowV (ps : List Pl) (n : Nat) (ds : List (Int × Bool)) (z : Int) : List Int := cnt (n + 1) fun r => via ps ds r && gP ps z r
theorem via_at {ps : List Pl} {r : List Bool} {k : Int} (e : ats ps r = some k) (ds : List (Int × Bool)) (c : Bool) : via ps ds (c :: r) = decide ((k, c) ∈ ds) := by
  show (match ats ps r with | some q => decide ((q, c) ∈ ds) | none => false) = _
  rw [e]
theorem gP_at {ps : List Pl} {r : List Bool} {k : Int} (e : ats ps r = some k) (z : Int) (c : Bool) : gP ps z (c :: r) = decide (side ps c k = some z) := by
  show decide ((ats ps r).bind (side ps c) = some z) = _
  rw [e]
  rfl
theorem gP_no {ps : List Pl} {r : List Bool} (e : ats ps r = none) (z : Int) (c : Bool) : gP ps z (c :: r) = false := by
  show decide ((ats ps r).bind (side ps c) = some z) = _
  rw [e]
  rfl
theorem row_hit {ps : List Pl} {n : Nat} {ds : List (Int × Bool)} {q z : Int} {b : Bool} (nq : (q, b) ∉ ds) (hz : side ps b q = some z) :
    bump (if b then 1 else 0) (rowV ps n ds z) (cnt n (gP ps q)) = rowV ps n (ds ++ [(q, b)]) z := by
  refine bump_cnt fun c r _ => ?_
  cases e : ats ps r with
  | none =>
    rw [gP_no e]
    unfold gP
    rw [e]
    simp
  | some k =>
    rw [via_at e, via_at e, gP_at e]
    unfold gP
    rw [e]
    by_cases h : k = q ∧ c = b
    · obtain ⟨rfl, rfl⟩ := h
      simp [hz, nq]
    · have h1 : ¬ (k, c) = (q, b) := fun x => h (by cases x; exact ⟨rfl, rfl⟩)
      have h2 : (c == b && decide (some k = some q)) = false := by
        by_cases hc : c = b
        · have : ¬ k = q := fun x => h ⟨x, hc⟩
          simp [this]
        · simp [hc]
      rw [h2, Bool.and_false, Bool.or_false]
      have h3 : (k, c) ∈ ds ++ [(q, b)] ↔ (k, c) ∈ ds := by rw [List.mem_append, List.mem_singleton]; exact ⟨fun x => x.resolve_right h1, .inl⟩
      rw [decide_eq_decide.mpr h3]
      exact ⟨rfl, rfl⟩
theorem row_miss {ps : List Pl} {n : Nat} {ds : List (Int × Bool)} {q z z' : Int} {b : Bool} (hz : side ps b q = some z) (ne : z' ≠ z) : rowV ps n (ds ++ [(q, b)]) z' = rowV ps n ds z' := by
  unfold rowV
  refine cnt_congr fun r _ => ?_
  cases r with
  | nil => rfl
  | cons c r =>
    cases e : ats ps r with
    | none => rw [gP_no e, Bool.and_false, Bool.and_false]
    | some k =>
      rw [via_at e, via_at e, gP_at e]
      by_cases h : (k, c) = (q, b)
      · cases h
        have : ¬ z = z' := fun x => ne x.symm
        simp [hz, this]
      · have h3 : (k, c) ∈ ds ++ [(q, b)] ↔ (k, c) ∈ ds := by rw [List.mem_append, List.mem_singleton]; exact ⟨fun x => x.resolve_right h, .inl⟩
        rw [decide_eq_decide.mpr h3]
theorem row_none {ps : List Pl} {n : Nat} {ds : List (Int × Bool)} {z : Int} (h : ∀ q b, (q, b) ∈ ds → side ps b q ≠ some z) : rowV ps n ds z = List.replicate (n + 2) 0 := by
  refine cnt_zero fun r _ => ?_
  cases r with
  | nil => rfl
  | cons c r =>
    cases e : ats ps r with
    | none => rw [gP_no e, Bool.and_false]
    | some k =>
      rw [via_at e, gP_at e]
      by_cases m : (k, c) ∈ ds
      · simp [h _ _ m]
      · simp [m]
theorem side_isT {ps : List Pl} {b : Bool} {q z : Int} (h : side ps b q = some z) : (place ps q).tosses = true := by
  unfold side at h
  cases e : place ps q with
  | toss x y => rfl
  | fin n => rw [e] at h; cases h
  | never => rw [e] at h; cases h
theorem row_all {ps : List Pl} {n : Nat} {ks : List Int} {z : Int} (h : ∀ k, Lv ps n k → (place ps k).tosses = true → k ∈ ks) : rowV ps n (dsOf ks) z = cnt (n + 1) (gP ps z) := by
  refine cnt_congr fun r hr => ?_
  cases r with
  | nil => cases hr
  | cons c r =>
    cases e : ats ps r with
    | none => rw [gP_no e, Bool.and_false]
    | some k =>
      rw [via_at e, gP_at e]
      by_cases hs : side ps c k = some z
      · have := dsOf_mem (b := c).mpr (h k ⟨r, by simpa using hr, e⟩ (side_isT hs))
        simp [this]
      · simp [hs]
theorem lv_succ {ps : List Pl} {n : Nat} {z : Int} : Lv ps (n + 1) z ↔ ∃ q b, Lv ps n q ∧ side ps b q = some z := by
  constructor
  · rintro ⟨r, hr, e⟩
    cases r with
    | nil => cases hr
    | cons b r =>
      obtain ⟨q, h1, h2⟩ := Option.bind_eq_some_iff.mp e
      exact ⟨q, b, ⟨r, by simpa using hr, h1⟩, h2⟩
  · rintro ⟨q, b, ⟨r, hr, e⟩, h⟩
    refine ⟨b :: r, by simp [hr], ?_⟩
    show (ats ps r).bind (side ps b) = _
    rw [e]
    exact h
theorem Lv.inn {ps : List Pl} (hw : WF ps) {n : Nat} {k : Int} (h : Lv ps n k) : In ps k := by
  obtain ⟨r, _, e⟩ := h
  exact ats_in hw e
/-- a dict of lists of numbers, all new since H0 -/
structure Going (H0 H : Hp) (D : Addr) (ks : List Int) (A : Int → Addr) (row : Int → List Int) : Prop where
  same : Same H0 H
  fD : H0 D = none
  at_ : H D = some (.dK (kd ks fun k => .ref (A k)))
  rows : ∀ k ∈ ks, H (A k) = some (.lst ((row k).map V.int))
  fresh : ∀ k ∈ ks, H0 (A k) = none
  inj : ∀ k ∈ ks, ∀ l ∈ ks, A k = A l → k = l
  nd : ks.Nodup
theorem Going.neD {H0 H : Hp} {D : Addr} {ks : List Int} {A : Int → Addr} {row : Int → List Int} (g : Going H0 H D ks A row) {k : Int} (hk : k ∈ ks) : A k ≠ D := by
  intro e
  have := g.rows k hk
  rw [e, g.at_] at this
  cases this
theorem Going.more {H0 H H' : Hp} {D : Addr} {ks : List Int} {A : Int → Addr} {row : Int → List Int} (g : Going H0 H D ks A row) (s : Same H H') : Going H0 H' D ks A row :=
  ⟨g.same.trans s, g.fD, s _ _ g.at_, fun k hk => s _ _ (g.rows k hk), g.fresh, g.inj, g.nd⟩
theorem Going.put {H0 H : Hp} {D : Addr} {ks : List Int} {A : Int → Addr} {row : Int → List Int} (g : Going H0 H D ks A row) {z : Int} (hz : z ∈ ks) (r : List Int) : Going H0 (upd H (A z) (.lst (r.map V.int))) D ks A (fun k => if k = z then r else row k) := by
  refine ⟨fun b o e => ?_, g.fD, ?_, fun k hk => ?_, g.fresh, g.inj, g.nd⟩
  · rw [upd_ne (ne_of_none e (g.fresh z hz))]
    exact g.same _ _ e
  · rw [upd_ne (g.neD hz).symm]
    exact g.at_
  · by_cases e : k = z
    · subst e
      rw [upd_same, if_pos rfl]
    · rw [upd_ne (fun q => e (g.inj k hk z hz q)), if_neg e]
      exact g.rows k hk
theorem Going.add {H0 H : Hp} {D t : Addr} {ks : List Int} {A : Int → Addr} {row : Int → List Int} (g : Going H0 H D ks A row) {z : Int} (hz : z ∉ ks) (nt : H t = none) {r : List Int} (hr : row z = r) :
    Going H0 (upd (upd H t (.lst (r.map V.int))) D (.dK (putK (kd ks fun k => .ref (A k)) (.inl z) (.ref t)))) D (ks ++ [z]) (fun k => if k = z then t else A k) row := by
  have tD : t ≠ D := (ne_of_none g.at_ nt).symm
  have t0 : H0 t = none := g.same.free nt
  have kz : ∀ k ∈ ks, k ≠ z := fun k hk e => hz (e ▸ hk)
  have kt : ∀ k ∈ ks, A k ≠ t := fun k hk => ne_of_none (g.rows k hk) nt
  refine ⟨fun b o e => ?_, g.fD, ?_, fun k hk => ?_, fun k hk => ?_, fun k hk l hl e => ?_, ?_⟩
  · rw [upd_ne (ne_of_none e g.fD), upd_ne (ne_of_none e t0)]
    exact g.same _ _ e
  · rw [upd_same, kd_new hz]
    refine congrArg (fun x => some (HO.dK x)) (kd_congr fun k _ => ?_)
    unfold ov
    split <;> rfl
  · rcases List.mem_append.mp hk with hk | hk
    · show upd _ D _ (if k = z then t else A k) = _
      rw [if_neg (kz k hk), upd_ne (g.neD hk), upd_ne (kt k hk)]
      exact g.rows k hk
    · rw [List.mem_singleton.mp hk]
      show upd _ D _ (if z = z then t else A z) = _
      rw [if_pos rfl, upd_ne tD, upd_same, hr]
  · rcases List.mem_append.mp hk with hk | hk
    · show H0 (if k = z then t else A k) = none
      rw [if_neg (kz k hk)]
      exact g.fresh k hk
    · rw [List.mem_singleton.mp hk]
      show H0 (if z = z then t else A z) = none
      rw [if_pos rfl]
      exact t0
  · have e : (if k = z then t else A k) = (if l = z then t else A l) := e
    rcases List.mem_append.mp hk with hk | hk
    · rw [if_neg (kz k hk)] at e
      rcases List.mem_append.mp hl with hl | hl
      · rw [if_neg (kz l hl)] at e
        exact g.inj k hk l hl e
      · rw [if_pos (List.mem_singleton.mp hl)] at e
        exact absurd e (kt k hk)
    · rw [if_pos (List.mem_singleton.mp hk)] at e
      rcases List.mem_append.mp hl with hl | hl
      · rw [if_neg (kz l hl)] at e
        exact absurd e.symm (kt l hl)
      · rw [List.mem_singleton.mp hk, List.mem_singleton.mp hl]
  · rw [List.nodup_append]
    refine ⟨g.nd, by simp, fun a ha c hc => ?_⟩
    rw [List.mem_singleton.mp hc]
    exact kz a ha
theorem Going.rowsEq {H0 H : Hp} {D : Addr} {ks : List Int} {A : Int → Addr} {row row' : Int → List Int} (g : Going H0 H D ks A row) (h : ∀ k ∈ ks, row k = row' k) : Going H0 H D ks A row' :=
  ⟨g.same, g.fD, g.at_, fun k hk => by rw [← h k hk]; exact g.rows k hk, g.fresh, g.inj, g.nd⟩
/-- the places that n tosses lead to, with their numbers of tapes, in a dict at D -/
structure Gd (ps : List Pl) (n : Nat) (H : Hp) (D : Addr) (ks : List Int) (A : Int → Addr) : Prop where
  at_ : H D = some (.dK (kd ks fun k => .ref (A k)))
  rows : ∀ k ∈ ks, H (A k) = some (.lst ((cnt n (gP ps k)).map V.int))
  nd : ks.Nodup
def spOnce : Sp := fun vs H Q _ => ∃ (m t : Addr) (n : Nat) (ps : List Pl) (ks : List Int) (A : Int → Addr), vs = [.ref m, .ref t, .int (n : Nat)] ∧ Mach H m ps ∧ WF ps ∧ n ≤ 100 ∧ Gd ps n H t ks A ∧ (∀ k, k ∈ ks ↔ Lv ps n k ∧ (place ps k).tosses = true) ∧
  ∀ (D : Addr) (ks' : List Int) (A' : Int → Addr) H', Same H H' → H D = none → (∀ k ∈ ks', H (A' k) = none) → Gd ps (n + 1) H' D ks' A' → (∀ k, k ∈ ks' ↔ Lv ps (n + 1) k) → Q (.ref D) H'
theorem scOnce : FnScope ["machine", "tossing", "used", "going", "index", "added", "successor", "heads", "count"] ["machine", "tossing", "used"] (defScope sOnce) := ⟨rfl, rfl, rfl, by decide +kernel, rfl, by decide +kernel, by decide +kernel⟩
theorem ok_once {f : Addr} {fd : FuncData} (F : Fun K "toss_once" "toss_once" sOnce f fd) (mE : mg "enumerate" = none) : FnOk P w K mg base CX0 1 f fd ["machine", "tossing", "used"] spOnce := by
  refine F.ok scOnce (fun vs H Q E h => ?_) (fun cdv A outer s H vs Q E hr h => ?_)
  · obtain ⟨m, t, n, ps, ks, A, rfl, _⟩ := h
    rfl
  · obtain ⟨m, t, n, ps, ks, B, rfl, hm, hw, hn, gd, hks, q⟩ := h
    have hu64 : A.units + 3 + 64 < cLine := hr.units
    have hu : A.units + 3 + 1 < cLine := by omega
    refine ⟨_, (pss_cons (ps_set (i := 3) scOnce.nd rfl (.inl rfl) pe_dnewK)
      (pss_cons (ps_lock (ps_for PassesOwn.never rfl (pi_keys (pv 1)) (pg_name (i := 4) scOnce.nd rfl (.inl rfl)) (pss_one (ps_for PassesOwn.never rfl (EN.pi_pairs (by rfl) mE (pa_cons (pe_tup (pa_cons (pe_ix ix_tup (pe_ix ix_tup (pv 0) (pv 4) (fun _ _ => rfl)) pe_int (fun _ _ => rfl)) (pa_cons (pe_ix ix_tup (pe_ix ix_tup (pv 0) (pv 4) (fun _ _ => rfl)) pe_int (fun _ _ => rfl)) pa_nil))) pa_nil)) (pg_tup rfl (pgs_cons (pg_name (i := 5) scOnce.nd rfl (.inl rfl)) (pgs_cons (pg_name (i := 6) scOnce.nd rfl (.inl rfl)) pgs_nil))) (pss_cons (ps_if (pt_cmp (pc_dnotin hu (pv 6) (pv 3))) (pss_one (ps_dput hu (pv 3) (pv 6) (pe_op op_rep (pe_lst (pa_cons pe_int pa_nil)) (pe_op op_add (pv 2) pe_int)) rfl)) pss_nil)
      (pss_one (ps_for PassesOwn.never rfl (pi_enum (by rfl) mE (pa_cons (pe_dget hu (pv 1) (pv 4) (fun _ _ => rfl)) pa_nil)) (pg_tup rfl (pgs_cons (pg_name (i := 7) scOnce.nd rfl (.inl rfl)) (pgs_cons (pg_name (i := 8) scOnce.nd rfl (.inl rfl)) pgs_nil))) (pss_one (ps_augS (pe_dget hu (pv 3) (pv 6) (fun _ _ => rfl)) (pe_op op_add (pv 7) (pv 5)) OPS.get_list (pv 8) ip_add set_list)))))))))
      (pss_one (ps_ret (pv 3))))), ?_⟩
    refine fun D nD => ?_
    have nDt : D ≠ t := (ne_of_none gd.at_ nD).symm
    refine ⟨t, _, (Same.upd nD) _ _ gd.at_, trivial, fun od => ?_⟩
    obtain ⟨HL, eHL⟩ : ∃ HL, HL = upd H t (.frz od (.dK (kd ks fun k => .ref (B k)))) := ⟨_, rfl⟩
    have lt : HL t = some (.frz od (.dK (kd ks fun k => .ref (B k)))) := by rw [eHL]; exact upd_same
    have lne : ∀ b, b ≠ t → HL b = H b := fun b hb => by rw [eHL, upd_ne hb]
    have g0 : Going HL (upd (upd H D (.dK [])) t (.frz od (.dK (kd ks fun k => .ref (B k))))) D [] (fun _ => D) (rowV ps n []) := by
      refine ⟨fun b o e => ?_, by rw [lne D nDt]; exact nD, by rw [upd_ne nDt]; exact upd_same, fun k hk => (List.not_mem_nil hk).elim, fun k hk => (List.not_mem_nil hk).elim, fun k hk => (List.not_mem_nil hk).elim, .nil⟩
      by_cases hb : b = t
      · subst hb
        rw [lt] at e
        rw [upd_same]
        exact e
      · rw [lne b hb] at e
        rw [upd_ne hb, upd_ne (ne_of_none e nD)]
        exact e
    change (_ : Hp → Prop) (upd (upd H D (.dK [])) t (.frz od (.dK (kd ks fun k => .ref (B k)))))
    generalize upd (upd H D (.dK [])) t (.frz od (.dK (kd ks fun k => .ref (B k)))) = H1 at g0 ⊢
    have line : sizeLine = 16777216 := by decide
    have hl := hw.le
    refine ⟨_, rfl, t, od, rfl, .inl ⟨_, g0.same _ _ lt, for_it walk_keys (fun i σ H' => ∃ (v4 v5 v6 v7 v8 : Option V) (ks' : List Int) (A' : Int → Addr), σ = [some (V.ref m), some (V.ref t), some (V.int (n : Nat)), some (V.ref D), v4, v5, v6, v7, v8] ∧ Going HL H' D ks' A' (rowV ps n (dsOf (ks.take i))) ∧ ∀ z, z ∈ ks' ↔ ∃ q b, (q, b) ∈ dsOf (ks.take i) ∧ side ps b q = some z)
      ⟨_, _, _, _, _, [], _, rfl, g0, fun z => ⟨fun h => (List.not_mem_nil h).elim, fun ⟨q, b, h, _⟩ => (List.not_mem_nil h).elim⟩⟩ (fun i σ H' _ ⟨_, _, _, _, _, _, _, _, g, _⟩ => g.same _ _ lt) ?_ ?_⟩⟩
    · rintro i x σ H2 H2' hi ⟨v4, v5, v6, v7, v8, ks', A', rfl, g, hk'⟩ ⟨rfl, kk, vv, hkk, rfl⟩
      obtain ⟨k, hk, rfl, rfl⟩ := kd_get hkk
      have hkm : k ∈ ks := List.mem_of_getElem? hk
      obtain ⟨hlv, htoss⟩ := (hks k).mp hkm
      have hkin := hlv.inn hw
      obtain ⟨x, y, exy⟩ : ∃ x y, place ps k = .toss x y := by
        cases e : place ps k with
        | toss x y => exact ⟨x, y, rfl⟩
        | fin n => rw [e] at htoss; cases htoss
        | never => rw [e] at htoss; cases htoss
      have sx : side ps true k = some x := by unfold side; rw [exy]; rfl
      have sy : side ps false k = some y := by unfold side; rw [exy]; rfl
      have hmL : Mach HL m ps := hm.mono fun b xs e => by
        rw [lne b (by rintro rfl; rw [gd.at_] at e; cases e)]
        exact e
      obtain ⟨rs, tt, em, ea, et⟩ := (hmL.same g.same).at hw hkin.1 hkin.2
      rw [exy] at et
      have hln : ks.length ≤ 30 := Nat.le_trans (nodup_len ps.length ks gd.nd fun k hk => ((hks k).mp hk).1.inn hw) hw.le
      have hB : HL (B k) = some (.lst ((cnt n (gP ps k)).map V.int)) := by
        rw [lne _ (by intro e; have := gd.rows k hkm; rw [e, gd.at_] at this; cases this)]
        exact gd.rows k hkm
      have tk : ks.take (i + 1) = ks.take i ++ [k] := by rw [List.take_succ, hk]; rfl
      have nk : ∀ b, (k, b) ∉ dsOf (ks.take i) := fun b h => by
        have h := dsOf_mem.mp h
        have nd := gd.nd.sublist (List.take_sublist (i + 1) ks)
        rw [tk, List.nodup_append] at nd
        exact nd.2.2 k h k List.mem_cons_self rfl
      refine ⟨_, rfl, _, rfl, m, rs, k, .ref tt, rfl, rfl, SqT.of em, ea, tt, _, 2, .int y, rfl, rfl, SqT.of et, atI_nat (j := 2) rfl, _, rfl, _, rfl, m, rs, k, .ref tt, rfl, rfl, SqT.of em, ea, tt, _, 1, .int x, rfl, rfl, SqT.of et, atI_nat (j := 1) rfl, by show 2 ≤ sizeLine; decide, fun T0 n0 => ?_⟩
      have g1 := g.more (Same.upd (o := .tup [V.int y, .int x]) n0)
      have f0 : upd H2' T0 (.tup [V.int y, .int x]) T0 = some (.tup [V.int y, .int x]) := upd_same
      change (_ : Hp → Prop) (upd H2' T0 (.tup [V.int y, .int x]))
      have n0' : HL T0 = none := g.same.free n0
      have kA : ∀ k ∈ ks', A' k ≠ T0 := fun k hk => ne_of_none (g.rows k hk) n0
      generalize upd H2' T0 (.tup [V.int y, .int x]) = H3 at g1 f0 ⊢
      refine ⟨T0, _, rfl, SqT.of f0, EN.for_pairs (K := K) (xs := [V.int y, .int x]) (fun j σ H' => ∃ (v5 v6 v7 v8 : Option V) (ks' : List Int) (A' : Int → Addr), σ = [some (V.ref m), some (V.ref t), some (V.int (n : Nat)), some (V.ref D), some (V.int k), v5, v6, v7, v8] ∧ Going HL H' D ks' A' (rowV ps n (dsOf (ks.take i) ++ [(k, false), (k, true)].take j)) ∧ (∀ z, z ∈ ks' ↔ ∃ q b, (q, b) ∈ dsOf (ks.take i) ++ [(k, false), (k, true)].take j ∧ side ps b q = some z) ∧ H' T0 = some (.tup [V.int y, .int x]) ∧ ∀ k ∈ ks', A' k ≠ T0)
        ⟨_, _, _, _, ks', A', rfl, by rw [List.take_zero, List.append_nil]; exact g1, by rw [List.take_zero, List.append_nil]; exact hk', f0, kA⟩ (fun j σ H' _ ⟨_, _, _, _, _, _, _, _, _, h, _⟩ => SqT.of h) ?_ ?_⟩
      · rintro j v σ H4 Tj hj ⟨v5, v6, v7, v8, ks', A', rfl, g4, hk4, f4, kA4⟩ nTj
        obtain ⟨b, z, rfl, hside, etk, eoff, hj2⟩ : ∃ (b : Bool) (z : Int), v = .int z ∧ side ps b k = some z ∧ [(k, false), (k, true)].take (j + 1) = [(k, false), (k, true)].take j ++ [(k, b)] ∧ ((j : Nat) : Int) = (if b then 1 else 0 : Nat) ∧ (k, b) ∉ [(k, false), (k, true)].take j := by
          match j, hj with
          | 0, hj =>
            cases hj
            exact ⟨false, y, rfl, sy, rfl, rfl, by simp⟩
          | 1, hj =>
            cases hj
            exact ⟨true, x, rfl, sx, rfl, rfl, by simp⟩
          | j + 2, hj => cases hj
        obtain ⟨ds, eds⟩ : ∃ ds, ds = dsOf (ks.take i) ++ [(k, false), (k, true)].take j := ⟨_, rfl⟩
        have ends : dsOf (ks.take i) ++ [(k, false), (k, true)].take (j + 1) = ds ++ [(k, b)] := by rw [etk, eds, List.append_assoc]
        rw [ends]
        rw [← eds] at g4 hk4
        have nds : (k, b) ∉ ds := by
          rw [eds]
          intro h
          rcases List.mem_append.mp h with h | h
          · exact nk b h
          · exact hj2 h
        have zin := side_in hw hkin hside
        have g5 := g4.more (Same.upd (o := .tup [V.int (j : Nat), .int z]) nTj)
        have f5 := (Same.upd (o := .tup [V.int (j : Nat), .int z]) nTj) _ _ f4
        have e5 : upd H4 Tj (.tup [V.int (j : Nat), .int z]) Tj = some (.tup [V.int (j : Nat), .int z]) := upd_same
        generalize upd H4 Tj (.tup [V.int (j : Nat), .int z]) = H5 at g5 f5 e5 ⊢
        refine ⟨Tj, _, rfl, SqT.of e5, rfl, _, _, rfl, _, _, rfl, rfl, ?_⟩
        have hkl : ks'.length ≤ 30 := Nat.le_trans (nodup_len ps.length ks' g4.nd fun z hz => by
          obtain ⟨q, b, h1, h2⟩ := (hk4 z).mp hz
          rw [eds] at h1
          refine side_in hw ?_ h2
          rcases List.mem_append.mp h1 with h1 | h1
          · exact ((hks q).mp (List.mem_of_mem_take (dsOf_mem.mp h1))).1.inn hw
          · have := List.mem_of_mem_take h1
            simp only [List.mem_cons, List.not_mem_nil, or_false, Prod.mk.injEq] at this
            rcases this with ⟨rfl, _⟩ | ⟨rfl, _⟩ <;> exact hkin) hw.le
        dsimp only
        refine on (if_tail (fun σ H' => ∃ (ks'' : List Int) (A'' : Int → Addr), σ = [some (V.ref m), some (V.ref t), some (V.int (n : Nat)), some (V.ref D), some (V.int k), some (V.int (j : Nat)), some (V.int z), v7, v8] ∧ Going HL H' D ks'' A'' (rowV ps n ds) ∧ z ∈ ks'' ∧ (∀ z', z' ∈ ks'' ↔ z' ∈ ks' ∨ z' = z) ∧ H' T0 = some (.tup [V.int y, .int x]) ∧ ∀ k ∈ ks'', A'' k ≠ T0) ?_ (fun tl => ?_))
        rotate_left
        · refine ⟨_, rfl, _, rfl, D, _, rfl, DGet.k (k := .inl z) g5.at_, _, rfl, ?_⟩
          rw [kd_val]
          by_cases hz : z ∈ ks'
          · rw [if_pos hz]
            exact iteF (tl _ _ ⟨ks', A', rfl, g5, hz, fun z' => ⟨.inl, fun h => by rcases h with h | rfl; exact h; exact hz⟩, f5, kA4⟩)
          · rw [if_neg hz]
            refine iteT ⟨by show 1 ≤ sizeLine; decide, fun L nL => ?_⟩
            have g6 := g5.more (Same.upd (o := .lst [V.int 0]) nL)
            have f6 := (Same.upd (o := .lst [V.int 0]) nL) _ _ f5
            have e6 : upd H5 L (.lst [V.int 0]) L = some (.lst [V.int 0]) := upd_same
            change (_ : Hp → Prop) (upd H5 L (.lst [V.int 0]))
            generalize upd H5 L (.lst [V.int 0]) = H6 at g6 f6 e6 ⊢
            refine ⟨_, rfl, _, _, rfl, rfl, L, _, _, rfl, rfl, e6, by omega, by omega, by show 1 * ((n : Nat) + 2 : Int).toNat ≤ sizeLine; omega, fun p np => ?_⟩
            have n2 : ((n : Nat) + 2 : Int).toNat = n + 2 := by omega
            have er : rowV ps n ds z = List.replicate (n + 2) 0 := row_none fun q b hq hs => hz ((hk4 z).mpr ⟨q, b, hq, hs⟩)
            have ev : (List.replicate ((n : Nat) + 2 : Int).toNat [V.int 0]).flatten = (List.replicate (n + 2) (0 : Int)).map V.int := by
              rw [n2, List.map_replicate]
              generalize n + 2 = k
              induction k with
              | zero => rfl
              | succ k ih => rw [List.replicate_succ, List.flatten_cons, ih]; rfl
            try rw [ev]
            refine ⟨_, rfl, _, rfl, D, _, rfl, DPut.k (k := .inl z) ((Same.upd np) _ _ g6.at_) (by rw [kd_len]; omega), tl _ _ ⟨ks' ++ [z], _, rfl, g6.add hz np er, List.mem_append_right _ List.mem_cons_self, fun z' => by rw [List.mem_append, List.mem_singleton], ?_, fun k' hk' => ?_⟩⟩
            · rw [upd_ne (ne_of f6 g6.at_ (by intro z; cases z)), upd_ne (ne_of_none f6 np)]
              exact f6
            · show (if k' = z then p else A' k') ≠ T0
              rcases List.mem_append.mp hk' with h | h
              · rw [if_neg (show ¬ k' = z from fun e => hz (e ▸ h))]
                exact kA4 k' h
              · rw [if_pos (List.mem_singleton.mp h)]
                exact (ne_of_none f6 np).symm
        · rintro σ H6 ⟨ks'', A'', rfl, g6, hz, hkk6, f6, kA6⟩
          have hz0 := hz
          refine ⟨_, rfl, _, rfl, t, _, rfl, .inl ⟨_, .inl k, .inr ⟨od, g6.same _ _ lt⟩, rfl, by rw [kd_val, if_pos hkm]⟩, B k, _, rfl, SqL.of (g6.same _ _ hB), ?_⟩
          have cl : (cnt n (gP ps k)).length = n + 1 := cnt_len _ _
          have rl : (rowV ps n ds z).length = n + 2 := cnt_len _ _
          refine for_it (walk_enum (K := K) (a := B k) (xs := (cnt n (gP ps k)).map V.int)) (fun l σ H' => ∃ (v7 v8 : Option V), σ = [some (V.ref m), some (V.ref t), some (V.int (n : Nat)), some (V.ref D), some (V.int k), some (V.int (j : Nat)), some (V.int z), v7, v8] ∧ Going HL H' D ks'' A'' (fun k' => if k' = z then bump (if b then 1 else 0) (rowV ps n ds z) ((cnt n (gP ps k)).take l) else rowV ps n ds k') ∧ H' T0 = some (.tup [V.int y, V.int x])) ⟨v7, v8, rfl, g6.rowsEq fun k' _ => ?_, f6⟩ (fun l σ H' _ ⟨_, _, _, h, _⟩ => SqL.of (h.same _ _ hB)) ?_ ?_
          · rw [List.take_zero, bump_nil]
            split
            · rename_i e; rw [e]
            · rfl
          · rintro l xx σ H7 H7' hl' ⟨v7, v8, rfl, g7, f7⟩ ⟨T1, x1, y1, rfl, nT1, rfl, ex1, ey1⟩
            have ex1 := Option.some.inj ex1
            subst ex1
            rw [List.length_map, cl] at hl'
            obtain ⟨c, hc, rfl⟩ : ∃ c, (cnt n (gP ps k))[l]? = some c ∧ V.int c = y1 := by
              replace ey1 : (List.map V.int (cnt n (gP ps k)))[l]? = some y1 := ey1
              rw [List.getElem?_map] at ey1
              obtain ⟨c, h1, h2⟩ := Option.map_eq_some_iff.mp ey1
              exact ⟨c, h1, h2⟩
            have g8 := g7.more (Same.upd (o := .tup [V.int (l : Nat), .int c]) nT1)
            have f8 := (Same.upd (o := .tup [V.int (l : Nat), .int c]) nT1) _ _ f7
            have e8 : upd H7 T1 (.tup [V.int (l : Nat), .int c]) T1 = some (.tup [V.int (l : Nat), .int c]) := upd_same
            generalize upd H7 T1 (.tup [V.int (l : Nat), .int c]) = H8 at g8 f8 e8 ⊢
            have off : l + (if b then 1 else 0) < (rowV ps n ds z).length := by
              rw [rl]
              cases b
              · rw [if_neg (by decide)]; omega
              · rw [if_pos rfl]; omega
            have hrow := g8.rows z hz
            rw [if_pos rfl] at hrow
            obtain ⟨u, hu'⟩ : ∃ u, (bump (if b then 1 else 0) (rowV ps n ds z) ((cnt n (gP ps k)).take l))[l + (if b then 1 else 0)]? = some u := ⟨_, List.getElem?_eq_getElem (by rw [bump_len]; exact off)⟩
            have eidx : ((l : Nat) : Int) + ((j : Nat) : Int) = ((l + (if b then 1 else 0) : Nat) : Int) := by rw [eoff]; omega
            refine ⟨T1, _, rfl, SqT.of e8, rfl, _, _, rfl, _, _, rfl, rfl, _, rfl, _, rfl, D, _, rfl, by rw [show some (V.ref (A'' z)) = valV (kd ks'' fun k => V.ref (A'' k)) (.inl z) by rw [kd_val, if_pos hz]]; exact DGet.k (k := .inl z) g8.at_, _, rfl, _, rfl, _, _, rfl, rfl, ?_⟩
            refine ⟨A'' z, _, _, .int u, rfl, congrArg V.int eidx, SqL.of hrow, by rw [List.getElem?_map, hu']; rfl, _, rfl, _, _, rfl, rfl, A'' z, _, _, l + (if b then 1 else 0), rfl, rfl, hrow, by rw [List.length_map, bump_len, eidx]; exact ixN_nat off, ?_⟩
            have hc' : l < (cnt n (gP ps k)).length := by rw [cl]; exact hl'
            have step := bump_step (off := if b then 1 else 0) (row := rowV ps n ds z) hc off hu'
            refine ⟨_, _, rfl, ?_, by rw [upd_ne (kA6 z hz).symm]; exact f8⟩
            have g9 := g8.put hz ((bump (if b then 1 else 0) (rowV ps n ds z) ((cnt n (gP ps k)).take (l + 1))))
            rw [← step, List.map_set] at g9
            refine g9.rowsEq fun k' _ => ?_
            by_cases e : k' = z
            · subst e
              rw [if_pos rfl, if_pos rfl]
              exact step
            · rw [if_neg e, if_neg e, if_neg e]
          · rintro σ H7 ⟨v7, v8, rfl, g7, f7⟩
            rw [List.length_map, cl, ← cl, List.take_length] at g7
            refine ⟨_, _, _, _, ks'', A'', rfl, g7.rowsEq fun k' _ => ?_, fun z' => ?_, f7, kA6⟩
            · by_cases e : k' = z
              · subst e
                rw [if_pos rfl]
                exact row_hit nds hside
              · rw [if_neg e, row_miss hside e]
            · rw [hkk6, hk4]
              constructor
              · rintro (⟨q, b', h1, h2⟩ | rfl)
                · exact ⟨q, b', List.mem_append_left _ h1, h2⟩
                · exact ⟨k, b, List.mem_append_right _ List.mem_cons_self, hside⟩
              · rintro ⟨q, b', h1, h2⟩
                rcases List.mem_append.mp h1 with h1 | h1
                · exact .inl ⟨q, b', h1, h2⟩
                · cases List.mem_singleton.mp h1
                  rw [hside] at h2
                  exact .inr (Option.some.inj h2).symm
      · rintro σ H4 ⟨v5, v6, v7, v8, ks', A', rfl, g4, hk4, f4, kA4⟩
        have e : dsOf (ks.take (i + 1)) = dsOf (ks.take i) ++ [(k, false), (k, true)].take 2 := by rw [tk, dsOf_snoc]; rfl
        exact ⟨_, _, _, _, _, ks', A', rfl, by rw [e]; exact g4, by rw [e]; exact hk4⟩
    · rintro σ H2 ⟨v4, v5, v6, v7, v8, ks', A', rfl, g, hk'⟩
      rw [kd_len, List.take_length] at g hk'
      have eall : ∀ z, rowV ps n (dsOf ks) z = cnt (n + 1) (gP ps z) := fun z => row_all fun k h1 h2 => (hks k).mpr ⟨h1, h2⟩
      have s2 : Same H (upd H2 t (.dK (kd ks fun k => .ref (B k)))) := fun b o e => by
        by_cases hb : b = t
        · subst hb
          rw [upd_same, ← gd.at_]
          exact e
        · rw [upd_ne hb]
          exact g.same _ _ (by rw [lne b hb]; exact e)
      have nA : ∀ k ∈ ks', A' k ≠ t := fun k hk e => by
        have := g.fresh k hk
        rw [e, lt] at this
        cases this
      refine ⟨g.same _ _ lt, _, rfl, q D ks' A' _ s2 nD (fun k hk => ?_) ⟨?_, fun k hk => ?_, g.nd⟩ fun z => ?_⟩
      · rw [← lne _ (nA k hk)]
        exact g.fresh k hk
      · rw [upd_ne nDt]
        exact g.at_
      · rw [upd_ne (nA k hk), ← eall]
        exact g.rows k hk
      · rw [hk', lv_succ]
        constructor
        · rintro ⟨q, b, h1, h2⟩
          exact ⟨q, b, ((hks q).mp (dsOf_mem.mp h1)).1, h2⟩
        · rintro ⟨q, b, h1, h2⟩
          exact ⟨q, b, dsOf_mem.mpr ((hks q).mpr ⟨h1, side_isT h2⟩), h2⟩
end
end Z

set_option Elab.async false
set_option linter.all false
set_option maxRecDepth 100000
set_option maxHeartbeats 4000000
namespace Z
open PySem PySem.Spec PyProof.Rows L2 GG DCX
abbrev sStop : Stmt := top 3
/-! ### the tapes that are stopped -/
def ansP : Pl → Option Int
  | .fin n => some n
  | .never => some (-1)
  | .toss _ _ => none
structure St (L : Nat) (H : Hp) (D : Addr) (as : List Int) (A : Int → Addr) (B : Int → Nat → Addr) (row : Int → Nat → List Int) : Prop where
  at_ : H D = some (.dK (kd as fun a => .ref (A a)))
  lists : ∀ a ∈ as, H (A a) = some (.lst ((List.range (L + 1)).map fun j => .ref (B a j)))
  rows : ∀ a ∈ as, ∀ j, j ≤ L → H (B a j) = some (.lst ((row a j).map V.int))
  inj : ∀ a ∈ as, ∀ j, j ≤ L → ∀ a' ∈ as, ∀ j', j' ≤ L → B a j = B a' j' → a = a' ∧ j = j'
  nd : as.Nodup
  zero : ∀ a, a ∉ as → ∀ j, row a j = List.replicate (j + 1) 0
  len : ∀ a j, (row a j).length = j + 1
def Fp (L : Nat) (D : Addr) (as : List Int) (A : Int → Addr) (B : Int → Nat → Addr) (b : Addr) : Prop := b = D ∨ ∃ a ∈ as, b = A a ∨ ∃ j, j ≤ L ∧ b = B a j
section
variable {L : Nat} {H H' : Hp} {D : Addr} {as : List Int} {A : Int → Addr} {B : Int → Nat → Addr} {row : Int → Nat → List Int}
theorem St.AB (s : St L H D as A B row) {a a' : Int} (h : a ∈ as) (h' : a' ∈ as) {j : Nat} (hj : j ≤ L) : A a ≠ B a' j := by
  intro e
  have h1 := s.lists a h
  rw [e, s.rows a' h' j hj] at h1
  have h1 := HO.lst.inj (Option.some.inj h1)
  rw [show L + 1 = 0 + 1 + L by omega] at h1
  have hl := s.len a' j
  cases q : row a' j with
  | nil => rw [q] at hl; cases hl
  | cons x r =>
    rw [q] at h1
    have h2 := congrArg List.head? h1
    rw [List.map_cons, List.head?_cons] at h2
    rw [List.head?_map, show 0 + 1 + L = L + 1 by omega, List.range_succ_eq_map, List.head?_cons] at h2
    cases h2
theorem St.AD (s : St L H D as A B row) {a : Int} (h : a ∈ as) : A a ≠ D := ne_of (s.lists a h) s.at_ (by intro z; cases z)
theorem St.BD (s : St L H D as A B row) {a : Int} (h : a ∈ as) {j : Nat} (hj : j ≤ L) : B a j ≠ D := ne_of (s.rows a h j hj) s.at_ (by intro z; cases z)
theorem St.more (s : St L H D as A B row) (f : ∀ b o, H b = some o → Fp L D as A B b → H' b = some o) : St L H' D as A B row :=
  ⟨f _ _ s.at_ (.inl rfl), fun a h => f _ _ (s.lists a h) (.inr ⟨a, h, .inl rfl⟩), fun a h j hj => f _ _ (s.rows a h j hj) (.inr ⟨a, h, .inr ⟨j, hj, rfl⟩⟩), s.inj, s.nd, s.zero, s.len⟩
theorem St.same (s : St L H D as A B row) (f : Same H H') : St L H' D as A B row := s.more fun b o e _ => f b o e
theorem St.live (s : St L H D as A B row) {b : Addr} (f : Fp L D as A B b) : H b ≠ none := by
  intro e
  rcases f with rfl | ⟨a, h, rfl | ⟨j, hj, rfl⟩⟩
  · rw [s.at_] at e; cases e
  · rw [s.lists a h] at e; cases e
  · rw [s.rows a h j hj] at e; cases e
def rowPut (row : Int → Nat → List Int) (a : Int) (j : Nat) (r : List Int) : Int → Nat → List Int := fun a' j' => if a' = a ∧ j' = j then r else row a' j'
theorem St.put (s : St L H D as A B row) {a : Int} (h : a ∈ as) {j : Nat} (hj : j ≤ L) {r : List Int} (hr : r.length = j + 1) : St L (upd H (B a j) (.lst (r.map V.int))) D as A B (rowPut row a j r) := by
  refine ⟨?_, fun a' h' => ?_, fun a' h' j' hj' => ?_, s.inj, s.nd, fun a' h' j' => ?_, fun a' j' => ?_⟩
  · rw [upd_ne (s.BD h hj).symm]
    exact s.at_
  · rw [upd_ne (s.AB h' h hj)]
    exact s.lists a' h'
  · unfold rowPut
    by_cases e : a' = a ∧ j' = j
    · obtain ⟨rfl, rfl⟩ := e
      rw [upd_same, if_pos ⟨rfl, rfl⟩]
    · rw [if_neg e, upd_ne (fun q => e (s.inj a' h' j' hj' a h j hj q))]
      exact s.rows a' h' j' hj'
  · unfold rowPut
    rw [if_neg (show ¬ (a' = a ∧ j' = j) from fun e => h' (e.1 ▸ h))]
    exact s.zero a' h' j'
  · unfold rowPut
    split
    · rename_i e
      rw [hr, e.2]
    · exact s.len a' j'
theorem St.add (s : St L H D as A B row) {a : Int} (h : a ∉ as) {p : Addr} {b : Nat → Addr} (f : Same H H') (np : H p = none) (nb : ∀ j, j ≤ L → H (b j) = none) (ep : H' p = some (.lst ((List.range (L + 1)).map fun j => .ref (b j))))
    (eb : ∀ j, j ≤ L → H' (b j) = some (.lst ((List.replicate (j + 1) (0 : Int)).map V.int))) (bi : ∀ j, j ≤ L → ∀ j', j' ≤ L → b j = b j' → j = j') :
    St L (upd H' D (.dK (putK (kd as fun a => .ref (A a)) (.inl a) (.ref p)))) D (as ++ [a]) (fun k => if k = a then p else A k) (fun k => if k = a then b else B k) row := by
  have pD : p ≠ D := (ne_of_none s.at_ np).symm
  have bD : ∀ j, j ≤ L → b j ≠ D := fun j hj => (ne_of_none s.at_ (nb j hj)).symm
  have ka : ∀ k ∈ as, k ≠ a := fun k hk e => h (e ▸ hk)
  have mem : ∀ k, k ∈ as ++ [a] → k ∈ as ∨ k = a := fun k hk => (List.mem_append.mp hk).imp_right List.mem_singleton.mp
  refine ⟨?_, fun k hk => ?_, fun k hk j hj => ?_, fun k hk j hj k' hk' j' hj' e => ?_, ?_, fun k hk => s.zero k fun q => hk (List.mem_append_left _ q), s.len⟩
  · rw [upd_same, kd_new h]
    refine congrArg (fun x => some (HO.dK x)) (kd_congr fun k _ => ?_)
    unfold ov
    split <;> rfl
  · rcases mem k hk with hk | rfl
    · rw [if_neg (ka k hk), if_neg (ka k hk), upd_ne (s.AD hk)]
      exact f _ _ (s.lists k hk)
    · rw [if_pos rfl, if_pos rfl, upd_ne pD]
      exact ep
  · rcases mem k hk with hk | rfl
    · rw [if_neg (ka k hk), upd_ne (s.BD hk hj)]
      exact f _ _ (s.rows k hk j hj)
    · rw [if_pos rfl, upd_ne (bD j hj), s.zero k h]
      exact eb j hj
  · rcases mem k hk with hk2 | rfl
    · rw [if_neg (ka k hk2)] at e
      rcases mem k' hk' with hk' | rfl
      · rw [if_neg (ka k' hk')] at e
        exact s.inj k hk2 j hj k' hk' j' hj' e
      · rw [if_pos rfl] at e
        have := s.rows k hk2 j hj
        rw [e, nb j' hj'] at this
        cases this
    · rw [if_pos rfl] at e
      rcases mem k' hk' with hk' | rfl
      · rw [if_neg (ka k' hk')] at e
        have := s.rows k' hk' j' hj'
        rw [← e, nb j hj] at this
        cases this
      · rw [if_pos rfl] at e
        exact ⟨rfl, bi j hj j' hj' e⟩
  · rw [List.nodup_append]
    refine ⟨s.nd, by simp, fun x hx c hc => ?_⟩
    rw [List.mem_singleton.mp hc]
    exact ka x hx
theorem rowPut_same (row : Int → Nat → List Int) (a : Int) (j : Nat) : rowPut row a j (row a j) = row := by
  funext a' j'
  unfold rowPut
  split
  · rename_i e
    rw [e.1, e.2]
  · rfl
theorem rowPut_twice (row : Int → Nat → List Int) (a : Int) (j : Nat) (r r' : List Int) : rowPut (rowPut row a j r) a j r' = rowPut row a j r' := by
  funext a' j'
  unfold rowPut
  split <;> rfl
end
section
variable {P : Program} {w : World} {K : PySem.W.Frag} {mg : Str → Option Value} {base : Heap}
def spStop : Sp := fun vs H Q _ => ∃ (D t c : Addr) (L n : Nat) (p : Pl) (a : Int) (xs as : List Int) (A : Int → Addr) (B : Int → Nat → Addr) (row : Int → Nat → List Int), vs = [.ref D, .ref t, .ref c, .int (L : Nat)] ∧ St L H D as A B row ∧ H t = some (.tup p.row) ∧ ansP p = some a ∧
  H c = some (.lst (xs.map V.int)) ∧ xs.length = n + 1 ∧ n ≤ L ∧ L ≤ 100 ∧ as.length ≤ 200 ∧ ¬ Fp L D as A B c ∧
  ∀ (as' : List Int) (A' : Int → Addr) (B' : Int → Nat → Addr) H', (∀ b o, H b = some o → ¬ Fp L D as A B b → H' b = some o) → (∀ b, Fp L D as' A' B' b → Fp L D as A B b ∨ H b = none) → (∀ k, k ∈ as' ↔ k ∈ as ∨ k = a) → St L H' D as' A' B' (rowPut row a n (bump 0 (row a n) xs)) → Q .non H'
theorem scStop : FnScope ["stopped", "state", "counts", "length", "answer", "row", "heads", "count", "used"] ["stopped", "state", "counts", "length"] (defScope sStop) := ⟨rfl, rfl, rfl, by decide +kernel, rfl, by decide +kernel, by decide +kernel⟩
theorem ok_stop {f : Addr} {fd : FuncData} (F : Fun K "add_stopped" "add_stopped" sStop f fd) (T : Names mg) (mE : mg "enumerate" = none) : FnOk P w K mg base CX0 1 f fd ["stopped", "state", "counts", "length"] spStop := by
  refine F.ok scStop (fun vs H Q E h => ?_) (fun cdv A outer s H vs Q E hr h => ?_)
  · obtain ⟨D, t, c, L, n, p, a, xs, as, A, B, row, rfl, _⟩ := h
    rfl
  · obtain ⟨D, t, c, L, n, p, a, xs, as, M, B, row, rfl, st, et, ea, ec, xl, hn, hL, has, nc, q⟩ := h
    have hu64 : A.units + 3 + 64 < cLine := hr.units
    have hu : A.units + 3 + 1 < cLine := by omega
    refine ⟨_, (pss_cons (ps_set (i := 4) scStop.nd rfl (.inl rfl) (pe_ifExp (pt_cmpR op_eq (pe_ix ix_tup (pv 1) pe_int (fun _ _ => rfl)) pe_str (nomark _)) (pe_un un_neg pe_int) (pe_ix ix_tup (pv 1) pe_int (fun _ _ => rfl))))
      (pss_cons (ps_if (pt_cmp (pc_dnotin hu (pv 4) (pv 0))) (pss_one (ps_dput hu (pv 0) (pv 4) (pe_lc (own := [("used", 8)]) (g := gName 8) (tt := tYes) rfl scStop.nd (pi_range1 rfl T.range (pa_cons (pe_op op_add (pv 3) pe_int) pa_nil)) (blkOk_by (N := ["stopped", "state", "counts", "length", "answer", "row", "heads", "count", "used"]) (sc := defScope sStop) (own := [("used", 8)]) (by decide +kernel)) (fun _ _ _ _ _ => (pg_name (i := 8) scStop.nd rfl (.inl rfl))) (fun _ _ _ _ _ => pts_nil) (fun _ _ _ _ _ => (pe_op op_rep (pe_lst (pa_cons pe_int pa_nil)) (pe_op op_add (pv 8) pe_int)))) rfl)) pss_nil)
      (pss_cons (ps_set (i := 5) scStop.nd rfl (.inl rfl) (pe_ix ix_list (pe_dget hu (pv 0) (pv 4) (fun _ _ => rfl)) (pe_op op_sub (pe_callB call_len_seq (by rfl) T.len PySem.boot_len (pa_cons (pv 2) pa_nil)) pe_int) (fun _ _ => rfl)))
      (pss_one (ps_for PassesOwn.never rfl (pi_enum (by rfl) mE (pa_cons (pv 2) pa_nil)) (pg_tup rfl (pgs_cons (pg_name (i := 6) scStop.nd rfl (.inl rfl)) (pgs_cons (pg_name (i := 7) scStop.nd rfl (.inl rfl)) pgs_nil))) (pss_one (ps_augS (pv 5) (pv 6) OPS.get_list (pv 7) ip_add set_list))))))), ?_⟩
    have line : sizeLine = 16777216 := by decide
    refine on (asg_tail (fun v H' => v = .int a ∧ H' = H) ?_ (fun tl => ?_))
    rotate_left
    · cases p with
      | toss x y => cases ea
      | fin m =>
        refine ⟨.ref t, rfl, t, _, 0, .str "end", rfl, rfl, SqT.of et, atI_nat (j := 0) rfl, rfl, _, rfl, ?_⟩
        rw [decide_eq_false str_never_end]
        refine iteF ⟨.ref t, rfl, t, _, 1, .int m, rfl, rfl, SqT.of et, atI_nat (j := 1) rfl, tl _ _ ⟨?_, rfl⟩⟩
        rw [Option.some.inj ea]
      | never =>
        refine ⟨.ref t, rfl, t, _, 0, .str "never", rfl, rfl, SqT.of et, atI_nat (j := 0) rfl, rfl, _, rfl, ?_⟩
        rw [decide_eq_true rfl]
        refine iteT ⟨_, rfl, tl _ _ ⟨?_, rfl⟩⟩
        rw [← Option.some.inj ea]
    · rintro v H0 ⟨rfl, rfl⟩
      dsimp only
      show tSeq _ _ _ ([some (V.ref D), some (V.ref t), some (V.ref c), some (V.int (L : Nat)), some (V.int a), none, none, none, none] : L2.St) _
      refine on (if_tail (fun σ H' => ∃ (as' : List Int) (M' : Int → Addr) (B' : Int → Nat → Addr), σ = [some (V.ref D), some (V.ref t), some (V.ref c), some (V.int (L : Nat)), some (V.int a), none, none, none, none] ∧ St L H' D as' M' B' row ∧ a ∈ as' ∧ (∀ k, k ∈ as' ↔ k ∈ as ∨ k = a) ∧ (∀ b o, H0 b = some o → b ≠ D → H' b = some o) ∧ ∀ b, Fp L D as' M' B' b → Fp L D as M B b ∨ H0 b = none) ?_ (fun tl => ?_))
      rotate_left
      · refine ⟨_, rfl, _, rfl, D, _, rfl, DGet.k (k := .inl a) st.at_, _, rfl, ?_⟩
        rw [kd_val]
        by_cases ha : a ∈ as
        · rw [if_pos ha]
          exact iteF (tl _ _ ⟨as, M, B, rfl, st, ha, fun k => ⟨.inl, fun h => by rcases h with h | rfl; exact h; exact ha⟩, fun b o e _ => e, fun b h => .inl h⟩)
        · rw [if_neg ha]
          refine iteT ⟨_, rfl, _, _, rfl, rfl, _, rfl, by omega, by omega, fun C nC => ?_⟩
          refine lc_range (lo := 0) (n := L + 1) (fun i Hx => ∃ b : Nat → Addr, Same H0 Hx ∧ Hx C = some (.lst ((List.range i).map fun j => .ref (b j))) ∧ ∀ j, j < i → H0 (b j) = none ∧ Hx (b j) = some (.lst ((List.replicate (j + 1) (0 : Int)).map V.int)) ∧ ∀ j', j' < i → b j = b j' → j = j') ⟨fun _ => D, Same.upd nC, upd_same, fun j h => absurd h (Nat.not_lt_zero _)⟩ ?_ ?_
          · rintro i Hx hi ⟨b, sx, eC, hb⟩
            refine ⟨rfl, by show 1 ≤ sizeLine; decide, fun Z nZ => ?_⟩
            have s1 := sx.trans (Same.upd (o := .lst [V.int 0]) nZ)
            have eC1 := (Same.upd (o := .lst [V.int 0]) nZ) _ _ eC
            have hb1 : ∀ j, j < i → upd Hx Z (.lst [V.int 0]) (b j) = some (.lst ((List.replicate (j + 1) (0 : Int)).map V.int)) := fun j hj => (Same.upd (o := .lst [V.int 0]) nZ) _ _ (hb j hj).2.1
            have eZ : upd Hx Z (.lst [V.int 0]) Z = some (.lst [V.int 0]) := upd_same
            change (_ : Hp → Prop) (upd Hx Z (.lst [V.int 0]))
            generalize upd Hx Z (.lst [V.int 0]) = H2 at s1 eC1 hb1 eZ ⊢
            refine ⟨_, rfl, _, _, rfl, rfl, Z, _, _, rfl, rfl, eZ, by omega, by omega, by show 1 * (0 + (i : Nat) + 1 : Int).toNat ≤ sizeLine; omega, fun p np => ?_⟩
            have ev : (List.replicate (0 + (i : Nat) + 1 : Int).toNat [V.int 0]).flatten = (List.replicate (i + 1) (0 : Int)).map V.int := by
              rw [show (0 + (i : Nat) + 1 : Int).toNat = i + 1 by omega, List.map_replicate]
              generalize i + 1 = k
              induction k with
              | zero => rfl
              | succ k ih => rw [List.replicate_succ, List.flatten_cons, ih]; rfl
            have s3 := s1.trans (Same.upd (o := .lst ((List.replicate (i + 1) (0 : Int)).map V.int)) np)
            have eC3 := (Same.upd (o := .lst ((List.replicate (i + 1) (0 : Int)).map V.int)) np) _ _ eC1
            have hb3 := fun j hj => (Same.upd (o := .lst ((List.replicate (i + 1) (0 : Int)).map V.int)) np) _ _ (hb1 j hj)
            have e3 : upd H2 p (.lst ((List.replicate (i + 1) (0 : Int)).map V.int)) p = some (.lst ((List.replicate (i + 1) (0 : Int)).map V.int)) := upd_same
            show ∃ acc, upd H2 p (.lst (List.replicate (0 + (i : Nat) + 1 : Int).toNat [V.int 0]).flatten) C = some (HO.lst acc) ∧ acc.length < sizeLine ∧ ∃ b : Nat → Addr, Same H0 (upd (upd H2 p (.lst (List.replicate (0 + (i : Nat) + 1 : Int).toNat [V.int 0]).flatten)) C (HO.lst (acc ++ [V.ref p]))) ∧ upd (upd H2 p (.lst (List.replicate (0 + (i : Nat) + 1 : Int).toNat [V.int 0]).flatten)) C (HO.lst (acc ++ [V.ref p])) C = some (HO.lst ((List.range (i + 1)).map fun j => V.ref (b j))) ∧ ∀ j, j < i + 1 → H0 (b j) = none ∧ upd (upd H2 p (.lst (List.replicate (0 + (i : Nat) + 1 : Int).toNat [V.int 0]).flatten)) C (HO.lst (acc ++ [V.ref p])) (b j) = some (.lst ((List.replicate (j + 1) (0 : Int)).map V.int)) ∧ ∀ j', j' < i + 1 → b j = b j' → j = j'
            rw [ev]
            have np0 : H0 p = none := s1.free np
            generalize upd H2 p (.lst ((List.replicate (i + 1) (0 : Int)).map V.int)) = H3 at s3 eC3 hb3 e3 ⊢
            have pC : p ≠ C := by
              rintro rfl
              rw [eC1] at np
              cases np
            have bp : ∀ j, j < i → b j ≠ p := fun j hj => ne_of_none (hb1 j hj) np
            have bC : ∀ j, j < i → b j ≠ C := fun j hj e => by
              have h := hb3 j hj
              rw [e, eC3] at h
              have h := HO.lst.inj (Option.some.inj h)
              have := congrArg List.head? h
              rw [List.head?_map, List.head?_map] at this
              cases i with
              | zero => exact absurd hj (Nat.not_lt_zero _)
              | succ i =>
                rw [List.range_succ_eq_map, List.replicate_succ] at this
                cases this
            refine ⟨_, eC3, by rw [List.length_map, List.length_range]; omega, fun j => if j = i then p else b j, fun x o e => ?_, ?_, fun j hj => ?_⟩
            · rw [upd_ne (ne_of_none e nC)]
              exact s3 _ _ e
            · rw [upd_same, List.range_succ, List.map_append]
              congr 3
              · refine List.map_congr_left fun j hj => ?_
                have := List.mem_range.mp hj
                show V.ref (b j) = V.ref (if j = i then p else b j)
                rw [if_neg (by omega)]
              · show [V.ref p] = [V.ref (if i = i then p else b i)]
                rw [if_pos rfl]
            · by_cases e : j = i
              · subst e
                simp only [if_true]
                refine ⟨np0, by rw [upd_ne pC]; exact e3, fun j' hj' e => ?_⟩
                by_cases e' : j' = j
                · exact e'.symm
                · rw [if_neg e'] at e
                  exact absurd e.symm (bp j' (by omega))
              · have hj2 : j < i := by omega
                simp only [if_neg e]
                refine ⟨(hb j hj2).1, by rw [upd_ne (bC j hj2)]; exact hb3 j hj2, fun j' hj' e2 => ?_⟩
                by_cases e' : j' = i
                · rw [if_pos e'] at e2
                  exact absurd e2 (bp j hj2)
                · rw [if_neg e'] at e2
                  exact (hb j hj2).2.2 j' (by omega) e2
          · rintro Hx ⟨b, sx, eC, hb⟩
            have hC0 : H0 C = none := nC
            refine ⟨_, rfl, _, rfl, D, _, rfl, DPut.k (k := .inl a) (sx _ _ st.at_) (by rw [kd_len]; omega), ?_⟩
            have sa := st.add (H' := Hx) ha (p := C) (b := b) sx nC (fun j hj => (hb j (by omega)).1) eC (fun j hj => (hb j (by omega)).2.1) (fun j hj j' hj' e => (hb j (by omega)).2.2 j' (by omega) e)
            refine tl _ _ ⟨as ++ [a], _, _, rfl, sa, List.mem_append_right _ List.mem_cons_self, fun k => by rw [List.mem_append, List.mem_singleton], fun x o e n => ?_, fun x hx => ?_⟩
            · rw [upd_ne n]
              exact sx _ _ e
            · have ka : ∀ k ∈ as, k ≠ a := fun k hk e => ha (e ▸ hk)
              rcases hx with rfl | ⟨k, hk, h⟩
              · exact .inl (.inl rfl)
              · replace h : x = (if k = a then C else M k) ∨ ∃ j, j ≤ L ∧ x = (if k = a then b else B k) j := h
                rcases List.mem_append.mp hk with hk | hk
                · rw [if_neg (ka k hk), if_neg (ka k hk)] at h
                  exact .inl (.inr ⟨k, hk, h⟩)
                · rw [if_pos (List.mem_singleton.mp hk), if_pos (List.mem_singleton.mp hk)] at h
                  rcases h with rfl | ⟨j, hj, rfl⟩
                  · exact .inr nC
                  · exact .inr (hb j (by omega)).1
      · rintro σ H1 ⟨as', M', B', rfl, st1, ha, hk1, fr1, fp1⟩
        have ec1 : H1 c = some (.lst (xs.map V.int)) := fr1 _ _ ec (fun e => nc (.inl e))
        have hI : (((xs.map V.int).length : Nat) : Int) - 1 = ((n : Nat) : Int) := by rw [List.length_map, xl]; omega
        have ncB : ∀ j, j ≤ L → c ≠ B' a j := fun j hj e => by
          rcases fp1 c (.inr ⟨a, ha, .inr ⟨j, hj, e⟩⟩) with h | h
          · exact nc h
          · rw [ec] at h
            cases h
        refine ⟨_, rfl, _, rfl, D, _, rfl, by rw [show some (V.ref (M' a)) = valV (kd as' fun k => V.ref (M' k)) (.inl a) by rw [kd_val, if_pos ha]]; exact DGet.k (k := .inl a) st1.at_, _, rfl, c, _, rfl, .inl (SqL.of ec1), _, _, rfl, rfl, M' a, _, _, .ref (B' a n), rfl, rfl, SqL.of (st1.lists a ha), by rw [hI]; exact atI_nat (by rw [List.getElem?_map, List.getElem?_range (by omega)]; rfl), ?_⟩
        refine ⟨_, rfl, c, _, rfl, SqL.of ec1, ?_⟩
        refine for_it (walk_enum (K := K) (a := c) (xs := xs.map V.int)) (fun l σ H' => ∃ (v6 v7 : Option V), σ = [some (V.ref D), some (V.ref t), some (V.ref c), some (V.int (L : Nat)), some (V.int a), some (V.ref (B' a n)), v6, v7, none] ∧ St L H' D as' M' B' (rowPut row a n (bump 0 (row a n) (xs.take l))) ∧ H' c = some (.lst (xs.map V.int)) ∧ ∀ b o, H0 b = some o → ¬ Fp L D as M B b → H' b = some o)
          ⟨none, none, rfl, by rw [List.take_zero, bump_nil, rowPut_same]; exact st1, ec1, fun b o e nf => fr1 b o e (fun z => nf (.inl z))⟩ (fun l σ H' _ ⟨_, _, _, _, h, _⟩ => SqL.of h) ?_ ?_
        · rintro l xx σ H7 H7' hl' ⟨v6, v7, rfl, g7, f7, fr7⟩ ⟨T1, x1, y1, rfl, nT1, rfl, ex1, ey1⟩
          have ex1 := Option.some.inj ex1
          subst ex1
          rw [List.length_map, xl] at hl'
          obtain ⟨z, hz, rfl⟩ : ∃ z, xs[l]? = some z ∧ V.int z = y1 := by
            replace ey1 : (List.map V.int xs)[l]? = some y1 := ey1
            rw [List.getElem?_map] at ey1
            obtain ⟨z, h1, h2⟩ := Option.map_eq_some_iff.mp ey1
            exact ⟨z, h1, h2⟩
          have sT := Same.upd (o := .tup [V.int (l : Nat), .int z]) nT1
          have g8 := g7.same sT
          have f8 := sT _ _ f7
          have fr8 := fun b o e nf => sT _ _ (fr7 b o e nf)
          have e8 : upd H7 T1 (.tup [V.int (l : Nat), .int z]) T1 = some (.tup [V.int (l : Nat), .int z]) := upd_same
          generalize upd H7 T1 (.tup [V.int (l : Nat), .int z]) = H8 at g8 f8 fr8 e8 ⊢
          have rl : (row a n).length = n + 1 := st.len a n
          have hrow := g8.rows a ha n hn
          rw [show rowPut row a n (bump 0 (row a n) (xs.take l)) a n = bump 0 (row a n) (xs.take l) from if_pos ⟨rfl, rfl⟩] at hrow
          have off : l + 0 < (row a n).length := by omega
          obtain ⟨u, hu'⟩ : ∃ u, (bump 0 (row a n) (xs.take l))[l]? = some u := ⟨_, List.getElem?_eq_getElem (by rw [bump_len]; exact off)⟩
          refine ⟨T1, _, rfl, SqT.of e8, rfl, _, _, rfl, _, _, rfl, rfl, _, rfl, _, rfl, B' a n, _, l, .int u, rfl, rfl, SqL.of hrow, by rw [List.getElem?_map, hu']; rfl, _, rfl, _, _, rfl, rfl, B' a n, _, _, l, rfl, rfl, hrow, by rw [List.length_map, bump_len]; exact ixN_nat off, ?_⟩
          have step := bump_step (off := 0) (row := row a n) hz off hu'
          have g9 := g8.put ha hn (r := bump 0 (row a n) (xs.take (l + 1))) (by rw [bump_len]; exact rl)
          rw [rowPut_twice] at g9
          have es : (List.map V.int (bump 0 (row a n) (xs.take l))).set l (V.int (u + z)) = (bump 0 (row a n) (xs.take (l + 1))).map V.int := by rw [← step, List.map_set]; rfl
          refine ⟨_, _, rfl, ?_, ?_, fun b o e nf => ?_⟩
          · rw [es]
            exact g9
          · rw [upd_ne (ncB n hn)]
            exact f8
          · have : b ≠ B' a n := fun q => by
              rcases fp1 b (.inr ⟨a, ha, .inr ⟨n, hn, q⟩⟩) with h | h
              · exact nf h
              · rw [e] at h
                cases h
            rw [upd_ne this]
            exact fr8 b o e nf
        · rintro σ H7 ⟨v6, v7, rfl, g7, f7, fr7⟩
          rw [List.length_map, List.take_length] at g7
          exact q as' M' B' H7 fr7 fp1 hk1 g7
end
end Z

set_option Elab.async false
set_option linter.all false
set_option maxRecDepth 100000
set_option maxHeartbeats 4000000
namespace Z
open PySem PySem.Spec PyProof.Rows L2 GG DCX
abbrev sCount : Stmt := top 2
/-! ### all tapes counted -/
def stP (ps : List Pl) (a : Int) (r : List Bool) : Bool := match ats ps r with
  | some k => decide (ansP (place ps k) = some a)
  | none => false
def stK (ps : List Pl) (ks : List Int) (a : Int) (r : List Bool) : Bool := match ats ps r with
  | some k => decide (k ∈ ks) && decide (ansP (place ps k) = some a)
  | none => false
theorem stK_nil (ps : List Pl) (n : Nat) (a : Int) : cnt n (stK ps [] a) = List.replicate (n + 1) 0 := cnt_zero fun r _ => by
  unfold stK
  cases ats ps r with
  | none => rfl
  | some k => simp
theorem stK_hit {ps : List Pl} {n : Nat} {ks : List Int} {k a : Int} (hk : k ∉ ks) (ha : ansP (place ps k) = some a) : bump 0 (cnt n (stK ps ks a)) (cnt n (gP ps k)) = cnt n (stK ps (ks ++ [k]) a) := by
  refine bump_cnt0 fun r _ => ?_
  unfold stK gP
  cases e : ats ps r with
  | none => simp
  | some k' =>
    by_cases h : k' = k
    · subst h
      simp [ha, hk]
    · simp [h]
theorem stK_miss {ps : List Pl} {n : Nat} {ks : List Int} {k a : Int} (ha : ansP (place ps k) ≠ some a) : cnt n (stK ps (ks ++ [k]) a) = cnt n (stK ps ks a) := cnt_congr fun r _ => by
  unfold stK
  cases e : ats ps r with
  | none => rfl
  | some k' =>
    by_cases h : k' = k
    · subst h
      simp [ha]
    · simp [h]
theorem stK_all {ps : List Pl} {n : Nat} {ks : List Int} (a : Int) (h : ∀ k, k ∈ ks ↔ Lv ps n k) : cnt n (stK ps ks a) = cnt n (stP ps a) := cnt_congr fun r hr => by
  unfold stK stP
  cases e : ats ps r with
  | none => rfl
  | some k =>
    have := (h k).mpr ⟨r, hr, e⟩
    simp [this]
def rowS (ps : List Pl) (n : Nat) (ks : List Int) (a : Int) (j : Nat) : List Int := if j < n then cnt j (stP ps a) else if j = n then cnt n (stK ps ks a) else List.replicate (j + 1) 0
theorem rowS_zero (ps : List Pl) (a : Int) (j : Nat) : rowS ps 0 [] a j = List.replicate (j + 1) 0 := by
  unfold rowS
  rw [if_neg (Nat.not_lt_zero j)]
  split
  · rename_i e
    rw [e, stK_nil]
  · rfl
theorem rowS_next {ps : List Pl} {n : Nat} {ks : List Int} (h : ∀ k, k ∈ ks ↔ Lv ps n k) : rowS ps n ks = rowS ps (n + 1) [] := by
  funext a j
  unfold rowS
  rcases Nat.lt_trichotomy j n with l | rfl | l
  · rw [if_pos l, if_pos (by omega)]
  · rw [if_neg (Nat.lt_irrefl j), if_pos rfl, if_pos (by omega)]
    exact stK_all a h
  · rw [if_neg (by omega), if_neg (by omega), if_neg (by omega)]
    split
    · rename_i e
      rw [e, stK_nil]
    · rfl
theorem rowS_stop {ps : List Pl} {n : Nat} {ks : List Int} {k a : Int} (hk : k ∉ ks) (ha : ansP (place ps k) = some a) : rowPut (rowS ps n ks) a n (bump 0 (rowS ps n ks a n) (cnt n (gP ps k))) = rowS ps n (ks ++ [k]) := by
  funext a' j
  unfold rowPut
  by_cases e : a' = a ∧ j = n
  · obtain ⟨rfl, rfl⟩ := e
    rw [if_pos ⟨rfl, rfl⟩]
    unfold rowS
    rw [if_neg (Nat.lt_irrefl j), if_pos rfl, if_neg (Nat.lt_irrefl j), if_pos rfl]
    exact stK_hit hk ha
  · rw [if_neg e]
    unfold rowS
    split
    · rfl
    · split
      · rename_i e'
        rw [stK_miss]
        intro q
        rw [ha] at q
        exact e ⟨(Option.some.inj q).symm, e'⟩
      · rfl
theorem rowS_toss {ps : List Pl} {n : Nat} {ks : List Int} {k : Int} (ha : ansP (place ps k) = none) : rowS ps n (ks ++ [k]) = rowS ps n ks := by
  funext a' j
  unfold rowS
  split
  · rfl
  · split
    · rw [stK_miss]
      rw [ha]
      intro q
      cases q
    · rfl
/-- what is told of the tapes of up to L tosses: C the ended, T the going -/
structure Told (ps : List Pl) (L : Nat) (H : Hp) (C T : Addr) (as : List Int) (AC : Int → Addr) (BC : Int → Nat → Addr) (ts : List Int) (AT : Int → Addr) : Prop where
  c : H C = some (.dK (kd as fun a => .ref (AC a)))
  cr : ∀ a ∈ as, H (AC a) = some (.tup ((List.range (L + 1)).map fun j => .ref (BC a j)))
  cb : ∀ a ∈ as, ∀ j, j ≤ L → H (BC a j) = some (.tup ((cnt j (stP ps a)).map V.int))
  cn : as.Nodup
  ck : ∀ a, a ∈ as ↔ ∃ j k, j ≤ L ∧ Lv ps j k ∧ ansP (place ps k) = some a
  t : H T = some (.dK (kd ts fun k => .ref (AT k)))
  tr : ∀ k ∈ ts, H (AT k) = some (.tup ((cnt L (gP ps k)).map V.int))
  tn : ts.Nodup
  tk : ∀ k, k ∈ ts ↔ Lv ps L k ∧ (place ps k).tosses = true
theorem Told.same {ps : List Pl} {L : Nat} {H H' : Hp} {C T : Addr} {as : List Int} {AC : Int → Addr} {BC : Int → Nat → Addr} {ts : List Int} {AT : Int → Addr} (h : Told ps L H C T as AC BC ts AT) (s : Same H H') : Told ps L H' C T as AC BC ts AT :=
  ⟨s _ _ h.c, fun a ha => s _ _ (h.cr a ha), fun a ha j hj => s _ _ (h.cb a ha j hj), h.cn, h.ck, s _ _ h.t, fun k hk => s _ _ (h.tr k hk), h.tn, h.tk⟩
theorem lv_zero {ps : List Pl} {k : Int} : Lv ps 0 k ↔ k = 0 := by
  constructor
  · rintro ⟨r, hr, e⟩
    obtain rfl : r = [] := List.eq_nil_of_length_eq_zero hr
    exact (Option.some.inj e).symm
  · rintro rfl
    exact ⟨[], rfl, rfl⟩
theorem ans_toss {p : Pl} : ansP p = none ↔ p.tosses = true := by
  cases p <;> simp [ansP, Pl.tosses]
theorem cnt_zero_at (ps : List Pl) : cnt 0 (gP ps 0) = [1] := by
  unfold cnt gP tps
  rfl
def ansOk (x : Int) : Prop := -1 ≤ x ∧ x < 100
theorem ans_ok {ps : List Pl} (hw : WF ps) {k x : Int} (hk : In ps k) (h : ansP (place ps k) = some x) : ansOk x := by
  obtain ⟨p, hp, okp⟩ := hw.get hk.1 hk.2
  rw [place_get hp] at h
  cases p with
  | toss a b => cases h
  | fin n =>
    cases h
    exact ⟨by have := okp.1; omega, okp.2⟩
  | never =>
    cases h
    exact ⟨by omega, by omega⟩
theorem ans_few {as : List Int} (nd : as.Nodup) (h : ∀ a ∈ as, ansOk a) : as.length ≤ 101 := by
  have h2 := nodup_len 101 (as.map (· + 1)) (by
    rw [List.nodup_iff_pairwise_ne] at nd ⊢
    exact List.pairwise_map.mpr (nd.imp fun {a b} h e => h (by omega))) fun x hx => by
      obtain ⟨a, ha, rfl⟩ := List.mem_map.mp hx
      have := h a ha
      unfold ansOk at this
      omega
  rwa [List.length_map] at h2
section
variable {P : Program} {w : World} {K : PySem.W.Frag} {mg : Str → Option Value} {base : Heap}
def spCount : Sp := fun vs H Q _ => ∃ (m : Addr) (L : Nat) (ps : List Pl), vs = [.ref m, .int (L : Nat)] ∧ Mach H m ps ∧ WF ps ∧ L ≤ 50 ∧
  ∀ (R C T : Addr) (as : List Int) (AC : Int → Addr) (BC : Int → Nat → Addr) (ts : List Int) (AT : Int → Addr) H', Same H H' → H R = none → H C = none → H T = none → C ≠ T → H' R = some (.tup [.ref C, .ref T]) → Told ps L H' C T as AC BC ts AT → Q (.ref R) H'
theorem scCount : FnScope ["machine", "length", "stopped", "going", "used", "tossing", "index", "counts", "answer", "row"] ["machine", "length"] (defScope sCount) := ⟨rfl, rfl, rfl, by decide +kernel, rfl, by decide +kernel, by decide +kernel⟩
theorem ok_count {f g o a : Addr} {fd gd od ad : FuncData} (F : Fun K "count_tapes" "count_tapes" sCount f fd) (T : Names mg) (GT : FnOk P w K mg base CX0 1 g gd ["state"] spToss) (PT_ : Def K mg "is_toss" g gd ["state"])
    (GO : FnOk P w K mg base CX0 1 o od ["machine", "tossing", "used"] spOnce) (PO_ : Def K mg "toss_once" o od ["machine", "tossing", "used"]) (GA : FnOk P w K mg base CX0 1 a ad ["stopped", "state", "counts", "length"] spStop) (PA_ : Def K mg "add_stopped" a ad ["stopped", "state", "counts", "length"]) :
    FnOk P w K mg base CX0 2 f fd ["machine", "length"] spCount := by
  refine F.ok scCount (fun vs H Q E h => ?_) (fun cdv A outer s H vs Q E hr h => ?_)
  · obtain ⟨m, L, ps, rfl, _⟩ := h
    rfl
  · obtain ⟨m, L, ps, rfl, hm, hw, hL, q⟩ := h
    have hu64 : A.units + 3 + 64 < cLine := hr.units
    have hu : A.units + 3 + 1 < cLine := by omega
    refine ⟨_, (pss_cons (ps_set (i := 2) scCount.nd rfl (.inr rfl) pe_dnewK)
      (pss_cons (ps_set (i := 3) scCount.nd rfl (.inl rfl) (pe_disp (pps_cons pe_int (pe_lst (pa_cons pe_int pa_nil)) pps_nil) (by rfl) (by rfl) (fun z => by cases z) (by decide)))
      (pss_cons (ps_for PassesOwn.never rfl (pi_range1 rfl T.range (pa_cons (pe_op op_add (pv 1) pe_int) pa_nil)) (pg_name (i := 4) scCount.nd rfl (.inl rfl)) (pss_cons (ps_set (i := 5) scCount.nd rfl (.inr rfl) pe_dnewK)
      (pss_cons (ps_lock (ps_for PassesOwn.never rfl (pi_keys (pv 3)) (pg_name (i := 6) scCount.nd rfl (.inl rfl)) (pss_one (ps_if (pt_val (pe_call GT (hr.mono (by decide)) (by rfl) PT_.is PT_.kp PT_.bi .nil pass0 (pa_cons (pe_ix ix_tup (pv 0) (pv 6) (fun _ _ => rfl)) pa_nil))) (pss_one (ps_dput hu (pv 5) (pv 6) (pe_dget hu (pv 3) (pv 6) (fun _ _ => rfl)) rfl)) (pss_one (ps_expr (pe_call GA (hr.mono (by decide)) (by rfl) PA_.is PA_.kp PA_.bi .nil pass0 (pa_cons (pv 2) (pa_cons (pe_ix ix_tup (pv 0) (pv 6) (fun _ _ => rfl)) (pa_cons (pe_dget hu (pv 3) (pv 6) (fun _ _ => rfl)) (pa_cons (pv 1) pa_nil)))))))))))
      (pss_one (ps_if (pt_cmpR op_lt (pv 4) (pv 1) (nomark _)) (pss_one (ps_set (i := 3) scCount.nd rfl (.inl rfl) (pe_call GO (hr.mono (by decide)) (by rfl) PO_.is PO_.kp PO_.bi .nil pass0 (pa_cons (pv 0) (pa_cons (pv 5) (pa_cons (pv 4) pa_nil)))))) pss_nil)))))
      (pss_cons (ps_lock (ps_setDc (i := 7) (own := [("answer", 8)]) (g := gName 8) (tt := tYes) rfl scCount.nd rfl rfl (sw_trueD rfl rfl rfl (by decide +kernel)) (pi_keys (pv 2)) (blkOk_by (N := ["machine", "length", "stopped", "going", "used", "tossing", "index", "counts", "answer", "row"]) (sc := defScope sCount) (own := [("answer", 8)]) (by decide +kernel)) (fun _ _ _ _ _ => (pg_name (i := 8) scCount.nd rfl (.inl rfl))) (fun _ _ _ _ _ => pts_nil) (fun _ _ _ _ _ => (pv 8)) (fun _ _ _ _ _ => (pe_callTy (KX.call_tupK (K := K) rfl) (by rfl) T.tuple (by decide +kernel) (pa_cons (pe_lc (own := [("row", 9)]) (g := gName 9) (tt := tYes) rfl scCount.nd (KX.pi_listK (K := K) rfl (pe_dget hu (pv 2) (pv 8) (fun _ _ => rfl))) (blkOk_by (N := ["machine", "length", "stopped", "going", "used", "tossing", "index", "counts", "answer", "row"]) (own := [("row", 9)]) (by kernel_rfl)) (fun _ _ _ _ _ => (pg_name (i := 9) scCount.nd rfl (.inl rfl))) (fun _ _ _ _ _ => pts_nil) (fun _ _ _ _ _ => (pe_callTy (KX.call_tupK (K := K) rfl) (by rfl) T.tuple (by decide +kernel) (pa_cons (pv 9) pa_nil)))) pa_nil)))))
      (pss_one (ps_ret (pe_tup (pa_cons (pv 7) (pa_cons (pe_lock (pe_dc (own := [("index", 6)]) (g := gName 6) (tt := tYes) rfl scCount.nd (pi_keys (pv 5)) (blkOk_by (N := ["machine", "length", "stopped", "going", "used", "tossing", "index", "counts", "answer", "row"]) (sc := defScope sCount) (own := [("index", 6)]) (by decide +kernel)) (fun _ _ _ _ _ => (pg_name (i := 6) scCount.nd rfl (.inl rfl))) (fun _ _ _ _ _ => pts_nil) (fun _ _ _ _ _ => (pv 6)) (fun _ _ _ _ _ => (pe_callTy (KX.call_tupK (K := K) rfl) (by rfl) T.tuple (by decide +kernel) (pa_cons (pe_dget hu (pv 5) (pv 6) (fun _ _ => rfl)) pa_nil))))) pa_nil))))))))), ?_⟩
    have line : sizeLine = 16777216 := by decide
    have hl := hw.le
    -- stopped = {}; going = {0: [1]}
    refine fun D nD => ?_
    have s1 : Same H (upd H D (.dK [])) := Same.upd nD
    have eD1 : upd H D (.dK []) D = some (.dK []) := upd_same
    change (_ : Hp → Prop) (upd H D (.dK []))
    generalize upd H D (.dK []) = H1 at s1 eD1 ⊢
    refine fun G nG => ⟨by show 1 ≤ sizeLine; decide, fun t nt => ⟨(Same.upd nt) _ _ upd_same, [(.inl 0, .ref t)], rfl, by show 1 ≤ 15; decide, ?_⟩⟩
    have DG : D ≠ G := ne_of_none eD1 nG
    have tG : t ≠ G := by
      rintro rfl
      rw [upd_same] at nt
      cases nt
    have nG0 : H G = none := s1.free nG
    have nt1 : H1 t = none := by rw [upd_ne tG] at nt; exact nt
    have s2 : Same H1 (upd (upd (upd H1 G (.dK [])) t (.lst [V.int 1])) G (.dK (mergeK [] [(.inl 0, .ref t)]))) := fun b o e => by
      rw [upd_ne (ne_of_none e nG), upd_ne (ne_of_none e nt1), upd_ne (ne_of_none e nG)]
      exact e
    have eG2 : upd (upd (upd H1 G (.dK [])) t (.lst [V.int 1])) G (.dK (mergeK [] [(.inl 0, .ref t)])) G = some (.dK (kd [0] fun _ => .ref t)) := by rw [upd_same]; rfl
    have et2 : upd (upd (upd H1 G (.dK [])) t (.lst [V.int 1])) G (.dK (mergeK [] [(.inl 0, .ref t)])) t = some (.lst ([(1 : Int)].map V.int)) := by
      rw [upd_ne tG, upd_same]
      rfl
    change (_ : Hp → Prop) (upd (upd (upd H1 G (.dK [])) t (.lst [V.int 1])) G (.dK (mergeK [] [(.inl 0, .ref t)])))
    have eD2 := s2 _ _ eD1
    replace s2 := s1.trans s2
    generalize upd (upd (upd H1 G (.dK [])) t (.lst [V.int 1])) G (.dK (mergeK [] [(.inl 0, .ref t)])) = H2 at s2 eG2 et2 eD2 ⊢
    have tD : t ≠ D := by
      rintro rfl
      rw [eD1] at nt1
      cases nt1
    have st0 : St L H2 D [] (fun _ => D) (fun _ _ => D) (rowS ps 0 []) := ⟨eD2, fun a h => (List.not_mem_nil h).elim, fun a h => (List.not_mem_nil h).elim, fun a h => (List.not_mem_nil h).elim, .nil, fun a _ j => rowS_zero ps a j, fun a j => by rw [rowS_zero]; simp⟩
    have fp0 : ∀ b, Fp L D [] (fun _ => D) (fun _ _ => D) b → b = D := fun b h => by
      rcases h with h | ⟨a, h, _⟩
      · exact h
      · exact (List.not_mem_nil h).elim
    refine ⟨_, rfl, _, _, rfl, rfl, _, rfl, by omega, by omega, for_range (lo := 0) (n := L + 1) (fun i σ H' => ∃ (v4 v5 v6 : Option V) (G : Addr) (ks : List Int) (Ag : Int → Addr) (as : List Int) (M : Int → Addr) (B : Int → Nat → Addr), σ = [some (V.ref m), some (V.int (L : Nat)), some (V.ref D), some (V.ref G), v4, v5, v6, none, none, none] ∧ Same H H' ∧ St L H' D as M B (rowS ps i []) ∧ (∀ b, Fp L D as M B b → H b = none) ∧ (∀ a, a ∈ as ↔ ∃ j k, j < i ∧ Lv ps j k ∧ ansP (place ps k) = some a) ∧
        (i ≤ L → H G = none ∧ Gd ps i H' G ks Ag ∧ (∀ k, k ∈ ks ↔ Lv ps i k) ∧ ¬ Fp L D as M B G ∧ ∀ k ∈ ks, ¬ Fp L D as M B (Ag k)) ∧
        (i = L + 1 → ∃ (T : Addr) (ts : List Int) (AT : Int → Addr), v5 = some (.ref T) ∧ T ≠ D ∧ H' T = some (.dK (kd ts fun k => .ref (AT k))) ∧ ts.Nodup ∧ (∀ k ∈ ts, H' (AT k) = some (.lst ((cnt L (gP ps k)).map V.int))) ∧ ∀ k, k ∈ ts ↔ Lv ps L k ∧ (place ps k).tosses = true))
      ⟨none, none, none, G, [0], fun _ => t, [], _, _, rfl, s2, st0, fun b h => by rw [fp0 b h]; exact nD, fun a => ⟨fun h => (List.not_mem_nil h).elim, fun ⟨j, k, h, _⟩ => absurd h (Nat.not_lt_zero _)⟩, fun _ => ⟨nG0, ⟨eG2, fun k hk => by rw [List.mem_singleton.mp hk, cnt_zero_at]; exact et2, by simp⟩, fun k => by rw [lv_zero, List.mem_singleton], fun h => DG (fp0 _ h).symm, fun k _ h => tD (fp0 _ h)⟩, fun h => by cases h⟩ ?_ ?_⟩
    · rintro i σ H3 hi ⟨v4, v5, v6, G, ks, Ag, as, M, B, rfl, s3, st3, fp3, as3, hgo, -⟩
      obtain ⟨nG0, gd, hks, nfG, nfA⟩ := hgo (by omega)
      rw [show (0 : Int) + (i : Nat) = ((i : Nat) : Int) from Int.zero_add _]
      refine fun T nT => ?_
      have sT := Same.upd (o := .dK []) nT
      have eT4 : upd H3 T (.dK []) T = some (.dK []) := upd_same
      have nT0 : H T = none := s3.free nT
      have TG : G ≠ T := ne_of_none gd.at_ nT
      have nfT : ¬ Fp L D as M B T := fun h => st3.live h nT
      have nAT : ∀ k ∈ ks, Ag k ≠ T := fun k hk => ne_of_none (gd.rows k hk) nT
      change (_ : Hp → Prop) (upd H3 T (.dK []))
      have s4 := s3.trans sT
      have st4 := st3.same sT
      have gG4 := sT _ _ gd.at_
      have gr4 := fun k hk => sT _ _ (gd.rows k hk)
      generalize upd H3 T (.dK []) = H4 at s4 st4 gG4 gr4 eT4 ⊢
      refine ⟨G, _, gG4, trivial, fun od => ?_⟩
      have nG : ∀ b o, H b = some o → b ≠ G := fun b o e => ne_of_none e nG0
      have AG : ∀ k ∈ ks, Ag k ≠ G := fun k hk => ne_of (gr4 k hk) gG4 (by intro z; cases z)
      have ln := fun b (h : b ≠ G) => upd_ne (H := H4) (o := .frz od (.dK (kd ks fun k => .ref (Ag k)))) h
      have eG5 : upd H4 G (.frz od (.dK (kd ks fun k => .ref (Ag k)))) G = some (.frz od (.dK (kd ks fun k => .ref (Ag k)))) := upd_same
      generalize upd H4 G (.frz od (.dK (kd ks fun k => .ref (Ag k)))) = H5 at ln eG5 ⊢
      have s5 : Same H H5 := fun b o e => by rw [ln b (nG b o e)]; exact s4 _ _ e
      have st5 : St L H5 D as M B (rowS ps i []) := st4.more fun b o e f => by rw [ln b (fun q => nfG (q ▸ f))]; exact e
      have eT5 : H5 T = some (.dK (kd [] fun k => .ref (Ag k))) := by rw [ln T TG.symm]; exact eT4
      have gr5 : ∀ k ∈ ks, H5 (Ag k) = some (.lst ((cnt i (gP ps k)).map V.int)) := fun k hk => by rw [ln _ (AG k hk)]; exact gr4 k hk
      have hln : ks.length ≤ 30 := Nat.le_trans (nodup_len ps.length ks gd.nd fun k hk => ((hks k).mp hk).inn hw) hw.le
      refine ⟨_, rfl, G, od, rfl, .inl ⟨_, eG5, for_it walk_keys (fun l σ H' => ∃ (v6 : Option V) (as' : List Int) (M : Int → Addr) (B : Int → Nat → Addr), σ = [some (V.ref m), some (V.int (L : Nat)), some (V.ref D), some (V.ref G), some (V.int (i : Nat)), some (V.ref T), v6, none, none, none] ∧ Same H H' ∧ H' G = some (.frz od (.dK (kd ks fun k => .ref (Ag k)))) ∧ (∀ k ∈ ks, H' (Ag k) = some (.lst ((cnt i (gP ps k)).map V.int))) ∧ H' T = some (.dK (kd ((ks.take l).filter fun k => (place ps k).tosses) fun k => .ref (Ag k))) ∧ St L H' D as' M B (rowS ps i (ks.take l)) ∧ (∀ b, Fp L D as' M B b → H b = none) ∧ ¬ Fp L D as' M B G ∧ ¬ Fp L D as' M B T ∧ (∀ k ∈ ks, ¬ Fp L D as' M B (Ag k)) ∧ ∀ a, a ∈ as' ↔ a ∈ as ∨ ∃ k ∈ ks.take l, ansP (place ps k) = some a)
        ⟨_, as, M, B, rfl, s5, eG5, gr5, eT5, st5, fp3, nfG, nfT, nfA, fun a => ⟨.inl, fun h => h.elim id fun ⟨k, h, _⟩ => (List.not_mem_nil h).elim⟩⟩ (fun l σ H' _ ⟨_, _, _, _, _, _, h, _⟩ => h) ?_ ?_⟩⟩
      · rintro l x σ H6 H6' hl6 ⟨v6, as', M, B, rfl, s6, eG6, gr6, eT6, st6, fp6, nfG, nfT, nfA, as6⟩ ⟨rfl, kk, vv, hkk, rfl⟩
        obtain ⟨k, hk, rfl, rfl⟩ := kd_get hkk
        have hkm : k ∈ ks := List.mem_of_getElem? hk
        have hlv := (hks k).mp hkm
        have hkin := hlv.inn hw
        obtain ⟨rs, tt, em, ea, et⟩ := (hm.same s6).at hw hkin.1 hkin.2
        have tk : ks.take (l + 1) = ks.take l ++ [k] := by rw [List.take_succ, hk]; rfl
        have nk : k ∉ ks.take l := fun h => by
          have nd := gd.nd.sublist (List.take_sublist (l + 1) ks)
          rw [tk, List.nodup_append] at nd
          exact nd.2.2 k h k List.mem_cons_self rfl
        have dget : DGet H6' G (.int k) (some (.ref (Ag k))) := .inl ⟨_, .inl k, .inr ⟨od, eG6⟩, rfl, by rw [kd_val, if_pos hkm]⟩
        refine ⟨_, rfl, _, rfl, m, rs, k, .ref tt, rfl, rfl, SqT.of em, ea, tt, place ps k, rfl, et, _, rfl, ?_⟩
        cases htos : (place ps k).tosses with
        | true =>
          have ha : ansP (place ps k) = none := ans_toss.mpr htos
          have fl : ((ks.take (l + 1)).filter fun k => (place ps k).tosses) = ((ks.take l).filter fun k => (place ps k).tosses) ++ [k] := by
            rw [tk, List.filter_append]
            congr 1
            exact List.filter_cons_of_pos htos
          refine iteT ⟨_, rfl, _, rfl, G, _, rfl, dget, _, rfl, _, rfl, T, _, rfl, DPut.k (k := .inl k) eT6 (by rw [kd_len]; have := List.length_filter_le (fun k => (place ps k).tosses) (ks.take l); rw [List.length_take] at this; omega), ?_⟩
          refine ⟨_, as', M, B, rfl, fun b o e => ?_, ?_, fun k' hk' => ?_, ?_, ?_, fp6, nfG, nfT, nfA, fun a => ?_⟩
          · rw [upd_ne (ne_of_none e nT0)]
            exact s6 _ _ e
          · rw [upd_ne TG]
            exact eG6
          · rw [upd_ne (nAT k' hk')]
            exact gr6 k' hk'
          · rw [upd_same, kd_new (fun h => nk (List.mem_filter.mp h).1), fl]
            refine congrArg (fun x => some (HO.dK x)) (kd_congr fun z _ => ?_)
            unfold ov
            split
            · rename_i e
              rw [e]
            · rfl
          · rw [tk, rowS_toss ha]
            exact st6.more fun b o e f => by rw [upd_ne (show b ≠ T from fun q => nfT (q ▸ f))]; exact e
          · rw [as6, tk]
            constructor
            · rintro (h | ⟨k', h1, h2⟩)
              · exact .inl h
              · exact .inr ⟨k', List.mem_append_left _ h1, h2⟩
            · rintro (h | ⟨k', h1, h2⟩)
              · exact .inl h
              · rcases List.mem_append.mp h1 with h1 | h1
                · exact .inr ⟨k', h1, h2⟩
                · rw [List.mem_singleton.mp h1, ha] at h2
                  cases h2
        | false =>
          obtain ⟨a, ha⟩ : ∃ a, ansP (place ps k) = some a := Option.ne_none_iff_exists'.mp fun h => by rw [ans_toss.mp h] at htos; cases htos
          have fl : ((ks.take (l + 1)).filter fun k => (place ps k).tosses) = ((ks.take l).filter fun k => (place ps k).tosses) := by
            rw [tk, List.filter_append, List.filter_cons_of_neg (by rw [htos]; decide)]
            exact List.append_nil _
          have asok : ∀ a ∈ as', ansOk a := fun a h => by
            rcases (as6 a).mp h with h | ⟨k, h1, h2⟩
            · obtain ⟨j, k, _, h1, h2⟩ := (as3 a).mp h
              exact ans_ok hw (h1.inn hw) h2
            · exact ans_ok hw (((hks k).mp (List.mem_of_mem_take h1)).inn hw) h2
          have few := ans_few st6.nd asok
          refine iteF ⟨_, rfl, _, rfl, _, rfl, m, rs, k, .ref tt, rfl, rfl, SqT.of em, ea, _, rfl, _, rfl, G, _, rfl, dget, _, rfl, D, tt, Ag k, L, i, place ps k, a, cnt i (gP ps k), as', M, B, rowS ps i (ks.take l), rfl, st6, et, ha, gr6 k hkm, cnt_len _ _, by omega, by omega, by omega, nfA k hkm, fun as2 M2 B2 H7 fr fp hk2 st7 => ?_⟩
          rw [rowS_stop nk ha] at st7
          have live : ∀ {b : Addr} {o : HO}, H6' b = some o → ¬ Fp L D as' M B b → ¬ Fp L D as2 M2 B2 b := fun e n f => by
            rcases fp _ f with h | h
            · exact n h
            · rw [e] at h
              cases h
          refine ⟨_, as2, M2, B2, rfl, fun b o e => fr b o (s6 _ _ e) (fun f => ?_), fr _ _ eG6 nfG, fun k' hk' => fr _ _ (gr6 k' hk') (nfA k' hk'), ?_, ?_, fun b f => ?_, live eG6 nfG, live eT6 nfT, fun k' hk' => live (gr6 k' hk') (nfA k' hk'), fun x => ?_⟩
          · rw [fp6 b f] at e
            cases e
          · rw [fl]
            exact fr _ _ eT6 nfT
          · rw [tk]
            exact st7
          · rcases fp b f with h | h
            · exact fp6 b h
            · exact s6.free h
          · rw [hk2, as6, tk]
            constructor
            · rintro ((h | ⟨k', h1, h2⟩) | rfl)
              · exact .inl h
              · exact .inr ⟨k', List.mem_append_left _ h1, h2⟩
              · exact .inr ⟨k, List.mem_append_right _ List.mem_cons_self, ha⟩
            · rintro (h | ⟨k', h1, h2⟩)
              · exact .inl (.inl h)
              · rcases List.mem_append.mp h1 with h1 | h1
                · exact .inl (.inr ⟨k', h1, h2⟩)
                · rw [List.mem_singleton.mp h1, ha] at h2
                  exact .inr (Option.some.inj h2).symm
      · rintro σ H6 ⟨v6, as', M, B, rfl, s6, eG6, gr6, eT6, st6, fp6, nfG, nfT, nfA, as6⟩
        rw [kd_len, List.take_length] at eT6 st6 as6
        refine ⟨eG6, ?_⟩
        have ln6 := fun b (h : b ≠ G) => upd_ne (H := H6) (o := .dK (kd ks fun k => .ref (Ag k))) h
        dsimp only
        generalize upd H6 G (.dK (kd ks fun k => .ref (Ag k))) = H7 at ln6 ⊢
        have s7 : Same H H7 := fun b o e => by rw [ln6 b (nG b o e)]; exact s6 _ _ e
        have st7 : St L H7 D as' M B (rowS ps (i + 1) []) := by
          rw [← rowS_next hks]
          exact st6.more fun b o e f => by rw [ln6 b (show b ≠ G from fun q => nfG (q ▸ f))]; exact e
        have eT7 := (ln6 T TG.symm).trans eT6
        have gr7 : ∀ k ∈ ks, H7 (Ag k) = some (.lst ((cnt i (gP ps k)).map V.int)) := fun k hk => (ln6 _ (AG k hk)).trans (gr6 k hk)
        have tm : ∀ k, k ∈ (ks.filter fun k => (place ps k).tosses) ↔ Lv ps i k ∧ (place ps k).tosses = true := fun k => by rw [List.mem_filter, hks]
        have tn : (ks.filter fun k => (place ps k).tosses).Nodup := gd.nd.filter _
        have tr : ∀ k ∈ (ks.filter fun k => (place ps k).tosses), H7 (Ag k) = some (.lst ((cnt i (gP ps k)).map V.int)) := fun k hk => gr7 k (List.mem_filter.mp hk).1
        have as7 : ∀ a, a ∈ as' ↔ ∃ j k, j < i + 1 ∧ Lv ps j k ∧ ansP (place ps k) = some a := fun a => by
          rw [as6, as3]
          constructor
          · rintro (⟨j, k, h1, h2⟩ | ⟨k, h1, h2⟩)
            · exact ⟨j, k, by omega, h2⟩
            · exact ⟨i, k, by omega, (hks k).mp h1, h2⟩
          · rintro ⟨j, k, h1, h2, h3⟩
            by_cases e : j < i
            · exact .inl ⟨j, k, e, h2, h3⟩
            · have e : j = i := by omega
              subst e
              exact .inr ⟨k, (hks k).mpr h2, h3⟩
        refine ⟨_, rfl, _, rfl, _, _, rfl, rfl, _, rfl, ite2 (fun hlt => ?_) (fun hlt => ?_)⟩
        · have hlt : ((i : Nat) : Int) < (L : Nat) := of_decide_eq_true hlt
          refine ⟨_, rfl, _, rfl, _, rfl, m, T, i, ps, _, Ag, rfl, hm.same s7, hw, by omega, ⟨eT7, tr, tn⟩, tm, fun G' ks' A' H8 s8 nG' nA' gd8 hk8 => ?_⟩
          have f8 : ∀ b, H7 b = none → ¬ Fp L D as' M B b := fun b n f => st7.live f n
          exact ⟨_, _, _, G', ks', A', as', M, B, rfl, s7.trans s8, st7.same s8, fp6, as7, fun _ => ⟨s7.free nG', gd8, hk8, f8 _ nG', fun k hk => f8 _ (nA' k hk)⟩, fun h => by omega⟩
        · have hlt : ¬ ((i : Nat) : Int) < (L : Nat) := of_decide_eq_false (by simpa using hlt)
          have eiL : i = L := by omega
          subst eiL
          exact ⟨_, _, _, G, ks, Ag, as', M, B, rfl, s7, st7, fp6, as7, fun h => by omega, fun _ => ⟨T, _, Ag, rfl, fun e => nfT (.inl e), eT7, tn, tr, tm⟩⟩
    · rintro σ H3 ⟨v4, v5, v6, G, ks, Ag, as, M, B, rfl, s3, st3, fp3, as3, -, hT⟩
      obtain ⟨T, ts, AT, rfl, TD, eT, tn, tr, tk⟩ := hT rfl
      have nD0 : H D = none := fp3 D (.inl rfl)
      have asok : ∀ a ∈ as, ansOk a := fun a h => by
        obtain ⟨j, k, _, h1, h2⟩ := (as3 a).mp h
        exact ans_ok hw (h1.inn hw) h2
      have few := ans_few st3.nd asok
      have tfew : ts.length ≤ 30 := Nat.le_trans (nodup_len ps.length ts tn fun k hk => ((tk k).mp hk).1.inn hw) hw.le
      -- counts = {..}
      refine ⟨D, _, st3.at_, trivial, fun od => ?_⟩
      have ln := fun b (h : b ≠ D) => upd_ne (H := H3) (o := .frz od (.dK (kd as fun a => .ref (M a)))) h
      have eD4 : upd H3 D (.frz od (.dK (kd as fun a => .ref (M a)))) D = some (.frz od (.dK (kd as fun a => .ref (M a)))) := upd_same
      generalize upd H3 D (.frz od (.dK (kd as fun a => .ref (M a)))) = H4 at ln eD4 ⊢
      have sM : ∀ a ∈ as, H4 (M a) = some (.lst ((List.range (L + 1)).map fun j => .ref (B a j))) := fun a h => (ln _ (st3.AD h)).trans (st3.lists a h)
      have sB : ∀ a ∈ as, ∀ j, j ≤ L → H4 (B a j) = some (.lst ((cnt j (stP ps a)).map V.int)) := fun a h j hj => by
        rw [ln _ (st3.BD h hj), st3.rows a h j hj]
        unfold rowS
        rw [if_pos (by omega)]
      refine ⟨_, rfl, D, od, rfl, .inl ⟨_, eD4, fun C nC => ?_⟩⟩
      refine dc_it walk_keys (fun l Hx => ∃ (AC : Int → Addr) (BC : Int → Nat → Addr), Same H4 Hx ∧ Hx C = some (.dK (kd (as.take l) fun a => .ref (AC a))) ∧ ∀ a ∈ as.take l, Hx (AC a) = some (.tup ((List.range (L + 1)).map fun j => .ref (BC a j))) ∧ ∀ j, j ≤ L → Hx (BC a j) = some (.tup ((cnt j (stP ps a)).map V.int)))
        ⟨fun _ => C, fun _ _ => C, Same.upd nC, upd_same, fun a h => (List.not_mem_nil h).elim⟩ (fun l Hx _ ⟨_, _, s, _⟩ => s _ _ eD4) ?_ ?_
      · rintro l x Hx Hx' hl ⟨AC, BC, sx, eC, rx⟩ ⟨rfl, kk, vv, hkk, rfl⟩
        obtain ⟨a, ha, rfl, rfl⟩ := kd_get hkk
        have ham : a ∈ as := List.mem_of_getElem? ha
        have tka : as.take (l + 1) = as.take l ++ [a] := by rw [List.take_succ, ha]; rfl
        have na : a ∉ as.take l := fun h => by
          have nd := st3.nd.sublist (List.take_sublist (l + 1) as)
          rw [tka, List.nodup_append] at nd
          exact nd.2.2 a h a List.mem_cons_self rfl
        refine ⟨rfl, _, rfl, _, rfl, _, rfl, D, _, rfl, .inl ⟨_, .inl a, .inr ⟨od, sx _ _ eD4⟩, rfl, by rw [kd_val, if_pos ham]⟩, M a, rfl, ⟨_, SqL.of (sx _ _ (sM a ham))⟩, fun Z nZ => ?_⟩
        have nZ4 : H4 Z = none := sx.free nZ
        refine lc_list (K := K) (a := M a) (xs := (List.range (L + 1)).map fun j => V.ref (B a j)) (fun j Hy => ∃ b : Nat → Addr, Same Hx' Hy ∧ Hy Z = some (.lst ((List.range j).map fun j => .ref (b j))) ∧ ∀ j', j' < j → Hy (b j') = some (.tup ((cnt j' (stP ps a)).map V.int))) ⟨fun _ => Z, Same.upd nZ, upd_same, fun j h => absurd h (Nat.not_lt_zero _)⟩ (fun j Hy _ ⟨_, s, _⟩ => SqL.of (s _ _ (sx _ _ (sM a ham)))) ?_ ?_
        · rintro j v Hy hj0 ⟨b, sy, eZ, hb⟩
          have hj : j < L + 1 := by
            have := (List.getElem?_eq_some_iff.mp hj0).1
            rwa [List.length_map, List.length_range] at this
          rw [List.getElem?_map, List.getElem?_range hj] at hj0
          have hj0 := Option.some.inj hj0
          subst hj0
          have eB := sy _ _ (sx _ _ (sB a ham j (by omega)))
          refine ⟨rfl, _, rfl, B a j, _, rfl, .inl ⟨SqL.of eB, fun p np => ?_⟩⟩
          have sp := Same.upd (o := .tup ((cnt j (stP ps a)).map V.int)) np
          have pZ : p ≠ Z := (ne_of_none eZ np).symm
          have bZ : ∀ j', j' < j → b j' ≠ Z := fun j' h => ne_of (hb j' h) eZ (by intro z; cases z)
          refine ⟨_, sp _ _ eZ, by rw [List.length_map, List.length_range]; omega, fun j' => if j' = j then p else b j', fun x o e => ?_, ?_, fun j' hj' => ?_⟩
          · rw [upd_ne (ne_of_none e nZ)]
            exact sp _ _ (sy _ _ e)
          · rw [upd_same, List.range_succ, List.map_append]
            congr 3
            · refine List.map_congr_left fun x hx => ?_
              have := List.mem_range.mp hx
              show V.ref (b x) = V.ref (if x = j then p else b x)
              rw [if_neg (by omega)]
            · show [V.ref p] = [V.ref (if j = j then p else b j)]
              rw [if_pos rfl]
          · show upd _ Z _ (if j' = j then p else b j') = _
            by_cases e : j' = j
            · rw [if_pos e, upd_ne pZ, upd_same, e]
            · rw [if_neg e, upd_ne (bZ j' (by omega))]
              exact sp _ _ (hb j' (by omega))
        · rintro Hy ⟨b, sy, eZ, hb⟩
          rw [List.length_map, List.length_range] at eZ hb
          refine ⟨Z, _, rfl, .inl ⟨SqL.of eZ, fun p np => ?_⟩⟩
          have sp := Same.upd (o := .tup ((List.range (L + 1)).map fun j => V.ref (b j))) np
          have s12 := sy.trans sp
          have ep : upd Hy p (.tup ((List.range (L + 1)).map fun j => V.ref (b j))) p = some (.tup ((List.range (L + 1)).map fun j => V.ref (b j))) := upd_same
          have hb2 := fun j h => sp _ _ (hb j h)
          generalize upd Hy p (.tup ((List.range (L + 1)).map fun j => V.ref (b j))) = Hz at s12 ep hb2 ⊢
          have ek : ∀ k ∈ as.take l, k ≠ a := fun k hk e => na (e ▸ hk)
          have eC2 := s12 _ _ eC
          refine ⟨_, .inl a, rfl, eC2, by rw [kd_len, List.length_take]; omega, fun k => if k = a then p else AC k, fun k => if k = a then b else BC k, fun x o e => ?_, ?_, fun k hk => ?_⟩
          · rw [upd_ne (ne_of_none e nC)]
            exact s12 _ _ (sx _ _ e)
          · rw [upd_same, tka, kd_new na]
            refine congrArg (fun x => some (HO.dK x)) (kd_congr fun z _ => ?_)
            show (if z = a then V.ref p else V.ref (AC z)) = V.ref (if z = a then p else AC z)
            split <;> rfl
          · show upd _ C _ (if k = a then p else AC k) = some (.tup ((List.range (L + 1)).map fun j => .ref ((if k = a then b else BC k) j))) ∧ ∀ j, j ≤ L → upd _ C _ ((if k = a then b else BC k) j) = _
            have nt : ∀ {q : Addr} {ys : List V}, Hz q = some (.tup ys) → q ≠ C := fun e => ne_of e eC2 (by intro z; cases z)
            rw [tka] at hk
            rcases List.mem_append.mp hk with hk | hk
            · rw [if_neg (ek k hk), if_neg (ek k hk)]
              have h1 := s12 _ _ (rx k hk).1
              refine ⟨by rw [upd_ne (nt h1)]; exact h1, fun j hj => ?_⟩
              have h2 := s12 _ _ ((rx k hk).2 j hj)
              rw [upd_ne (nt h2)]
              exact h2
            · rw [if_pos (List.mem_singleton.mp hk), if_pos (List.mem_singleton.mp hk), List.mem_singleton.mp hk]
              refine ⟨by rw [upd_ne (nt ep)]; exact ep, fun j hj => ?_⟩
              have h2 := hb2 j (by omega)
              rw [upd_ne (nt h2)]
              exact h2
      · rintro Hx ⟨AC, BC, sx, eC, rx⟩
        rw [kd_len, List.take_length] at eC rx
        refine ⟨sx _ _ eD4, ?_⟩
        dsimp only
        have lnx := fun b (h : b ≠ D) => upd_ne (H := Hx) (o := .dK (kd as fun a => .ref (M a))) h
        generalize upd Hx D (.dK (kd as fun a => .ref (M a))) = H5 at lnx ⊢
        have s5 : Same H H5 := fun b o e => by
          have n := ne_of_none e nD0
          rw [lnx b n]
          refine sx _ _ ?_
          rw [ln b n]
          exact s3 _ _ e
        have CD : C ≠ D := (ne_of_none eD4 nC).symm
        have nCH : H C = none := s3.free (by rw [← ln C CD]; exact nC)
        have eC5 : H5 C = some (.dK (kd as fun a => .ref (AC a))) := (lnx C CD).trans eC
        have tupD : ∀ {q : Addr} {ys : List V}, Hx q = some (.tup ys) → q ≠ D := fun e => ne_of e (sx _ _ eD4) (by intro z; cases z)
        have rx5 : ∀ a ∈ as, H5 (AC a) = some (.tup ((List.range (L + 1)).map fun j => .ref (BC a j))) ∧ ∀ j, j ≤ L → H5 (BC a j) = some (.tup ((cnt j (stP ps a)).map V.int)) := fun a h => ⟨by rw [lnx _ (tupD (rx a h).1)]; exact (rx a h).1, fun j hj => by rw [lnx _ (tupD ((rx a h).2 j hj))]; exact (rx a h).2 j hj⟩
        have eT5 : H5 T = some (.dK (kd ts fun k => .ref (AT k))) := by
          rw [lnx T TD]
          refine sx _ _ ?_
          rw [ln T TD]
          exact eT
        have tr5 : ∀ k ∈ ts, H5 (AT k) = some (.lst ((cnt L (gP ps k)).map V.int)) := fun k hk => by
          have n : AT k ≠ D := ne_of (tr k hk) st3.at_ (by intro z; cases z)
          rw [lnx _ n]
          refine sx _ _ ?_
          rw [ln _ n]
          exact tr k hk
        refine ⟨_, rfl, T, _, eT5, trivial, fun od2 => ?_⟩
        have l5 := fun b (h : b ≠ T) => upd_ne (H := H5) (o := .frz od2 (.dK (kd ts fun k => .ref (AT k)))) h
        have eT6 : upd H5 T (.frz od2 (.dK (kd ts fun k => .ref (AT k)))) T = some (.frz od2 (.dK (kd ts fun k => .ref (AT k)))) := upd_same
        generalize upd H5 T (.frz od2 (.dK (kd ts fun k => .ref (AT k)))) = H6 at l5 eT6 ⊢
        have tr6 : ∀ k ∈ ts, H6 (AT k) = some (.lst ((cnt L (gP ps k)).map V.int)) := fun k hk => by
          rw [l5 _ (ne_of (tr5 k hk) eT5 (by intro z; cases z))]
          exact tr5 k hk
        refine ⟨_, rfl, T, od2, rfl, .inl ⟨_, eT6, fun Z nZ => ?_⟩⟩
        refine dc_it walk_keys (fun l Hy => ∃ (AZ : Int → Addr), Same H6 Hy ∧ Hy Z = some (.dK (kd (ts.take l) fun k => .ref (AZ k))) ∧ ∀ k ∈ ts.take l, Hy (AZ k) = some (.tup ((cnt L (gP ps k)).map V.int)))
          ⟨fun _ => Z, Same.upd nZ, upd_same, fun a h => (List.not_mem_nil h).elim⟩ (fun l Hy _ ⟨_, s, _⟩ => s _ _ eT6) ?_ ?_
        · rintro l x Hy Hy' hl ⟨AZ, sy, eZ, ry⟩ ⟨rfl, kk, vv, hkk, rfl⟩
          obtain ⟨k, hk, rfl, rfl⟩ := kd_get hkk
          have hkm : k ∈ ts := List.mem_of_getElem? hk
          have tkk : ts.take (l + 1) = ts.take l ++ [k] := by rw [List.take_succ, hk]; rfl
          have nk : k ∉ ts.take l := fun h => by
            have nd := tn.sublist (List.take_sublist (l + 1) ts)
            rw [tkk, List.nodup_append] at nd
            exact nd.2.2 k h k List.mem_cons_self rfl
          refine ⟨rfl, _, rfl, _, rfl, _, rfl, T, _, rfl, .inl ⟨_, .inl k, .inr ⟨od2, sy _ _ eT6⟩, rfl, by rw [kd_val, if_pos hkm]⟩, AT k, _, rfl, .inl ⟨SqL.of (sy _ _ (tr6 k hkm)), fun p np => ?_⟩⟩
          have sp := Same.upd (o := .tup ((cnt L (gP ps k)).map V.int)) np
          have s12 := sy.trans sp
          have ep : upd Hy' p (.tup ((cnt L (gP ps k)).map V.int)) p = some (.tup ((cnt L (gP ps k)).map V.int)) := upd_same
          have eZ2 := sp _ _ eZ
          have ry2 := fun k h => sp _ _ (ry k h)
          generalize upd Hy' p (.tup ((cnt L (gP ps k)).map V.int)) = Hz at s12 ep eZ2 ry2 ⊢
          have ek : ∀ k' ∈ ts.take l, k' ≠ k := fun k' hk e => nk (e ▸ hk)
          refine ⟨_, .inl k, rfl, eZ2, by rw [kd_len, List.length_take]; omega, fun k' => if k' = k then p else AZ k', fun x o e => ?_, ?_, fun k' hk' => ?_⟩
          · rw [upd_ne (ne_of_none e nZ)]
            exact s12 _ _ e
          · rw [upd_same, tkk, kd_new nk]
            refine congrArg (fun x => some (HO.dK x)) (kd_congr fun z _ => ?_)
            show (if z = k then V.ref p else V.ref (AZ z)) = V.ref (if z = k then p else AZ z)
            split <;> rfl
          · show upd _ Z _ (if k' = k then p else AZ k') = _
            have nt : ∀ {q : Addr} {ys : List V}, Hz q = some (.tup ys) → q ≠ Z := fun e => ne_of e eZ2 (by intro z; cases z)
            rw [tkk] at hk'
            rcases List.mem_append.mp hk' with hk' | hk'
            · rw [if_neg (ek k' hk'), upd_ne (nt (ry2 k' hk'))]
              exact ry2 k' hk'
            · rw [if_pos (List.mem_singleton.mp hk'), List.mem_singleton.mp hk', upd_ne (nt ep)]
              exact ep
        · rintro Hy ⟨AZ, sy, eZ, ry⟩
          rw [kd_len, List.take_length] at eZ ry
          refine ⟨sy _ _ eT6, ?_⟩
          dsimp only
          have lny := fun b (h : b ≠ T) => upd_ne (H := Hy) (o := .dK (kd ts fun k => .ref (AT k))) h
          have eT7 : upd Hy T (.dK (kd ts fun k => .ref (AT k))) T = some (.dK (kd ts fun k => .ref (AT k))) := upd_same
          refine ⟨by show 2 ≤ sizeLine; decide, fun R nR => ?_⟩
          have ZT : Z ≠ T := (ne_of_none eT6 nZ).symm
          have nZH : H Z = none := s5.free (by rw [← l5 Z ZT]; exact nZ)
          have s7 : Same H5 (upd Hy T (.dK (kd ts fun k => .ref (AT k)))) := fun b o e => by
            by_cases hb : b = T
            · subst hb
              rw [eT7, ← e, eT5]
            · rw [lny b hb]
              refine sy _ _ ?_
              rw [l5 b hb]
              exact e
          have eZ7 := (lny Z ZT).trans eZ
          have ry7 : ∀ k ∈ ts, upd Hy T (.dK (kd ts fun k => .ref (AT k))) (AZ k) = some (.tup ((cnt L (gP ps k)).map V.int)) := fun k hk => by
            rw [lny _ (ne_of (ry k hk) (sy _ _ eT6) (by intro z; cases z))]
            exact ry k hk
          generalize upd Hy T (.dK (kd ts fun k => .ref (AT k))) = H7 at s7 eZ7 ry7 nR ⊢
          have told : Told ps L H7 C Z as AC BC ts AZ := ⟨s7 _ _ eC5, fun a h => s7 _ _ (rx5 a h).1, fun a h j hj => s7 _ _ ((rx5 a h).2 j hj), st3.nd, fun a => by
            rw [as3]
            constructor
            · rintro ⟨j, k, h1, h2⟩
              exact ⟨j, k, by omega, h2⟩
            · rintro ⟨j, k, h1, h2⟩
              exact ⟨j, k, by omega, h2⟩, eZ7, ry7, tn, tk⟩
          have s57 := s5.trans s7
          have CT : C ≠ T := by
            rintro rfl
            rw [ln _ TD, eT] at nC
            cases nC
          have CZ : C ≠ Z := by
            rintro rfl
            rw [l5 _ CT, eC5] at nZ
            cases nZ
          exact q R C Z as AC BC ts AZ _ (s57.trans (Same.upd nR)) (s57.free nR) nCH nZH CZ upd_same (told.same (Same.upd nR))
end
end Z

set_option Elab.async false
set_option linter.all false
set_option maxRecDepth 100000
set_option maxHeartbeats 4000000
/-! sorted of pairs of an int and anything, no int twice -/
namespace SPX
open PySem PySem.Spec PyProof.Rows L2 GG SrtO
section
variable {prog : Program} {w : World} {A : Around} {E : Value → Shared → Prop} {s : Shared}
def IsHd (h : Heap) (v : Value) (x : Int) : Prop := ∃ a o t y n, v = .ref a ∧ h.get? a = some o ∧ o.cls = .type "tuple" ∧ o.data = .seq #[.int x t, y] n
theorem IsHd.keeps {h h' : Heap} {v : Value} {x : Int} (p : IsHd h v x) (k : ∀ b o, h.get? b = some o → o.cls = .type "tuple" → h'.get? b = some o) : IsHd h' v x := by
  obtain ⟨a, o, t, y, n, e, ho, hc, hd⟩ := p
  exact ⟨a, o, t, y, n, e, k _ _ ho hc, hc, hd⟩
theorem swo_int (k : Value → Int) : Swo fun v u => decide (k v < k u) := by
  refine ⟨fun x y h => ?_, fun x y z h1 h2 => ?_⟩
  · have a := of_decide_eq_true h
    exact decide_eq_false (by omega)
  · have a := of_decide_eq_false h1
    have b := of_decide_eq_false h2
    exact decide_eq_false (by omega)
theorem hd_cmp {vs : List Value} {k : Value → Int} (hp : ∀ v ∈ vs, IsHd s.heap v (k v)) (hi : ∀ v ∈ vs, ∀ u ∈ vs, k v = k u → v = u) : Cmp prog w A s (tuples' true) (fun p => p.1 ∈ vs) (lt2 fun v u => decide (k v < k u)) := by
  intro p q hm hm'
  have h1 := hp _ hm
  have h2 := hp _ hm'
  have h3 := hi _ hm _ hm'
  show wpAny (model prog w) A (keyLt' (tuples' true) p.1 q.1) (fun r s' => s' = s ∧ r = decide (k p.1 < k q.1)) (fun _ _ => False) s
  generalize k p.1 = x at h1 h3 ⊢
  generalize k q.1 = x' at h2 h3 ⊢
  obtain ⟨a, o, t, y, n, e, ho, hc, hd⟩ := h1
  obtain ⟨a', o', t', y', n', e', ho', hc', hd'⟩ := h2
  rw [e, e']
  refine PySem.W.kat_lt ho hd ho' hd' ?_
  show PySem.W.KatLex prog w A true (decide (2 < 2)) _ [(.int x t, .int x' t'), (y, y')] 0 s
  refine PySem.W.kat_cons (SeqAt.EqAt.int_int x t x' t' prog w _ _ ?_)
  refine PySem.W.kat_go (fun e1 => ?_) (fun e1 => ?_)
  · have ex : x = x' := by simpa using e1
    have ea := h3 ex
    rw [e, e'] at ea
    have ea' : a = a' := by injection ea
    subst ea'
    rw [ho] at ho'
    cases ho'
    rw [hd] at hd'
    have ey : y = y' := by
      injection hd' with h4 h5
      have := congrArg Array.toList h4
      simp at this
      exact this.2
    subst ey
    refine PySem.W.kat_yes (PySem.W.kat_cons (SeqAt.EqAt.same y prog w _ _ ?_))
    refine PySem.W.kat_yes (PySem.W.kat_nil ⟨rfl, ?_⟩)
    rw [ex]
    exact (decide_eq_false (Int.lt_irrefl _)).symm
  · exact PySem.W.kat_no (oneLt_int ⟨rfl, rfl⟩)
theorem firsts_hd {h : Heap} {k : Value → Int} : ∀ {vs : List Value}, (∀ v ∈ vs, IsHd h v (k v)) → ∃ fs : List Value, PySem.W.KatTups h vs fs ∧ fs.length = vs.length ∧ ∀ f ∈ fs, ∃ x t, f = Value.int x t
  | [], _ => ⟨[], PySem.W.KatTups.nil, rfl, fun _ hm => by simp at hm⟩
  | v :: vs, hp => by
    obtain ⟨fs, h1, h2, h3⟩ := firsts_hd (vs := vs) fun v' hm => hp v' (List.mem_cons_of_mem _ hm)
    obtain ⟨a, o, t, y, n, e, ho, hc, hd⟩ := hp v List.mem_cons_self
    rw [e]
    refine ⟨.int (k v) t :: fs, PySem.W.KatTups.cons ho hc hd rfl h1, by rw [List.length_cons, List.length_cons, h2], fun f hm => ?_⟩
    rcases List.mem_cons.mp hm with rfl | hm
    · exact ⟨_, t, rfl⟩
    · exact h3 f hm
theorem hd_sortable {a : Addr} {vs : List Value} {k : Value → Int} (h0 : 0 < vs.length) (hp : ∀ v ∈ vs, IsHd s.heap v (k v)) (hi : ∀ v ∈ vs, ∀ u ∈ vs, k v = k u → v = u) (ha : ∀ o, s.heap.get? a = some o → o.cls ≠ .type "tuple") : SortableO prog w A s a vs fun v u => decide (k v < k u) := by
  intro h' keep
  have hp' : ∀ v ∈ vs, IsHd h' v (k v) := fun v hm => (hp v hm).keeps fun b o e c => keep b o (fun z => by subst z; exact ha o e c) e
  obtain ⟨fs, h1, h2, h3⟩ := firsts_hd hp'
  refine ⟨tuples' true, fun Q E hq => ?_, hd_cmp hp' hi⟩
  refine PySem.W.kat_kind (T := .type "int") h1 (by omega) (fun f hm => ?_) (by rfl) ?_
  · obtain ⟨x, t, rfl⟩ := h3 f hm
    exact PySem.W.Looks.now
  · have e : (Value.type "int" != Value.type "tuple") = true := by first | decide +kernel | rfl | decide
    rw [e]
    exact hq
end
section
variable {X : Cx}
def rSortedK (K : PySem.W.Frag) : List V → Hp → VK → Prop := fun vs H Q => ∃ (a : Addr) (xs : List V) (k : V → Int), vs = [V.ref a] ∧ SqL K H a xs ∧ (∀ x ∈ xs, ∃ t y, x = V.ref t ∧ H t = some (.tup [.int (k x), y])) ∧ (∀ x ∈ xs, ∀ y ∈ xs, k x = k y → x = y) ∧
  ∀ ys p, ys.Perm xs → ys.Pairwise (fun x y => k x ≤ k y) → H p = none → Q (.ref p) (upd H p (.lst ys))
theorem cr_sortedK : CallR X (.builtin "sorted") (rSortedK X.K) := by
  intro pins s σ H vs us Q I r h
  obtain ⟨a, xs, k, rfl, hs, hx, hi, q⟩ := h
  obtain ⟨its, rv, hl, hz⟩ := I.list hs
  obtain ⟨u, rfl, ru⟩ := vals1 r
  obtain rfl : u = Value.ref a := ru
  obtain ⟨e1, e2⟩ := refs_back rv fun x m => by
    obtain ⟨t, y, e, _⟩ := hx x m
    exact ⟨t, e⟩
  have hp : ∀ v ∈ its, IsHd s.heap v (k (backV v)) := fun v hv => by
    obtain ⟨t, rfl⟩ := e2 v hv
    have hm : V.ref t ∈ xs := by rw [e1]; exact List.mem_map.mpr ⟨_, hv, rfl⟩
    obtain ⟨t', y, e, ht⟩ := hx _ hm
    cases e
    obtain ⟨_, its2, r2, o, ho, hc, n, hd⟩ := I.hok _ _ ht
    obtain ⟨u1, u2, rfl, ri, rj⟩ := vals2 r2
    obtain ⟨t1, rfl⟩ := ri
    exact ⟨t, o, t1, u2, n, rfl, ho, hc, hd⟩
  have hi' : ∀ v ∈ its, ∀ u ∈ its, k (backV v) = k (backV u) → v = u := fun v hv u hu e => by
    have := hi (backV v) (by rw [e1]; exact List.mem_map.mpr ⟨_, hv, rfl⟩) (backV u) (by rw [e1]; exact List.mem_map.mpr ⟨_, hu, rfl⟩) e
    obtain ⟨t, rfl⟩ := e2 v hv
    obtain ⟨t', rfl⟩ := e2 u hu
    have e3 : V.ref t = V.ref t' := this
    cases e3
    rfl
  refine SrtO.sorted_ord (swo_int fun u => k (backV u)) hl.isList (by rw [← rv.length]; exact hz) (fun h2 h₁ a' ha kk => ?_) fun out hs hb => ?_
  · refine hd_sortable (s := { s with heap := h₁ }) (k := fun u => k (backV u)) (by omega) (fun v hm => (hp v hm).keeps fun b o e _ => (kk b o e).2) hi' fun o e => ?_
    have e' : some o = some (seqObj "list" its.toArray 0) := e.symm.trans ha
    cases e'
    intro c
    exact absurd (Value.type.inj c) (by decide)
  · have h3 : ∀ u ∈ out, ∃ a, u = Value.ref a := fun u hu => e2 u (hb.perm.mem_iff.mp hu)
    have pm : (out.map backV).Perm xs := by
      rw [e1]
      exact hb.perm.map backV
    obtain ⟨n, hn⟩ := sortedAll_at s.heap its out.toArray
    have hd : s.heap.objs.size ≤ s.heap.objs.size + 1 := Nat.le_succ _
    refine ⟨.ref (s.heap.objs.size + 1), upd H (s.heap.objs.size + 1) (.lst (out.map backV)), I.laid (t' := s.toks) (fun b o e => sortedAll_old e) hd ⟨?_, out, n, vals_back h3, hn⟩, rfl, q _ _ pm ?_ (I.hok.fresh hd)⟩
    · rw [pm.length_eq]
      exact hz
    · refine List.pairwise_map.mpr (hs.imp fun {x y} h => ?_)
      have h := of_decide_eq_false h
      omega
end
end SPX

set_option Elab.async false
set_option linter.all false
set_option maxRecDepth 100000
set_option maxHeartbeats 4000000
namespace Z
open PySem PySem.Spec PyProof.Rows L2 GG DCX
abbrev sShown : Stmt := top 13
/-! ### what is told, shown in order -/
def sq (tp : Bool) (xs : List V) : HO := if tp then .tup xs else .lst xs
/-- rows by answers at C, a row by places at T; tuples or lists -/
structure Tv (tp : Bool) (L : Nat) (H : Hp) (C T : Addr) (as : List Int) (ra : Int → Nat → List Int) (ts : List Int) (rt : Int → List Int) (AC : Int → Addr) (BC : Int → Nat → Addr) (AT : Int → Addr) : Prop where
  c : H C = some (.dK (kd as fun a => .ref (AC a)))
  cr : ∀ a ∈ as, H (AC a) = some (sq tp ((List.range (L + 1)).map fun j => .ref (BC a j)))
  cb : ∀ a ∈ as, ∀ j, j ≤ L → H (BC a j) = some (sq tp ((ra a j).map V.int))
  cn : as.Nodup
  t : H T = some (.dK (kd ts fun k => .ref (AT k)))
  tr : ∀ k ∈ ts, H (AT k) = some (sq tp ((rt k).map V.int))
  tn : ts.Nodup
theorem Tv.same {tp : Bool} {L : Nat} {H H' : Hp} {C T : Addr} {as : List Int} {ra : Int → Nat → List Int} {ts : List Int} {rt : Int → List Int} {AC : Int → Addr} {BC : Int → Nat → Addr} {AT : Int → Addr} (h : Tv tp L H C T as ra ts rt AC BC AT) (s : Same H H') : Tv tp L H' C T as ra ts rt AC BC AT :=
  ⟨s _ _ h.c, fun a ha => s _ _ (h.cr a ha), fun a ha j hj => s _ _ (h.cb a ha j hj), h.cn, s _ _ h.t, fun k hk => s _ _ (h.tr k hk), h.tn⟩
theorem Told.tv {ps : List Pl} {L : Nat} {H : Hp} {C T : Addr} {as : List Int} {AC : Int → Addr} {BC : Int → Nat → Addr} {ts : List Int} {AT : Int → Addr} (h : Told ps L H C T as AC BC ts AT) : Tv true L H C T as (fun a j => cnt j (stP ps a)) ts (fun k => cnt L (gP ps k)) AC BC AT :=
  ⟨h.c, h.cr, h.cb, h.cn, h.t, h.tr, h.tn⟩
theorem sq_seq {K : PySem.W.Frag} {tp : Bool} {H : Hp} {a : Addr} {xs : List V} (h : H a = some (sq tp xs)) : SqL K H a xs ∨ SqT K H a xs := by
  cases tp
  · exact .inl (SqL.of h)
  · exact .inr (SqT.of h)
theorem sq_it {K : PySem.W.Frag} {tp : Bool} {H : Hp} {a : Addr} {xs : List V} (h : H a = some (sq tp xs)) : ∃ J, KX.SeqIt K H a J ∧ Walk J xs.length (fun H => H a = some (sq tp xs)) (YAt xs) := by
  cases tp
  · exact ⟨_, .inl ⟨⟨_, SqL.of h⟩, rfl⟩, walk_list.mono (fun H h => SqL.of h) fun i H x H' hi h y => y⟩
  · exact ⟨_, .inr ⟨⟨_, SqT.of h⟩, rfl⟩, walk_tup.mono (fun H h => SqT.of h) fun i H x H' hi h y => y⟩
def rowD (ns : List Int) : PyData := .list (ns.map PyData.int)
def aD (L : Nat) (ra : Int → Nat → List Int) (a : Int) : PyData := .tuple [.int a, .list ((List.range (L + 1)).map fun j => rowD (ra a j))]
def tD (rt : Int → List Int) (k : Int) : PyData := .tuple [.int k, rowD (rt k)]
def shD (L : Nat) (as : List Int) (ra : Int → Nat → List Int) (ts : List Int) (rt : Int → List Int) : PyData := .tuple [.list (as.map (aD L ra)), .list (ts.map (tD rt))]
/-- in order -/
def Ord (as as' : List Int) : Prop := as'.Perm as ∧ as'.Pairwise (· ≤ ·)
theorem ord_eq {as bs as' bs' : List Int} (na : as.Nodup) (nb : bs.Nodup) (h : ∀ a, a ∈ as ↔ a ∈ bs) (ha : Ord as as') (hb : Ord bs bs') : as' = bs' :=
  lt_unique (le_lt ha.2 (ha.1.nodup_iff.mpr na)) (le_lt hb.2 (hb.1.nodup_iff.mpr nb)) fun k => by rw [ha.1.mem_iff, hb.1.mem_iff, h]
def keyOf (H : Hp) : V → Int
  | .ref t => match H t with
    | some (.tup (.int x :: _)) => x
    | _ => 0
  | _ => 0
theorem keyOf_at {H : Hp} {t : Addr} {x : Int} {r : List V} (h : H t = some (.tup (.int x :: r))) : keyOf H (.ref t) = x := by
  show (match H t with | some (.tup (.int x :: _)) => x | _ => 0) = x
  rw [h]
theorem sort_keys {as : List Int} {W : Int → Addr} {ys : List V} {k : V → Int} (hk : ∀ a ∈ as, k (.ref (W a)) = a) (pm : ys.Perm (as.map fun a => V.ref (W a))) (pw : ys.Pairwise fun x y => k x ≤ k y) : ∃ as', Ord as as' ∧ ys = as'.map fun a => V.ref (W a) := by
  refine ⟨ys.map k, ⟨?_, List.pairwise_map.mpr pw⟩, ?_⟩
  · have h := pm.map k
    rw [List.map_map] at h
    have e : as.map (k ∘ fun a => V.ref (W a)) = as := by
      conv => rhs; rw [← List.map_id as]
      exact List.map_congr_left fun a ha => hk a ha
    rwa [e] at h
  · rw [List.map_map]
    conv => lhs; rw [← List.map_id ys]
    refine List.map_congr_left fun y hy => ?_
    obtain ⟨a, ha, rfl⟩ := List.mem_map.mp (pm.mem_iff.mp hy)
    show V.ref (W a) = V.ref (W (k (.ref (W a))))
    rw [hk a ha]
/-- the first half, the list of it at Z still being made -/
structure Sh1 (L : Nat) (H : Hp) (Z : Addr) (as : List Int) (ra : Int → Nat → List Int) (W Y : Int → Addr) (N : Int → Nat → Addr) : Prop where
  w : ∀ a ∈ as, H (W a) = some (.tup [.int a, .ref (Y a)])
  y : ∀ a ∈ as, H (Y a) = some (.lst ((List.range (L + 1)).map fun j => .ref (N a j)))
  b : ∀ a ∈ as, ∀ j, j ≤ L → H (N a j) = some (.lst ((ra a j).map V.int))
  ny : ∀ a ∈ as, Y a ≠ Z
  nb : ∀ a ∈ as, ∀ j, j ≤ L → N a j ≠ Z
theorem Sh1.more {L : Nat} {H H' : Hp} {Z : Addr} {as : List Int} {ra : Int → Nat → List Int} {W Y : Int → Addr} {N : Int → Nat → Addr} (h : Sh1 L H Z as ra W Y N) (f : ∀ b xs, H b = some (.tup xs) → H' b = some (.tup xs)) (g : ∀ b xs, b ≠ Z → H b = some (.lst xs) → H' b = some (.lst xs)) : Sh1 L H' Z as ra W Y N :=
  ⟨fun a ha => f _ _ (h.w a ha), fun a ha => g _ _ (h.ny a ha) (h.y a ha), fun a ha j hj => g _ _ (h.nb a ha j hj) (h.b a ha j hj), h.ny, h.nb⟩
structure Sh2 (H : Hp) (Z : Addr) (ts : List Int) (rt : Int → List Int) (W Y : Int → Addr) : Prop where
  w : ∀ a ∈ ts, H (W a) = some (.tup [.int a, .ref (Y a)])
  y : ∀ a ∈ ts, H (Y a) = some (.lst ((rt a).map V.int))
  ny : ∀ a ∈ ts, Y a ≠ Z
theorem Sh2.more {H H' : Hp} {Z : Addr} {ts : List Int} {rt : Int → List Int} {W Y : Int → Addr} (h : Sh2 H Z ts rt W Y) (f : ∀ b xs, H b = some (.tup xs) → H' b = some (.tup xs)) (g : ∀ b xs, b ≠ Z → H b = some (.lst xs) → H' b = some (.lst xs)) : Sh2 H' Z ts rt W Y :=
  ⟨fun a ha => f _ _ (h.w a ha), fun a ha => g _ _ (h.ny a ha) (h.y a ha), h.ny⟩
section
variable {P : Program} {w : World} {K : PySem.W.Frag} {mg : Str → Option Value} {base : Heap}
theorem dp_row {H : Hp} {a : Addr} {ns : List Int} (h : H a = some (.lst (ns.map V.int))) : Dp K H (.ref a) (rowD ns) := .lst (SqL.of h) (dpInts ns)
theorem dp_all {α : Type} {H : Hp} {f : α → V} {g : α → PyData} : ∀ {l : List α}, (∀ x ∈ l, Dp K H (f x) (g x)) → DpAll K H (l.map f) (l.map g)
  | [], _ => .nil
  | x :: r, h => .cons (h x List.mem_cons_self) (dp_all fun y hy => h y (List.mem_cons_of_mem _ hy))
theorem Sh1.dp {L : Nat} {H : Hp} {Z : Addr} {as : List Int} {ra : Int → Nat → List Int} {W Y : Int → Addr} {N : Int → Nat → Addr} (h : Sh1 L H Z as ra W Y N) {a : Int} (ha : a ∈ as) : Dp K H (.ref (W a)) (aD L ra a) :=
  .tup (SqT.of (h.w a ha)) (.cons (.int a) (.cons (.lst (SqL.of (h.y a ha)) (dp_all fun j hj => dp_row (h.b a ha j (by have := List.mem_range.mp hj; omega)))) .nil))
theorem Sh2.dp {H : Hp} {Z : Addr} {ts : List Int} {rt : Int → List Int} {W Y : Int → Addr} (h : Sh2 H Z ts rt W Y) {a : Int} (ha : a ∈ ts) : Dp K H (.ref (W a)) (tD rt a) :=
  .tup (SqT.of (h.w a ha)) (.cons (.int a) (.cons (dp_row (h.y a ha)) .nil))
def spShown : Sp := fun vs H Q _ => ∃ (tp : Bool) (R C T : Addr) (L : Nat) (as : List Int) (ra : Int → Nat → List Int) (ts : List Int) (rt : Int → List Int) (AC : Int → Addr) (BC : Int → Nat → Addr) (AT : Int → Addr), vs = [.ref R] ∧ H R = some (.tup [.ref C, .ref T]) ∧ C ≠ T ∧ Tv tp L H C T as ra ts rt AC BC AT ∧ L ≤ 100 ∧ as.length ≤ 200 ∧ ts.length ≤ 200 ∧
  ∀ (p : Addr) (as' ts' : List Int) H', Same H H' → H p = none → Ord as as' → Ord ts ts' → (∀ H2, Same H' H2 → Dp K H2 (.ref p) (shD L as' ra ts' rt)) → Q (.ref p) H'
theorem scShown : FnScope ["told", "ended", "answer", "row", "place"] ["told"] (defScope sShown) := ⟨rfl, rfl, rfl, by decide +kernel, rfl, by decide +kernel, by decide +kernel⟩
theorem ok_shown {f : Addr} {fd : FuncData} (F : Fun K "_law_shown" "_law_shown" sShown f fd) (T : Names mg) (mS : mg "sorted" = none) : FnOk P w K mg base CX0 1 f fd ["told"] (spShown (K := K)) := by
  refine F.ok scShown (fun vs H Q E h => ?_) (fun cdv A outer s H vs Q E hr h => ?_)
  · obtain ⟨tp, R, C, T, L, as, ra, ts, rt, AC, BC, AT, rfl, _⟩ := h
    rfl
  · obtain ⟨tp, R, C, U, L, as, ra, ts, rt, AC, BC, AT, rfl, eR, CU, tv, hL, has, hts, q⟩ := h
    have hu64 : A.units + 3 + 64 < cLine := hr.units
    have hu : A.units + 3 + 1 < cLine := by omega
    refine ⟨_, (pss_cons (ps_set (i := 1) scShown.nd rfl (.inl rfl) (pe_callB SPX.cr_sortedK (by rfl) mS (by decide +kernel) (pa_cons (pe_lock (pe_lc (own := [("answer", 2)]) (g := gName 2) (tt := tYes) rfl scShown.nd (pi_keys (pe_ix ix_tup (pv 0) pe_int (fun _ _ => rfl))) (blkOk_by (N := ["told", "ended", "answer", "row", "place"]) (sc := defScope sShown) (own := [("answer", 2)]) (by decide +kernel)) (fun _ _ _ _ _ => (pg_name (i := 2) scShown.nd rfl (.inl rfl))) (fun _ _ _ _ _ => pts_nil) (fun _ _ _ _ _ => (pe_tup (pa_cons (pv 2) (pa_cons (pe_lc (own := [("row", 3)]) (g := gName 3) (tt := tYes) rfl scShown.nd (KX.pi_seqK (K := K) rfl (pe_dget hu (pe_ix (KX.ix_tupK (K := K) rfl) (pv 0) pe_int (fun _ _ => rfl)) (pv 2) (fun _ _ => rfl))) (blkOk_by (N := ["told", "ended", "answer", "row", "place"]) (own := [("row", 3)]) (by kernel_rfl)) (fun _ _ _ _ _ => (pg_name (i := 3) scShown.nd rfl (.inl rfl))) (fun _ _ _ _ _ => pts_nil) (fun _ _ _ _ _ => (pe_callTy (KX.call_listK (K := K) rfl) (by rfl) T.list (by decide +kernel) (pa_cons (pv 3) pa_nil)))) pa_nil)))))) pa_nil)))
      (pss_one (ps_ret (pe_tup (pa_cons (pv 1) (pa_cons (pe_callB SPX.cr_sortedK (by rfl) mS (by decide +kernel) (pa_cons (pe_lock (pe_lc (own := [("place", 4)]) (g := gName 4) (tt := tYes) rfl scShown.nd (pi_keys (pe_ix ix_tup (pv 0) pe_int (fun _ _ => rfl))) (blkOk_by (N := ["told", "ended", "answer", "row", "place"]) (sc := defScope sShown) (own := [("place", 4)]) (by decide +kernel)) (fun _ _ _ _ _ => (pg_name (i := 4) scShown.nd rfl (.inl rfl))) (fun _ _ _ _ _ => pts_nil) (fun _ _ _ _ _ => (pe_tup (pa_cons (pv 4) (pa_cons (pe_callTy (KX.call_listK (K := K) rfl) (by rfl) T.list (by decide +kernel) (pa_cons (pe_dget hu (pe_ix (KX.ix_tupK (K := K) rfl) (pv 0) pe_int (fun _ _ => rfl)) (pv 4) (fun _ _ => rfl)) pa_nil)) pa_nil)))))) pa_nil)) pa_nil)))))), ?_⟩
    have line : sizeLine = 16777216 := by decide
    have nf : ∀ (H : Hp) (o : Obj) (u : HO) (b d : Addr) (v : HO), H d = some (.frz o u) → H b = some v → (∀ o u, v ≠ .frz o u) → b ≠ d := fun H o u b d v h1 h2 h3 e => by
      subst e
      rw [h2] at h1
      exact h3 _ _ (Option.some.inj h1)
    have c1 : ∀ xs o u, HO.tup xs ≠ .frz o u := fun xs o u z => by cases z
    have c2 : ∀ xs o u, HO.lst xs ≠ .frz o u := fun xs o u z => by cases z
    refine ⟨C, _, tv.c, trivial, fun od => ?_⟩
    have ln := fun b (h : b ≠ C) => upd_ne (H := H) (o := .frz od (.dK (kd as fun a => .ref (AC a)))) h
    have eC1 : upd H C (.frz od (.dK (kd as fun a => .ref (AC a)))) C = some (.frz od (.dK (kd as fun a => .ref (AC a)))) := upd_same
    have RC : R ≠ C := ne_of eR tv.c (by intro z; cases z)
    generalize upd H C (.frz od (.dK (kd as fun a => .ref (AC a)))) = H1 at ln eC1 ⊢
    have eR1 : H1 R = some (.tup [.ref C, .ref U]) := (ln R RC).trans eR
    have nC : ∀ {b : Addr} {xs : List V}, H b = some (sq tp xs) → b ≠ C := fun h => ne_of h tv.c (by cases tp <;> (intro z; cases z))
    have cr1 : ∀ a ∈ as, H1 (AC a) = some (sq tp ((List.range (L + 1)).map fun j => .ref (BC a j))) := fun a ha => (ln _ (nC (tv.cr a ha))).trans (tv.cr a ha)
    have cb1 : ∀ a ∈ as, ∀ j, j ≤ L → H1 (BC a j) = some (sq tp ((ra a j).map V.int)) := fun a ha j hj => (ln _ (nC (tv.cb a ha j hj))).trans (tv.cb a ha j hj)
    refine ⟨_, rfl, R, _, 0, .ref C, rfl, rfl, SqT.of eR1, atI_nat (j := 0) rfl, C, od, rfl, .inl ⟨_, eC1, fun Z nZ => ?_⟩⟩
    have nZH : H Z = none := by
      have : Z ≠ C := by
        rintro rfl
        rw [eC1] at nZ
        cases nZ
      rw [← ln Z this]
      exact nZ
    refine lc_it walk_keys (fun l Hy => ∃ (W Y : Int → Addr) (N : Int → Nat → Addr), Same H1 Hy ∧ Hy Z = some (.lst ((as.take l).map fun a => .ref (W a))) ∧ Sh1 L Hy Z (as.take l) ra W Y N)
      ⟨fun _ => Z, fun _ => Z, fun _ _ => Z, Same.upd nZ, upd_same, ⟨fun a h => (List.not_mem_nil h).elim, fun a h => (List.not_mem_nil h).elim, fun a h => (List.not_mem_nil h).elim, fun a h => (List.not_mem_nil h).elim, fun a h => (List.not_mem_nil h).elim⟩⟩ (fun l Hy _ ⟨_, _, _, s, _⟩ => s _ _ eC1) ?_ ?_
    · rintro l x Hx Hx' hl ⟨W, Y, N, sx, eZ, sh⟩ ⟨rfl, kk, vv, hkk, rfl⟩
      obtain ⟨a, ha, rfl, rfl⟩ := kd_get hkk
      have ham : a ∈ as := List.mem_of_getElem? ha
      have tka : as.take (l + 1) = as.take l ++ [a] := by rw [List.take_succ, ha]; rfl
      have na : a ∉ as.take l := fun h => by
        have nd := tv.cn.sublist (List.take_sublist (l + 1) as)
        rw [tka, List.nodup_append] at nd
        exact nd.2.2 a h a List.mem_cons_self rfl
      refine ⟨rfl, _, rfl, _, rfl, R, _, 0, .ref C, rfl, rfl, SqT.of (sx _ _ eR1), atI_nat (j := 0) rfl, _, rfl, C, _, rfl, .inl ⟨_, .inl a, .inr ⟨od, sx _ _ eC1⟩, rfl, by rw [kd_val, if_pos ham]⟩, ?_⟩
      have ec := sx _ _ (cr1 a ham)
      obtain ⟨J, hJ, hW⟩ := sq_it (K := K) ec
      refine ⟨AC a, J, rfl, hJ, fun D nD => ?_⟩
      have eZ0 := eZ
      refine lc_it hW (fun j Hy => ∃ b : Nat → Addr, Same Hx' Hy ∧ Hy D = some (.lst ((List.range j).map fun j => .ref (b j))) ∧ ∀ j', j' < j → Hx' (b j') = none ∧ Hy (b j') = some (.lst ((ra a j').map V.int)) ∧ b j' ≠ D) ⟨fun _ => Z, Same.upd nD, upd_same, fun j h => absurd h (Nat.not_lt_zero _)⟩ (fun j Hy _ ⟨_, s, _⟩ => s _ _ ec) ?_ ?_
      · rintro j v Hy Hy' hj ⟨b, sy, eD, hb⟩ ⟨rfl, hv⟩
        rw [List.length_map, List.length_range] at hj
        rw [List.getElem?_map, List.getElem?_range hj] at hv
        have hv := Option.some.inj hv
        subst hv
        have eB := sy _ _ (sx _ _ (cb1 a ham j (by omega)))
        refine ⟨rfl, _, rfl, BC a j, _, rfl, sq_seq eB, fun p np => ?_⟩
        have sp := Same.upd (o := .lst ((ra a j).map V.int)) np
        have pD : p ≠ D := (ne_of_none eD np).symm
        refine ⟨_, sp _ _ eD, by rw [List.length_map, List.length_range]; omega, fun j' => if j' = j then p else b j', fun x o e => ?_, ?_, fun j' hj' => ?_⟩
        · rw [upd_ne (ne_of_none e nD)]
          exact sp _ _ (sy _ _ e)
        · rw [upd_same, List.range_succ, List.map_append]
          congr 3
          · refine List.map_congr_left fun x hx => ?_
            have := List.mem_range.mp hx
            show V.ref (b x) = V.ref (if x = j then p else b x)
            rw [if_neg (by omega)]
          · show [V.ref p] = [V.ref (if j = j then p else b j)]
            rw [if_pos rfl]
        · show Hx' (if j' = j then p else b j') = none ∧ upd _ D _ (if j' = j then p else b j') = _ ∧ (if j' = j then p else b j') ≠ D
          by_cases e : j' = j
          · rw [if_pos e, upd_ne pD, upd_same, e]
            exact ⟨sy.free np, rfl, pD⟩
          · rw [if_neg e]
            obtain ⟨h1, h2, h3⟩ := hb j' (by omega)
            exact ⟨h1, by rw [upd_ne h3]; exact sp _ _ h2, h3⟩
      · rintro Hy ⟨b, sy, eD, hb⟩
        rw [List.length_map, List.length_range] at eD hb
        refine ⟨by show 2 ≤ sizeLine; decide, fun p np => ?_⟩
        have sp := Same.upd (o := .tup [V.int a, .ref D]) np
        have s12 := sy.trans sp
        have ep : upd Hy p (.tup [V.int a, .ref D]) p = some (.tup [.int a, .ref D]) := upd_same
        have eD2 := sp _ _ eD
        have hb2 := fun j h => sp _ _ (hb j h).2.1
        change (_ : Hp → Prop) (upd Hy p (.tup [V.int a, .ref D]))
        generalize upd Hy p (.tup [V.int a, .ref D]) = Hz at s12 ep eD2 hb2 ⊢
        have ek : ∀ k ∈ as.take l, k ≠ a := fun k hk e => na (e ▸ hk)
        have eZ2 := s12 _ _ eZ
        have DZ : D ≠ Z := (ne_of_none eZ nD).symm
        have sh2 := sh.more (fun b xs e => s12 _ _ e) (fun b xs _ e => s12 _ _ e)
        have sh3 : Sh1 L Hz Z (as.take (l + 1)) ra (fun k => if k = a then p else W k) (fun k => if k = a then D else Y k) (fun k => if k = a then b else N k) := by
          refine ⟨fun k hk => ?_, fun k hk => ?_, fun k hk => ?_, fun k hk => ?_, fun k hk => ?_⟩
          all_goals
            rw [tka] at hk
            rcases List.mem_append.mp hk with hk | hk
          · show Hz (if k = a then p else W k) = some (.tup [.int k, .ref (if k = a then D else Y k)])
            rw [if_neg (ek k hk), if_neg (ek k hk)]
            exact sh2.w k hk
          · show Hz (if k = a then p else W k) = some (.tup [.int k, .ref (if k = a then D else Y k)])
            rw [if_pos (List.mem_singleton.mp hk), if_pos (List.mem_singleton.mp hk), List.mem_singleton.mp hk]
            exact ep
          · show Hz (if k = a then D else Y k) = some (.lst ((List.range (L + 1)).map fun j => .ref ((if k = a then b else N k) j)))
            rw [if_neg (ek k hk), if_neg (ek k hk)]
            exact sh2.y k hk
          · show Hz (if k = a then D else Y k) = some (.lst ((List.range (L + 1)).map fun j => .ref ((if k = a then b else N k) j)))
            rw [if_pos (List.mem_singleton.mp hk), if_pos (List.mem_singleton.mp hk)]
            exact eD2
          · show ∀ j, j ≤ L → Hz ((if k = a then b else N k) j) = _
            rw [if_neg (ek k hk)]
            exact sh2.b k hk
          · show ∀ j, j ≤ L → Hz ((if k = a then b else N k) j) = _
            rw [if_pos (List.mem_singleton.mp hk), List.mem_singleton.mp hk]
            exact fun j hj => hb2 j (by omega)
          · show (if k = a then D else Y k) ≠ Z
            rw [if_neg (ek k hk)]
            exact sh2.ny k hk
          · show (if k = a then D else Y k) ≠ Z
            rw [if_pos (List.mem_singleton.mp hk)]
            exact DZ
          · show ∀ j, j ≤ L → (if k = a then b else N k) j ≠ Z
            rw [if_neg (ek k hk)]
            exact sh2.nb k hk
          · show ∀ j, j ≤ L → (if k = a then b else N k) j ≠ Z
            rw [if_pos (List.mem_singleton.mp hk)]
            exact fun j hj => (ne_of_none eZ (hb j (by omega)).1).symm
        refine ⟨_, eZ2, by rw [List.length_map, List.length_take]; omega, fun k => if k = a then p else W k, fun k => if k = a then D else Y k, fun k => if k = a then b else N k, fun x o e => ?_, ?_, sh3.more (fun b xs e => by rw [upd_ne (ne_of e eZ2 (by intro z; cases z))]; exact e) (fun b xs n e => by rw [upd_ne n]; exact e)⟩
        · rw [upd_ne (ne_of_none e nZ)]
          exact s12 _ _ (sx _ _ e)
        · rw [upd_same, tka, List.map_append]
          congr 3
          · refine List.map_congr_left fun k hk => ?_
            show V.ref (W k) = V.ref (if k = a then p else W k)
            rw [if_neg (ek k hk)]
          · show [V.ref p] = [V.ref (if a = a then p else W a)]
            rw [if_pos rfl]
    · rintro Hx ⟨W, Y, N, sx, eZ, sh⟩
      rw [kd_len, List.take_length] at eZ sh
      refine ⟨sx _ _ eC1, ?_⟩
      have lnx := fun b (h : b ≠ C) => upd_ne (H := Hx) (o := .dK (kd as fun a => .ref (AC a))) h
      have eCx := sx _ _ eC1
      have eC2 : upd Hx C (.dK (kd as fun a => .ref (AC a))) C = some (.dK (kd as fun a => .ref (AC a))) := upd_same
      dsimp only
      generalize upd Hx C (.dK (kd as fun a => .ref (AC a))) = H2 at lnx eC2 ⊢
      have s2 : Same H H2 := fun b o e => by
        by_cases hb : b = C
        · subst hb
          rw [eC2, ← e, tv.c]
        · rw [lnx b hb]
          refine sx _ _ ?_
          rw [ln b hb]
          exact e
      have ZC : Z ≠ C := by
        rintro rfl
        rw [eC1] at nZ
        cases nZ
      have eZ2 := (lnx Z ZC).trans eZ
      have shx := sh.more (H' := H2) (fun b xs e => by rw [lnx b (nf _ _ _ _ _ _ eCx e (c1 xs))]; exact e) (fun b xs _ e => by rw [lnx b (nf _ _ _ _ _ _ eCx e (c2 xs))]; exact e)
      refine ⟨Z, _, keyOf H2, rfl, SqL.of eZ2, ?_, ?_, fun ys p pm pw np => ?_⟩
      · rintro x hx
        obtain ⟨a, ha, rfl⟩ := List.mem_map.mp hx
        exact ⟨W a, .ref (Y a), rfl, by rw [keyOf_at (shx.w a ha)]; exact shx.w a ha⟩
      · rintro x hx y hy e
        obtain ⟨a, ha, rfl⟩ := List.mem_map.mp hx
        obtain ⟨b, hb, rfl⟩ := List.mem_map.mp hy
        rw [keyOf_at (shx.w a ha), keyOf_at (shx.w b hb)] at e
        rw [e]
      · obtain ⟨as', oas, rfl⟩ := sort_keys (fun a ha => keyOf_at (shx.w a ha)) pm pw
        have sp := Same.upd (o := .lst (as'.map fun a => V.ref (W a))) np
        have s3 := s2.trans sp
        have ep : upd H2 p (.lst (as'.map fun a => V.ref (W a))) p = some (.lst (as'.map fun a => V.ref (W a))) := upd_same
        have sh3 := shx.more (fun b xs e => sp _ _ e) (fun b xs _ e => sp _ _ e)
        have np0 := s2.free np
        generalize upd H2 p (.lst (as'.map fun a => V.ref (W a))) = H3 at s3 ep sh3 ⊢
        -- the second half
        refine ⟨_, rfl, ?_⟩
        have tv3 := tv.same s3
        refine ⟨U, _, tv3.t, trivial, fun od2 => ?_⟩
        have l3 := fun b (h : b ≠ U) => upd_ne (H := H3) (o := .frz od2 (.dK (kd ts fun k => .ref (AT k)))) h
        have eU4 : upd H3 U (.frz od2 (.dK (kd ts fun k => .ref (AT k)))) U = some (.frz od2 (.dK (kd ts fun k => .ref (AT k)))) := upd_same
        have RU : R ≠ U := ne_of (s3 _ _ eR) tv3.t (by intro z; cases z)
        generalize upd H3 U (.frz od2 (.dK (kd ts fun k => .ref (AT k)))) = H4 at l3 eU4 ⊢
        have eR4 := (l3 R RU).trans (s3 _ _ eR)
        have nU : ∀ {b : Addr} {xs : List V}, H3 b = some (sq tp xs) → b ≠ U := fun h => ne_of h tv3.t (by cases tp <;> (intro z; cases z))
        have tr4 : ∀ k ∈ ts, H4 (AT k) = some (sq tp ((rt k).map V.int)) := fun k hk => (l3 _ (nU (tv3.tr k hk))).trans (tv3.tr k hk)
        have tupU : ∀ {b : Addr} {xs : List V}, H3 b = some (.tup xs) → b ≠ U := fun h => ne_of h tv3.t (by intro z; cases z)
        have lstU : ∀ {b : Addr} {xs : List V}, H3 b = some (.lst xs) → b ≠ U := fun h => ne_of h tv3.t (by intro z; cases z)
        have sh4 := sh3.more (H' := H4) (fun b xs e => by rw [l3 b (tupU e)]; exact e) (fun b xs _ e => by rw [l3 b (lstU e)]; exact e)
        have ep4 := (l3 p (lstU ep)).trans ep
        refine ⟨_, rfl, R, _, 1, .ref U, rfl, rfl, SqT.of eR4, atI_nat (j := 1) rfl, U, od2, rfl, .inl ⟨_, eU4, fun Z2 nZ2 => ?_⟩⟩
        refine lc_it walk_keys (fun l Hy => ∃ (W Y : Int → Addr), Same H4 Hy ∧ Hy Z2 = some (.lst ((ts.take l).map fun a => .ref (W a))) ∧ Sh2 Hy Z2 (ts.take l) rt W Y)
          ⟨fun _ => Z2, fun _ => Z2, Same.upd nZ2, upd_same, ⟨fun a h => (List.not_mem_nil h).elim, fun a h => (List.not_mem_nil h).elim, fun a h => (List.not_mem_nil h).elim⟩⟩ (fun l Hy _ ⟨_, _, s, _⟩ => s _ _ eU4) ?_ ?_
        · rintro l x Hy Hy' hl ⟨W2, Y2, sy, eZ3, sb⟩ ⟨rfl, kk, vv, hkk, rfl⟩
          obtain ⟨k, hk, rfl, rfl⟩ := kd_get hkk
          have hkm : k ∈ ts := List.mem_of_getElem? hk
          have tkk : ts.take (l + 1) = ts.take l ++ [k] := by rw [List.take_succ, hk]; rfl
          have nk : k ∉ ts.take l := fun h => by
            have nd := tv.tn.sublist (List.take_sublist (l + 1) ts)
            rw [tkk, List.nodup_append] at nd
            exact nd.2.2 k h k List.mem_cons_self rfl
          refine ⟨rfl, _, rfl, _, rfl, R, _, 1, .ref U, rfl, rfl, SqT.of (sy _ _ eR4), atI_nat (j := 1) rfl, _, rfl, U, _, rfl, .inl ⟨_, .inl k, .inr ⟨od2, sy _ _ eU4⟩, rfl, by rw [kd_val, if_pos hkm]⟩, AT k, _, rfl, sq_seq (sy _ _ (tr4 k hkm)), fun D nD => ⟨by show 2 ≤ sizeLine; decide, fun q2 nq2 => ?_⟩⟩
          have sD := Same.upd (o := .lst ((rt k).map V.int)) nD
          have sq2 := Same.upd (o := .tup [V.int k, .ref D]) nq2
          have eD2 : upd (upd Hy' D (.lst ((rt k).map V.int))) q2 (.tup [V.int k, .ref D]) D = some (.lst ((rt k).map V.int)) := sq2 _ _ upd_same
          have eq2 : upd (upd Hy' D (.lst ((rt k).map V.int))) q2 (.tup [V.int k, .ref D]) q2 = some (.tup [.int k, .ref D]) := upd_same
          have s12 := (sD.trans sq2)
          change (_ : Hp → Prop) (upd (upd Hy' D (.lst ((rt k).map V.int))) q2 (.tup [V.int k, .ref D]))
          generalize upd (upd Hy' D (.lst ((rt k).map V.int))) q2 (.tup [V.int k, .ref D]) = Hz at s12 eD2 eq2 ⊢
          have ek : ∀ k' ∈ ts.take l, k' ≠ k := fun k' hk e => nk (e ▸ hk)
          have eZ4 := s12 _ _ eZ3
          have DZ : D ≠ Z2 := (ne_of_none eZ3 nD).symm
          have sb2 := sb.more (fun b xs e => s12 _ _ e) (fun b xs _ e => s12 _ _ e)
          have sb3 : Sh2 Hz Z2 (ts.take (l + 1)) rt (fun k' => if k' = k then q2 else W2 k') (fun k' => if k' = k then D else Y2 k') := by
            refine ⟨fun k' hk => ?_, fun k' hk => ?_, fun k' hk => ?_⟩
            all_goals
              rw [tkk] at hk
              rcases List.mem_append.mp hk with hk | hk
            · show Hz (if k' = k then q2 else W2 k') = some (.tup [.int k', .ref (if k' = k then D else Y2 k')])
              rw [if_neg (ek k' hk), if_neg (ek k' hk)]
              exact sb2.w k' hk
            · show Hz (if k' = k then q2 else W2 k') = some (.tup [.int k', .ref (if k' = k then D else Y2 k')])
              rw [if_pos (List.mem_singleton.mp hk), if_pos (List.mem_singleton.mp hk), List.mem_singleton.mp hk]
              exact eq2
            · show Hz (if k' = k then D else Y2 k') = _
              rw [if_neg (ek k' hk)]
              exact sb2.y k' hk
            · show Hz (if k' = k then D else Y2 k') = _
              rw [if_pos (List.mem_singleton.mp hk), List.mem_singleton.mp hk]
              exact eD2
            · show (if k' = k then D else Y2 k') ≠ Z2
              rw [if_neg (ek k' hk)]
              exact sb2.ny k' hk
            · show (if k' = k then D else Y2 k') ≠ Z2
              rw [if_pos (List.mem_singleton.mp hk)]
              exact DZ
          refine ⟨_, eZ4, by rw [List.length_map, List.length_take]; omega, _, _, fun x o e => ?_, ?_, sb3.more (fun b xs e => by rw [upd_ne (ne_of e eZ4 (by intro z; cases z))]; exact e) (fun b xs n e => by rw [upd_ne n]; exact e)⟩
          · rw [upd_ne (ne_of_none e nZ2)]
            exact s12 _ _ (sy _ _ e)
          · rw [upd_same, tkk, List.map_append]
            congr 3
            · refine List.map_congr_left fun k' hk => ?_
              show V.ref (W2 k') = V.ref (if k' = k then q2 else W2 k')
              rw [if_neg (ek k' hk)]
            · show [V.ref q2] = [V.ref (if k = k then q2 else W2 k)]
              rw [if_pos rfl]
        · rintro Hy ⟨W2, Y2, sy, eZ3, sb⟩
          rw [kd_len, List.take_length] at eZ3 sb
          refine ⟨sy _ _ eU4, ?_⟩
          have lny := fun b (h : b ≠ U) => upd_ne (H := Hy) (o := .dK (kd ts fun k => .ref (AT k))) h
          have eUy := sy _ _ eU4
          have eU5 : upd Hy U (.dK (kd ts fun k => .ref (AT k))) U = some (.dK (kd ts fun k => .ref (AT k))) := upd_same
          dsimp only
          generalize upd Hy U (.dK (kd ts fun k => .ref (AT k))) = H5 at lny eU5 ⊢
          have s5 : Same H3 H5 := fun b o e => by
            by_cases hb : b = U
            · subst hb
              rw [eU5, ← e, tv3.t]
            · rw [lny b hb]
              refine sy _ _ ?_
              rw [l3 b hb]
              exact e
          have ZU : Z2 ≠ U := by
            rintro rfl
            rw [eU4] at nZ2
            cases nZ2
          have eZ5 := (lny Z2 ZU).trans eZ3
          have sb5 := sb.more (H' := H5) (fun b xs e => by rw [lny b (nf _ _ _ _ _ _ eUy e (c1 xs))]; exact e) (fun b xs _ e => by rw [lny b (nf _ _ _ _ _ _ eUy e (c2 xs))]; exact e)
          refine ⟨Z2, _, keyOf H5, rfl, SqL.of eZ5, ?_, ?_, fun ys p2 pm pw np2 => ?_⟩
          · rintro x hx
            obtain ⟨a, ha, rfl⟩ := List.mem_map.mp hx
            exact ⟨W2 a, .ref (Y2 a), rfl, by rw [keyOf_at (sb5.w a ha)]; exact sb5.w a ha⟩
          · rintro x hx y hy e
            obtain ⟨a, ha, rfl⟩ := List.mem_map.mp hx
            obtain ⟨b, hb, rfl⟩ := List.mem_map.mp hy
            rw [keyOf_at (sb5.w a ha), keyOf_at (sb5.w b hb)] at e
            rw [e]
          · obtain ⟨ts', ots, rfl⟩ := sort_keys (fun a ha => keyOf_at (sb5.w a ha)) pm pw
            have sp2 := Same.upd (o := .lst (ts'.map fun a => V.ref (W2 a))) np2
            refine ⟨by show 2 ≤ sizeLine; decide, fun R2 nR2 => ?_⟩
            have sR := Same.upd (o := .tup [V.ref p, .ref p2]) nR2
            have s56 := sp2.trans sR
            have s36 := s5.trans s56
            have s06 := s3.trans s36
            refine q R2 as' ts' _ s06 (s3.free (s5.free (sp2.free nR2))) oas ots fun H7 s7 => ?_
            have eR7 := s7 _ _ (upd_same (H := upd H5 p2 (.lst (ts'.map fun a => V.ref (W2 a)))) (a := R2) (o := .tup [V.ref p, .ref p2]))
            have ep7 := s7 _ _ (s36 _ _ ep)
            have ep27 := s7 _ _ (sR _ _ (upd_same (H := H5) (a := p2) (o := .lst (ts'.map fun a => V.ref (W2 a)))))
            have shz := sh3.more (fun b xs e => s7 _ _ (s36 _ _ e)) (fun b xs _ e => s7 _ _ (s36 _ _ e))
            have sbz := sb5.more (fun b xs e => s7 _ _ (s56 _ _ e)) (fun b xs _ e => s7 _ _ (s56 _ _ e))
            exact .tup (SqT.of eR7) (.cons (.lst (SqL.of ep7) (dp_all fun a ha => shz.dp (oas.1.mem_iff.mp ha))) (.cons (.lst (SqL.of ep27) (dp_all fun a ha => sbz.dp (ots.1.mem_iff.mp ha))) .nil))
end
end Z

set_option Elab.async false
set_option linter.all false
set_option maxRecDepth 100000
set_option maxHeartbeats 4000000
namespace Z
open PySem PySem.Spec PyProof.Rows L2 GG DCX
abbrev sNext : Stmt := top 12
/-! ### one more toss, by the law -/
theorem stP_at {ps : List Pl} {r : List Bool} {k : Int} (e : ats ps r = some k) (a : Int) (c : Bool) {z : Int} (hz : side ps c k = some z) : stP ps a (c :: r) = decide (ansP (place ps z) = some a) := by
  show (match (ats ps r).bind (side ps c) with | some k => decide (ansP (place ps k) = some a) | none => false) = _
  rw [e, Option.bind_some, hz]
theorem stP_no {ps : List Pl} {r : List Bool} (a : Int) (c : Bool) (h : (ats ps r).bind (side ps c) = none) : stP ps a (c :: r) = false := by
  show (match (ats ps r).bind (side ps c) with | some k => decide (ansP (place ps k) = some a) | none => false) = _
  rw [h]
def rowE (ps : List Pl) (n : Nat) (ds : List (Int × Bool)) (a : Int) : List Int := cnt (n + 1) fun r => via ps ds r && stP ps a r
theorem rowE_hit {ps : List Pl} {n : Nat} {ds : List (Int × Bool)} {q z a : Int} {b : Bool} (nq : (q, b) ∉ ds) (hz : side ps b q = some z) (ha : ansP (place ps z) = some a) :
    bump (if b then 1 else 0) (rowE ps n ds a) (cnt n (gP ps q)) = rowE ps n (ds ++ [(q, b)]) a := by
  refine bump_cnt fun c r _ => ?_
  cases e : ats ps r with
  | none =>
    rw [stP_no a c (by rw [e]; rfl)]
    unfold gP
    rw [e]
    simp
  | some k =>
    rw [via_at e, via_at e]
    unfold gP
    rw [e]
    by_cases h : k = q ∧ c = b
    · obtain ⟨rfl, rfl⟩ := h
      rw [stP_at e a c hz]
      simp [ha, nq]
    · have h1 : ¬ (k, c) = (q, b) := fun x => h (by cases x; exact ⟨rfl, rfl⟩)
      have h2 : (c == b && decide (some k = some q)) = false := by
        by_cases hc : c = b
        · have : ¬ k = q := fun x => h ⟨x, hc⟩
          simp [this]
        · simp [hc]
      rw [h2, Bool.and_false, Bool.or_false]
      have h3 : (k, c) ∈ ds ++ [(q, b)] ↔ (k, c) ∈ ds := by rw [List.mem_append, List.mem_singleton]; exact ⟨fun x => x.resolve_right h1, .inl⟩
      rw [decide_eq_decide.mpr h3]
      exact ⟨rfl, rfl⟩
theorem rowE_miss {ps : List Pl} {n : Nat} {ds : List (Int × Bool)} {q z a : Int} {b : Bool} (hz : side ps b q = some z) (ne : ansP (place ps z) ≠ some a) : rowE ps n (ds ++ [(q, b)]) a = rowE ps n ds a := by
  unfold rowE
  refine cnt_congr fun r _ => ?_
  cases r with
  | nil => rfl
  | cons c r =>
    cases e : ats ps r with
    | none => rw [stP_no a c (by rw [e]; rfl), Bool.and_false, Bool.and_false]
    | some k =>
      rw [via_at e, via_at e]
      by_cases h : (k, c) = (q, b)
      · cases h
        rw [stP_at e a _ hz]
        simp [ne]
      · have h3 : (k, c) ∈ ds ++ [(q, b)] ↔ (k, c) ∈ ds := by rw [List.mem_append, List.mem_singleton]; exact ⟨fun x => x.resolve_right h, .inl⟩
        rw [decide_eq_decide.mpr h3]
theorem rowE_none {ps : List Pl} {n : Nat} {ds : List (Int × Bool)} {a : Int} (h : ∀ q b z, (q, b) ∈ ds → side ps b q = some z → ansP (place ps z) ≠ some a) : rowE ps n ds a = List.replicate (n + 2) 0 := by
  refine cnt_zero fun r _ => ?_
  cases r with
  | nil => rfl
  | cons c r =>
    cases e : ats ps r with
    | none => rw [stP_no a c (by rw [e]; rfl), Bool.and_false]
    | some k =>
      rw [via_at e]
      cases hz : side ps c k with
      | none => rw [stP_no a c (by rw [e]; exact hz), Bool.and_false]
      | some z =>
        rw [stP_at e a c hz]
        by_cases m : (k, c) ∈ ds
        · simp [h _ _ _ m hz]
        · simp [m]
theorem rowE_all {ps : List Pl} {n : Nat} {ds : List (Int × Bool)} {a : Int} (h : ∀ k b, Lv ps n k → (place ps k).tosses = true → (k, b) ∈ ds) : rowE ps n ds a = cnt (n + 1) (stP ps a) := by
  refine cnt_congr fun r hr => ?_
  cases r with
  | nil => cases hr
  | cons c r =>
    cases e : ats ps r with
    | none => rw [stP_no a c (by rw [e]; rfl), Bool.and_false]
    | some k =>
      rw [via_at e]
      cases hz : side ps c k with
      | none => rw [stP_no a c (by rw [e]; exact hz), Bool.and_false]
      | some z =>
        have := h k c ⟨r, by simpa using hr, e⟩ (side_isT hz)
        simp [this]
theorem rowV_all {ps : List Pl} {n : Nat} {ds : List (Int × Bool)} {z : Int} (h : ∀ k b, Lv ps n k → (place ps k).tosses = true → (k, b) ∈ ds) : rowV ps n ds z = cnt (n + 1) (gP ps z) := by
  refine cnt_congr fun r hr => ?_
  cases r with
  | nil => cases hr
  | cons c r =>
    cases e : ats ps r with
    | none => rw [gP_no e, Bool.and_false]
    | some k =>
      rw [via_at e, gP_at e]
      by_cases hs : side ps c k = some z
      · have := h k c ⟨r, by simpa using hr, e⟩ (side_isT hs)
        simp [this]
      · simp [hs]
/-- all rows of one more toss -/
def rowN (ps : List Pl) (n : Nat) (ds : List (Int × Bool)) (a : Int) (j : Nat) : List Int := if j ≤ n then cnt j (stP ps a) else if j = n + 1 then rowE ps n ds a else List.replicate (j + 1) 0
theorem rowN_len (ps : List Pl) (n : Nat) (ds : List (Int × Bool)) (a : Int) (j : Nat) : (rowN ps n ds a j).length = j + 1 := by
  unfold rowN
  split
  · exact cnt_len _ _
  · split
    · rename_i e
      rw [e]
      exact cnt_len _ _
    · simp
theorem stP_none {ps : List Pl} {j : Nat} {a : Int} (h : ∀ k, Lv ps j k → ansP (place ps k) ≠ some a) : cnt j (stP ps a) = List.replicate (j + 1) 0 := cnt_zero fun r hr => by
  unfold stP
  cases e : ats ps r with
  | none => rfl
  | some k =>
    have := h k ⟨r, hr, e⟩
    simp [this]
theorem rowN_put {ps : List Pl} {n : Nat} {ds : List (Int × Bool)} {q z a : Int} {b : Bool} (nq : (q, b) ∉ ds) (hz : side ps b q = some z) (ha : ansP (place ps z) = some a) :
    rowPut (rowN ps n ds) a (n + 1) (bump (if b then 1 else 0) (rowE ps n ds a) (cnt n (gP ps q))) = rowN ps n (ds ++ [(q, b)]) := by
  funext a' j
  unfold rowPut
  by_cases e : a' = a ∧ j = n + 1
  · obtain ⟨rfl, rfl⟩ := e
    rw [if_pos (show a' = a' ∧ n + 1 = n + 1 from ⟨rfl, rfl⟩)]
    unfold rowN
    rw [if_neg (show ¬ n + 1 ≤ n by omega), if_pos (show n + 1 = n + 1 from rfl)]
    exact rowE_hit nq hz ha
  · rw [if_neg e]
    unfold rowN
    split
    · rfl
    · split
      · rename_i e'
        rw [rowE_miss hz]
        intro w
        rw [ha] at w
        exact e ⟨(Option.some.inj w).symm, e'⟩
      · rfl
theorem rowN_toss {ps : List Pl} {n : Nat} {ds : List (Int × Bool)} {q z : Int} {b : Bool} (hz : side ps b q = some z) (ha : ansP (place ps z) = none) : rowN ps n (ds ++ [(q, b)]) = rowN ps n ds := by
  funext a' j
  unfold rowN
  split
  · rfl
  · split
    · rw [rowE_miss hz]
      rw [ha]
      intro w
      cases w
    · rfl
/-- a new answer with rows of its own -/
theorem St.ins {L : Nat} {H H' : Hp} {D : Addr} {as : List Int} {A : Int → Addr} {B : Int → Nat → Addr} {row : Int → Nat → List Int} (s : St L H D as A B row) {a : Int} (h : a ∉ as) {p : Addr} {b : Nat → Addr} {rr : Nat → List Int} (f : Same H H') (np : H p = none) (nb : ∀ j, j ≤ L → H (b j) = none) (ep : H' p = some (.lst ((List.range (L + 1)).map fun j => .ref (b j))))
    (eb : ∀ j, j ≤ L → H' (b j) = some (.lst ((rr j).map V.int))) (bi : ∀ j, j ≤ L → ∀ j', j' ≤ L → b j = b j' → j = j') (rl : ∀ j, (rr j).length = j + 1) :
    St L (upd H' D (.dK (putK (kd as fun a => .ref (A a)) (.inl a) (.ref p)))) D (as ++ [a]) (fun k => if k = a then p else A k) (fun k => if k = a then b else B k) (fun k j => if k = a then rr j else row k j) := by
  have pD : p ≠ D := (ne_of_none s.at_ np).symm
  have bD : ∀ j, j ≤ L → b j ≠ D := fun j hj => (ne_of_none s.at_ (nb j hj)).symm
  have ka : ∀ k ∈ as, k ≠ a := fun k hk e => h (e ▸ hk)
  have mem : ∀ k, k ∈ as ++ [a] → k ∈ as ∨ k = a := fun k hk => (List.mem_append.mp hk).imp_right List.mem_singleton.mp
  refine ⟨?_, fun k hk => ?_, fun k hk j hj => ?_, fun k hk j hj k' hk' j' hj' e => ?_, ?_, fun k hk j => ?_, fun k j => ?_⟩
  · rw [upd_same, kd_new h]
    refine congrArg (fun x => some (HO.dK x)) (kd_congr fun k _ => ?_)
    unfold ov
    split <;> rfl
  · rcases mem k hk with hk | rfl
    · rw [if_neg (ka k hk), if_neg (ka k hk), upd_ne (s.AD hk)]
      exact f _ _ (s.lists k hk)
    · rw [if_pos rfl, if_pos rfl, upd_ne pD]
      exact ep
  · rcases mem k hk with hk | rfl
    · rw [if_neg (ka k hk), if_neg (ka k hk), upd_ne (s.BD hk hj)]
      exact f _ _ (s.rows k hk j hj)
    · rw [if_pos rfl, if_pos rfl, upd_ne (bD j hj)]
      exact eb j hj
  · rcases mem k hk with hk2 | rfl
    · rw [if_neg (ka k hk2)] at e
      rcases mem k' hk' with hk' | rfl
      · rw [if_neg (ka k' hk')] at e
        exact s.inj k hk2 j hj k' hk' j' hj' e
      · rw [if_pos rfl] at e
        have := s.rows k hk2 j hj
        rw [e, nb j' hj'] at this
        cases this
    · rw [if_pos rfl] at e
      rcases mem k' hk' with hk' | rfl
      · rw [if_neg (ka k' hk')] at e
        have := s.rows k' hk' j' hj'
        rw [← e, nb j hj] at this
        cases this
      · rw [if_pos rfl] at e
        exact ⟨rfl, bi j hj j' hj' e⟩
  · rw [List.nodup_append]
    refine ⟨s.nd, by simp, fun x hx c hc => ?_⟩
    rw [List.mem_singleton.mp hc]
    exact ka x hx
  · show (if k = a then rr j else row k j) = _
    rw [if_neg (show ¬ k = a from fun e => hk (List.mem_append_right _ (List.mem_singleton.mpr e)))]
    exact s.zero k (fun q => hk (List.mem_append_left _ q)) j
  · show (if k = a then rr j else row k j).length = _
    split
    · exact rl j
    · exact s.len k j
theorem Going.carry {H0 H H' : Hp} {D : Addr} {ks : List Int} {A : Int → Addr} {row : Int → List Int} (g : Going H0 H D ks A row) (s : Same H0 H') (f : ∀ b o, H b = some o → (b = D ∨ ∃ k ∈ ks, b = A k) → H' b = some o) : Going H0 H' D ks A row :=
  ⟨s, g.fD, f _ _ g.at_ (.inl rfl), fun k hk => f _ _ (g.rows k hk) (.inr ⟨k, hk, rfl⟩), g.fresh, g.inj, g.nd⟩
def dsT (ks : List Int) : List (Int × Bool) := ks.flatMap fun q => [(q, true), (q, false)]
theorem dsT_mem {ks : List Int} {q : Int} {b : Bool} : (q, b) ∈ dsT ks ↔ q ∈ ks := by
  unfold dsT
  rw [List.mem_flatMap]
  constructor
  · rintro ⟨k, hk, h⟩
    simp only [List.mem_cons, List.not_mem_nil, or_false, Prod.mk.injEq] at h
    rcases h with ⟨rfl, _⟩ | ⟨rfl, _⟩ <;> exact hk
  · intro h
    refine ⟨q, h, ?_⟩
    cases b <;> simp
theorem dsT_snoc (ks : List Int) (q : Int) : dsT (ks ++ [q]) = dsT ks ++ [(q, true), (q, false)] := by
  unfold dsT
  rw [List.flatMap_append]
  rfl
theorem upd_id {H : Hp} {a : Addr} {o : HO} (h : H a = some o) : upd H a o = H := by
  funext b
  by_cases e : b = a
  · subst e
    rw [upd_same, h]
  · rw [upd_ne e]
theorem stop_head {p : Pl} (h : p.tosses = false) : ∃ w : Str, p.row[0]? = some (.str w) ∧ V.str w ≠ V.str "toss" := by
  cases p with
  | toss x y => cases h
  | fin n => exact ⟨_, rfl, str_toss_end⟩
  | never => exact ⟨_, rfl, str_toss_never⟩
theorem rep_zero (k : Nat) : (List.replicate k [V.int 0]).flatten = (List.replicate k (0 : Int)).map V.int := by
  rw [List.map_replicate]
  induction k with
  | zero => rfl
  | succ k ih => rw [List.replicate_succ, List.flatten_cons, ih]; rfl
/-- both dicts, while the tosses ds are counted -/
structure Nx (ps : List Pl) (n : Nat) (HL : Hp) (as0 : List Int) (D G : Addr) (H : Hp) (ds : List (Int × Bool)) (ks : List Int) (A : Int → Addr) (as : List Int) (M : Int → Addr) (B : Int → Nat → Addr) : Prop where
  g : Going HL H G ks A (rowV ps n ds)
  st : St (n + 1) H D as M B (rowN ps n ds)
  fp : ∀ b, Fp (n + 1) D as M B b → HL b = none
  nG : ¬ Fp (n + 1) D as M B G
  nA : ∀ k ∈ ks, ¬ Fp (n + 1) D as M B (A k)
  kk : ∀ z, z ∈ ks ↔ (∃ q b, (q, b) ∈ ds ∧ side ps b q = some z) ∧ (place ps z).tosses = true
  ka : ∀ a, a ∈ as ↔ a ∈ as0 ∨ ∃ q b z, (q, b) ∈ ds ∧ side ps b q = some z ∧ ansP (place ps z) = some a
theorem Nx.same {ps : List Pl} {n : Nat} {HL : Hp} {as0 : List Int} {D G : Addr} {H H' : Hp} {ds : List (Int × Bool)} {ks : List Int} {A : Int → Addr} {as : List Int} {M : Int → Addr} {B : Int → Nat → Addr} (x : Nx ps n HL as0 D G H ds ks A as M B) (s : Same H H') : Nx ps n HL as0 D G H' ds ks A as M B :=
  ⟨x.g.more s, x.st.same s, x.fp, x.nG, x.nA, x.kk, x.ka⟩
/-- what is ready for one more toss: the list at h is the one that is added to -/
theorem Nx.closeT {ps : List Pl} {n : Nat} {HL : Hp} {as0 : List Int} {D G : Addr} {H H' : Hp} {ds : List (Int × Bool)} {ks : List Int} {A : Int → Addr} {as : List Int} {M : Int → Addr} {B : Int → Nat → Addr} (g : Going HL H G ks A (rowV ps n ds)) (st : St (n + 1) H D as M B (rowN ps n ds)) (fp : ∀ b, Fp (n + 1) D as M B b → HL b = none)
    (nG : ¬ Fp (n + 1) D as M B G) (nA : ∀ k ∈ ks, ¬ Fp (n + 1) D as M B (A k)) {q z : Int} {b : Bool} (nq : (q, b) ∉ ds) (hz : side ps b q = some z) (ht : (place ps z).tosses = true) (hk : z ∈ ks)
    (kk : ∀ z', z' ∈ ks ↔ ((∃ q b, (q, b) ∈ ds ∧ side ps b q = some z') ∧ (place ps z').tosses = true) ∨ z' = z) (ka : ∀ a, a ∈ as ↔ a ∈ as0 ∨ ∃ q b z, (q, b) ∈ ds ∧ side ps b q = some z ∧ ansP (place ps z) = some a)
    (s : But (A z) H H') (e : H' (A z) = some (.lst ((bump (if b then 1 else 0) (rowV ps n ds z) (cnt n (gP ps q))).map V.int))) : Nx ps n HL as0 D G H' (ds ++ [(q, b)]) ks A as M B := by
  have ha : ansP (place ps z) = none := ans_toss.mpr ht
  refine ⟨⟨fun c o h => s _ _ (g.same _ _ h) (ne_of_none h (g.fresh z hk)), g.fD, s _ _ g.at_ (g.neD hk).symm, fun k hk' => ?_, g.fresh, g.inj, g.nd⟩, ?_, fp, nG, nA, fun z' => ?_, fun a => ?_⟩
  · by_cases e2 : k = z
    · subst e2
      rw [e, row_hit nq hz]
    · rw [row_miss hz e2]
      exact s _ _ (g.rows k hk') (fun w => e2 (g.inj k hk' z hk w))
  · rw [rowN_toss hz ha]
    exact st.more fun c o h f => s _ _ h (fun w => nA z hk (w ▸ f))
  · rw [kk]
    constructor
    · rintro (⟨⟨q', b', h1, h2⟩, h3⟩ | rfl)
      · exact ⟨⟨q', b', List.mem_append_left _ h1, h2⟩, h3⟩
      · exact ⟨⟨q, b, List.mem_append_right _ List.mem_cons_self, hz⟩, ht⟩
    · rintro ⟨⟨q', b', h1, h2⟩, h3⟩
      rcases List.mem_append.mp h1 with h1 | h1
      · exact .inl ⟨⟨q', b', h1, h2⟩, h3⟩
      · cases List.mem_singleton.mp h1
        rw [hz] at h2
        exact .inr (Option.some.inj h2).symm
  · rw [ka]
    constructor
    · rintro (h | ⟨q', b', z', h1, h2⟩)
      · exact .inl h
      · exact .inr ⟨q', b', z', List.mem_append_left _ h1, h2⟩
    · rintro (h | ⟨q', b', z', h1, h2, h3⟩)
      · exact .inl h
      · rcases List.mem_append.mp h1 with h1 | h1
        · exact .inr ⟨q', b', z', h1, h2, h3⟩
        · cases List.mem_singleton.mp h1
          rw [hz] at h2
          cases Option.some.inj h2
          rw [ha] at h3
          cases h3
theorem Nx.closeS {ps : List Pl} {n : Nat} {HL : Hp} {as0 : List Int} {D G : Addr} {H H' : Hp} {ds : List (Int × Bool)} {ks : List Int} {A : Int → Addr} {as : List Int} {M : Int → Addr} {B : Int → Nat → Addr} (g : Going HL H G ks A (rowV ps n ds)) (st : St (n + 1) H D as M B (rowN ps n ds)) (fp : ∀ b, Fp (n + 1) D as M B b → HL b = none)
    (nG : ¬ Fp (n + 1) D as M B G) (nA : ∀ k ∈ ks, ¬ Fp (n + 1) D as M B (A k)) {q z a : Int} {b : Bool} (nq : (q, b) ∉ ds) (hz : side ps b q = some z) (ha : ansP (place ps z) = some a) (hk : a ∈ as)
    (kk : ∀ z', z' ∈ ks ↔ (∃ q b, (q, b) ∈ ds ∧ side ps b q = some z') ∧ (place ps z').tosses = true) (ka : ∀ a', a' ∈ as ↔ (a' ∈ as0 ∨ ∃ q b z, (q, b) ∈ ds ∧ side ps b q = some z ∧ ansP (place ps z) = some a') ∨ a' = a)
    (s : But (B a (n + 1)) H H') (e : H' (B a (n + 1)) = some (.lst ((bump (if b then 1 else 0) (rowE ps n ds a) (cnt n (gP ps q))).map V.int))) : Nx ps n HL as0 D G H' (ds ++ [(q, b)]) ks A as M B := by
  have ht : ¬ (place ps z).tosses = true := fun h => by
    rw [ans_toss.mpr h] at ha
    cases ha
  have hB : Fp (n + 1) D as M B (B a (n + 1)) := .inr ⟨a, hk, .inr ⟨n + 1, Nat.le_refl _, rfl⟩⟩
  have stp := st.put hk (Nat.le_refl (n + 1)) (r := bump (if b then 1 else 0) (rowE ps n ds a) (cnt n (gP ps q))) (by rw [bump_len]; exact cnt_len _ _)
  rw [rowN_put nq hz ha] at stp
  refine ⟨?_, stp.more fun c o h f => ?_, fp, nG, nA, fun z' => ?_, fun a' => ?_⟩
  · refine (g.carry (H' := H') (fun c o h => s _ _ (g.same _ _ h) (ne_of_none h (fp _ hB))) fun c o h hc => s _ _ h ?_).rowsEq fun k hk' => ?_
    · rcases hc with rfl | ⟨k, hk', rfl⟩
      · exact fun w => nG (w ▸ hB)
      · exact fun w => nA k hk' (w ▸ hB)
    · refine (row_miss hz fun w => ?_).symm
      subst w
      exact ht ((kk k).mp hk').2
  · by_cases w : c = B a (n + 1)
    · subst w
      rw [upd_same] at h
      rw [e]
      exact h
    · rw [upd_ne w] at h
      exact s _ _ h w
  · rw [kk]
    constructor
    · rintro ⟨⟨q', b', h1, h2⟩, h3⟩
      exact ⟨⟨q', b', List.mem_append_left _ h1, h2⟩, h3⟩
    · rintro ⟨⟨q', b', h1, h2⟩, h3⟩
      rcases List.mem_append.mp h1 with h1 | h1
      · exact ⟨⟨q', b', h1, h2⟩, h3⟩
      · cases List.mem_singleton.mp h1
        rw [hz] at h2
        cases Option.some.inj h2
        exact absurd h3 ht
  · rw [ka]
    constructor
    · rintro ((h | ⟨q', b', z', h1, h2⟩) | rfl)
      · exact .inl h
      · exact .inr ⟨q', b', z', List.mem_append_left _ h1, h2⟩
      · exact .inr ⟨q, b, z, List.mem_append_right _ List.mem_cons_self, hz, ha⟩
    · rintro (h | ⟨q', b', z', h1, h2, h3⟩)
      · exact .inl (.inl h)
      · rcases List.mem_append.mp h1 with h1 | h1
        · exact .inl (.inr ⟨q', b', z', h1, h2, h3⟩)
        · cases List.mem_singleton.mp h1
          rw [hz] at h2
          cases Option.some.inj h2
          rw [ha] at h3
          exact .inr (Option.some.inj h3).symm
section
variable {P : Program} {w : World} {K : PySem.W.Frag} {mg : Str → Option Value} {base : Heap}
def spNext : Sp := fun vs H Q _ => ∃ (m R C T : Addr) (n : Nat) (ps : List Pl) (as : List Int) (AC : Int → Addr) (BC : Int → Nat → Addr) (ts : List Int) (AT : Int → Addr), vs = [.ref m, .ref R, .int (n : Nat)] ∧ Mach H m ps ∧ WF ps ∧ n ≤ 40 ∧ H R = some (.tup [.ref C, .ref T]) ∧ C ≠ T ∧ Told ps n H C T as AC BC ts AT ∧
  ∀ (p E G : Addr) (as' ts' : List Int) (A' : Int → Addr) (B' : Int → Nat → Addr) (AT' : Int → Addr) H', Same H H' → H p = none → H' p = some (.tup [.ref E, .ref G]) → E ≠ G → Tv false (n + 1) H' E G as' (fun a j => cnt j (stP ps a)) ts' (fun k => cnt (n + 1) (gP ps k)) A' B' AT' →
    (∀ a, a ∈ as' ↔ ∃ j k, j ≤ n + 1 ∧ Lv ps j k ∧ ansP (place ps k) = some a) → (∀ k, k ∈ ts' ↔ Lv ps (n + 1) k ∧ (place ps k).tosses = true) → Q (.ref p) H'
theorem scNext : FnScope ["machine", "told", "many", "ended", "going", "answer", "row", "at", "side", "more", "place", "here", "k", "number", "j"] ["machine", "told", "many"] (defScope sNext) := ⟨rfl, rfl, rfl, by decide +kernel, rfl, by decide +kernel, by decide +kernel⟩
theorem ok_next {f : Addr} {fd : FuncData} (F : Fun K "_law_next" "_law_next" sNext f fd) (T : Names mg) (mE : mg "enumerate" = none) : FnOk P w K mg base CX0 1 f fd ["machine", "told", "many"] spNext := by
  refine F.ok scNext (fun vs H Q E h => ?_) (fun cdv A outer s H vs Q E hr h => ?_)
  · obtain ⟨m, R, C, T, n, ps, as, AC, BC, ts, AT, rfl, _⟩ := h
    rfl
  · obtain ⟨m, R, C, U, n, ps, as, AC, BC, ts, AT, rfl, hm, hw, hn, eR, CU, tv, q⟩ := h
    have hu64 : A.units + 3 + 64 < cLine := hr.units
    have hu : A.units + 3 + 1 < cLine := by omega
    refine ⟨_, (pss_cons (ps_par (i := 3) (j := 4) (by rfl) scNext.nd rfl rfl (by decide) rfl rfl (pa_cons pe_dnewK (pa_cons pe_dnewK pa_nil)) (by rfl))
      (pss_cons (ps_lock (ps_for PassesOwn.never rfl (pi_keys (pe_ix ix_tup (pv 1) pe_int (fun _ _ => rfl))) (pg_name (i := 5) scNext.nd rfl (.inl rfl)) (pss_one (ps_dput hu (pv 3) (pv 5) (pe_op op_cat (pe_lc (own := [("row", 6)]) (g := gName 6) (tt := tYes) rfl scNext.nd (pi_tup (pe_dget hu (pe_ix ix_tup (pv 1) pe_int (fun _ _ => rfl)) (pv 5) (fun _ _ => rfl))) (blkOk_by (N := ["machine", "told", "many", "ended", "going", "answer", "row", "at", "side", "more", "place", "here", "k", "number", "j"]) (sc := defScope sNext) (own := [("row", 6)]) (by decide +kernel)) (fun _ _ _ _ _ => (pg_name (i := 6) scNext.nd rfl (.inl rfl))) (fun _ _ _ _ _ => pts_nil) (fun _ _ _ _ _ => (pe_callTy (KX.call_listK (K := K) rfl) (by rfl) T.list (by decide +kernel) (pa_cons (pv 6) pa_nil)))) (pe_lst (pa_cons (pe_op op_rep (pe_lst (pa_cons pe_int pa_nil)) (pe_op op_add (pv 2) pe_int)) pa_nil))) rfl))))
      (pss_cons (ps_lock (ps_for PassesOwn.never rfl (pi_items (pe_ix ix_tup (pv 1) pe_int (fun _ _ => rfl))) (pg_tup rfl (pgs_cons (pg_name (i := 7) scNext.nd rfl (.inl rfl)) (pgs_cons (pg_name (i := 6) scNext.nd rfl (.inl rfl)) pgs_nil))) (pss_one (ps_for PassesOwn.never rfl (pi_tup (pe_tup (pa_cons (pe_tup (pa_cons (pe_ix ix_tup (pe_ix ix_tup (pv 0) (pv 7) (fun _ _ => rfl)) pe_int (fun _ _ => rfl)) (pa_cons pe_int pa_nil))) (pa_cons (pe_tup (pa_cons (pe_ix ix_tup (pe_ix ix_tup (pv 0) (pv 7) (fun _ _ => rfl)) pe_int (fun _ _ => rfl)) (pa_cons pe_int pa_nil))) pa_nil)))) (pg_tup rfl (pgs_cons (pg_name (i := 8) scNext.nd rfl (.inl rfl)) (pgs_cons (pg_name (i := 9) scNext.nd rfl (.inl rfl)) pgs_nil))) (pss_cons (ps_set (i := 10) scNext.nd rfl (.inl rfl) (pe_ix ix_tup (pv 0) (pv 8) (fun _ _ => rfl)))
      (pss_cons (ps_if (pt_cmpR op_eq (pe_ix ix_tup (pv 10) pe_int (fun _ _ => rfl)) pe_str (nomark _)) (pss_cons (ps_set (i := 11) scNext.nd rfl (.inl rfl) (pe_dget2 hu (pv 4) (pv 8) (pe_op op_rep (pe_lst (pa_cons pe_int pa_nil)) (pe_op op_add (pv 2) pe_int)) ⟨rfl, rfl, rfl, rfl⟩))
      (pss_one (ps_dput hu (pv 4) (pv 8) (pv 11) rfl))) (pss_cons (ps_set (i := 5) scNext.nd rfl (.inl rfl) (pe_ifExp (pt_cmpR op_eq (pe_ix ix_tup (pv 10) pe_int (fun _ _ => rfl)) pe_str (nomark _)) (pe_ix ix_tup (pv 10) pe_int (fun _ _ => rfl)) (pe_un un_neg pe_int)))
      (pss_cons (ps_if (pt_cmp (pc_dnotin hu (pv 5) (pv 3))) (pss_one (ps_dput hu (pv 3) (pv 5) (pe_lc (own := [("j", 14)]) (g := gName 14) (tt := tYes) rfl scNext.nd (pi_range1 rfl T.range (pa_cons (pe_op op_add (pv 2) pe_int) pa_nil)) (blkOk_by (N := ["machine", "told", "many", "ended", "going", "answer", "row", "at", "side", "more", "place", "here", "k", "number", "j"]) (sc := defScope sNext) (own := [("j", 14)]) (by decide +kernel)) (fun _ _ _ _ _ => (pg_name (i := 14) scNext.nd rfl (.inl rfl))) (fun _ _ _ _ _ => pts_nil) (fun _ _ _ _ _ => (pe_op op_rep (pe_lst (pa_cons pe_int pa_nil)) (pe_op op_add (pv 14) pe_int)))) rfl)) pss_nil)
      (pss_one (ps_set (i := 11) scNext.nd rfl (.inl rfl) (pe_ix ix_list (pe_dget hu (pv 3) (pv 5) (fun _ _ => rfl)) (pe_op op_add (pv 2) pe_int) (fun _ _ => rfl)))))))
      (pss_one (ps_for PassesOwn.never rfl (EN.pi_pairs (by rfl) mE (pa_cons (pv 6) pa_nil)) (pg_tup rfl (pgs_cons (pg_name (i := 12) scNext.nd rfl (.inl rfl)) (pgs_cons (pg_name (i := 13) scNext.nd rfl (.inl rfl)) pgs_nil))) (pss_one (ps_asg (pe_op op_add (pe_ix ix_list (pv 11) (pe_op op_add (pv 12) (pv 9)) (fun _ _ => rfl)) (pv 13)) (pg_sub (pv 11) (pe_op op_add (pv 12) (pv 9)) set_list)))))))))))
      (pss_one (ps_ret (pe_tup (pa_cons (pv 3) (pa_cons (pv 4) pa_nil)))))))), ?_⟩
    have line : sizeLine = 16777216 := by decide
    have hl := hw.le
    have few := ans_few tv.cn fun a h => by
      obtain ⟨j, k, _, h1, h2⟩ := (tv.ck a).mp h
      exact ans_ok hw (h1.inn hw) h2
    have tfew : ts.length ≤ 30 := Nat.le_trans (nodup_len ps.length ts tv.tn fun k hk => ((tv.tk k).mp hk).1.inn hw) hw.le
    refine fun D nD => ?_
    have s1 : Same H (upd H D (.dK [])) := Same.upd nD
    have eD1 : upd H D (.dK []) D = some (.dK []) := upd_same
    change (_ : Hp → Prop) (upd H D (.dK []))
    generalize upd H D (.dK []) = H1 at s1 eD1 ⊢
    refine fun G nG => ⟨_, _, rfl, ?_⟩
    have DG : D ≠ G := ne_of_none eD1 nG
    have nG0 : H G = none := s1.free nG
    have s2 := s1.trans (Same.upd (o := .dK []) nG)
    have eD2 := (Same.upd (o := .dK []) nG) _ _ eD1
    have eG2 : upd H1 G (.dK []) G = some (.dK []) := upd_same
    change (_ : Hp → Prop) (upd H1 G (.dK []))
    generalize upd H1 G (.dK []) = H2 at s2 eD2 eG2 ⊢
    -- the answers told of
    refine ⟨C, _, s2 _ _ tv.c, trivial, fun od => ?_⟩
    obtain ⟨HL, eHL⟩ : ∃ HL, HL = upd H C (.frz od (.dK (kd as fun a => .ref (AC a)))) := ⟨_, rfl⟩
    have lC : HL C = some (.frz od (.dK (kd as fun a => .ref (AC a)))) := by rw [eHL]; exact upd_same
    have lne : ∀ b, b ≠ C → HL b = H b := fun b hb => by rw [eHL, upd_ne hb]
    have nDC : D ≠ C := (ne_of_none tv.c nD).symm
    have nGC : G ≠ C := (ne_of_none tv.c nG0).symm
    have s3 : Same HL (upd H2 C (.frz od (.dK (kd as fun a => .ref (AC a))))) := fun b o e => by
      by_cases hb : b = C
      · subst hb
        rw [lC] at e
        rw [upd_same]
        exact e
      · rw [lne b hb] at e
        rw [upd_ne hb]
        exact s2 _ _ e
    have eD3 : upd H2 C (.frz od (.dK (kd as fun a => .ref (AC a)))) D = some (.dK []) := by rw [upd_ne nDC]; exact eD2
    have eG3 : upd H2 C (.frz od (.dK (kd as fun a => .ref (AC a)))) G = some (.dK []) := by rw [upd_ne nGC]; exact eG2
    change (_ : Hp → Prop) (upd H2 C (.frz od (.dK (kd as fun a => .ref (AC a)))))
    generalize upd H2 C (.frz od (.dK (kd as fun a => .ref (AC a)))) = H3 at s3 eD3 eG3 ⊢
    have RC : R ≠ C := ne_of eR tv.c (by intro z; cases z)
    have eRL : HL R = some (.tup [.ref C, .ref U]) := (lne R RC).trans eR
    have crL : ∀ a ∈ as, HL (AC a) = some (.tup ((List.range (n + 1)).map fun j => .ref (BC a j))) := fun a h => (lne _ (ne_of (tv.cr a h) tv.c (by intro z; cases z))).trans (tv.cr a h)
    have cbL : ∀ a ∈ as, ∀ j, j ≤ n → HL (BC a j) = some (.tup ((cnt j (stP ps a)).map V.int)) := fun a h j hj => (lne _ (ne_of (tv.cb a h j hj) tv.c (by intro z; cases z))).trans (tv.cb a h j hj)
    refine ⟨_, rfl, R, _, 0, .ref C, rfl, rfl, SqT.of (s3 _ _ eRL), atI_nat (j := 0) rfl, C, od, rfl, .inl ⟨_, s3 _ _ lC, for_it walk_keys (fun l σ H' => ∃ (v5 : Option V) (A : Int → Addr) (B : Int → Nat → Addr), σ = [some (V.ref m), some (V.ref R), some (V.int (n : Nat)), some (V.ref D), some (V.ref G), v5, none, none, none, none, none, none, none, none, none] ∧ Same HL H' ∧ H' G = some (.dK []) ∧ St (n + 1) H' D (as.take l) A B (fun a j => if a ∈ as.take l then rowN ps n [] a j else List.replicate (j + 1) 0) ∧ (∀ b, Fp (n + 1) D (as.take l) A B b → HL b = none) ∧ ¬ Fp (n + 1) D (as.take l) A B G)
      ⟨none, fun _ => D, fun _ _ => D, rfl, s3, eG3, ⟨eD3, fun a h => (List.not_mem_nil h).elim, fun a h => (List.not_mem_nil h).elim, fun a h => (List.not_mem_nil h).elim, .nil, fun a h j => if_neg h, fun a j => by rw [if_neg (show ¬ a ∈ as.take 0 from fun h => (List.not_mem_nil h).elim)]; simp⟩, fun b h => by
        rcases h with rfl | ⟨a, h, _⟩
        · rw [lne _ nDC]; exact nD
        · exact (List.not_mem_nil h).elim, fun h => by
        rcases h with e | ⟨a, h, _⟩
        · exact DG e.symm
        · exact (List.not_mem_nil h).elim⟩ (fun l σ H' _ ⟨_, _, _, _, s, _⟩ => s _ _ lC) ?_ ?_⟩⟩
    · rintro l x σ Hx Hx' hl' ⟨v5, A, B, rfl, sx, eG, st, fp, nfG⟩ ⟨rfl, kk, vv, hkk, rfl⟩
      obtain ⟨a, ha, rfl, rfl⟩ := kd_get hkk
      have ham : a ∈ as := List.mem_of_getElem? ha
      have tka : as.take (l + 1) = as.take l ++ [a] := by rw [List.take_succ, ha]; rfl
      have na : a ∉ as.take l := fun h => by
        have nd := tv.cn.sublist (List.take_sublist (l + 1) as)
        rw [tka, List.nodup_append] at nd
        exact nd.2.2 a h a List.mem_cons_self rfl
      refine ⟨_, rfl, R, _, 0, .ref C, rfl, rfl, SqT.of (sx _ _ eRL), atI_nat (j := 0) rfl, _, rfl, C, _, rfl, .inl ⟨_, .inl a, .inr ⟨od, sx _ _ lC⟩, rfl, by rw [kd_val, if_pos ham]⟩, AC a, rfl, ⟨_, SqT.of (sx _ _ (crL a ham))⟩, fun Z nZ => ?_⟩
      refine lc_tup (K := K) (a := AC a) (xs := (List.range (n + 1)).map fun j => V.ref (BC a j)) (fun j Hy => ∃ b : Nat → Addr, Same Hx' Hy ∧ Hy Z = some (.lst ((List.range j).map fun j => .ref (b j))) ∧ ∀ j', j' < j → Hx' (b j') = none ∧ Hy (b j') = some (.lst ((cnt j' (stP ps a)).map V.int)) ∧ b j' ≠ Z ∧ ∀ j2, j2 < j → b j' = b j2 → j' = j2) ⟨fun _ => Z, Same.upd nZ, upd_same, fun j h => absurd h (Nat.not_lt_zero _)⟩ (fun j Hy _ ⟨_, s, _⟩ => SqT.of (s _ _ (sx _ _ (crL a ham)))) ?_ ?_
      · rintro j v Hy hv ⟨b, sy, eZ, hb⟩
        have hj : j < n + 1 := by
          have := (List.getElem?_eq_some_iff.mp hv).1
          rwa [List.length_map, List.length_range] at this
        rw [List.getElem?_map, List.getElem?_range hj] at hv
        have hv := Option.some.inj hv
        subst hv
        have eB := sy _ _ (sx _ _ (cbL a ham j (by omega)))
        refine ⟨rfl, _, rfl, BC a j, _, rfl, .inr (SqT.of eB), fun p np => ?_⟩
        have sp := Same.upd (o := .lst ((cnt j (stP ps a)).map V.int)) np
        have pZ : p ≠ Z := (ne_of_none eZ np).symm
        refine ⟨_, sp _ _ eZ, by rw [List.length_map, List.length_range]; omega, fun j' => if j' = j then p else b j', fun x o e => ?_, ?_, fun j' hj' => ?_⟩
        · rw [upd_ne (ne_of_none e nZ)]
          exact sp _ _ (sy _ _ e)
        · rw [upd_same, List.range_succ, List.map_append]
          congr 3
          · refine List.map_congr_left fun x hx => ?_
            have := List.mem_range.mp hx
            show V.ref (b x) = V.ref (if x = j then p else b x)
            rw [if_neg (by omega)]
          · show [V.ref p] = [V.ref (if j = j then p else b j)]
            rw [if_pos rfl]
        · show Hx' (if j' = j then p else b j') = none ∧ upd _ Z _ (if j' = j then p else b j') = _ ∧ (if j' = j then p else b j') ≠ Z ∧ ∀ j2, j2 < j + 1 → (if j' = j then p else b j') = (if j2 = j then p else b j2) → j' = j2
          have bp : ∀ j', j' < j → b j' ≠ p := fun j' h => ne_of_none (hb j' h).2.1 np
          by_cases e : j' = j
          · rw [if_pos e, upd_ne pZ, upd_same, e]
            refine ⟨sy.free np, rfl, pZ, fun j2 h2 e2 => ?_⟩
            by_cases e3 : j2 = j
            · exact e3.symm
            · rw [if_neg e3] at e2
              exact absurd e2.symm (bp j2 (by omega))
          · rw [if_neg e]
            obtain ⟨h1, h2, h3, h4⟩ := hb j' (by omega)
            refine ⟨h1, by rw [upd_ne h3]; exact sp _ _ h2, h3, fun j2 hj2 e2 => ?_⟩
            by_cases e3 : j2 = j
            · rw [if_pos e3] at e2
              exact absurd e2 (bp j' (by omega))
            · rw [if_neg e3] at e2
              exact h4 j2 (by omega) e2
      · rintro Hy ⟨b, sy, eZ, hb⟩
        rw [List.length_map, List.length_range] at eZ hb
        refine ⟨by show 1 ≤ sizeLine; decide, fun Z1 nZ1 => ?_⟩
        have sy1 := sy.trans (Same.upd (o := .lst [V.int 0]) nZ1)
        have eZ1 := (Same.upd (o := .lst [V.int 0]) nZ1) _ _ eZ
        have hb1 := fun j h => (Same.upd (o := .lst [V.int 0]) nZ1) _ _ (hb j h).2.1
        have e1 : upd Hy Z1 (.lst [V.int 0]) Z1 = some (.lst [V.int 0]) := upd_same
        change (_ : Hp → Prop) (upd Hy Z1 (.lst [V.int 0]))
        generalize upd Hy Z1 (.lst [V.int 0]) = H4 at sy1 eZ1 hb1 e1 ⊢
        refine ⟨_, rfl, _, _, rfl, rfl, Z1, _, _, rfl, rfl, e1, by omega, by omega, by show 1 * ((n : Nat) + 2 : Int).toNat ≤ sizeLine; omega, fun p np => ⟨by show 1 ≤ sizeLine; decide, fun Z2 nZ2 => ?_⟩⟩
        have ev : (List.replicate ((n : Nat) + 2 : Int).toNat [V.int 0]).flatten = (List.replicate (n + 2) (0 : Int)).map V.int := by
          rw [show ((n : Nat) + 2 : Int).toNat = n + 2 by omega, List.map_replicate]
          generalize n + 2 = k
          induction k with
          | zero => rfl
          | succ k ih => rw [List.replicate_succ, List.flatten_cons, ih]; rfl
        have np0 : Hx' p = none := sy1.free np
        change (_ : Hp → Prop) (upd (upd H4 p (.lst (List.replicate ((n : Nat) + 2 : Int).toNat [V.int 0]).flatten)) Z2 (.lst [V.ref p]))
        rw [ev] at nZ2 ⊢
        have s45 : Same H4 (upd (upd H4 p (.lst ((List.replicate (n + 2) (0 : Int)).map V.int))) Z2 (.lst [V.ref p])) := (Same.upd np).trans (Same.upd nZ2)
        have ep5 : upd (upd H4 p (.lst ((List.replicate (n + 2) (0 : Int)).map V.int))) Z2 (.lst [V.ref p]) p = some (.lst ((List.replicate (n + 2) (0 : Int)).map V.int)) := (Same.upd nZ2) _ _ upd_same
        have e25 : upd (upd H4 p (.lst ((List.replicate (n + 2) (0 : Int)).map V.int))) Z2 (.lst [V.ref p]) Z2 = some (.lst [V.ref p]) := upd_same
        generalize upd (upd H4 p (.lst ((List.replicate (n + 2) (0 : Int)).map V.int))) Z2 (.lst [V.ref p]) = H5 at s45 ep5 e25 ⊢
        have sy5 := sy1.trans s45
        have eZ5 := s45 _ _ eZ1
        have hb5 := fun j h => s45 _ _ (hb1 j h)
        refine ⟨Z, Z2, _, _, rfl, rfl, eZ5, e25, by rw [List.length_map, List.length_range]; show n + 1 + 1 ≤ sizeLine; omega, fun q1 nq1 => ?_⟩
        have eQ : ((List.range (n + 1)).map fun j => V.ref (b j)) ++ [V.ref p] = (List.range (n + 1 + 1)).map fun j => V.ref (if j = n + 1 then p else b j) := by
          rw [List.range_succ (n := n + 1), List.map_append]
          congr 1
          · refine List.map_congr_left fun x hx => ?_
            have := List.mem_range.mp hx
            rw [if_neg (by omega)]
          · show [V.ref p] = [V.ref (if n + 1 = n + 1 then p else b (n + 1))]
            rw [if_pos rfl]
        change (_ : Hp → Prop) (upd H5 q1 (.lst (((List.range (n + 1)).map fun j => V.ref (b j)) ++ [V.ref p])))
        rw [eQ]
        have s56 := Same.upd (o := .lst ((List.range (n + 1 + 1)).map fun j => V.ref (if j = n + 1 then p else b j))) nq1
        have eQ6 : upd H5 q1 (.lst ((List.range (n + 1 + 1)).map fun j => V.ref (if j = n + 1 then p else b j))) q1 = some (.lst ((List.range (n + 1 + 1)).map fun j => V.ref (if j = n + 1 then p else b j))) := upd_same
        have nq0 : Hx' q1 = none := sy5.free nq1
        generalize upd H5 q1 (.lst ((List.range (n + 1 + 1)).map fun j => V.ref (if j = n + 1 then p else b j))) = H6 at s56 eQ6 ⊢
        have s6 := sy5.trans s56
        have rN : ∀ j, (rowN ps n [] a j).length = j + 1 := rowN_len ps n [] a
        have rb : ∀ j, j ≤ n + 1 → H6 (if j = n + 1 then p else b j) = some (.lst ((rowN ps n [] a j).map V.int)) := fun j hj => by
          unfold rowN
          by_cases e : j = n + 1
          · rw [if_pos e, e, if_neg (by omega), if_pos rfl, rowE_none fun q b z h => (List.not_mem_nil h).elim]
            exact s56 _ _ ep5
          · rw [if_neg e, if_pos (show j ≤ n by omega)]
            exact s56 _ _ (hb5 j (by omega))
        have bp : ∀ j, j < n + 1 → b j ≠ p := fun j h => ne_of_none (hb1 j h) np
        have sti := st.ins (a := a) na (p := q1) (b := fun j => if j = n + 1 then p else b j) s6 nq0 (fun j hj => by
            show Hx' (if j = n + 1 then p else b j) = none
            by_cases e : j = n + 1
            · rw [if_pos e]; exact np0
            · rw [if_neg e]; exact (hb j (by omega)).1) eQ6 rb (fun j hj j' hj' e => by
            have e : (if j = n + 1 then p else b j) = (if j' = n + 1 then p else b j') := e
            by_cases e1 : j = n + 1
            · rw [if_pos e1] at e
              by_cases e2 : j' = n + 1
              · omega
              · rw [if_neg e2] at e
                exact absurd e.symm (bp j' (by omega))
            · rw [if_neg e1] at e
              by_cases e2 : j' = n + 1
              · rw [if_pos e2] at e
                exact absurd e (bp j (by omega))
              · rw [if_neg e2] at e
                exact (hb j (by omega)).2.2.2 j' (by omega) e) rN
        refine ⟨_, rfl, _, rfl, D, _, rfl, DPut.k (k := .inl a) (s6 _ _ st.at_) (by rw [kd_len, List.length_take]; omega), ?_⟩
        have nD6 : HL D = none := fp D (.inl rfl)
        have ka : ∀ k ∈ as.take l, k ≠ a := fun k hk e => na (e ▸ hk)
        have erow : (fun k j => if k = a then rowN ps n [] a j else if k ∈ as.take l then rowN ps n [] k j else List.replicate (j + 1) 0) = fun k j => if k ∈ as.take (l + 1) then rowN ps n [] k j else List.replicate (j + 1) 0 := by
          funext k j
          rw [tka]
          by_cases e : k = a
          · subst e
            rw [if_pos rfl, if_pos (List.mem_append_right _ List.mem_cons_self)]
          · rw [if_neg e]
            by_cases m : k ∈ as.take l
            · rw [if_pos m, if_pos (List.mem_append_left _ m)]
            · rw [if_neg m, if_neg (fun h => (List.mem_append.mp h).elim m (fun h => e (List.mem_singleton.mp h)))]
        have fpn : ∀ x, Fp (n + 1) D (as.take l ++ [a]) (fun k => if k = a then q1 else A k) (fun k => if k = a then (fun j => if j = n + 1 then p else b j) else B k) x → Fp (n + 1) D (as.take l) A B x ∨ Hx' x = none := fun x h => by
          rcases h with rfl | ⟨k, hk, h⟩
          · exact .inl (.inl rfl)
          · replace h : x = (if k = a then q1 else A k) ∨ ∃ j, j ≤ n + 1 ∧ x = (if k = a then (fun j => if j = n + 1 then p else b j) else B k) j := h
            rcases List.mem_append.mp hk with hk | hk
            · rw [if_neg (ka k hk), if_neg (ka k hk)] at h
              exact .inl (.inr ⟨k, hk, h⟩)
            · rw [if_pos (List.mem_singleton.mp hk), if_pos (List.mem_singleton.mp hk)] at h
              rcases h with rfl | ⟨j, hj, rfl⟩
              · exact .inr nq0
              · refine .inr ?_
                show Hx' (if j = n + 1 then p else b j) = none
                by_cases e : j = n + 1
                · rw [if_pos e]; exact np0
                · rw [if_neg e]; exact (hb j (by omega)).1
        rw [erow] at sti
        refine ⟨_, _, _, rfl, fun x o e => ?_, ?_, by rw [tka] at sti ⊢; exact sti, fun x h => ?_, fun h => ?_⟩
        · rw [upd_ne (ne_of_none e nD6)]
          exact s6 _ _ (sx _ _ e)
        · rw [upd_ne DG.symm]
          exact s6 _ _ eG
        · rw [tka] at h
          rcases fpn x h with h | h
          · exact fp x h
          · exact sx.free h
        · rw [tka] at h
          rcases fpn G h with h | h
          · exact nfG h
          · rw [eG] at h
            cases h
    · rintro σ Hx ⟨v5, A, B, rfl, sx, eG, st, fp, nfG⟩
      rw [kd_len, List.take_length] at st fp nfG
      refine ⟨sx _ _ lC, ?_⟩
      have lnx := fun b (h : b ≠ C) => upd_ne (H := Hx) (o := .dK (kd as fun a => .ref (AC a))) h
      have eC4 : upd Hx C (.dK (kd as fun a => .ref (AC a))) C = some (.dK (kd as fun a => .ref (AC a))) := upd_same
      dsimp only
      generalize upd Hx C (.dK (kd as fun a => .ref (AC a))) = H4 at lnx eC4 ⊢
      have s4 : Same H H4 := fun b o e => by
        by_cases hb : b = C
        · subst hb
          rw [eC4, ← e, tv.c]
        · rw [lnx b hb]
          refine sx _ _ ?_
          rw [lne b hb]
          exact e
      have nfC : ¬ Fp (n + 1) D as A B C := fun h => by
        have := fp C h
        rw [lC] at this
        cases this
      have erow : (fun a j => if a ∈ as then rowN ps n [] a j else List.replicate (j + 1) 0) = rowN ps n [] := by
        funext a j
        by_cases m : a ∈ as
        · rw [if_pos m]
        · rw [if_neg m]
          unfold rowN
          split
          · rename_i hj
            exact (stP_none fun k hk e => m ((tv.ck a).mpr ⟨j, k, hj, hk, e⟩)).symm
          · split
            · rename_i hj
              rw [rowE_none fun q b z h => (List.not_mem_nil h).elim, hj]
            · rfl
      rw [erow] at st
      have st4 : St (n + 1) H4 D as A B (rowN ps n []) := st.more fun b o e f => by rw [lnx b (fun w => nfC (w ▸ f))]; exact e
      have eG4 := (lnx G nGC).trans eG
      have tv4 := tv.same s4
      -- the going
      refine ⟨U, _, tv4.t, trivial, fun od2 => ?_⟩
      obtain ⟨HM, eHM⟩ : ∃ HM, HM = upd H U (.frz od2 (.dK (kd ts fun k => .ref (AT k)))) := ⟨_, rfl⟩
      have lU : HM U = some (.frz od2 (.dK (kd ts fun k => .ref (AT k)))) := by rw [eHM]; exact upd_same
      have mne : ∀ b, b ≠ U → HM b = H b := fun b hb => by rw [eHM, upd_ne hb]
      have nDU : D ≠ U := (ne_of_none tv.t nD).symm
      have nGU : G ≠ U := (ne_of_none tv.t nG0).symm
      have l4 := fun b (h : b ≠ U) => upd_ne (H := H4) (o := .frz od2 (.dK (kd ts fun k => .ref (AT k)))) h
      have eU5 : upd H4 U (.frz od2 (.dK (kd ts fun k => .ref (AT k)))) U = some (.frz od2 (.dK (kd ts fun k => .ref (AT k)))) := upd_same
      generalize upd H4 U (.frz od2 (.dK (kd ts fun k => .ref (AT k)))) = H5 at l4 eU5 ⊢
      have s5 : Same HM H5 := fun b o e => by
        by_cases hb : b = U
        · subst hb
          rw [lU] at e
          rw [eU5]
          exact e
        · rw [mne b hb] at e
          rw [l4 b hb]
          exact s4 _ _ e
      have freeM : ∀ b, HL b = none → HM b = none := fun b h => by
        have hb : b ≠ C := by
          rintro rfl
          rw [lC] at h
          cases h
        rw [lne b hb] at h
        have hu' : b ≠ U := (ne_of_none tv.t h).symm
        rw [mne b hu']
        exact h
      have fpM : ∀ b, Fp (n + 1) D as A B b → HM b = none := fun b h => freeM b (fp b h)
      have nfU : ¬ Fp (n + 1) D as A B U := fun h => by
        have := fpM U h
        rw [lU] at this
        cases this
      have nx0 : Nx ps n HM as D G H5 [] [] (fun _ => D) as A B := by
        refine ⟨⟨s5, by rw [mne G nGU]; exact nG0, (l4 G nGU).trans eG4, fun k hk => (List.not_mem_nil hk).elim, fun k hk => (List.not_mem_nil hk).elim, fun k hk => (List.not_mem_nil hk).elim, .nil⟩, st4.more fun b o e f => by rw [l4 b (fun w => nfU (w ▸ f))]; exact e, fpM, nfG, fun k hk => (List.not_mem_nil hk).elim, fun z => ⟨fun h => (List.not_mem_nil h).elim, fun ⟨⟨q, b, h, _⟩, _⟩ => (List.not_mem_nil h).elim⟩, fun a => ⟨.inl, fun h => h.elim id fun ⟨q, b, z, h, _⟩ => (List.not_mem_nil h).elim⟩⟩
      have RU : R ≠ U := ne_of eR tv.t (by intro z; cases z)
      have eRM : HM R = some (.tup [.ref C, .ref U]) := (mne R RU).trans eR
      have trM : ∀ k ∈ ts, HM (AT k) = some (.tup ((cnt n (gP ps k)).map V.int)) := fun k hk => (mne _ (ne_of (tv.tr k hk) tv.t (by intro z; cases z))).trans (tv.tr k hk)
      have hmM : Mach HM m ps := hm.mono fun b xs e => by
        rw [mne b (ne_of e tv.t (by intro z; cases z))]
        exact e
      refine ⟨_, rfl, R, _, 1, .ref U, rfl, rfl, SqT.of (s5 _ _ eRM), atI_nat (j := 1) rfl, U, od2, _, rfl, eU5, for_it walk_items (fun l σ H' => ∃ (v5 v6 v7 v8 v9 v10 v11 v12 v13 : Option V) (ks : List Int) (A' : Int → Addr) (as' : List Int) (M : Int → Addr) (B : Int → Nat → Addr), σ = [some (V.ref m), some (V.ref R), some (V.int (n : Nat)), some (V.ref D), some (V.ref G), v5, v6, v7, v8, v9, v10, v11, v12, v13, none] ∧ Nx ps n HM as D G H' (dsT (ts.take l)) ks A' as' M B)
        ⟨_, _, _, _, _, _, _, _, _, _, _, _, _, _, rfl, nx0⟩ (fun l σ H' _ ⟨_, _, _, _, _, _, _, _, _, _, _, _, _, _, _, x⟩ => x.g.same _ _ lU) ?_ ?_⟩
      · rintro l x σ H6 H6' hl6 ⟨v5, v6, v7, v8, v9, v10, v11, v12, v13, ks, A', as', M, B, rfl, nx⟩ ⟨T1, x1, y1, rfl, nT1, rfl, ex1, ey1⟩
        obtain ⟨k, hk⟩ : ∃ k, ts[l]? = some k := ⟨ts[l]'(by rw [kd_len] at hl6; exact hl6), List.getElem?_eq_getElem _⟩
        have ekd : (kd ts fun k => V.ref (AT k))[l]? = some (.inl k, .ref (AT k)) := by
          unfold kd
          rw [List.getElem?_map, hk]
          rfl
        replace ex1 : ((kd ts fun k => V.ref (AT k))[l]?.map fun kv => kV kv.1) = some x1 := ex1
        replace ey1 : ((kd ts fun k => V.ref (AT k))[l]?.map Prod.snd) = some y1 := ey1
        rw [ekd] at ex1 ey1
        have ex1 := Option.some.inj ex1
        have ey1 := Option.some.inj ey1
        subst ex1 ey1
        have hkm : k ∈ ts := List.mem_of_getElem? hk
        obtain ⟨hlv, htoss⟩ := (tv.tk k).mp hkm
        have hkin := hlv.inn hw
        have tkk : ts.take (l + 1) = ts.take l ++ [k] := by rw [List.take_succ, hk]; rfl
        have nk : ∀ b, (k, b) ∉ dsT (ts.take l) := fun b h => by
          have h := dsT_mem.mp h
          have nd := tv.tn.sublist (List.take_sublist (l + 1) ts)
          rw [tkk, List.nodup_append] at nd
          exact nd.2.2 k h k List.mem_cons_self rfl
        obtain ⟨x, y, exy⟩ : ∃ x y, place ps k = .toss x y := by
          cases e : place ps k with
          | toss x y => exact ⟨x, y, rfl⟩
          | fin n => rw [e] at htoss; cases htoss
          | never => rw [e] at htoss; cases htoss
        have sx1 : side ps true k = some x := by unfold side; rw [exy]; rfl
        have sy1 : side ps false k = some y := by unfold side; rw [exy]; rfl
        have nx1 := nx.same (Same.upd (o := .tup [V.int k, .ref (AT k)]) nT1)
        have eT1 : upd H6 T1 (.tup [V.int k, .ref (AT k)]) T1 = some (.tup [V.int k, .ref (AT k)]) := upd_same
        try rw [show (HO.tup [kV (Sum.inl k), V.ref (AT k)]) = .tup [V.int k, .ref (AT k)] from rfl]
        generalize upd H6 T1 (.tup [V.int k, .ref (AT k)]) = H7 at nx1 eT1 ⊢
        obtain ⟨rs, tt, em, ea, et⟩ := (hmM.same nx1.g.same).at hw hkin.1 hkin.2
        rw [exy] at et
        refine ⟨T1, _, rfl, SqT.of eT1, rfl, _, _, rfl, _, _, rfl, rfl, ?_⟩
        refine ⟨_, rfl, _, rfl, m, rs, k, .ref tt, rfl, rfl, SqT.of em, ea, tt, _, 1, .int x, rfl, rfl, SqT.of et, atI_nat (j := 1) rfl, by show 2 ≤ sizeLine; decide, fun P1 n1 => ?_⟩
        have q1 := Same.upd (o := .tup [V.int x, .int 1]) n1
        have f1 : upd H7 P1 (.tup [V.int x, .int 1]) P1 = some (.tup [V.int x, .int 1]) := upd_same
        change (_ : Hp → Prop) (upd H7 P1 (.tup [V.int x, .int 1]))
        generalize upd H7 P1 (.tup [V.int x, .int 1]) = H8 at q1 f1 ⊢
        refine ⟨_, rfl, _, rfl, m, rs, k, .ref tt, rfl, rfl, SqT.of (q1 _ _ em), ea, tt, _, 2, .int y, rfl, rfl, SqT.of (q1 _ _ et), atI_nat (j := 2) rfl, by show 2 ≤ sizeLine; decide, fun P2 n2 => ?_⟩
        have q2 := Same.upd (o := .tup [V.int y, .int 0]) n2
        have f2 : upd H8 P2 (.tup [V.int y, .int 0]) P2 = some (.tup [V.int y, .int 0]) := upd_same
        change (_ : Hp → Prop) (upd H8 P2 (.tup [V.int y, .int 0]))
        generalize upd H8 P2 (.tup [V.int y, .int 0]) = H9 at q2 f2 ⊢
        refine ⟨by show 2 ≤ sizeLine; decide, fun P0 n0 => ?_⟩
        have q0 := Same.upd (o := .tup [V.ref P1, .ref P2]) n0
        have f0 : upd H9 P0 (.tup [V.ref P1, .ref P2]) P0 = some (.tup [V.ref P1, .ref P2]) := upd_same
        change (_ : Hp → Prop) (upd H9 P0 (.tup [V.ref P1, .ref P2]))
        have q123 := (q1.trans q2).trans q0
        replace f1 := q0 _ _ (q2 _ _ f1)
        replace f2 := q0 _ _ f2
        have nx2 := nx1.same q123
        generalize upd H9 P0 (.tup [V.ref P1, .ref P2]) = HA at nx2 f0 f1 f2 ⊢
        refine ⟨P0, rfl, ⟨_, SqT.of f0⟩, for_tup (K := K) (a := P0) (xs := [V.ref P1, .ref P2]) (fun j σ H' => ∃ (v5 v8 v9 v10 v11 v12 v13 : Option V) (ks : List Int) (A' : Int → Addr) (as' : List Int) (M : Int → Addr) (B : Int → Nat → Addr), σ = [some (V.ref m), some (V.ref R), some (V.int (n : Nat)), some (V.ref D), some (V.ref G), v5, some (V.ref (AT k)), some (V.int k), v8, v9, v10, v11, v12, v13, none] ∧ Nx ps n HM as D G H' (dsT (ts.take l) ++ [(k, true), (k, false)].take j) ks A' as' M B ∧ H' P0 = some (.tup [V.ref P1, .ref P2]) ∧ H' P1 = some (.tup [V.int x, .int 1]) ∧ H' P2 = some (.tup [V.int y, .int 0]))
          ⟨_, _, _, _, _, _, _, _, _, _, _, _, rfl, by rw [List.take_zero, List.append_nil]; exact nx2, f0, f1, f2⟩ (fun j σ H' _ ⟨_, _, _, _, _, _, _, _, _, _, _, _, _, _, h, _⟩ => SqT.of h) ?_ ?_⟩
        · rintro j v σ HB hj ⟨v5, v8, v9, v10, v11, v12, v13, ks, A', as', M, B, rfl, nxB, f0, f1, f2⟩
          obtain ⟨Pj, b, z, rfl, ePj, hside, etk, hj2⟩ : ∃ (Pj : Addr) (b : Bool) (z : Int), v = .ref Pj ∧ HB Pj = some (.tup [.int z, .int ((if b then 1 else 0 : Nat) : Int)]) ∧ side ps b k = some z ∧ [(k, true), (k, false)].take (j + 1) = [(k, true), (k, false)].take j ++ [(k, b)] ∧ (k, b) ∉ [(k, true), (k, false)].take j := by
            match j, hj with
            | 0, hj =>
              cases hj
              exact ⟨P1, true, x, rfl, f1, sx1, rfl, by simp⟩
            | 1, hj =>
              cases hj
              exact ⟨P2, false, y, rfl, f2, sy1, rfl, by simp⟩
            | j + 2, hj => cases hj
          obtain ⟨ds, eds⟩ : ∃ ds, ds = dsT (ts.take l) ++ [(k, true), (k, false)].take j := ⟨_, rfl⟩
          have ends : dsT (ts.take l) ++ [(k, true), (k, false)].take (j + 1) = ds ++ [(k, b)] := by rw [etk, eds, List.append_assoc]
          rw [ends]
          rw [← eds] at nxB
          have nds : (k, b) ∉ ds := by
            rw [eds]
            intro h
            rcases List.mem_append.mp h with h | h
            · exact nk b h
            · exact hj2 h
          have zin := side_in hw hkin hside
          obtain ⟨rs, tz, em, ea, et⟩ := (hmM.same nxB.g.same).at hw zin.1 zin.2
          refine ⟨Pj, _, rfl, SqT.of ePj, rfl, _, _, rfl, _, _, rfl, rfl, _, rfl, _, rfl, m, rs, z, .ref tz, rfl, rfl, SqT.of em, ea, ?_⟩
          dsimp only
          have dsin : ∀ q b, (q, b) ∈ ds → In ps q := fun q b h => by
            rw [eds] at h
            rcases List.mem_append.mp h with h | h
            · exact ((tv.tk q).mp (List.mem_of_mem_take (dsT_mem.mp h))).1.inn hw
            · have := List.mem_of_mem_take h
              simp only [List.mem_cons, List.not_mem_nil, or_false, Prod.mk.injEq] at this
              rcases this with ⟨rfl, _⟩ | ⟨rfl, _⟩ <;> exact hkin
          have hkl : ks.length ≤ 30 := Nat.le_trans (nodup_len ps.length ks nxB.g.nd fun z hz => by
            obtain ⟨⟨q, b, h1, h2⟩, _⟩ := (nxB.kk z).mp hz
            exact side_in hw (dsin q b h1) h2) hw.le
          have asok : ∀ a ∈ as', ansOk a := fun a h => by
            rcases (nxB.ka a).mp h with h | ⟨q, b, z, h1, h2, h3⟩
            · obtain ⟨j, k, _, h1, h2⟩ := (tv.ck a).mp h
              exact ans_ok hw (h1.inn hw) h2
            · exact ans_ok hw (side_in hw (dsin q b h1) h2) h3
          have few' := ans_few nxB.st.nd asok
          refine on (if_tail (fun σ H' => ∃ (v5 : Option V) (h : Addr) (r0 : List Int) (ks' : List Int) (A2 : Int → Addr) (as2 : List Int) (M2 : Int → Addr) (B2 : Int → Nat → Addr), σ = [some (V.ref m), some (V.ref R), some (V.int (n : Nat)), some (V.ref D), some (V.ref G), v5, some (V.ref (AT k)), some (V.int k), some (V.int z), some (V.int ((if b then 1 else 0 : Nat) : Int)), some (V.ref tz), some (V.ref h), v12, v13, none] ∧ H' h = some (.lst (r0.map V.int)) ∧ r0.length = n + 2 ∧ Same HM H' ∧ HM h = none ∧ H' P0 = some (.tup [V.ref P1, .ref P2]) ∧ H' P1 = some (.tup [V.int x, .int 1]) ∧ H' P2 = some (.tup [V.int y, .int 0]) ∧
            ∀ H'', But h H' H'' → H'' h = some (.lst ((bump (if b then 1 else 0) r0 (cnt n (gP ps k))).map V.int)) → Nx ps n HM as D G H'' (ds ++ [(k, b)]) ks' A2 as2 M2 B2) ?_ (fun tl => ?_))
          rotate_left
          · cases htos : (place ps z).tosses with
            | true =>
              obtain ⟨x2, y2, ep⟩ : ∃ x y, place ps z = .toss x y := by
                cases e : place ps z with
                | toss x y => exact ⟨x, y, rfl⟩
                | fin n => rw [e] at htos; cases htos
                | never => rw [e] at htos; cases htos
              rw [ep] at et
              refine ⟨_, rfl, tz, _, 0, .str "toss", rfl, rfl, SqT.of et, atI_nat (j := 0) rfl, rfl, _, rfl, ?_⟩
              rw [decide_eq_true rfl]
              refine iteT ?_
              refine ⟨_, rfl, G, rfl, .inl ⟨_, .inl nxB.g.at_⟩, _, rfl, by show 1 ≤ sizeLine; decide, fun Z1 nZ1 => ?_⟩
              have sy1 := Same.upd (o := .lst [V.int 0]) nZ1
              have e1 : upd HB Z1 (.lst [V.int 0]) Z1 = some (.lst [V.int 0]) := upd_same
              change (_ : Hp → Prop) (upd HB Z1 (.lst [V.int 0]))
              generalize upd HB Z1 (.lst [V.int 0]) = HC at sy1 e1 ⊢
              refine ⟨_, rfl, _, _, rfl, rfl, Z1, _, _, rfl, rfl, e1, by omega, by omega, by show 1 * ((n : Nat) + 2 : Int).toNat ≤ sizeLine; omega, fun p np => ?_⟩
              have ev : (List.replicate ((n : Nat) + 2 : Int).toNat [V.int 0]).flatten = (List.replicate (n + 2) (0 : Int)).map V.int := by
                rw [show ((n : Nat) + 2 : Int).toNat = n + 2 by omega]
                exact rep_zero (n + 2)
              change (_ : Hp → Prop) (upd HC p (.lst (List.replicate ((n : Nat) + 2 : Int).toNat [V.int 0]).flatten))
              rw [ev]
              have sC := sy1.trans (Same.upd (o := .lst ((List.replicate (n + 2) (0 : Int)).map V.int)) np)
              have nxC := nxB.same sC
              have ht := htos
              have np0 : HB p = none := sy1.free np
              have epp : upd HC p (.lst ((List.replicate (n + 2) (0 : Int)).map V.int)) p = some (.lst ((List.replicate (n + 2) (0 : Int)).map V.int)) := upd_same
              have nxC0 := nxB.same sy1
              have f0' := sC _ _ f0
              have f1' := sC _ _ f1
              have f2' := sC _ _ f2
              have nT : ∀ {b : Addr} {xs : List V}, upd HC p (.lst ((List.replicate (n + 2) (0 : Int)).map V.int)) b = some (.tup xs) → b ≠ G := fun e => ne_of e nxC.g.at_ (by intro z; cases z)
              refine ⟨_, DGet.k (k := .inl z) nxC.g.at_, ?_⟩
              dsimp only
              rw [kd_val]
              by_cases hz : z ∈ ks
              · rw [if_pos hz]
                show sDPut _ _ _ _ _ _
                refine ⟨_, rfl, _, rfl, _, rfl, G, _, rfl, DPut.k (k := .inl z) nxC.g.at_ (by rw [kd_len]; omega), ?_⟩
                have ek : putK (kd ks fun k => V.ref (A' k)) (.inl z) (.ref (A' z)) = kd ks fun k => V.ref (A' k) := by
                  rw [kd_old hz]
                  refine kd_congr fun w _ => ?_
                  unfold ov
                  split
                  · rename_i e; rw [e]
                  · rfl
                change (_ : Hp → Prop) (upd (upd HC p (.lst ((List.replicate (n + 2) (0 : Int)).map V.int))) G (.dK (putK (kd ks fun k => V.ref (A' k)) (.inl z) (.ref (A' z)))))
                rw [ek, upd_id nxC.g.at_]
                exact tl _ _ ⟨v5, A' z, rowV ps n ds z, ks, A', as', M, B, rfl, nxC.g.rows z hz, cnt_len _ _, nxC.g.same, nxC.g.fresh z hz, f0', f1', f2', fun H'' bt e => Nx.closeT nxC.g nxC.st nxC.fp nxC.nG nxC.nA nds hside ht hz (fun z' => by
                  rw [nxC.kk]
                  exact ⟨.inl, fun h => by rcases h with h | rfl; exact h; exact (nxC.kk _).mp hz⟩) nxC.ka bt e⟩
              · rw [if_neg hz]
                show sDPut _ _ _ _ _ _
                refine ⟨_, rfl, _, rfl, _, rfl, G, _, rfl, DPut.k (k := .inl z) nxC.g.at_ (by rw [kd_len]; omega), ?_⟩
                have hr0 : rowV ps n ds z = List.replicate (n + 2) 0 := row_none fun q b hq hs => hz ((nxC.kk z).mpr ⟨⟨q, b, hq, hs⟩, ht⟩)
                have g2 := nxC0.g.add hz np hr0
                have hzm : z ∈ ks ++ [z] := List.mem_append_right _ List.mem_cons_self
                have eA : ∀ k ∈ ks, (if k = z then p else A' k) = A' k := fun k hk => if_neg (show ¬ k = z from fun e => hz (e ▸ hk))
                have row0 := g2.rows z hzm
                have fresh0 := g2.fresh z hzm
                have eAz : (if z = z then p else A' z) = p := if_pos rfl
                rw [eAz] at row0 fresh0
                have live : ∀ b, Fp (n + 1) D as' M B b → b ≠ p := fun b f => fun e => nxB.st.live f (e ▸ np0)
                refine tl _ _ ⟨v5, p, rowV ps n ds z, ks ++ [z], (fun k => if k = z then p else A' k), as', M, B, rfl, row0, cnt_len _ _, g2.same, fresh0, by rw [upd_ne (nT f0')]; exact f0', by rw [upd_ne (nT f1')]; exact f1', by rw [upd_ne (nT f2')]; exact f2', fun H'' bt e => ?_⟩
                refine Nx.closeT g2 (nxC.st.more fun b o e f => by rw [upd_ne (show b ≠ G from fun w => nxC.nG (w ▸ f))]; exact e) nxC.fp nxC.nG (fun k hk => ?_) nds hside ht hzm (fun z' => ?_) nxC.ka (by show But (if z = z then p else A' z) _ _; rw [eAz]; exact bt) (by show H'' (if z = z then p else A' z) = _; rw [eAz]; exact e)
                · show ¬ Fp (n + 1) D as' M B (if k = z then p else A' k)
                  rcases List.mem_append.mp hk with hk | hk
                  · rw [eA k hk]
                    exact nxC.nA k hk
                  · rw [if_pos (List.mem_singleton.mp hk)]
                    exact fun f => live p f rfl
                · rw [List.mem_append, List.mem_singleton, nxC.kk]
            | false =>
              obtain ⟨a, ha⟩ : ∃ a, ansP (place ps z) = some a := Option.ne_none_iff_exists'.mp fun h => by rw [ans_toss.mp h] at htos; cases htos
              obtain ⟨w0, hw0, hw1⟩ := stop_head htos
              refine ⟨_, rfl, tz, _, 0, .str w0, rfl, rfl, SqT.of et, atI_nat (j := 0) hw0, rfl, _, rfl, ?_⟩
              rw [decide_eq_false hw1]
              refine iteF ?_
              refine on (asg_tail (fun v H' => v = .int a ∧ H' = HB) ?_ (fun t2 => ?_))
              rotate_left
              · cases ep : place ps z with
                | toss x2 y2 => rw [ep] at htos; cases htos
                | fin c =>
                  rw [ep] at et ha
                  refine ⟨_, rfl, tz, _, 0, .str "end", rfl, rfl, SqT.of et, atI_nat (j := 0) rfl, rfl, _, rfl, ?_⟩
                  rw [decide_eq_true rfl]
                  refine iteT ⟨_, rfl, tz, _, 1, .int c, rfl, rfl, SqT.of et, atI_nat (j := 1) rfl, t2 _ _ ⟨?_, rfl⟩⟩
                  rw [Option.some.inj ha]
                | never =>
                  rw [ep] at et ha
                  refine ⟨_, rfl, tz, _, 0, .str "never", rfl, rfl, SqT.of et, atI_nat (j := 0) rfl, rfl, _, rfl, ?_⟩
                  rw [decide_eq_false str_end_never]
                  refine iteF ⟨_, rfl, t2 _ _ ⟨?_, rfl⟩⟩
                  rw [← Option.some.inj ha]
              · rintro v HB ⟨rfl, rfl⟩
                dsimp only
                refine on (if_tail (fun σ H' => ∃ (as2 : List Int) (M2 : Int → Addr) (B2 : Int → Nat → Addr), σ = [some (V.ref m), some (V.ref R), some (V.int (n : Nat)), some (V.ref D), some (V.ref G), some (V.int a), some (V.ref (AT k)), some (V.int k), some (V.int z), some (V.int ((if b then 1 else 0 : Nat) : Int)), some (V.ref tz), v11, v12, v13, none] ∧ St (n + 1) H' D as2 M2 B2 (rowN ps n ds) ∧ a ∈ as2 ∧ (∀ k, k ∈ as2 ↔ k ∈ as' ∨ k = a) ∧ Going HM H' G ks A' (rowV ps n ds) ∧ (∀ b, Fp (n + 1) D as2 M2 B2 b → HM b = none) ∧ ¬ Fp (n + 1) D as2 M2 B2 G ∧ (∀ k ∈ ks, ¬ Fp (n + 1) D as2 M2 B2 (A' k)) ∧ H' P0 = some (.tup [V.ref P1, .ref P2]) ∧ H' P1 = some (.tup [V.int x, .int 1]) ∧ H' P2 = some (.tup [V.int y, .int 0]) ∧ H' tz = some (.tup (place ps z).row)) ?_ (fun tl2 => ?_))
                rotate_left
                · refine ⟨_, rfl, _, rfl, D, _, rfl, DGet.k (k := .inl a) nxB.st.at_, _, rfl, ?_⟩
                  rw [kd_val]
                  by_cases ha2 : a ∈ as'
                  · rw [if_pos ha2]
                    exact iteF (tl2 _ _ ⟨as', M, B, rfl, nxB.st, ha2, fun k => ⟨.inl, fun h => by rcases h with h | rfl; exact h; exact ha2⟩, nxB.g, nxB.fp, nxB.nG, nxB.nA, f0, f1, f2, et⟩)
                  · rw [if_neg ha2]
                    refine iteT ?_
                    refine ⟨_, rfl, _, _, rfl, rfl, _, rfl, by omega, by omega, fun Z nZ => ?_⟩
                    refine lc_range (lo := 0) (n := n + 1 + 1) (fun i Hx => ∃ b : Nat → Addr, Same HB Hx ∧ Hx Z = some (.lst ((List.range i).map fun j => .ref (b j))) ∧ ∀ j, j < i → HB (b j) = none ∧ Hx (b j) = some (.lst ((List.replicate (j + 1) (0 : Int)).map V.int)) ∧ ∀ j', j' < i → b j = b j' → j = j') ⟨fun _ => D, Same.upd nZ, upd_same, fun j h => absurd h (Nat.not_lt_zero _)⟩ ?_ ?_
                    · rintro i Hx hi ⟨bb, sx, eC, hb⟩
                      refine ⟨rfl, by show 1 ≤ sizeLine; decide, fun Z1 nZ1 => ?_⟩
                      have s1 := sx.trans (Same.upd (o := .lst [V.int 0]) nZ1)
                      have eC1 := (Same.upd (o := .lst [V.int 0]) nZ1) _ _ eC
                      have hb1 : ∀ j, j < i → upd Hx Z1 (.lst [V.int 0]) (bb j) = some (.lst ((List.replicate (j + 1) (0 : Int)).map V.int)) := fun j hj => (Same.upd (o := .lst [V.int 0]) nZ1) _ _ (hb j hj).2.1
                      have eZ : upd Hx Z1 (.lst [V.int 0]) Z1 = some (.lst [V.int 0]) := upd_same
                      change (_ : Hp → Prop) (upd Hx Z1 (.lst [V.int 0]))
                      generalize upd Hx Z1 (.lst [V.int 0]) = H2 at s1 eC1 hb1 eZ ⊢
                      refine ⟨_, rfl, _, _, rfl, rfl, Z1, _, _, rfl, rfl, eZ, by omega, by omega, by show 1 * (0 + (i : Nat) + 1 : Int).toNat ≤ sizeLine; omega, fun p np => ?_⟩
                      have ev : (List.replicate (0 + (i : Nat) + 1 : Int).toNat [V.int 0]).flatten = (List.replicate (i + 1) (0 : Int)).map V.int := by
                        rw [show (0 + (i : Nat) + 1 : Int).toNat = i + 1 by omega]
                        exact rep_zero (i + 1)
                      have s3 := s1.trans (Same.upd (o := .lst ((List.replicate (i + 1) (0 : Int)).map V.int)) np)
                      have eC3 := (Same.upd (o := .lst ((List.replicate (i + 1) (0 : Int)).map V.int)) np) _ _ eC1
                      have hb3 := fun j hj => (Same.upd (o := .lst ((List.replicate (i + 1) (0 : Int)).map V.int)) np) _ _ (hb1 j hj)
                      have e3 : upd H2 p (.lst ((List.replicate (i + 1) (0 : Int)).map V.int)) p = some (.lst ((List.replicate (i + 1) (0 : Int)).map V.int)) := upd_same
                      change (_ : Hp → Prop) (upd H2 p (.lst (List.replicate (0 + (i : Nat) + 1 : Int).toNat [V.int 0]).flatten))
                      rw [ev]
                      have np0 : HB p = none := s1.free np
                      generalize upd H2 p (.lst ((List.replicate (i + 1) (0 : Int)).map V.int)) = H3 at s3 eC3 hb3 e3 ⊢
                      have pC : p ≠ Z := by
                        rintro rfl
                        rw [eC1] at np
                        cases np
                      have bp : ∀ j, j < i → bb j ≠ p := fun j hj => ne_of_none (hb1 j hj) np
                      have bC : ∀ j, j < i → bb j ≠ Z := fun j hj e => by
                        have h := hb3 j hj
                        rw [e, eC3] at h
                        have h := HO.lst.inj (Option.some.inj h)
                        have := congrArg List.head? h
                        rw [List.head?_map, List.head?_map] at this
                        cases i with
                        | zero => exact absurd hj (Nat.not_lt_zero _)
                        | succ i =>
                          rw [List.range_succ_eq_map, List.replicate_succ] at this
                          cases this
                      refine ⟨_, eC3, by rw [List.length_map, List.length_range]; omega, fun j => if j = i then p else bb j, fun x o e => ?_, ?_, fun j hj => ?_⟩
                      · rw [upd_ne (ne_of_none e nZ)]
                        exact s3 _ _ e
                      · rw [upd_same, List.range_succ, List.map_append]
                        congr 3
                        · refine List.map_congr_left fun j hj => ?_
                          have := List.mem_range.mp hj
                          show V.ref (bb j) = V.ref (if j = i then p else bb j)
                          rw [if_neg (by omega)]
                        · show [V.ref p] = [V.ref (if i = i then p else bb i)]
                          rw [if_pos rfl]
                      · by_cases e : j = i
                        · subst e
                          simp only [if_true]
                          refine ⟨np0, by rw [upd_ne pC]; exact e3, fun j' hj' e => ?_⟩
                          by_cases e' : j' = j
                          · exact e'.symm
                          · rw [if_neg e'] at e
                            exact absurd e.symm (bp j' (by omega))
                        · have hj2 : j < i := by omega
                          simp only [if_neg e]
                          refine ⟨(hb j hj2).1, by rw [upd_ne (bC j hj2)]; exact hb3 j hj2, fun j' hj' e2 => ?_⟩
                          by_cases e' : j' = i
                          · rw [if_pos e'] at e2
                            exact absurd e2 (bp j hj2)
                          · rw [if_neg e'] at e2
                            exact (hb j hj2).2.2 j' (by omega) e2
                    · rintro Hx ⟨bb, sx, eC, hb⟩
                      refine ⟨_, rfl, _, rfl, D, _, rfl, DPut.k (k := .inl a) (sx _ _ nxB.st.at_) (by rw [kd_len]; omega), ?_⟩
                      have sa := nxB.st.add (H' := Hx) ha2 (p := Z) (b := bb) sx nZ (fun j hj => (hb j (by omega)).1) eC (fun j hj => (hb j (by omega)).2.1) (fun j hj j' hj' e => (hb j (by omega)).2.2 j' (by omega) e)
                      have ka : ∀ k ∈ as', k ≠ a := fun k hk e => ha2 (e ▸ hk)
                      have fpn : ∀ x, Fp (n + 1) D (as' ++ [a]) (fun k => if k = a then Z else M k) (fun k => if k = a then bb else B k) x → Fp (n + 1) D as' M B x ∨ HB x = none := fun x h => by
                        rcases h with rfl | ⟨k, hk, h⟩
                        · exact .inl (.inl rfl)
                        · replace h : x = (if k = a then Z else M k) ∨ ∃ j, j ≤ n + 1 ∧ x = (if k = a then bb else B k) j := h
                          rcases List.mem_append.mp hk with hk | hk
                          · rw [if_neg (ka k hk), if_neg (ka k hk)] at h
                            exact .inl (.inr ⟨k, hk, h⟩)
                          · rw [if_pos (List.mem_singleton.mp hk), if_pos (List.mem_singleton.mp hk)] at h
                            rcases h with rfl | ⟨j, hj, rfl⟩
                            · exact .inr nZ
                            · exact .inr (hb j (by omega)).1
                      have nD6 : HM D = none := nxB.fp D (.inl rfl)
                      have sD : ∀ b o, HB b = some o → b ≠ D → upd Hx D (.dK (putK (kd as' fun a => .ref (M a)) (.inl a) (.ref Z))) b = some o := fun b o e h => by
                        rw [upd_ne h]
                        exact sx _ _ e
                      have sM : Same HM (upd Hx D (.dK (putK (kd as' fun a => .ref (M a)) (.inl a) (.ref Z)))) := fun b o e => sD b o (nxB.g.same _ _ e) (ne_of_none e nD6)
                      have nT : ∀ {b : Addr} {xs : List V}, HB b = some (.tup xs) → b ≠ D := fun e => ne_of e nxB.st.at_ (by intro z; cases z)
                      refine tl2 _ _ ⟨as' ++ [a], _, _, rfl, sa, List.mem_append_right _ List.mem_cons_self, fun k => by rw [List.mem_append, List.mem_singleton], nxB.g.carry sM fun b o e hc => sD b o e ?_, fun x h => ?_, fun h => ?_, fun k hk h => ?_, sD _ _ f0 (nT f0), sD _ _ f1 (nT f1), sD _ _ f2 (nT f2), sD _ _ et (nT et)⟩
                      · rcases hc with rfl | ⟨k, hk, rfl⟩
                        · exact fun w => nxB.nG (w ▸ .inl rfl)
                        · exact fun w => nxB.nA k hk (w ▸ .inl rfl)
                      · rcases fpn x h with h | h
                        · exact nxB.fp x h
                        · exact nxB.g.same.free h
                      · rcases fpn G h with h | h
                        · exact nxB.nG h
                        · rw [nxB.g.at_] at h
                          cases h
                      · rcases fpn _ h with h | h
                        · exact nxB.nA k hk h
                        · rw [nxB.g.rows k hk] at h
                          cases h
                · rintro σ H1 ⟨as2, M2, B2, rfl, st2, ha2, hk2, g2, fp2, nG2, nA2, f0, f1, f2, et2⟩
                  have eI : ((n : Nat) : Int) + 1 = ((n + 1 : Nat) : Int) := by omega
                  have hBf : HM (B2 a (n + 1)) = none := fp2 _ (.inr ⟨a, ha2, .inr ⟨n + 1, Nat.le_refl _, rfl⟩⟩)
                  have hrow := st2.rows a ha2 (n + 1) (Nat.le_refl _)
                  have er : rowN ps n ds a (n + 1) = rowE ps n ds a := by
                    unfold rowN
                    rw [if_neg (by omega), if_pos rfl]
                  rw [er] at hrow
                  refine ⟨_, rfl, _, rfl, D, _, rfl, by rw [show some (V.ref (M2 a)) = valV (kd as2 fun k => V.ref (M2 k)) (.inl a) by rw [kd_val, if_pos ha2]]; exact DGet.k (k := .inl a) st2.at_, _, rfl, _, _, rfl, rfl, M2 a, _, _, .ref (B2 a (n + 1)), rfl, rfl, SqL.of (st2.lists a ha2), by rw [eI]; exact atI_nat (by rw [List.getElem?_map, List.getElem?_range (by omega)]; rfl), ?_⟩
                  exact tl _ _ ⟨_, B2 a (n + 1), rowE ps n ds a, ks, A', as2, M2, B2, rfl, hrow, cnt_len _ _, g2.same, hBf, f0, f1, f2, fun H'' bt e => Nx.closeS g2 st2 fp2 nG2 nA2 nds hside ha ha2 nxB.kk (fun a' => by rw [hk2, nxB.ka]) bt e⟩
          · rintro σ H1 ⟨v5', h, r0, ks', A2, as2, M2, B2, rfl, eh, r0l, sM, hM0, f0, f1, f2, close⟩
            have cl : (cnt n (gP ps k)).length = n + 1 := cnt_len _ _
            refine ⟨_, rfl, AT k, _, rfl, SqT.of (sM _ _ (trM k hkm)), EN.for_pairs (K := K) (xs := (cnt n (gP ps k)).map V.int) (fun i σ H' => ∃ (v12 v13 : Option V), σ = [some (V.ref m), some (V.ref R), some (V.int (n : Nat)), some (V.ref D), some (V.ref G), v5', some (V.ref (AT k)), some (V.int k), some (V.int z), some (V.int ((if b then 1 else 0 : Nat) : Int)), some (V.ref tz), some (V.ref h), v12, v13, none] ∧ But h H1 H' ∧ H' h = some (.lst ((bump (if b then 1 else 0) r0 ((cnt n (gP ps k)).take i)).map V.int)))
              ⟨v12, v13, rfl, But.refl _ _, by rw [List.take_zero, bump_nil]; exact eh⟩ (fun i σ H' _ ⟨_, _, _, bt, _⟩ => SqT.of (bt _ _ (sM _ _ (trM k hkm)) (ne_of_none (trM k hkm) hM0))) ?_ ?_⟩
            · rintro i xv σ H2 Tj hxv ⟨v12, v13, rfl, bt, e2⟩ nTj
              obtain ⟨c, hc, rfl⟩ : ∃ c, (cnt n (gP ps k))[i]? = some c ∧ V.int c = xv := by
                rw [List.getElem?_map] at hxv
                obtain ⟨c, h1, h2⟩ := Option.map_eq_some_iff.mp hxv
                exact ⟨c, h1, h2⟩
              have hi : i < n + 1 := by
                have := (List.getElem?_eq_some_iff.mp hc).1
                omega
              have sT := Same.upd (o := .tup [V.int (i : Nat), .int c]) nTj
              have bt3 : But h H1 (upd H2 Tj (.tup [V.int (i : Nat), .int c])) := bt.trans (But.of sT)
              have e3 := sT _ _ e2
              have eT3 : upd H2 Tj (.tup [V.int (i : Nat), .int c]) Tj = some (.tup [V.int (i : Nat), .int c]) := upd_same
              generalize upd H2 Tj (.tup [V.int (i : Nat), .int c]) = H3 at bt3 e3 eT3 ⊢
              have off : i + (if b then 1 else 0) < r0.length := by
                rw [r0l]
                cases b
                · rw [if_neg (by decide)]; omega
                · rw [if_pos rfl]; omega
              obtain ⟨u, hu'⟩ : ∃ u, (bump (if b then 1 else 0) r0 ((cnt n (gP ps k)).take i))[i + (if b then 1 else 0)]? = some u := ⟨_, List.getElem?_eq_getElem (by rw [bump_len]; exact off)⟩
              have eidx : ((i : Nat) : Int) + ((if b then 1 else 0 : Nat) : Int) = ((i + (if b then 1 else 0) : Nat) : Int) := by omega
              have step := bump_step (off := if b then 1 else 0) (row := r0) hc off hu'
              refine ⟨Tj, _, rfl, SqT.of eT3, rfl, _, _, rfl, _, _, rfl, rfl, _, rfl, _, rfl, _, rfl, _, _, rfl, rfl, h, _, _, .int u, rfl, rfl, SqL.of e3, by rw [eidx]; exact atI_nat (by rw [List.getElem?_map, hu']; rfl), _, rfl, _, _, rfl, rfl, _, rfl, _, rfl, _, rfl, _, _, rfl, rfl, h, _, _, i + (if b then 1 else 0), rfl, rfl, e3, by rw [List.length_map, bump_len, eidx]; exact ixN_nat off, ?_⟩
              refine ⟨_, _, rfl, bt3.trans But.put, ?_⟩
              rw [upd_same, ← step, List.map_set]
            · rintro σ H2 ⟨v12, v13, rfl, bt, e2⟩
              rw [List.length_map, List.take_length] at e2
              have nh : ∀ {c : Addr} {xs : List V}, H1 c = some (.tup xs) → c ≠ h := fun e => ne_of e eh (by intro z; cases z)
              exact ⟨_, _, _, _, _, _, _, ks', A2, as2, M2, B2, rfl, close H2 bt e2, bt _ _ f0 (nh f0), bt _ _ f1 (nh f1), bt _ _ f2 (nh f2)⟩
        · rintro σ HB ⟨v5, v8, v9, v10, v11, v12, v13, ks, A', as', M, B, rfl, nxB, f0, f1, f2⟩
          have e : dsT (ts.take (l + 1)) = dsT (ts.take l) ++ [(k, true), (k, false)].take 2 := by rw [tkk, dsT_snoc]; rfl
          exact ⟨_, _, _, _, _, _, _, _, _, ks, A', as', M, B, rfl, by rw [e]; exact nxB⟩
      · rintro σ H6 ⟨v5, v6, v7, v8, v9, v10, v11, v12, v13, ks, A', as', M, B, rfl, nx⟩
        rw [kd_len, List.take_length] at nx
        refine ⟨nx.g.same _ _ lU, ?_⟩
        have l6 := fun b (h : b ≠ U) => upd_ne (H := H6) (o := .dK (kd ts fun k => .ref (AT k))) h
        have eU7 : upd H6 U (.dK (kd ts fun k => .ref (AT k))) U = some (.dK (kd ts fun k => .ref (AT k))) := upd_same
        dsimp only
        generalize upd H6 U (.dK (kd ts fun k => .ref (AT k))) = H7 at l6 eU7 ⊢
        have s7 : Same H H7 := fun b o e => by
          by_cases hb : b = U
          · subst hb
            rw [eU7, ← e, tv.t]
          · rw [l6 b hb]
            refine nx.g.same _ _ ?_
            rw [mne b hb]
            exact e
        have nU : ∀ b, HM b = none → b ≠ U := fun b h e => by
          rw [e, lU] at h
          cases h
        have all : ∀ k b, Lv ps n k → (place ps k).tosses = true → (k, b) ∈ dsT ts := fun k b h1 h2 => dsT_mem.mpr ((tv.tk k).mpr ⟨h1, h2⟩)
        refine ⟨_, rfl, _, rfl, by show 2 ≤ sizeLine; decide, fun p np => ?_⟩
        have sp := Same.upd (o := .tup [V.ref D, .ref G]) np
        have fB : ∀ a ∈ as', ∀ j, j ≤ n + 1 → HM (B a j) = none := fun a h j hj => nx.fp _ (.inr ⟨a, h, .inr ⟨j, hj, rfl⟩⟩)
        have fA : ∀ a ∈ as', HM (M a) = none := fun a h => nx.fp _ (.inr ⟨a, h, .inl rfl⟩)
        have erow : ∀ a j, j ≤ n + 1 → rowN ps n (dsT ts) a j = cnt j (stP ps a) := fun a j hj => by
          unfold rowN
          split
          · rfl
          · rw [if_pos (show j = n + 1 by omega), rowE_all all, show j = n + 1 by omega]
        refine q p D G as' ks M B A' _ (s7.trans sp) (s7.free np) upd_same DG ⟨sp _ _ ((l6 D (nU D (nx.fp D (.inl rfl)))).trans nx.st.at_), fun a h => sp _ _ ((l6 _ (nU _ (fA a h))).trans (nx.st.lists a h)), fun a h j hj => sp _ _ ?_, nx.st.nd, sp _ _ ((l6 G (nU G nx.g.fD)).trans nx.g.at_), fun k hk => sp _ _ ?_, nx.g.nd⟩ (fun a => ?_) fun k => ?_
        · show H7 (B a j) = some (.lst ((cnt j (stP ps a)).map V.int))
          rw [l6 _ (nU _ (fB a h j hj)), ← erow a j hj]
          exact nx.st.rows a h j hj
        · show H7 (A' k) = some (.lst ((cnt (n + 1) (gP ps k)).map V.int))
          rw [l6 _ (nU _ (nx.g.fresh k hk)), ← rowV_all all]
          exact nx.g.rows k hk
        · rw [nx.ka, tv.ck]
          constructor
          · rintro (⟨j, k, h1, h2⟩ | ⟨q, b, z, h1, h2, h3⟩)
            · exact ⟨j, k, by omega, h2⟩
            · exact ⟨n + 1, z, Nat.le_refl _, lv_succ.mpr ⟨q, b, ((tv.tk q).mp (dsT_mem.mp h1)).1, h2⟩, h3⟩
          · rintro ⟨j, k, h1, h2, h3⟩
            by_cases e : j ≤ n
            · exact .inl ⟨j, k, e, h2, h3⟩
            · have e : j = n + 1 := by omega
              subst e
              obtain ⟨q, b, h4, h5⟩ := lv_succ.mp h2
              exact .inr ⟨q, b, k, all q b h4 (side_isT h5), h5, h3⟩
        · rw [nx.kk, lv_succ]
          constructor
          · rintro ⟨⟨q, b, h1, h2⟩, h3⟩
            exact ⟨⟨q, b, ((tv.tk q).mp (dsT_mem.mp h1)).1, h2⟩, h3⟩
          · rintro ⟨⟨q, b, h1, h2⟩, h3⟩
            exact ⟨⟨q, b, all q b h1 (side_isT h2), h2⟩, h3⟩
end
end Z

set_option Elab.async false
set_option linter.all false
set_option maxRecDepth 100000
set_option maxHeartbeats 4000000
namespace Z
open PySem PySem.Spec PyProof.Rows L2 GG DCX
abbrev sBegun : Stmt := top 14
abbrev sLaw : Stmt := top 15
abbrev sStop' : Stmt := top 3
theorem cnt_nil (P : List Bool → Bool) : cnt 0 P = [if P [] then 1 else 0] := by
  unfold cnt
  show [((([[]] : List (List Bool)).countP fun r => decide (hds r = 0) && P r : Nat) : Int)] = _
  rw [List.countP_cons, List.countP_nil]
  have : (decide (hds [] = 0) && P []) = P [] := rfl
  rw [this]
  cases P [] <;> rfl
/-! data of what is shown -/
theorem lay_map {α : Type} {f : α → PyData} (h : ∀ x, (f x).canLay0 = true) : ∀ l : List α, PyData.canLayAll0 (l.map f) = true
  | [] => rfl
  | x :: r => by simp [PyData.canLayAll0, h x, lay_map h r]
theorem dep_map {α : Type} {f : α → PyData} {d : Nat} (h : ∀ x, (f x).depth ≤ d) : ∀ l : List α, PyData.depthAll (l.map f) ≤ d
  | [] => by simp [PyData.depthAll]
  | x :: r => by
    have h1 := h x
    have h2 := dep_map h r
    simp only [List.map_cons, PyData.depthAll]
    omega
theorem lay_int (n : Int) : (PyData.int n).canLay0 = true := rfl
theorem dep_int (n : Int) : (PyData.int n).depth = 0 := by simp [PyData.depth]
theorem lay_row (ns : List Int) : (rowD ns).canLay0 = true := lay_map lay_int ns
theorem dep_row (ns : List Int) : (rowD ns).depth ≤ 1 := by
  have := dep_map (f := PyData.int) (d := 0) (fun x => by rw [dep_int]; exact Nat.le_refl _) ns
  unfold rowD
  simp only [PyData.depth]
  omega
theorem lay_aD (L : Nat) (ra : Int → Nat → List Int) (a : Int) : (aD L ra a).canLay0 = true := by
  show PyData.canLayAll0 [.int a, .list _] = true
  simp only [PyData.canLayAll0, PyData.canLay0, Bool.true_and, Bool.and_true]
  exact lay_map (fun j => lay_row _) _
theorem dep_aD (L : Nat) (ra : Int → Nat → List Int) (a : Int) : (aD L ra a).depth ≤ 3 := by
  have := dep_map (f := fun j => rowD (ra a j)) (d := 1) (fun j => dep_row _) (List.range (L + 1))
  unfold aD
  simp only [PyData.depth, PyData.depthAll]
  omega
theorem lay_tD (rt : Int → List Int) (a : Int) : (tD rt a).canLay0 = true := by
  show PyData.canLayAll0 [.int a, rowD _] = true
  simp only [PyData.canLayAll0, PyData.canLay0, Bool.true_and, Bool.and_true]
  exact lay_row _
theorem dep_tD (rt : Int → List Int) (a : Int) : (tD rt a).depth ≤ 2 := by
  have := dep_row (rt a)
  unfold tD
  simp only [PyData.depth, PyData.depthAll]
  omega
theorem lay_shD (L : Nat) (as : List Int) (ra : Int → Nat → List Int) (ts : List Int) (rt : Int → List Int) : (shD L as ra ts rt).canLay0 = true := by
  show PyData.canLayAll0 [.list _, .list _] = true
  simp only [PyData.canLayAll0, Bool.and_true]
  rw [Bool.and_eq_true]
  exact ⟨lay_map (lay_aD L ra) _, lay_map (lay_tD rt) _⟩
theorem shaped_shD (L : Nat) (as : List Int) (ra : Int → Nat → List Int) (ts : List Int) (rt : Int → List Int) : SeqAt.shaped (shD L as ra ts rt) = true := by
  unfold SeqAt.shaped
  rw [lay_shD, Bool.true_and, decide_eq_true_eq]
  have h1 := dep_map (dep_aD L ra) as
  have h2 := dep_map (dep_tD rt) ts
  unfold shD
  simp only [PyData.depth, PyData.depthAll]
  omega
section
variable {P : Program} {w : World} {K : PySem.W.Frag} {mg : Str → Option Value} {base : Heap}
def spBegun : Sp := fun vs H Q _ => ∃ (m : Addr) (ps : List Pl), vs = [.ref m] ∧ Mach H m ps ∧ WF ps ∧
  ∀ (p E G : Addr) (as' ts' : List Int) (A' : Int → Addr) (B' : Int → Nat → Addr) (AT' : Int → Addr) H', Same H H' → H p = none → H' p = some (.tup [.ref E, .ref G]) → E ≠ G → Tv false 0 H' E G as' (fun a j => cnt j (stP ps a)) ts' (fun k => cnt 0 (gP ps k)) A' B' AT' →
    (∀ a, a ∈ as' ↔ ∃ j k, j ≤ 0 ∧ Lv ps j k ∧ ansP (place ps k) = some a) → (∀ k, k ∈ ts' ↔ Lv ps 0 k ∧ (place ps k).tosses = true) → Q (.ref p) H'
theorem scBegun : FnScope ["machine"] ["machine"] (defScope sBegun) := ⟨rfl, rfl, rfl, by decide +kernel, rfl, by decide +kernel, by decide +kernel⟩
theorem ok_begun {f : Addr} {fd : FuncData} (F : Fun K "_law_begun" "_law_begun" sBegun f fd) : FnOk P w K mg base CX0 1 f fd ["machine"] spBegun := by
  refine F.ok scBegun (fun vs H Q E h => ?_) (fun cdv A outer s H vs Q E hr h => ?_)
  · obtain ⟨m, ps, rfl, _⟩ := h
    rfl
  · obtain ⟨m, ps, rfl, hm, hw, q⟩ := h
    refine ⟨_, (pss_cons (ps_if (pt_cmpR op_eq (pe_ix ix_tup (pe_ix ix_tup (pv 0) pe_int (fun _ _ => rfl)) pe_int (fun _ _ => rfl)) pe_str (nomark _)) (pss_one (ps_ret (pe_tup (pa_cons pe_dnewK (pa_cons (pe_disp (pps_cons pe_int (pe_lst (pa_cons pe_int pa_nil)) pps_nil) (by rfl) (by rfl) (fun z => by cases z) (by decide)) pa_nil))))) pss_nil)
      (pss_one (ps_ret (pe_tup (pa_cons (pe_disp (pps_cons (pe_ifExp (pt_cmpR op_eq (pe_ix ix_tup (pe_ix ix_tup (pv 0) pe_int (fun _ _ => rfl)) pe_int (fun _ _ => rfl)) pe_str (nomark _)) (pe_ix ix_tup (pe_ix ix_tup (pv 0) pe_int (fun _ _ => rfl)) pe_int (fun _ _ => rfl)) (pe_un un_neg pe_int)) (pe_lst (pa_cons (pe_lst (pa_cons pe_int pa_nil)) pa_nil)) pps_nil) (by rfl) (by rfl) (fun z => by cases z) (by decide)) (pa_cons pe_dnewK pa_nil)))))), ?_⟩
    have hn := hw.ne
    obtain ⟨rs, tt, em, ea, et⟩ := hm.at hw (a := 0) (by omega) (by omega)
    cases htos : (place ps 0).tosses with
    | true =>
      obtain ⟨x2, y2, ep⟩ : ∃ x y, place ps 0 = .toss x y := by
        cases e : place ps 0 with
        | toss x y => exact ⟨x, y, rfl⟩
        | fin n => rw [e] at htos; cases htos
        | never => rw [e] at htos; cases htos
      rw [ep] at et
      refine ⟨_, rfl, m, rs, 0, .ref tt, rfl, rfl, SqT.of em, ea, tt, _, 0, .str "toss", rfl, rfl, SqT.of et, atI_nat (j := 0) rfl, rfl, _, rfl, ?_⟩
      rw [decide_eq_true rfl]
      refine iteT fun E nE G nG => ⟨by show 1 ≤ sizeLine; decide, fun t nt => ⟨(Same.upd nt) _ _ upd_same, [(.inl 0, .ref t)], rfl, by show 1 ≤ 15; decide, by show 2 ≤ sizeLine; decide, fun p np => ?_⟩⟩
      have eE : upd H E (.dK []) E = some (.dK []) := upd_same
      have EG : E ≠ G := ne_of_none eE nG
      have s1 : Same H (upd H E (.dK [])) := Same.upd nE
      change (_ : Hp → Prop) (upd (upd (upd (upd (upd H E (.dK [])) G (.dK [])) t (.lst [V.int 1])) G (.dK (mergeK [] [(.inl 0, .ref t)]))) p (.tup [V.ref E, .ref G]))
      generalize upd H E (.dK []) = H1 at *
      have tG : t ≠ G := by
        rintro rfl
        rw [upd_same] at nt
        cases nt
      have nt1 : H1 t = none := by rw [upd_ne tG] at nt; exact nt
      have s2 : Same H1 (upd (upd (upd H1 G (.dK [])) t (.lst [V.int 1])) G (.dK (mergeK [] [(.inl 0, .ref t)]))) := fun b o e => by
        rw [upd_ne (ne_of_none e nG), upd_ne (ne_of_none e nt1), upd_ne (ne_of_none e nG)]
        exact e
      have eG2 : upd (upd (upd H1 G (.dK [])) t (.lst [V.int 1])) G (.dK (mergeK [] [(.inl 0, .ref t)])) G = some (.dK (kd [0] fun _ => .ref t)) := by rw [upd_same]; rfl
      have et2 : upd (upd (upd H1 G (.dK [])) t (.lst [V.int 1])) G (.dK (mergeK [] [(.inl 0, .ref t)])) t = some (.lst ([(1 : Int)].map V.int)) := by
        rw [upd_ne tG, upd_same]
        rfl
      generalize upd (upd (upd H1 G (.dK [])) t (.lst [V.int 1])) G (.dK (mergeK [] [(.inl 0, .ref t)])) = H2 at s2 eG2 et2 np ⊢
      have sp := Same.upd (o := .tup [V.ref E, .ref G]) np
      have s12 := s1.trans s2
      refine q p E G [] [0] (fun _ => t) (fun _ _ => t) (fun _ => t) _ (s12.trans sp) (s12.free np) upd_same EG ⟨sp _ _ (s2 _ _ eE), fun a h => (List.not_mem_nil h).elim, fun a h => (List.not_mem_nil h).elim, .nil, sp _ _ eG2, fun k hk => ?_, by simp⟩ (fun a => ⟨fun h => (List.not_mem_nil h).elim, fun ⟨j, k, h1, h2, h3⟩ => ?_⟩) fun k => ?_
      · rw [List.mem_singleton.mp hk]
        show _ = some (HO.lst ((cnt 0 (gP ps 0)).map V.int))
        rw [cnt_zero_at]
        exact sp _ _ et2
      · have hj : j = 0 := by omega
        subst hj
        rw [lv_zero.mp h2, ans_toss.mpr htos] at h3
        cases h3
      · rw [lv_zero, List.mem_singleton]
        exact ⟨fun h => ⟨h, by rw [h]; exact htos⟩, fun h => h.1⟩
    | false =>
      obtain ⟨a, ha⟩ : ∃ a, ansP (place ps 0) = some a := Option.ne_none_iff_exists'.mp fun h => by rw [ans_toss.mp h] at htos; cases htos
      obtain ⟨w0, hw0, hw1⟩ := stop_head htos
      have close : ∀ (E G p t1 t2 : Addr) (H5 : Hp), Same H H5 → H p = none → H5 p = some (.tup [.ref E, .ref G]) → E ≠ G → H5 E = some (.dK (kd [a] fun _ => .ref t2)) → H5 t2 = some (.lst [V.ref t1]) → H5 t1 = some (.lst ([(1 : Int)].map V.int)) → H5 G = some (.dK []) → Q (.ref p) H5 := fun E G p t1 t2 H5 s np ep EG eE e2 e1 eG => by
        refine q p E G [a] [] (fun _ => t2) (fun _ _ => t1) (fun _ => t1) H5 s np ep EG ⟨eE, fun _ _ => e2, fun b hb j hj => ?_, by simp, eG, fun k h => (List.not_mem_nil h).elim, .nil⟩ (fun b => ?_) fun k => ⟨fun h => (List.not_mem_nil h).elim, fun ⟨h1, h2⟩ => ?_⟩
        · have hj : j = 0 := by omega
          subst hj
          rw [List.mem_singleton.mp hb]
          show _ = some (HO.lst ((cnt 0 (stP ps a)).map V.int))
          have h0 : stP ps a [] = true := decide_eq_true ha
          rw [cnt_nil, h0]
          exact e1
        · rw [List.mem_singleton]
          constructor
          · rintro rfl
            exact ⟨0, 0, Nat.le_refl _, lv_zero.mpr rfl, ha⟩
          · rintro ⟨j, k, h1, h2, h3⟩
            have hj : j = 0 := by omega
            subst hj
            rw [lv_zero.mp h2, ha] at h3
            exact (Option.some.inj h3).symm
        · rw [lv_zero.mp h1, htos] at h2
          cases h2
      refine ⟨_, rfl, m, rs, 0, .ref tt, rfl, rfl, SqT.of em, ea, tt, _, 0, .str w0, rfl, rfl, SqT.of et, atI_nat (j := 0) hw0, rfl, _, rfl, ?_⟩
      rw [decide_eq_false hw1]
      refine iteF fun E nE => ?_
      have s1 : Same H (upd H E (.dK [])) := Same.upd nE
      have eE : upd H E (.dK []) E = some (.dK []) := upd_same
      generalize upd H E (.dK []) = H1 at s1 eE ⊢
      have em1 := s1 _ _ em
      have et1 := s1 _ _ et
      have rest : ∀ (t1 t2 G p : Addr) (n1 : H1 t1 = none) (n2 : upd H1 t1 (.lst [V.int 1]) t2 = none) (nG : upd (upd (upd H1 t1 (.lst [V.int 1])) t2 (.lst [V.ref t1])) E (.dK (mergeK [] [(.inl a, .ref t2)])) G = none) (np : upd (upd (upd (upd H1 t1 (.lst [V.int 1])) t2 (.lst [V.ref t1])) E (.dK (mergeK [] [(.inl a, .ref t2)]))) G (.dK []) p = none), Q (.ref p) (upd (upd (upd (upd (upd H1 t1 (.lst [V.int 1])) t2 (.lst [V.ref t1])) E (.dK (mergeK [] [(.inl a, .ref t2)]))) G (.dK [])) p (.tup [V.ref E, .ref G])) := fun t1 t2 G p n1 n2 nG np => by
        have E1 : E ≠ t1 := ne_of_none eE n1
        have E2 : E ≠ t2 := ne_of_none ((Same.upd n1) _ _ eE) n2
        have n12 : t1 ≠ t2 := by
          rintro rfl
          rw [upd_same] at n2
          cases n2
        have EG : E ≠ G := by
          rintro rfl
          rw [upd_same] at nG
          cases nG
        have sG := Same.upd (o := .dK []) nG
        have sp := Same.upd (o := .tup [V.ref E, .ref G]) np
        have sgp := sG.trans sp
        have sE : Same H (upd (upd (upd H1 t1 (.lst [V.int 1])) t2 (.lst [V.ref t1])) E (.dK (mergeK [] [(.inl a, .ref t2)]))) := fun b o e => by
          rw [upd_ne (ne_of_none e nE), upd_ne (ne_of_none ((Same.upd n1) _ _ (s1 _ _ e)) n2), upd_ne (ne_of_none (s1 _ _ e) n1)]
          exact s1 _ _ e
        refine close E G p t1 t2 _ (sE.trans sgp) (sE.free (sG.free np)) upd_same EG (sgp _ _ (by rw [upd_same]; rfl)) (sgp _ _ (by rw [upd_ne E2.symm, upd_same])) (sgp _ _ (by rw [upd_ne E1.symm, upd_ne n12, upd_same]; rfl)) (sp _ _ upd_same)
      cases ep : place ps 0 with
      | toss x2 y2 => rw [ep] at htos; cases htos
      | fin c =>
        rw [ep] at et1 ha
        have ec : c = a := Option.some.inj ha
        subst ec
        refine ⟨_, rfl, m, rs, 0, .ref tt, rfl, rfl, SqT.of em1, ea, tt, _, 0, .str "end", rfl, rfl, SqT.of et1, atI_nat (j := 0) rfl, rfl, _, rfl, ?_⟩
        rw [decide_eq_true rfl]
        refine iteT ⟨_, rfl, m, rs, 0, .ref tt, rfl, rfl, SqT.of em1, ea, tt, _, 1, .int c, rfl, rfl, SqT.of et1, atI_nat (j := 1) rfl, by show 1 ≤ sizeLine; decide, fun t1 n1 => ⟨by show 1 ≤ sizeLine; decide, fun t2 n2 => ⟨(Same.upd n2) _ _ ((Same.upd n1) _ _ eE), [(.inl c, .ref t2)], rfl, by show 1 ≤ 15; decide, fun G nG => ⟨by show 2 ≤ sizeLine; decide, fun p np => rest t1 t2 G p n1 n2 nG np⟩⟩⟩⟩
      | never =>
        rw [ep] at et1 ha
        have ec : (-1 : Int) = a := Option.some.inj ha
        subst ec
        refine ⟨_, rfl, m, rs, 0, .ref tt, rfl, rfl, SqT.of em1, ea, tt, _, 0, .str "never", rfl, rfl, SqT.of et1, atI_nat (j := 0) rfl, rfl, _, rfl, ?_⟩
        rw [decide_eq_false str_end_never]
        refine iteF ⟨_, rfl, by show 1 ≤ sizeLine; decide, fun t1 n1 => ⟨by show 1 ≤ sizeLine; decide, fun t2 n2 => ⟨(Same.upd n2) _ _ ((Same.upd n1) _ _ eE), [(.inl (-1), .ref t2)], rfl, by show 1 ≤ 15; decide, fun G nG => ⟨by show 2 ≤ sizeLine; decide, fun p np => rest t1 t2 G p n1 n2 nG np⟩⟩⟩⟩
/-! ### the law -/
structure NamesL (mg : Str → Option Value) : Prop extends Names mg where
  mx : mg "max" = none
  mn : mg "min" = none
def spLaw (K : PySem.W.Frag) : Sp := fun vs H Q _ => ∃ (a : Addr) (ns : List Int), vs = [.ref a] ∧ SqL K H a (ns.map V.int) ∧ ns.length ≤ 63 ∧ ∀ H', Q (.bl true) H'
theorem scLaw : FnScope ["script", "pen", "turn", "machine", "many", "often", "told"] ["script"] (defScope sLaw) := ⟨rfl, rfl, rfl, by decide +kernel, rfl, by decide +kernel, by decide +kernel⟩
theorem ok_law {f fP fD fM fC fS fN fB : Addr} {fd dP dD dM dC dS dN dB : FuncData} (F : Fun K "law" "law" sLaw f fd) (T : NamesL mg)
    (GP : FnOk P w K mg base CX0 1 fP dP ["script"] (spPen K)) (P1 : Def K mg "_law_pen" fP dP ["script"])
    (GD : FnOk P w K mg base CX0 2 fD dD ["pen", "many"] spDraw) (P2 : Def K mg "_law_draw" fD dD ["pen", "many"])
    (GM : FnOk P w K mg base CX0 4 fM dM ["pen", "most", "answers"] spMach) (P3 : Def K mg "_law_machine" fM dM ["pen", "most", "answers"])
    (GC : FnOk P w K mg base CX0 2 fC dC ["machine", "length"] spCount) (P4 : Def K mg "count_tapes" fC dC ["machine", "length"])
    (GS : FnOk P w K mg base CX0 1 fS dS ["told"] (spShown (K := K))) (P5 : Def K mg "_law_shown" fS dS ["told"])
    (GN : FnOk P w K mg base CX0 1 fN dN ["machine", "told", "many"] spNext) (P6 : Def K mg "_law_next" fN dN ["machine", "told", "many"])
    (GB : FnOk P w K mg base CX0 1 fB dB ["machine"] spBegun) (P7 : Def K mg "_law_begun" fB dB ["machine"]) :
    FnG P w K mg base 5 f fd ["script"] (spLaw K) := by
  refine fnG_of F scLaw (fun vs H Q E h => ?_) (fun cdv A outer s H vs Q E hg hr h => ?_)
  · obtain ⟨a, ns, rfl, _⟩ := h
    rfl
  · obtain ⟨a, ns, rfl, hS, hlen, q⟩ := h
    have hu : A.units + 3 + 64 < cLine := hr.units
    refine ⟨_, (pss_cons (ps_set (i := 1) scLaw.nd rfl (.inl rfl) (pe_call GP (hr.mono (by decide)) (by rfl) P1.is P1.kp P1.bi .nil pass0 (pa_cons (pv 0) pa_nil)))
      (pss_cons (ps_for PassesOwn.never rfl (pi_range1 rfl T.range (pa_cons (pe_callB (call_max2 rfl) (by rfl) T.mx (by decide +kernel) (pa_cons pe_int (pa_cons (pe_callB (call_min2 rfl) (by rfl) T.mn (by decide +kernel) (pa_cons pe_int (pa_cons (pe_callB call_len_seq (by rfl) T.len PySem.boot_len (pa_cons (pv 0) pa_nil)) pa_nil))) pa_nil))) pa_nil)) (pg_name (i := 2) scLaw.nd rfl (.inl rfl)) (pss_cons (ps_par (i := 3) (j := 4) (by rfl) scLaw.nd rfl rfl (by decide) rfl rfl (pa_cons (pe_call GM (hr.mono (by decide)) (by rfl) P3.is P3.kp P3.bi .nil pass0 (pa_cons (pv 1) (pa_cons pe_int (pa_cons (pe_lst (pa_cons pe_int (pa_cons pe_int (pa_cons pe_int pa_nil)))) pa_nil)))) (pa_cons (pe_call GD (hr.mono (by decide)) (by rfl) P2.is P2.kp P2.bi .nil pass0 (pa_cons (pv 1) (pa_cons pe_int pa_nil))) pa_nil)) (by rfl))
      (pss_cons (ps_for PassesOwn.never rfl (pi_range1 rfl T.range (pa_cons pe_int pa_nil)) (pg_name (i := 5) scLaw.nd rfl (.inl rfl)) (pss_cons (ps_set (i := 6) scLaw.nd rfl (.inl rfl) (pe_call GC (hr.mono (by decide)) (by rfl) P4.is P4.kp P4.bi .nil pass0 (pa_cons (pv 3) (pa_cons (pv 4) pa_nil))))
      (pss_cons (ps_if (pt_cmpR (op_neD hu) (pe_call GS (hr.mono (by decide)) (by rfl) P5.is P5.kp P5.bi .nil pass0 (pa_cons (pe_call GC (hr.mono (by decide)) (by rfl) P4.is P4.kp P4.bi .nil pass0 (pa_cons (pv 3) (pa_cons (pe_op op_add (pv 4) pe_int) pa_nil))) pa_nil)) (pe_call GS (hr.mono (by decide)) (by rfl) P5.is P5.kp P5.bi .nil pass0 (pa_cons (pe_call GN (hr.mono (by decide)) (by rfl) P6.is P6.kp P6.bi .nil pass0 (pa_cons (pv 3) (pa_cons (pv 6) (pa_cons (pv 4) pa_nil)))) pa_nil)) (nomark _)) (pss_one (ps_ret pe_bl)) pss_nil)
      (pss_one (ps_set (i := 4) scLaw.nd rfl (.inl rfl) (pe_callB (call_max2 rfl) (by rfl) T.mx (by decide +kernel) (pa_cons pe_int (pa_cons (pe_op op_sub (pv 4) pe_int) pa_nil))))))))
      (pss_one (ps_if (pt_cmpR (op_neD hu) (pe_call GS (hr.mono (by decide)) (by rfl) P5.is P5.kp P5.bi .nil pass0 (pa_cons (pe_call GC (hr.mono (by decide)) (by rfl) P4.is P4.kp P4.bi .nil pass0 (pa_cons (pv 3) (pa_cons pe_int pa_nil))) pa_nil)) (pe_call GS (hr.mono (by decide)) (by rfl) P5.is P5.kp P5.bi .nil pass0 (pa_cons (pe_call GB (hr.mono (by decide)) (by rfl) P7.is P7.kp P7.bi .nil pass0 (pa_cons (pv 3) pa_nil)) pa_nil)) (nomark _)) (pss_one (ps_ret pe_bl)) pss_nil)))))
      (pss_one (ps_ret pe_bl)))), ?_⟩
    refine ⟨.ref a, rfl, a, ns, rfl, hS, hlen, fun p l H1 s1 np nl p1 => ?_⟩
    have hS1 := s1.seq hS
    refine ⟨.ref a, rfl, a, _, rfl, .inl hS1, _, _, rfl, _, _, rfl, _, rfl, ?_, ?_, for_range (lo := 0) (fun i σ H' => ∃ v2 v3 v4 v5 v6 : Option V, σ = [some (V.ref a), some (V.ref p), v2, v3, v4, v5, v6] ∧ Pen H' p l) ⟨none, none, none, none, none, rfl, p1⟩ ?_ ?_⟩
    · show -(2 ^ 62) ≤ _
      repeat' split
      all_goals omega
    · show _ < (2 : Int) ^ 62
      repeat' split
      all_goals omega
    · rintro i₀ σ H' hi ⟨v2, v3, v4, v5, v6, rfl, pn⟩
      refine ⟨.ref p, rfl, by show 3 ≤ sizeLine; decide, fun e ne => ?_⟩
      have eE : upd H' e (.lst [.int 0, .int 1, .int 3]) e = some (.lst (([0, 1, 3] : List Int).map V.int)) := upd_same
      have pn2 := pn.same (Same.upd (o := .lst [.int 0, .int 1, .int 3]) ne)
      generalize upd H' e (.lst [.int 0, .int 1, .int 3]) = H2 at eE pn2 ⊢
      refine ⟨p, l, e, 6, [0, 1, 3], rfl, pn2, by decide, by decide, eE, by decide, by decide, by decide, fun m ps H3 _ nm hm hw p3 _ _ => ?_⟩
      refine ⟨.ref p, rfl, p, l, 12, rfl, p3, by decide, by decide +kernel, fun d H4 d0 d1 b4 p4 => ⟨_, _, rfl, ?_⟩⟩
      have hm4 := hm.but p3 b4
      obtain ⟨n0, rfl⟩ : ∃ n : Nat, d = (n : Int) := ⟨d.toNat, by omega⟩
      have fewA : ∀ {L : Nat} {as : List Int}, as.Nodup → (∀ a, a ∈ as ↔ ∃ j k, j ≤ L ∧ Lv ps j k ∧ ansP (place ps k) = some a) → as.length ≤ 200 := fun nd h => Nat.le_trans (ans_few nd fun a ha => by
        obtain ⟨j, k, _, h1, h2⟩ := (h a).mp ha
        exact ans_ok hw (h1.inn hw) h2) (by decide)
      have fewT : ∀ {L : Nat} {ts : List Int}, ts.Nodup → (∀ k, k ∈ ts ↔ Lv ps L k ∧ (place ps k).tosses = true) → ts.length ≤ 200 := fun nd h => Nat.le_trans (nodup_len ps.length _ nd fun k hk => ((h k).mp hk).1.inn hw) (Nat.le_trans hw.le (by decide))
      refine ⟨2, rfl, by decide, by decide, for_range (lo := 0) (n := 2) (fun i σ H' => ∃ (v5 v6 : Option V) (n : Nat), σ = [some (V.ref a), some (V.ref p), some (V.int (0 + (i₀ : Nat))), some (V.ref m), some (V.int (n : Nat)), v5, v6] ∧ n ≤ 12 ∧ Same H4 H') ⟨_, _, n0, rfl, by omega, Same.refl _⟩ ?_ ?_⟩
      · rintro i σ H5 hi2 ⟨v5, v6, n, rfl, hn, s5⟩
        have hm5 := hm4.same s5
        refine ⟨_, rfl, _, rfl, m, n, ps, rfl, hm5, hw, by omega, fun R C U as AC BC ts AT H6 s6 nR nC nU CU eR tv => ?_⟩
        have hm6 := hm5.same s6
        refine ⟨_, rfl, _, rfl, _, _, rfl, rfl, m, n + 1, ps, rfl, hm6, hw, by omega, fun R2 C2 U2 as2 AC2 BC2 ts2 AT2 H7 s7 nR2 nC2 nU2 CU2 eR2 tv2 => ?_⟩
        refine ⟨true, R2, C2, U2, n + 1, as2, _, ts2, _, AC2, BC2, AT2, rfl, eR2, CU2, tv2.tv, by omega, fewA tv2.cn tv2.ck, fewT tv2.tn tv2.tk, fun t1 as2' ts2' H8 s8 nt1 oa2 ot2 d1 => ?_⟩
        have s68 := s7.trans s8
        refine ⟨_, rfl, _, rfl, _, rfl, m, R, C, U, n, ps, as, AC, BC, ts, AT, rfl, hm6.same s68, hw, by omega, s68 _ _ eR, CU, tv.same s68, fun p3 E3 G3 as3 ts3 A3 B3 AT3 H9 s9 np3 ep3 EG3 tv3 ka3 kt3 => ?_⟩
        refine ⟨false, p3, E3, G3, n + 1, as3, _, ts3, _, A3, B3, AT3, rfl, ep3, EG3, tv3, by omega, fewA tv3.cn ka3, fewT tv3.tn kt3, fun t2 as3' ts3' H10 s10 nt2 oa3 ot3 d2 => ?_⟩
        have ea := ord_eq tv2.cn tv3.cn (fun x => (tv2.ck x).trans (ka3 x).symm) oa2 oa3
        have et := ord_eq tv2.tn tv3.tn (fun x => (tv2.tk x).trans (kt3 x).symm) ot2 ot3
        subst ea et
        refine ⟨_, _, d1 _ (s9.trans s10), d2 _ (Same.refl _), shaped_shD _ _ _ _ _, shaped_shD _ _ _ _ _, _, rfl, ?_⟩
        rw [SeqAt.eqv_refl _ (lay_shD _ _ _ _ _)]
        refine iteF ⟨_, rfl, _, _, rfl, rfl, _, _, rfl, ?_⟩
        have em : (if ((n : Nat) : Int) - 1 > 0 then ((n : Nat) : Int) - 1 else 0) = ((n - 1 : Nat) : Int) := by split <;> omega
        exact ⟨some (.int (0 + (i : Nat))), some (.ref R), n - 1, by rw [em]; rfl, by omega, s5.trans (s6.trans (s68.trans (s9.trans s10)))⟩
      · rintro σ H5 ⟨v5, v6, n, rfl, hn, s5⟩
        have hm5 := hm4.same s5
        refine ⟨_, rfl, m, 0, ps, rfl, hm5, hw, by omega, fun R2 C2 U2 as2 AC2 BC2 ts2 AT2 H7 s7 nR2 nC2 nU2 CU2 eR2 tv2 => ?_⟩
        refine ⟨true, R2, C2, U2, 0, as2, _, ts2, _, AC2, BC2, AT2, rfl, eR2, CU2, tv2.tv, by omega, fewA tv2.cn tv2.ck, fewT tv2.tn tv2.tk, fun t1 as2' ts2' H8 s8 nt1 oa2 ot2 d1 => ?_⟩
        have s58 := s7.trans s8
        refine ⟨_, rfl, m, ps, rfl, hm5.same s58, hw, fun p3 E3 G3 as3 ts3 A3 B3 AT3 H9 s9 np3 ep3 EG3 tv3 ka3 kt3 => ?_⟩
        refine ⟨false, p3, E3, G3, 0, as3, _, ts3, _, A3, B3, AT3, rfl, ep3, EG3, tv3, by omega, fewA tv3.cn ka3, fewT tv3.tn kt3, fun t2 as3' ts3' H10 s10 nt2 oa3 ot3 d2 => ?_⟩
        have ea := ord_eq tv2.cn tv3.cn (fun x => (tv2.ck x).trans (ka3 x).symm) oa2 oa3
        have et := ord_eq tv2.tn tv3.tn (fun x => (tv2.tk x).trans (kt3 x).symm) ot2 ot3
        subst ea et
        refine ⟨_, _, d1 _ (s9.trans s10), d2 _ (Same.refl _), shaped_shD _ _ _ _ _, shaped_shD _ _ _ _ _, _, rfl, ?_⟩
        rw [SeqAt.eqv_refl _ (lay_shD _ _ _ _ _)]
        exact iteF ⟨_, _, _, _, _, rfl, p4.same (s5.trans (s58.trans (s9.trans s10)))⟩
    · rintro σ H5 ⟨v2, v3, v4, v5, v6, rfl, pn⟩
      exact q _
end
theorem all_mk {w : World} {K : PySem.W.Frag} {h : Heap} {mg : Str → Option Value} {fa f0 f1 f2 f3 f4 f5 f6 f7 f8 f9 f10 f11 f12 f13 : Addr} (X : K.In h) (G : h.Ns mainGlobals mg) (hfa : mg "law" = some (.ref fa))
    {od0 an0 od1 an1 od2 an2 od3 an3 od4 an4 od5 an5 od6 an6 od7 an7 od8 an8 od9 an9 od10 an10 od11 an11 od12 an12 od13 an13 : Option Addr} {sl0 sl1 sl2 sl3 sl4 sl5 sl6 sl7 sl8 sl9 sl10 sl11 sl12 sl13 : Array (Option Value)} {oc0 kV0 dc0 pm0 cd0 ct0 oc1 kV1 dc1 pm1 cd1 ct1 oc2 kV2 dc2 pm2 cd2 ct2 oc3 kV3 dc3 pm3 cd3 ct3 oc4 kV4 dc4 pm4 cd4 ct4 oc5 kV5 dc5 pm5 cd5 ct5 oc6 kV6 dc6 pm6 cd6 ct6 oc7 kV7 dc7 pm7 cd7 ct7 oc8 kV8 dc8 pm8 cd8 ct8 oc9 kV9 dc9 pm9 cd9 ct9 oc10 kV10 dc10 pm10 cd10 ct10 oc11 kV11 dc11 pm11 cd11 ct11 oc12 kV12 dc12 pm12 cd12 ct12 oc13 kV13 dc13 pm13 cd13 ct13 : Value}
    (a0 : PySem.W.nsIn K mainGlobals "_law_pen" = some (some (.ref f0))) (l0 : K.lookup f0 = some ⟨oc0, od0, .func (PySem.W.fnOf "_law_pen" "_law_pen" (defArgs sPen) (defBody sPen) (defScope sPen) .none kV0 dc0 pm0 an0 cd0 ct0), sl0⟩) (c0 : PySem.W.codeIn K cd0 "_law_pen" = true) (k0 : PySem.W.keepIn K (.ref f0) = true)
    (a1 : PySem.W.nsIn K mainGlobals "_law_fresh" = some (some (.ref f1))) (l1 : K.lookup f1 = some ⟨oc1, od1, .func (PySem.W.fnOf "_law_fresh" "_law_fresh" (defArgs sFresh) (defBody sFresh) (defScope sFresh) .none kV1 dc1 pm1 an1 cd1 ct1), sl1⟩) (c1 : PySem.W.codeIn K cd1 "_law_fresh" = true) (k1 : PySem.W.keepIn K (.ref f1) = true)
    (a2 : PySem.W.nsIn K mainGlobals "_law_draw" = some (some (.ref f2))) (l2 : K.lookup f2 = some ⟨oc2, od2, .func (PySem.W.fnOf "_law_draw" "_law_draw" (defArgs sDraw) (defBody sDraw) (defScope sDraw) .none kV2 dc2 pm2 an2 cd2 ct2), sl2⟩) (c2 : PySem.W.codeIn K cd2 "_law_draw" = true) (k2 : PySem.W.keepIn K (.ref f2) = true)
    (a3 : PySem.W.nsIn K mainGlobals "_law_ends" = some (some (.ref f3))) (l3 : K.lookup f3 = some ⟨oc3, od3, .func (PySem.W.fnOf "_law_ends" "_law_ends" (defArgs sEnds) (defBody sEnds) (defScope sEnds) .none kV3 dc3 pm3 an3 cd3 ct3), sl3⟩) (c3 : PySem.W.codeIn K cd3 "_law_ends" = true) (k3 : PySem.W.keepIn K (.ref f3) = true)
    (a4 : PySem.W.nsIn K mainGlobals "_law_machine" = some (some (.ref f4))) (l4 : K.lookup f4 = some ⟨oc4, od4, .func (PySem.W.fnOf "_law_machine" "_law_machine" (defArgs sMach) (defBody sMach) (defScope sMach) .none kV4 dc4 pm4 an4 cd4 ct4), sl4⟩) (c4 : PySem.W.codeIn K cd4 "_law_machine" = true) (k4 : PySem.W.keepIn K (.ref f4) = true)
    (a5 : PySem.W.nsIn K mainGlobals "_law_numbered" = some (some (.ref f5))) (l5 : K.lookup f5 = some ⟨oc5, od5, .func (PySem.W.fnOf "_law_numbered" "_law_numbered" (defArgs sNumb) (defBody sNumb) (defScope sNumb) .none kV5 dc5 pm5 an5 cd5 ct5), sl5⟩) (c5 : PySem.W.codeIn K cd5 "_law_numbered" = true) (k5 : PySem.W.keepIn K (.ref f5) = true)
    (a6 : PySem.W.nsIn K mainGlobals "is_toss" = some (some (.ref f6))) (l6 : K.lookup f6 = some ⟨oc6, od6, .func (PySem.W.fnOf "is_toss" "is_toss" (defArgs sToss) (defBody sToss) (defScope sToss) .none kV6 dc6 pm6 an6 cd6 ct6), sl6⟩) (c6 : PySem.W.codeIn K cd6 "is_toss" = true) (k6 : PySem.W.keepIn K (.ref f6) = true)
    (a7 : PySem.W.nsIn K mainGlobals "toss_once" = some (some (.ref f7))) (l7 : K.lookup f7 = some ⟨oc7, od7, .func (PySem.W.fnOf "toss_once" "toss_once" (defArgs sOnce) (defBody sOnce) (defScope sOnce) .none kV7 dc7 pm7 an7 cd7 ct7), sl7⟩) (c7 : PySem.W.codeIn K cd7 "toss_once" = true) (k7 : PySem.W.keepIn K (.ref f7) = true)
    (a8 : PySem.W.nsIn K mainGlobals "add_stopped" = some (some (.ref f8))) (l8 : K.lookup f8 = some ⟨oc8, od8, .func (PySem.W.fnOf "add_stopped" "add_stopped" (defArgs sStop) (defBody sStop) (defScope sStop) .none kV8 dc8 pm8 an8 cd8 ct8), sl8⟩) (c8 : PySem.W.codeIn K cd8 "add_stopped" = true) (k8 : PySem.W.keepIn K (.ref f8) = true)
    (a9 : PySem.W.nsIn K mainGlobals "count_tapes" = some (some (.ref f9))) (l9 : K.lookup f9 = some ⟨oc9, od9, .func (PySem.W.fnOf "count_tapes" "count_tapes" (defArgs sCount) (defBody sCount) (defScope sCount) .none kV9 dc9 pm9 an9 cd9 ct9), sl9⟩) (c9 : PySem.W.codeIn K cd9 "count_tapes" = true) (k9 : PySem.W.keepIn K (.ref f9) = true)
    (a10 : PySem.W.nsIn K mainGlobals "_law_next" = some (some (.ref f10))) (l10 : K.lookup f10 = some ⟨oc10, od10, .func (PySem.W.fnOf "_law_next" "_law_next" (defArgs sNext) (defBody sNext) (defScope sNext) .none kV10 dc10 pm10 an10 cd10 ct10), sl10⟩) (c10 : PySem.W.codeIn K cd10 "_law_next" = true) (k10 : PySem.W.keepIn K (.ref f10) = true)
    (a11 : PySem.W.nsIn K mainGlobals "_law_shown" = some (some (.ref f11))) (l11 : K.lookup f11 = some ⟨oc11, od11, .func (PySem.W.fnOf "_law_shown" "_law_shown" (defArgs sShown) (defBody sShown) (defScope sShown) .none kV11 dc11 pm11 an11 cd11 ct11), sl11⟩) (c11 : PySem.W.codeIn K cd11 "_law_shown" = true) (k11 : PySem.W.keepIn K (.ref f11) = true)
    (a12 : PySem.W.nsIn K mainGlobals "_law_begun" = some (some (.ref f12))) (l12 : K.lookup f12 = some ⟨oc12, od12, .func (PySem.W.fnOf "_law_begun" "_law_begun" (defArgs sBegun) (defBody sBegun) (defScope sBegun) .none kV12 dc12 pm12 an12 cd12 ct12), sl12⟩) (c12 : PySem.W.codeIn K cd12 "_law_begun" = true) (k12 : PySem.W.keepIn K (.ref f12) = true)
    (a13 : PySem.W.nsIn K mainGlobals "law" = some (some (.ref f13))) (l13 : K.lookup f13 = some ⟨oc13, od13, .func (PySem.W.fnOf "law" "law" (defArgs sLaw) (defBody sLaw) (defScope sLaw) .none kV13 dc13 pm13 an13 cd13 ct13), sl13⟩) (c13 : PySem.W.codeIn K cd13 "law" = true) (k13 : PySem.W.keepIn K (.ref f13) = true)
    (z_list : PySem.W.nsIn K mainGlobals "list" = some none)
    (z_tuple : PySem.W.nsIn K mainGlobals "tuple" = some none)
    (z_len : PySem.W.nsIn K mainGlobals "len" = some none)
    (z_range : PySem.W.nsIn K mainGlobals "range" = some none)
    (z_sorted : PySem.W.nsIn K mainGlobals "sorted" = some none)
    (z_enumerate : PySem.W.nsIn K mainGlobals "enumerate" = some none)
    (z_max : PySem.W.nsIn K mainGlobals "max" = some none)
    (z_min : PySem.W.nsIn K mainGlobals "min" = some none)
    : ∃ fd : FuncData, (∀ (s : Shared) (v : Value), BindsTo s fd ⟨[v], []⟩ [("script", v)]) ∧ ∀ base : Heap, K.In base → base.Ns mainGlobals mg → FnG (PySem.Challenge.rw_bentcoin_k28_whole_tapes_counted_step_by).prog w K mg base 5 fa fd ["script"] (spLaw K) := by
  have e := hfa.symm.trans (PySem.W.mg_of X G a13)
  cases e
  have F0 := fun_mk (st := sPen) l0 c0 k0
  have b0 := F0.binds (ps := ["script"]) fun _ _ _ _ _ _ us hl => match us, hl with | [_], _ => rfl
  have F1 := fun_mk (st := sFresh) l1 c1 k1
  have b1 := F1.binds (ps := ["pen"]) fun _ _ _ _ _ _ us hl => match us, hl with | [_], _ => rfl
  have F2 := fun_mk (st := sDraw) l2 c2 k2
  have b2 := F2.binds (ps := ["pen", "many"]) fun _ _ _ _ _ _ us hl => match us, hl with | [_, _], _ => rfl
  have F3 := fun_mk (st := sEnds) l3 c3 k3
  have b3 := F3.binds (ps := ["pen", "answers"]) fun _ _ _ _ _ _ us hl => match us, hl with | [_, _], _ => rfl
  have F4 := fun_mk (st := sMach) l4 c4 k4
  have b4 := F4.binds (ps := ["pen", "most", "answers"]) fun _ _ _ _ _ _ us hl => match us, hl with | [_, _, _], _ => rfl
  have F5 := fun_mk (st := sNumb) l5 c5 k5
  have b5 := F5.binds (ps := ["machine", "order"]) fun _ _ _ _ _ _ us hl => match us, hl with | [_, _], _ => rfl
  have F6 := fun_mk (st := sToss) l6 c6 k6
  have b6 := F6.binds (ps := ["state"]) fun _ _ _ _ _ _ us hl => match us, hl with | [_], _ => rfl
  have F7 := fun_mk (st := sOnce) l7 c7 k7
  have b7 := F7.binds (ps := ["machine", "tossing", "used"]) fun _ _ _ _ _ _ us hl => match us, hl with | [_, _, _], _ => rfl
  have F8 := fun_mk (st := sStop) l8 c8 k8
  have b8 := F8.binds (ps := ["stopped", "state", "counts", "length"]) fun _ _ _ _ _ _ us hl => match us, hl with | [_, _, _, _], _ => rfl
  have F9 := fun_mk (st := sCount) l9 c9 k9
  have b9 := F9.binds (ps := ["machine", "length"]) fun _ _ _ _ _ _ us hl => match us, hl with | [_, _], _ => rfl
  have F10 := fun_mk (st := sNext) l10 c10 k10
  have b10 := F10.binds (ps := ["machine", "told", "many"]) fun _ _ _ _ _ _ us hl => match us, hl with | [_, _, _], _ => rfl
  have F11 := fun_mk (st := sShown) l11 c11 k11
  have b11 := F11.binds (ps := ["told"]) fun _ _ _ _ _ _ us hl => match us, hl with | [_], _ => rfl
  have F12 := fun_mk (st := sBegun) l12 c12 k12
  have b12 := F12.binds (ps := ["machine"]) fun _ _ _ _ _ _ us hl => match us, hl with | [_], _ => rfl
  have F13 := fun_mk (st := sLaw) l13 c13 k13
  refine ⟨PySem.W.fnOf "law" "law" (defArgs sLaw) (defBody sLaw) (defScope sLaw) .none kV13 dc13 pm13 an13 cd13 ct13, fun s v => .of_eq rfl, fun base _ _ => ?_⟩
  have N : Names mg := ⟨PySem.W.mg_none_of X G z_list, PySem.W.mg_none_of X G z_tuple, PySem.W.mg_none_of X G z_len, PySem.W.mg_none_of X G z_range⟩
  have T : NamesL mg := ⟨N, PySem.W.mg_none_of X G z_max, PySem.W.mg_none_of X G z_min⟩
  have mE := PySem.W.mg_none_of X G z_enumerate
  have m : ∀ {x : Str} {u : Value}, PySem.W.nsIn K mainGlobals x = some (some u) → mg x = some u := fun e => PySem.W.mg_of X G e
  have G0 := ok_pen (P := PySem.Challenge.pw_bentcoin_k28_whole_tapes_counted_step_by) (w := w) (mg := mg) (base := base) F0 N
  have G1 := ok_fresh (P := PySem.Challenge.pw_bentcoin_k28_whole_tapes_counted_step_by) (w := w) (mg := mg) (base := base) F1 N
  have G2 := ok_draw F2 G1 (m a1) k1 b1
  have G3 := ok_ends F3 N G2 ⟨m a2, k2, b2⟩
  have G5 := ok_numb (P := PySem.Challenge.pw_bentcoin_k28_whole_tapes_counted_step_by) (w := w) (mg := mg) (base := base) F5 N
  have G4 := ok_mach F4 N G2 ⟨m a2, k2, b2⟩ G3 ⟨m a3, k3, b3⟩ G5 ⟨m a5, k5, b5⟩
  have G6 := ok_toss (P := PySem.Challenge.pw_bentcoin_k28_whole_tapes_counted_step_by) (w := w) (mg := mg) (base := base) F6
  have G7 := ok_once (P := PySem.Challenge.pw_bentcoin_k28_whole_tapes_counted_step_by) (w := w) (mg := mg) (base := base) F7 mE
  have G8 := ok_stop (P := PySem.Challenge.pw_bentcoin_k28_whole_tapes_counted_step_by) (w := w) (mg := mg) (base := base) F8 N mE
  have G9 := ok_count F9 N G6 ⟨m a6, k6, b6⟩ G7 ⟨m a7, k7, b7⟩ G8 ⟨m a8, k8, b8⟩
  have G10 := ok_next (P := PySem.Challenge.pw_bentcoin_k28_whole_tapes_counted_step_by) (w := w) (mg := mg) (base := base) F10 N mE
  have G11 := ok_shown (P := PySem.Challenge.pw_bentcoin_k28_whole_tapes_counted_step_by) (w := w) (mg := mg) (base := base) F11 N (PySem.W.mg_none_of X G z_sorted)
  have G12 := ok_begun (P := PySem.Challenge.pw_bentcoin_k28_whole_tapes_counted_step_by) (w := w) (mg := mg) (base := base) F12
  exact ok_law F13 T G0 ⟨m a0, k0, b0⟩ G2 ⟨m a2, k2, b2⟩ G4 ⟨m a4, k4, b4⟩ G9 ⟨m a9, k9, b9⟩ G11 ⟨m a11, k11, b11⟩ G10 ⟨m a10, k10, b10⟩ G12 ⟨m a12, k12, b12⟩
end Z
open PySem PySem.W PyProof.Rows
set_option maxRecDepth 100000 in
set_option maxHeartbeats 0 in
theorem PySem.Challenge.cw_bentcoin_k28_whole_tapes_counted_step_by_holds : PySem.Challenge.rw_bentcoin_k28_whole_tapes_counted_step_by.Holds := by
  w_on; o_law; k_head; (case hw => w_witness2)
  k_fill
  refine GG.walkG (l := PySem.Challenge.rw_bentcoin_k28_whole_tapes_counted_step_by) (n := 63) (k := 5) (x := "script") (sp := Z.spLaw) rfl (by decide) rfl ⟨rfl, by decide, by decide⟩ (fun w h Y => PySem.W.kIn_of Y) ?F (fun _ _ a ns hl hS => ⟨a, ns, rfl, hS, hl, fun _ => rfl⟩)
  case F =>
    intro w mg fa h KX G hmg
    refine' Z.all_mk KX G hmg ?a0 ?l0 ?c0 ?k0 ?a1 ?l1 ?c1 ?k1 ?a2 ?l2 ?c2 ?k2 ?a3 ?l3 ?c3 ?k3 ?a4 ?l4 ?c4 ?k4 ?a5 ?l5 ?c5 ?k5 ?a6 ?l6 ?c6 ?k6 ?a7 ?l7 ?c7 ?k7 ?a8 ?l8 ?c8 ?k8 ?a9 ?l9 ?c9 ?k9 ?a10 ?l10 ?c10 ?k10 ?a11 ?l11 ?c11 ?k11 ?a12 ?l12 ?c12 ?k12 ?a13 ?l13 ?c13 ?k13 ?z_list ?z_tuple ?z_len ?z_range ?z_sorted ?z_enumerate ?z_max ?z_min
    (case a0 => k_is)
    (case l0 => k_is)
    (case c0 => k_is)
    (case k0 => k_is)
    (case a1 => k_is)
    (case l1 => k_is)
    (case c1 => k_is)
    (case k1 => k_is)
    (case a2 => k_is)
    (case l2 => k_is)
    (case c2 => k_is)
    (case k2 => k_is)
    (case a3 => k_is)
    (case l3 => k_is)
    (case c3 => k_is)
    (case k3 => k_is)
    (case a4 => k_is)
    (case l4 => k_is)
    (case c4 => k_is)
    (case k4 => k_is)
    (case a5 => k_is)
    (case l5 => k_is)
    (case c5 => k_is)
    (case k5 => k_is)
    (case a6 => k_is)
    (case l6 => k_is)
    (case c6 => k_is)
    (case k6 => k_is)
    (case a7 => k_is)
    (case l7 => k_is)
    (case c7 => k_is)
    (case k7 => k_is)
    (case a8 => k_is)
    (case l8 => k_is)
    (case c8 => k_is)
    (case k8 => k_is)
    (case a9 => k_is)
    (case l9 => k_is)
    (case c9 => k_is)
    (case k9 => k_is)
    (case a10 => k_is)
    (case l10 => k_is)
    (case c10 => k_is)
    (case k10 => k_is)
    (case a11 => k_is)
    (case l11 => k_is)
    (case c11 => k_is)
    (case k11 => k_is)
    (case a12 => k_is)
    (case l12 => k_is)
    (case c12 => k_is)
    (case k12 => k_is)
    (case a13 => k_is)
    (case l13 => k_is)
    (case c13 => k_is)
    (case k13 => k_is)
    (case z_list => k_is)
    (case z_tuple => k_is)
    (case z_len => k_is)
    (case z_range => k_is)
    (case z_sorted => k_is)
    (case z_enumerate => k_is)
    (case z_max => k_is)
    (case z_min => k_is)
