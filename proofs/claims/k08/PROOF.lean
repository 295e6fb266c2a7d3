import PyProof.Rows.All
import Wide.All
import OpenK.AllK
import Wide.FinOn
import HandS.ForMost
import HandS.Defaults
import HandS.Wide
import HandS.Rev
import HandS.Flow
import KE.GoesEnum
import KE.DataAny
import HandS.TupAny
import HandS.Zip
import HandS.Star
import HandS.IsInst
import PySem.Challenge.RW_bentcoin_k08_heaped_rows
set_option Elab.async false
set_option maxRecDepth 100000
set_option maxHeartbeats 4000000
/-! Defs that are run where no text of an object is being made: so that repr gives the whole text. -/
namespace GG
open PySem PySem.Spec PyProof.Rows L2
section
variable {P : Program} {w : World} {K : PySem.W.Frag} {mg : Str → Option Value} {base : Heap}
structure FnG (P : Program) (w : World) (K : PySem.W.Frag) (mg : Str → Option Value) (base : Heap) (k : Nat) (f : Addr) (fd : FuncData) (ps : List Str) (sp : Sp) : Prop where
  size : ∀ vs H Q E, sp vs H Q E → vs.length = ps.length
  goes : ∀ (A : Around) (o : List Env) (s : Shared) (H : Hp) (ar : Args) (us : List Value) (vs : List V) (Q : VK) (E : XK),
    A.guards = some [] → Room k A → Env0 P w K mg base A o s H → BindsTo s fd ar (ps.zip us) → Vals vs us → sp vs H Q E →
    codeAny (model P w) A (.call (.ref f) ar) (CR CX0 o P w H s Q E) s

theorem fnG_of {x qual : Str} {st : Stmt} {f : Addr} {fd : FuncData} {N ps : List Str} {k : Nat} {sp : Sp}
    (F : Fun K x qual st f fd) (S : FnScope N ps (defScope st)) (size : ∀ vs H Q E, sp vs H Q E → vs.length = ps.length)
    (body : ∀ (cd : Value) (A : Around) (o : List Env) (s : Shared) (H : Hp) (vs : List V) (Q : VK) (E : XK),
      A.guards = some [] → Room k (A.deeper (envOfC qual (defScope st) s.heap.objs.size f cd)) → sp vs H Q E →
      ∃ t, PSs (cxOf CX0 P w K mg base N qual (defScope st) f cd A o s H E).nox (defBody st) t ∧
        t { nx := fun _ H' => Q .non H', rt := Q } (start N vs) H) :
    FnG P w K mg base (k + 1) f fd ps sp := by
  obtain ⟨oc, od, kV, doc, pm, an, cd, ct, slots, rfl, found, code⟩ := F.ex
  refine ⟨size, ?_⟩
  intro A o s H ar us vs Q E gA room e0 hbind given asked
  have inK : K.In s.heap := e0.mod.kin.keeps fun b u e => (e0.bs b u e).1
  have free : s.heap.NoLimit := e0.mod.nolimit.keeps fun b u e => (e0.bs b u e).1
  have many := size vs H Q E asked
  have kinds : ∀ y ∈ ps.zip us, (defScope st).names.lookup y.1 = some .local ∨ ((defScope st).names.lookup y.1 = some .cell ∧
      ((cellsFrom (s.heap.objs.size + 1) (defScope st).names []).lookup y.1).isSome = true) := by
    rintro ⟨n, v⟩ hy
    cases S.par n (List.of_mem_zip hy).1 with
    | inl q => exact Or.inl q
    | inr q => exact Or.inr ⟨q, PySem.W.cellsFrom_some _ _ _ (Or.inl q)⟩
  apply codeAny_call_function room.depth (inK _ _ found) rfl S.co S.gen rfl (PySem.W.codeRec_of inK code)
  apply hbind
  apply wpAny_newFunctionEnv_cells S.kind kinds
  intro env he s1 ready
  subst he
  refine ⟨free.keeps ready.toInCall.keep, ?_⟩
  apply codeAny_func
  obtain ⟨t, ht, hq⟩ := body cd A o s H vs Q E gA (room.deeper _) asked
  have first := inv_start (E := E) (CX := CX0) S room.hd e0 many given ready
  refine wpAny_mono (ht.nox.run [] s1 (start N vs) H _ first hq) (fun fl s' hs => ?_) (fun e s' hs => hs)
  cases fl with
  | next =>
    obtain ⟨σ', H', J, q⟩ := hs
    exact ⟨V.non, H', J.os, J.bare, J.base, J.hok, rfl, q⟩
  | ret u =>
    obtain ⟨v, σ', H', J, rv, q⟩ := hs
    exact ⟨v, H', J.os, J.bare, J.base, J.hok, rv, q⟩
  | brk => exact hs.elim fun _ z => z.elim fun _ z => z.elim fun _ z => z.elim
  | cont => exact hs.elim fun _ z => z.elim fun _ z => z.elim fun _ z => z.elim

/-- what is left of the heap when the script stands alone in it -/
def one (a : Addr) (o : HO) : Hp := fun b => if b = a then some o else none
theorem one_at {a : Addr} {o : HO} : one a o a = some o := if_pos rfl
theorem one_no {a b : Addr} {o : HO} (h : b ≠ a) : one a o b = none := if_neg h

section
variable {mb : Str → Option Value} {k : Nat} {fa a : Addr} {fd : FuncData} {x : Str} {sp : Sp} {s₁ : Shared} {vs : List Value} {ns : List Int}
abbrev Fine (s₁ : Shared) (r : Result) (s' : Shared) : Prop := r = .ok (.ret (.bool true)) ∧ OldK s₁.heap s'.heap ∧ s'.os = s₁.os ∧ AllBare s'.gens

/-- from a heap in which at most the script is told of -/
theorem from_heap {H : Hp} (inK : K.In (hidT s₁.heap H)) (names : (hidT s₁.heap H).Ns mainGlobals mg) (blt : (hidT s₁.heap H).Ns builtinsNs mb)
    (known : ∀ y : Str, y ≠ "__name__" → mb y = bootBuiltins y) (free : (hidT s₁.heap H).NoLimit) (none_ : s₁.gens = #[])
    (alone : ∀ b, H b = none ∨ ∃ o xs, H b = some (.frz o (.lst xs))) (hok : HOk P w H s₁.heap) (room : Room k callerA)
    (F : FnG P w K mg (hidT s₁.heap H) k fa fd [x] sp) (binds : ∀ (s : Shared) (u : Value), BindsTo s fd ⟨[u], []⟩ [(x, u)])
    (asked : sp [.ref a] H (fun v _ => v = .bl true) fun _ _ _ => False) :
    codeAny (model P w) callerA (.call (.ref fa) ⟨[.ref a], []⟩) (Fine s₁) s₁ := by
  have entry : Env0 P w K mg (hidT s₁.heap H) callerA [] s₁ H :=
    { frames := rfl, mod := ⟨inK, names, ⟨mb, blt, known⟩, free⟩, bs := fun b u e => of_hidT e, bsz := Nat.le_of_eq (hidT_size _ _), funs := trivial,
      frf := fun b hb => absurd (show b ∈ ([] : List Addr) from hb) (by simp), hok := hok, bare := .of_eq none_ }
  have run := F.goes callerA [] s₁ H ⟨[.ref a], []⟩ [.ref a] [.ref a] _ _ rfl room entry (binds s₁ (.ref a)) (.cons rfl .nil) asked
  refine codeAny_mono run fun r s' got => ?_
  cases r with
  | error e => exact False.elim got
  | ok fl =>
    cases fl with
    | ret u =>
      obtain ⟨v, H', os, bare, un, hok', ru, yes⟩ := got
      have yes' : v = .bl true := yes
      subst yes'
      have eu : u = Value.bool true := ru
      subst eu
      refine ⟨rfl, OldK.of_keep ?_, os, bare⟩
      intro b u e
      rcases alone b with q | ⟨ob, xs, q⟩
      · exact un.keep b u e q (fun z => absurd (show b ∈ ([] : List Addr) from z) (by simp)) (by simp)
      · have e1 := (hok b _ q).1
        have e2 := (hok' b _ (un.frzs b ob _ q)).1
        rw [e] at e1
        cases e1
        exact e2
    | next => exact False.elim got
    | brk => exact False.elim got
    | cont => exact False.elim got
/-- the law's call, its promise once -/
theorem lawG (inK : K.In s₁.heap) (names : s₁.heap.Ns mainGlobals mg) (blt : s₁.heap.Ns builtinsNs mb) (known : ∀ y : Str, y ≠ "__name__" → mb y = bootBuiltins y)
    (free : s₁.heap.NoLimit) (none_ : s₁.gens = #[]) (script : s₁.heap.get? a = some { cls := .type "list", data := .seq vs.toArray }) (nums : IntsAre vs ns)
    (few : ns.length ≤ sizeLine) (room : Room k callerA) (F : ∀ base : Heap, K.In base → base.Ns mainGlobals mg → FnG P w K mg base k fa fd [x] sp)
    (binds : ∀ (s : Shared) (u : Value), BindsTo s fd ⟨[u], []⟩ [(x, u)]) (asked : ∀ H : Hp, SqL K H a (ns.map V.int) → sp [.ref a] H (fun v _ => v = .bl true) fun _ _ _ => False) :
    codeAny (model P w) callerA (.call (.ref fa) ⟨[.ref a], []⟩) (Fine s₁) s₁ := by
  have rel := vals_ints nums
  have len := nums.length
  cases look : K.lookup a with
  | some o =>
    have e := inK a o look
    rw [script] at e
    cases e
    have keep : ∀ {b : Addr} {u : Obj}, s₁.heap.get? b = some u → (hidT s₁.heap fun _ => none).get? b = some u := fun e => hidT_get e rfl
    have ns' : ∀ {b : Addr} {m : Str → Option Value}, s₁.heap.Ns b m → (hidT s₁.heap fun _ => none).Ns b m := fun ⟨o, es, ep, e, d, r⟩ => ⟨o, es, ep, keep e, d, r⟩
    have inK' : K.In (hidT s₁.heap fun _ => none) := fun b u e => keep (inK b u e)
    refine from_heap inK' (ns' names) (ns' blt) known (let ⟨mc, h1, h2⟩ := free; ⟨mc, ns' h1, h2⟩) none_ (fun _ => .inl rfl) (fun b u z => nomatch z) room (F _ inK' (ns' names)) binds ?_
    exact asked _ (.inr ⟨_, vs.toArray, _, look, rfl, rfl, rfl, by rw [List.size_toArray, len]; exact few, by simpa using rel⟩)
  | none =>
    have keep : ∀ {b : Addr} {u : Obj}, b ≠ a → s₁.heap.get? b = some u → (hidT s₁.heap (one a (.frz { cls := .type "list", data := .seq vs.toArray } (.lst (ns.map V.int))))).get? b = some u := fun n e => hidT_get e (one_no n)
    have ns' : ∀ {b : Addr} {m : Str → Option Value}, s₁.heap.Ns b m → (hidT s₁.heap (one a (.frz { cls := .type "list", data := .seq vs.toArray } (.lst (ns.map V.int))))).Ns b m := by
      rintro b m ⟨o, es, ep, e, d, r⟩
      refine ⟨o, es, ep, keep (fun z => ?_) e, d, r⟩
      rw [z, script] at e
      cases e
      cases d
    have inK' : K.In (hidT s₁.heap (one a (.frz { cls := .type "list", data := .seq vs.toArray } (.lst (ns.map V.int))))) := fun b u e => keep (fun z => by rw [z, look] at e; cases e) (inK b u e)
    refine from_heap inK' (ns' names) (ns' blt) known (let ⟨mc, h1, h2⟩ := free; ⟨mc, ns' h1, h2⟩) none_ (fun b => ?_) (fun b u z => ?_) room (F _ inK' (ns' names)) binds (asked _ (.inl (.inr ⟨_, one_at⟩)))
    · by_cases e : b = a
      · exact .inr ⟨_, _, by rw [e]; exact one_at⟩
      · exact .inl (one_no e)
    · by_cases e : b = a
      · subst e
        have z' := one_at.symm.trans z
        cases z'
        exact ⟨script, by rw [List.length_map]; exact few, vs, _, rel, script⟩
      · have z' := (one_no e).symm.trans z
        cases z'
end
end
/-- the end of a proof: as the layer's own, for such a promise -/
theorem walkG {l : PySem.W.OpenLaw} {n k : Nat} {q : Program} {loose : List Str} {XP : (Str → Option Value) → Heap → Prop} {YP : World → Heap → Prop} {d : DefRec} {K : Params → PySem.W.Frag}
    {sp : PySem.W.Frag → Sp} {x : Str} (most : l.most = some n) (few : n ≤ sizeLine) (plain : d.params.defaults = []) (room : Room k callerA) (inY : ∀ (w : World) (h : Heap), YP w h → (K w.params).In h)
    (F : ∀ (w : World) (mg : Str → Option Value) (fa : Addr) (h : Heap), (K w.params).In h → h.Ns mainGlobals mg → mg d.name = some (.ref fa) →
      ∃ fd : FuncData, (∀ (s : Shared) (u : Value), BindsTo s fd ⟨[u], []⟩ [(x, u)]) ∧
        ∀ base : Heap, (K w.params).In base → base.Ns mainGlobals mg → FnG l.prog w (K w.params) mg base k fa fd [x] (sp (K w.params)))
    (asked : ∀ (K : PySem.W.Frag) (H : Hp) (a : Addr) (ns : List Int), ns.length ≤ n → SqL K H a (ns.map V.int) → sp K [.ref a] H (fun v _ => v = .bl true) fun _ _ _ => False) :
    PySem.W.WalkO q loose XP YP l.row.toRowW d [] (fun f vs => PySem.call f vs) := by
  apply Att.attach_call most plain
  intro w s₀ s₁ mg mb fa o pm cd doc a vs ns G Y _ _ _ named script nums size none_
  have inK := inY w _ Y
  obtain ⟨fd, binds, hF⟩ := F w mg fa _ inK G.T.g named
  exact lawG inK G.T.g G.T.b G.T.builtins G.T.nolimit none_ script nums (Nat.le_trans size few) room hF binds fun H hs => asked _ H a ns size hs

/-! the text of data -/
/-- data whose text is made: no dict, no int too long, not too deep, not too many -/
structure Shows (d : PyData) (deep many : Nat) : Prop where
  s : d.showable = true
  l : d.leavesShort 1922 = true
  h : d.hasDict = false
  p : d.depth ≤ deep
  b : d.bulk ≤ many
theorem Shows.mono {d : PyData} {a b a' b' : Nat} (x : Shows d a b) (h1 : a ≤ a') (h2 : b ≤ b') : Shows d a' b' := ⟨x.s, x.l, x.h, Nat.le_trans x.p h1, Nat.le_trans x.b h2⟩
theorem Shows.room {d : PyData} (x : Shows d 50 8000) : d.shown.length ≤ sizeLine := by
  have h := PyData.shown_le_bulk 1922 (by decide) d x.l
  have hb := x.b
  have e : sizeLine = 16777216 := by decide
  have := Nat.mul_le_mul_left 1924 hb
  omega
theorem short_int {i : Int} (h : i.natAbs.log2 < 1920) : (PyData.int i).leavesShort 1922 = true := by
  simp only [PyData.leavesShort, decide_eq_true_eq]
  have e := int_text_length_le (k := 1920) (by decide) h
  rw [PyData.shown_int, PySem.ofString_length]
  omega
theorem ints_show : ∀ {ns : List Int}, (∀ n ∈ ns, n.natAbs.log2 < 1920) → PyData.showableAll (ns.map PyData.int) = true ∧ PyData.leavesShortAll 1922 (ns.map PyData.int) = true ∧ PyData.hasDictAll (ns.map PyData.int) = false ∧ PyData.depthAll (ns.map PyData.int) = 0 ∧ PyData.bulkAll (ns.map PyData.int) = ns.length
  | [], _ => ⟨rfl, rfl, rfl, rfl, rfl⟩
  | n :: r, h => by
    obtain ⟨h1, h2, h3, h4, h5⟩ := ints_show (ns := r) fun m hm => h m (List.mem_cons_of_mem _ hm)
    have hn := h n List.mem_cons_self
    have hs := short_int hn
    refine ⟨?_, ?_, ?_, ?_, ?_⟩
    · simp [PyData.showableAll, PyData.showable, h1, hn]
    · simp [PyData.leavesShortAll, h2, hs]
    · simp [PyData.hasDictAll, PyData.hasDict, h3]
    · simp [PyData.depthAll, PyData.depth, h4]
    · simp [PyData.bulkAll, PyData.bulk, h5]; omega
theorem shows_ints {ns : List Int} (h : ∀ n ∈ ns, n.natAbs.log2 < 1920) : Shows (.tuple (ns.map PyData.int)) 1 ns.length := by
  obtain ⟨h1, h2, h3, h4, h5⟩ := ints_show h
  exact ⟨by simp [PyData.showable, h1], by simp [PyData.leavesShort, h2], by simp [PyData.hasDict, h3], by simp [PyData.depth, h4], by simp [PyData.bulk, h5]⟩
section
variable {X : Cx}
def rRepr (K : PySem.W.Frag) : List V → Hp → VK → Prop := fun vs H Q => ∃ (a : Addr) (d : PyData), vs = [.ref a] ∧ Dp K H (.ref a) d ∧ Shows d 50 8000 ∧ Q (.str d.shown) H
theorem call_repr {k : Nat} (hg : X.A.guards = some []) (room : Room k X.A) : CallR X (.builtin "repr") (rRepr X.K) := by
  intro pins s σ H vs us Q I r h
  obtain ⟨a, d, rfl, hd, hs, q⟩ := h
  obtain ⟨u, rfl, ru⟩ := vals1 r
  have eu : u = Value.ref a := ru
  subst eu
  obtain ⟨as, reads⟩ := Dp.reads I d (.ref a) (.ref a) hd rfl
  have hu := room.un
  have hp := hs.p
  refine repr_of_reads' reads hs.s (fun e => by rw [hs.h] at e; cases e) hg (by omega) (fun _ _ e => e) (fun h' u tk hk => ?_) hs.room
  exact ⟨.str d.shown, H, I.kept hk, ⟨u, rfl⟩, q⟩
/-! x *= e of ints -/
theorem ip_mulW : PIp X .Mult (fun x y H Q => ∃ i j : Int, x = .int i ∧ y = .int j ∧ IntMulOk i j ∧ Q (.int (i * j)) H) := by
  intro pins s σ H x y v u Q I rx ry h
  obtain ⟨i, j, ex, ey, ok, q⟩ := h
  subst ex ey
  obtain ⟨t, et⟩ := rx
  obtain ⟨t', et'⟩ := ry
  subst et et'
  exact imul_int ⟨V.int (i * j), H, I.tok _, ⟨_, rfl⟩, q⟩ ok
/-! f(k = v, ..): all by their names -/
variable {CX : CXT} {k : Nat} {f : Addr} {fd : FuncData} {ps ks : List Str} {sp : Sp} {E : XK} {x : Str} {p pos : Pos} {kws : List Keyword} {t tk : TA}
  {g : List Value → List Value → List Value} {gV : List V → List V → List V}
def tNamed (sp : Sp) (gV : List V → List V → List V) (E : XK) (m : Nat) (tk : TA) : TE := fun σ H Q => tk σ H fun zs H1 => zs.length = m ∧ sp (gV [] zs) H1 Q E
theorem pe_named (F : FnOk X.prog X.w X.K X.mg X.base CX k f fd ps sp) (room : Room k X.A) (glob : Gl X x) (is : X.mg x = some (.ref f)) (keep : PySem.W.keepIn X.K (.ref f) = true)
    (bound : KBn X.K fd ps 0 ks g gV) (pass : Passes CX X E) (args : PK X kws tk) (all : (backToKw pos (keywordEach kws X.env)).all (·.1.isSome) = true := by rfl)
    (names : (backToKw pos (keywordEach kws X.env)).filterMap (·.1) = ks := by rfl) (nodebug : (x == ("__debug__" : Str)) = false := by decide)
    (plain : ((backTo pos (starEach [] X.env)).any (·.1) || (backToKw pos (keywordEach kws X.env)).any (·.1.isNone)) = false := by rfl) :
    PE X (.Call (.Name x p) [] kws pos) (tNamed sp gV E ks.length tk) := by
  constructor
  intro pins s σ H Q I h
  apply wpAny_Call_Name_kw
  refine ld_glob I glob is ?_ nodebug
  apply PySem.W.callWith_KW0 I.ok.mod.kin keep all _ plain
  have run := args.run pos pins s σ H _ I h
  refine thn run fun ws s2 done => ?_
  obtain ⟨zs, H2, I2, rz, many, q⟩ := done
  refine ⟨I2.kIn, ?_⟩
  rw [names]
  have few : ws.length = ks.length := by rw [← rz.length]; exact many
  first
  | exact run_fnN (us := []) (vs := []) F room bound pass I2 .nil rz rfl few q
  | exact run_fnN (us := []) (vs := []) F room bound pass I2 .nil rz rfl many q
def turned {α : Type} : List α → List α
  | [u, v] => [v, u]
  | l => l
theorem turned_vals : ∀ {zs : List V} {ws : List Value}, Vals zs ws → Vals (turned zs) (turned ws)
  | _, _, .nil => .nil
  | _, _, .cons a .nil => .cons a .nil
  | _, _, .cons a (.cons b .nil) => .cons b (.cons a .nil)
  | _, _, .cons a (.cons b (.cons c r)) => .cons a (.cons b (.cons c r))
/-- two parameters, both by name, the second ahead -/
theorem named2 {K : PySem.W.Frag} {x qual : Str} {st : Stmt} {a b : Str} (F : Fun K x qual st f fd)
    (h : ∀ (kV doc pm : Value) (an : Option Addr) (cd ct u v : Value), bindArgs (PySem.W.fnOf x qual (defArgs st) (defBody st) (defScope st) .none kV doc pm an cd ct) ⟨[], [(b, u), (a, v)]⟩ = pure [(a, v), (b, u)]) :
    KBn K fd [a, b] 0 [b, a] (fun _ ws => turned ws) (fun _ zs => turned zs) := by
  obtain ⟨oc, od, kV, doc, pm, an, cd, ct, slots, rfl, found, code⟩ := F.ex
  refine ⟨fun s us ws _ l0 l2 => ?_, fun _ r => turned_vals r⟩
  match us, ws, l0, l2 with
  | [], [u, v], _, _ => exact .of_eq (h kV doc pm an cd ct u v)
theorem max_is (calm : X.calm = true) : CallR X (.builtin "max") (fun vs H Q => ∃ i j k : Int, vs = [.int i, .int j] ∧ k = (if j > i then j else i) ∧ Q (.int k) H) := by
  intro pins s σ H vs us Q I r h
  obtain ⟨i, j, k, e, ek, q⟩ := h
  subst ek
  exact call_max2 calm pins s σ H vs us Q I r ⟨i, j, e, q⟩
/-! a def that wants that no text is being made, called -/
theorem pe_callG {F : FuncData} {es : List Expr} {e : Expr} (G : FnG X.prog X.w X.K X.mg X.base k f F ps sp) (quiet : X.A.guards = some []) (room : Room k X.A) (glob : Gl X x) (is : X.mg x = some (.ref f)) (keep : PySem.W.keepIn X.K (.ref f) = true)
    (bound : Binds X.K F ps []) (args : PA X (e :: es) t) (nodebug : (x == ("__debug__" : Str)) = false := by decide) (star : starEach (e :: es) X.env = (false, eval e X.env) :: starEach es X.env := by rfl)
    (plain : (backTo pos (starEach es X.env)).any (·.1) = false := by rfl) : PE X (.Call (.Name x p) (e :: es) [] pos) (tCall sp [] E0 t) := by
  constructor
  intro pins s σ H Q I h
  apply wpAny_Call_Name_kw
  refine ld_glob I glob is ?_ nodebug
  refine PySem.W.callWith_K (h₀ := X.base) I.ok.mod.kin keep (thn (args.run pos pins s σ H _ I h) fun us s1 got => ?_) star plain
  obtain ⟨vs, H1, I1, r, asked⟩ := got
  refine ⟨I1.kIn, ?_⟩
  have asked' : sp vs H1 Q E0 := by simpa using asked
  have many : (us ++ []).length = ps.length := by rw [List.append_nil, ← r.length]; exact G.size _ _ _ _ asked'
  have bind := bound s1 us I1.kIn many
  rw [List.append_nil] at bind
  apply wpAny_call
  refine codeAny_mono (G.goes X.A X.stack s1 H1 ⟨us, []⟩ us vs Q E0 quiet room I1.env0 bind r asked') fun res s' hq => ?_
  cases res with
  | error e => exact False.elim hq
  | ok fl =>
    cases fl with
    | ret u => exact I1.after hq
    | next => exact False.elim hq
    | brk => exact False.elim hq
    | cont => exact False.elim hq
/-! repr of None, or of data -/
def rRepr2 (K : PySem.W.Frag) : List V → Hp → VK → Prop := fun vs H Q => (vs = [.non] ∧ Q (.str "None") H) ∨ rRepr K vs H Q
theorem call_repr2 {k : Nat} (hg : X.A.guards = some []) (room : Room k X.A) : CallR X (.builtin "repr") (rRepr2 X.K) := by
  intro pins s σ H vs us Q I r h
  rcases h with ⟨ev, q⟩ | h
  · subst ev
    obtain ⟨u, eu, ru⟩ := vals1 r
    subst eu
    have e : u = Value.none := ru
    subst e
    exact PySem.P.repr_of_none ⟨.str _, H, I.tok _, ⟨_, rfl⟩, q⟩
  · exact call_repr hg room pins s σ H vs us Q I r h
end
end GG

set_option Elab.async false
set_option linter.all false
set_option maxRecDepth 100000
set_option maxHeartbeats 4000000
namespace Z
open PySem PySem.Spec PyProof.Rows L2 GG
def top (i : Nat) : Stmt := PySem.Challenge.pw_bentcoin_k08_heaped_rows.main.body.getD i (.Pass ⟨0, 0, 0, 0⟩)
abbrev sPen : Stmt := top 9
abbrev sFresh : Stmt := top 10
abbrev sDraw : Stmt := top 11
/-- what follows an if, once for all ways to it -/
theorem if_tail {c : TT} {a b : TS} {D : Ends} {σ : L2.St} {H : Hp} (W : L2.St → Hp → Prop) (tail : ∀ σ H, W σ H → D.nx σ H) (go : (∀ σ H, W σ H → D.nx σ H) → tIfS c a b D σ H) : tIfS c a b D σ H := go tail
theorem on {t u : TS} {D : Ends} {σ : L2.St} {H : Hp} (h : t { D with nx := u D } σ H) : tSeq t u D σ H := h
theorem put_c {v : V} {i : Nat} {D : Ends} {σ : L2.St} {H : Hp} (h : D.nx (σ.set i (some v)) H) : tAsg (tC v) (gName i) D σ H := h
/-! heaps -/
theorem Same.upd {H : Hp} {p : Addr} {o : HO} (h : H p = none) : Same H (L2.upd H p o) := fun b x e => by
  rw [upd_ne (ne_of_none e h)]
  exact e
/-- all that was told of stands, but what is at a -/
def But (a : Addr) (H H' : Hp) : Prop := ∀ b o, H b = some o → b ≠ a → H' b = some o
theorem But.refl (a : Addr) (H : Hp) : But a H H := fun _ _ e _ => e
theorem But.trans {a : Addr} {H H1 H2 : Hp} (x : But a H H1) (y : But a H1 H2) : But a H H2 := fun b o e n => y b o (x b o e n) n
theorem But.of {a : Addr} {H H1 : Hp} (x : Same H H1) : But a H H1 := fun b o e _ => x b o e
theorem But.put {a : Addr} {H : Hp} {o : HO} : But a H (L2.upd H a o) := fun b u e n => by
  rw [upd_ne n]
  exact e
theorem But.free {a : Addr} {H H' : Hp} {l : Addr} (e : But a H H') (n : l ≠ a) (h : H' l = none) : H l = none := by
  cases q : H l with
  | none => rfl
  | some o =>
    rw [e l o q n] at h
    cases h
theorem But.same {a : Addr} {H H0 H' : Hp} (s : Same H0 H) (n : H0 a = none) (b : But a H H') : Same H0 H' := fun c o e => b c o (s c o e) (ne_of_none e n)
theorem But.seq {a c : Addr} {K : PySem.W.Frag} {H H' : Hp} {xs : List V} (e : But a H H') (n : c ≠ a) (h : SqL K H c xs) : SqL K H' c xs := by
  rcases h with (h | ⟨o, h⟩) | h
  · exact .inl (.inl (e _ _ h n))
  · exact .inl (.inr ⟨o, e _ _ h n⟩)
  · exact .inr h
/-- a pen stands at a -/
def Pen (H : Hp) (a l : Addr) : Prop := ∃ (cs : List Int) (pos val : Int), H a = some (.lst [.ref l, .int pos, .int val]) ∧ H l = some (.lst (cs.map V.int)) ∧ 0 ≤ pos
theorem Pen.ne {H : Hp} {a l : Addr} {cs : List Int} {p v : Int} (h : H a = some (.lst [.ref l, .int p, .int v])) (e : H l = some (.lst (cs.map V.int))) : l ≠ a := by
  intro z
  subst z
  rw [h] at e
  cases cs with
  | nil => cases e
  | cons x r => cases e
theorem Pen.put {H : Hp} {a l : Addr} {cs : List Int} {p v q u : Int} (h : H a = some (.lst [.ref l, .int p, .int v])) (e : H l = some (.lst (cs.map V.int))) (hq : 0 ≤ q) : Pen (upd H a (.lst [.ref l, .int q, .int u])) a l :=
  ⟨cs, q, u, upd_same, by rw [upd_ne (Pen.ne h e)]; exact e, hq⟩
theorem Pen.same {H H' : Hp} {a l : Addr} (p : Pen H a l) (s : Same H H') : Pen H' a l := by
  obtain ⟨cs, q, v, h1, h2, h3⟩ := p
  exact ⟨cs, q, v, s _ _ h1, s _ _ h2, h3⟩
theorem dpInts {K : PySem.W.Frag} {H : Hp} : ∀ ns : List Int, DpAll K H (ns.map V.int) (ns.map PyData.int)
  | [] => .nil
  | n :: r => .cons (.int n) (dpInts r)
theorem cut_to {α : Type} (xs : List V) (n : Nat) : ∃ m, cutV xs none (some (n : Int)) = xs.take m := ⟨_, by unfold cutV; rw [HT.sIx_none]; rfl⟩
/-- a row without the zeros at its end -/
def strip (l : List Int) : List Int := (l.reverse.dropWhile (· == 0)).reverse
theorem strip_nil : strip [] = [] := rfl
theorem strip_zero (l : List Int) : strip (l ++ [0]) = strip l := by
  unfold strip
  rw [List.reverse_append]
  rfl
theorem strip_last {l : List Int} {z : Int} (h : z ≠ 0) : strip (l ++ [z]) = l ++ [z] := by
  unfold strip
  rw [List.reverse_append]
  show (List.dropWhile (· == 0) (z :: l.reverse)).reverse = _
  rw [List.dropWhile_cons_of_neg (by simpa using h), List.reverse_cons, List.reverse_reverse]
theorem strip_mem {l : List Int} {c : Int} (h : c ∈ strip l) : c ∈ l := by
  unfold strip at h
  rw [List.mem_reverse] at h
  exact List.mem_reverse.mp ((List.dropWhile_sublist _).subset h)
theorem strip_len (l : List Int) : (strip l).length ≤ l.length := by
  unfold strip
  rw [List.length_reverse]
  have := (List.dropWhile_sublist (· == 0) (l := l.reverse)).length_le
  rwa [List.length_reverse] at this
theorem strip_strip (l : List Int) : strip (strip l) = strip l := by
  rcases List.eq_nil_or_concat (strip l) with e | ⟨r, z, e⟩
  · rw [e]; rfl
  · rw [List.concat_eq_append] at e
    by_cases h : z = 0
    · exfalso
      have e2 : l.reverse.dropWhile (· == 0) = z :: r.reverse := by
        have := congrArg List.reverse e
        unfold strip at this
        rw [List.reverse_reverse, List.reverse_append] at this
        exact this
      have := List.head?_dropWhile_not (p := fun x : Int => x == 0) (l := l.reverse)
      rw [e2] at this
      simp [h] at this
    · rw [e, strip_last h]
theorem eqv_nil : ∀ {xs : List Int}, xs ≠ [] → (!PyData.eqv (.list (xs.map PyData.int)) (.list [])) = true
  | [], h => absurd rfl h
  | _ :: _, _ => rfl
structure Names (mg : Str → Option Value) : Prop where
  list : mg "list" = none
  tuple : mg "tuple" = none
  len : mg "len" = none
  range : mg "range" = none
structure Def (K : PySem.W.Frag) (mg : Str → Option Value) (x : Str) (f : Addr) (fd : FuncData) (ps : List Str) : Prop where
  is : mg x = some (.ref f)
  kp : PySem.W.keepIn K (.ref f) = true
  bi : Binds K fd ps []
theorem Pen.apart {H : Hp} {a l e : Addr} (p : Pen H a l) (h : H e = none) : e ≠ a ∧ e ≠ l := by
  obtain ⟨cs, pos, val, ha, hl, _⟩ := p
  exact ⟨(ne_of_none ha h).symm, (ne_of_none hl h).symm⟩
theorem Pen.notTup {H : Hp} {a l e : Addr} {xs : List V} (p : Pen H a l) (h : H e = some (.tup xs)) : e ≠ a := by
  obtain ⟨cs, pos, val, ha, hl, _⟩ := p
  rintro rfl
  rw [ha] at h
  cases h
theorem But.mem {a p : Addr} {H H' : Hp} {o : HO} (b : But a H H') (n : p ≠ a) (e : H p = some o) : H' p = some o := b p o e n
/-- what follows a value, once for all ways to it -/
theorem asg_tail {te : TE} {g : TG} {D : Ends} {σ : L2.St} {H : Hp} (W : V → Hp → Prop) (tail : ∀ v H', W v H' → g v σ H' D.nx) (go : (∀ v H', W v H' → g v σ H' D.nx) → te σ H fun x H1 => g x σ H1 D.nx) : tAsg te g D σ H := go tail
theorem log_le {b : Int} (h : b.natAbs < 2 ^ 100) : b.natAbs.log2 < 9000 := Nat.lt_of_lt_of_le (PySem.Flt.log2_lt_of (k := 100) (by decide) h) (by decide)
section
variable {P : Program} {w : World} {K : PySem.W.Frag} {mg : Str → Option Value} {base : Heap}
/-! ### the pen -/
def spPen (K : PySem.W.Frag) : Sp := fun vs H Q _ => ∃ (s : Addr) (ns : List Int), vs = [.ref s] ∧ SqL K H s (ns.map V.int) ∧ ns.length ≤ 63 ∧ ∀ p l H', Same H H' → H p = none → H l = none → Pen H' p l → Q (.ref p) H'
theorem scPen : FnScope ["script"] ["script"] (defScope sPen) := ⟨rfl, rfl, rfl, by decide +kernel, rfl, by decide +kernel, by decide +kernel⟩
theorem ok_pen {f : Addr} {fd : FuncData} (F : Fun K "_law_pen" "_law_pen" sPen f fd) (T : Names mg) : FnOk P w K mg base CX0 1 f fd ["script"] (spPen K) := by
  refine F.ok scPen (fun vs H Q E h => ?_) (fun cdv A outer s H vs Q E hr h => ?_)
  · obtain ⟨a, ns, rfl, _⟩ := h
    rfl
  · obtain ⟨a, ns, rfl, hS, hlen, q⟩ := h
    refine ⟨_, pss_one (ps_ret (pe_lst (pa_cons (pe_callTy call_list_of (by rfl) T.list (by decide +kernel) (pa_cons (pe_slice sl_list (pv 0) po_none (po_some pe_int)) pa_nil)) (pa_cons pe_int (pa_cons pe_int pa_nil))))), ?_⟩
    refine ⟨.ref a, rfl, 63, rfl, a, _, rfl, hS, fun c nc => ?_⟩
    refine ⟨c, _, rfl, .inl (.inl (.inl upd_same)), fun l nl => ?_⟩
    refine ⟨by show 3 ≤ sizeLine; decide, fun p np => ?_⟩
    obtain ⟨m, em⟩ := cut_to (α := Int) (ns.map V.int) 63
    have em : cutV (ns.map V.int) none (some 63) = (ns.map V.int).take m := em
    have lp : l ≠ p := ne_of_none upd_same np
    have h1 := (Same.trans (Same.upd (o := .lst (cutV (ns.map V.int) none (some 63))) nc) (Same.trans (Same.upd (o := .lst (cutV (ns.map V.int) none (some 63))) nl) (Same.upd (o := .lst [.ref l, .int 0, .int 0]) np)))
    refine q p l _ h1 (Same.free (Same.trans (Same.upd nc) (Same.upd nl)) np) (Same.free (Same.upd nc) nl) ⟨ns.take m, 0, 0, upd_same, ?_, by decide⟩
    rw [upd_ne lp, upd_same, em, List.map_take]
/-! ### a fresh number -/
def spFresh : Sp := fun vs H Q _ => ∃ (a l : Addr), vs = [.ref a] ∧ Pen H a l ∧ ∀ (v : Int) H', But a H H' → Pen H' a l → Q (.int v) H'
theorem scFresh : FnScope ["pen", "at", "cell", "p", "one", "found", "turn"] ["pen"] (defScope sFresh) := ⟨rfl, rfl, rfl, by decide +kernel, rfl, by decide +kernel, by decide +kernel⟩
theorem ok_fresh {f : Addr} {fd : FuncData} (F : Fun K "_law_fresh" "_law_fresh" sFresh f fd) (T : Names mg) : FnOk P w K mg base CX0 1 f fd ["pen"] spFresh := by
  refine F.ok scFresh (fun vs H Q E h => ?_) (fun cdv A outer s H vs Q E hr h => ?_)
  · obtain ⟨a, l, rfl, _⟩ := h
    rfl
  · obtain ⟨a, l, rfl, ⟨cs, pos, val, ha, hl, hp⟩, q⟩ := h
    have hu : A.units + 3 + 64 < cLine := hr.units
    refine ⟨_, pss_cons (ps_set (i := 1) scFresh.nd rfl (.inl rfl) (pe_ix ix_list (pv 0) pe_int (fun _ _ => rfl)))
      (pss_cons (ps_asg (pe_op op_add (pv 1) pe_int) (pg_sub (pv 0) pe_int set_list))
      (pss_cons (ps_set (i := 2) scFresh.nd rfl (.inl rfl) pe_int)
      (pss_cons (ps_if (pt_cmpR (op_neD hu) (pe_ix ix_list (pv 0) pe_int (fun _ _ => rfl)) (pe_lst pa_nil) (nomark _))
        (pss_one (ps_set (i := 2) scFresh.nd rfl (.inl rfl) (pe_ix ix_list (pe_ix ix_list (pv 0) pe_int (fun _ _ => rfl)) (pe_op op_mod (pv 1) (pe_callB call_len_seq (by rfl) T.len PySem.boot_len (pa_cons (pe_ix ix_list (pv 0) pe_int (fun _ _ => rfl)) pa_nil))) (fun _ _ => rfl)))) pss_nil)
      (pss_cons (ps_if (PW.pt (pw_and (pt_cmpR op_lt (pv 1) (pe_callB call_len_seq (by rfl) T.len PySem.boot_len (pa_cons (pe_ix ix_list (pv 0) pe_int (fun _ _ => rfl)) pa_nil)) (nomark _)) (pw_and1 (pt_cmpR op_ge (pv 2) (pe_op op_pow pe_int pe_int) (nomark _)))))
        (pss_one (ps_ret (pe_op op_sub (pv 2) (pe_op op_pow pe_int pe_int)))) pss_nil)
      (pss_cons (ps_set (i := 3) scFresh.nd rfl (.inl rfl) pe_int)
      (pss_cons (ps_set (i := 4) scFresh.nd rfl (.inl rfl) (pe_op op_mod (pe_op op_add (pe_op op_add (pe_op op_mul (pv 2) pe_int) (pe_op op_mul pe_int (pv 1))) pe_int) (pv 3)))
      (pss_cons (ps_set (i := 5) scFresh.nd rfl (.inl rfl) (pv 4))
      (pss_cons (ps_for PassesOwn.never rfl (pi_range1 rfl T.range (pa_cons pe_int pa_nil)) (pg_name (i := 6) scFresh.nd rfl (.inl rfl))
        (pss_cons (ps_set (i := 4) scFresh.nd rfl (.inl rfl) (pe_op op_mod (pe_op op_add (pe_op op_add (pe_op op_mul (pv 4) (pv 4)) (pe_op op_mul (pe_op op_mul pe_int (pe_op op_add (pv 6) pe_int)) (pe_op op_add (pv 1) pe_int))) (pv 2)) (pv 3)))
        (pss_one (ps_set (i := 5) scFresh.nd rfl (.inl rfl) (pe_op op_add (pe_op op_mul (pv 5) (pv 3)) (pv 4))))))
      (pss_one (ps_ret (pv 5))))))))))), ?_⟩
    -- position = pen[1]; pen[1] = position + 1; cell = 0
    refine ⟨.ref a, rfl, a, _, 1, .int pos, rfl, rfl, SqL.of ha, atI_nat (j := 1) rfl, ?_⟩
    refine ⟨_, rfl, _, _, rfl, rfl, .ref a, rfl, a, _, 1, 1, rfl, rfl, ha, rfl, ?_⟩
    have ha1 : upd H a (.lst [.ref l, .int (pos + 1), .int val]) a = some (.lst [.ref l, .int (pos + 1), .int val]) := upd_same
    have hl1 : upd H a (.lst [.ref l, .int (pos + 1), .int val]) l = some (.lst (cs.map V.int)) := by
      rw [upd_ne (Pen.ne ha hl)]
      exact hl
    have b1 : But a H (upd H a (.lst [.ref l, .int (pos + 1), .int val])) := But.put
    change (_ : Hp → Prop) (upd H a (.lst [.ref l, .int (pos + 1), .int val]))
    generalize upd H a (.lst [.ref l, .int (pos + 1), .int val]) = H1 at ha1 hl1 b1 ⊢
    -- if pen[0] != []
    have ec : cs = [] ∨ ∃ x r, cs = x :: r := by
      cases cs with
      | nil => exact .inl rfl
      | cons x r => exact .inr ⟨x, r, rfl⟩
    dsimp only
    refine on (put_c ?_)
    dsimp only
    refine on (if_tail (fun σ H' => ∃ cell : Int, σ = [some (V.ref a), some (V.int pos), some (V.int cell), none, none, none, none] ∧ Same H1 H') ?_ (fun t => ?_))
    rotate_left
    · refine ⟨.ref a, rfl, a, _, 0, .ref l, rfl, rfl, SqL.of ha1, atI_nat (j := 0) rfl, Nat.zero_le _, fun e0 ne0 => ?_⟩
      have s2 : Same H1 (upd H1 e0 (.lst [])) := Same.upd ne0
      have ha2 := s2 _ _ ha1
      have hl2 := s2 _ _ hl1
      have d0 : Dp K (upd H1 e0 (.lst [])) (.ref e0) (.list []) := .lst (SqL.of upd_same) .nil
      generalize upd H1 e0 (.lst []) = H2 at s2 ha2 hl2 d0 ⊢
      refine ⟨.list (cs.map PyData.int), .list [], .lst (SqL.of hl2) (dpInts cs), d0, PySem.W.ke_shaped_ints cs, rfl, _, rfl, ?_⟩
      rcases ec with rfl | ⟨x, r, rfl⟩
      · exact iteF (t _ _ ⟨0, rfl, s2⟩)
      · refine iteT ?_
        have hpos : pos % (((x :: r).length : Nat) : Int) < ((x :: r).length : Nat) ∧ 0 ≤ pos % (((x :: r).length : Nat) : Int) := by
          have : (0 : Int) < ((x :: r).length : Nat) := by rw [List.length_cons]; omega
          exact ⟨Int.emod_lt_of_pos _ this, Int.emod_nonneg _ (by omega)⟩
        obtain ⟨j, ej⟩ : ∃ j : Nat, pos % (((x :: r).length : Nat) : Int) = (j : Int) := ⟨(pos % (((x :: r).length : Nat) : Int)).toNat, by omega⟩
        have hj : j < (x :: r).length := by omega
        refine ⟨.ref a, rfl, a, _, 0, .ref l, rfl, rfl, SqL.of ha2, atI_nat (j := 0) rfl, .int pos, rfl, .ref a, rfl, a, _, 0, .ref l, rfl, rfl, SqL.of ha2, atI_nat (j := 0) rfl, l, _, rfl, .inl (SqL.of hl2), _, _, rfl, rfl, ?_, ?_⟩
        · show (0 : Int) < _
          rw [List.length_map, List.length_cons]
          omega
        · refine ⟨l, _, _, .int (x :: r)[j], rfl, rfl, SqL.of hl2, ?_, t _ _ ⟨_, rfl, s2⟩⟩
          rw [List.length_map, ej]
          exact atI_nat (by rw [List.getElem?_map, List.getElem?_eq_getElem hj]; rfl)
    · rintro σ H' ⟨cell, rfl, s2⟩
      have ha2 := s2 _ _ ha1
      have hl2 := s2 _ _ hl1
      have b2 : But a H H' := b1.trans (But.of s2)
      have p2 : Pen H' a l := ⟨cs, pos + 1, val, ha2, hl2, by omega⟩
      -- if position < len(pen[0]) and cell >= 10 ** 18: return cell - 10 ** 18
      dsimp only
      refine on (if_tail (fun σ H3 => σ = [some (V.ref a), some (V.int pos), some (V.int cell), none, none, none, none] ∧ H3 = H') ?_ (fun t => ?_))
      rotate_left
      · refine ⟨_, rfl, .ref a, rfl, a, _, 0, .ref l, rfl, rfl, SqL.of ha2, atI_nat (j := 0) rfl, l, _, rfl, .inl (SqL.of hl2), _, _, rfl, rfl, _, rfl, ite2 (fun _ => ?_) (fun _ => iteF (t _ _ ⟨rfl, rfl⟩))⟩
        refine ⟨_, rfl, _, _, rfl, rfl, ⟨by decide, by decide, by decide⟩, _, _, rfl, rfl, _, rfl, ite2 (fun _ => ?_) (fun _ => t _ _ ⟨rfl, rfl⟩)⟩
        exact ⟨_, rfl, _, _, rfl, rfl, ⟨by decide, by decide, by decide⟩, _, _, rfl, rfl, q _ _ b2 p2⟩
      · rintro σ H3 ⟨rfl, rfl⟩
        -- state, mixed, the six turns
        refine ⟨_, rfl, _, _, rfl, rfl, .inr ⟨by decide, by decide⟩, _, rfl, _, _, rfl, rfl, .inl ⟨by decide, by decide⟩, _, _, rfl, rfl, _, _, rfl, rfl, _, rfl, _, _, rfl, rfl, (by show (0 : Int) < 2305843009213693951; decide), _, rfl,
          6, rfl, by decide, by decide, for_range (lo := 0) (n := 6) (fun i σ H4 => ∃ (st mx : Int) (v : Option V), σ = [some (V.ref a), some (V.int pos), some (V.int cell), some (V.int 2305843009213693951), some (V.int st), some (V.int mx), v] ∧ H4 = H3 ∧ 0 ≤ st ∧ st < 2305843009213693951)
            ⟨_, _, none, rfl, rfl, Int.emod_nonneg _ (by decide), Int.emod_lt_of_pos _ (by decide)⟩ ?_ ?_⟩
        · rintro i σ H4 hi ⟨st, mx, v, rfl, rfl, h0, h1⟩
          refine ⟨_, rfl, _, rfl, _, _, rfl, rfl, .inl ⟨by omega, by omega⟩, _, rfl, _, _, rfl, rfl, _, _, rfl, rfl, .inl ⟨by decide, by decide⟩, _, rfl, _, _, rfl, rfl, _, _, rfl, rfl, .inl ⟨by show -(2 ^ 64) < (69621 : Int) * (0 + (i : Int) + 1); omega, by show (69621 : Int) * (0 + (i : Int) + 1) < 2 ^ 64; omega⟩, _, _, rfl, rfl,
            _, rfl, _, _, rfl, rfl, _, rfl, _, _, rfl, rfl, (by show (0 : Int) < 2305843009213693951; decide), _, rfl, _, rfl, _, _, rfl, rfl, .inr ⟨by decide, by decide⟩, _, rfl, _, _, rfl, rfl, ?_⟩
          exact ⟨_, _, _, rfl, rfl, Int.emod_nonneg _ (by decide), Int.emod_lt_of_pos _ (by decide)⟩
        · rintro σ H4 ⟨st, mx, v, rfl, rfl, h0, h1⟩
          exact ⟨_, rfl, q _ _ b2 p2⟩
/-! ### a number below a bound -/
def spDraw : Sp := fun vs H Q _ => ∃ (a l : Addr) (b : Int), vs = [.ref a, .int b] ∧ Pen H a l ∧ 0 < b ∧ b.natAbs.log2 < 9000 ∧ ∀ (d : Int) H', 0 ≤ d → d < b → But a H H' → Pen H' a l → Q (.int d) H'
theorem scDraw : FnScope ["pen", "many", "digit"] ["pen", "many"] (defScope sDraw) := ⟨rfl, rfl, rfl, by decide +kernel, rfl, by decide +kernel, by decide +kernel⟩
theorem ok_draw {f g : Addr} {fd gd : FuncData} (F : Fun K "_law_draw" "_law_draw" sDraw f fd) (GF : FnOk P w K mg base CX0 1 g gd ["pen"] spFresh) (mF : mg "_law_fresh" = some (.ref g)) (kF : PySem.W.keepIn K (.ref g) = true) (bF : Binds K gd ["pen"] []) :
    FnOk P w K mg base CX0 2 f fd ["pen", "many"] spDraw := by
  refine F.ok scDraw (fun vs H Q E h => ?_) (fun cdv A outer s H vs Q E hr h => ?_)
  · obtain ⟨a, l, b, rfl, _⟩ := h
    rfl
  · obtain ⟨a, l, b, rfl, pn, hb, hb2, q⟩ := h
    refine ⟨_, pss_cons (ps_if (pt_cmpR op_lt (pe_ix ix_list (pv 0) pe_int (fun _ _ => rfl)) (pv 1) (nomark _))
        (pss_one (ps_asg (pe_call GF hr (by rfl) mF kF bF .nil pass0 (pa_cons (pv 0) pa_nil)) (pg_sub (pv 0) pe_int set_list))) pss_nil)
      (pss_cons (ps_set (i := 2) scDraw.nd rfl (.inl rfl) (pe_op op_mod (pe_ix ix_list (pv 0) pe_int (fun _ _ => rfl)) (pv 1)))
      (pss_cons (ps_asg (pe_op op_fdivW (pe_ix ix_list (pv 0) pe_int (fun _ _ => rfl)) (pv 1)) (pg_sub (pv 0) pe_int set_list))
      (pss_one (ps_ret (pv 2))))), ?_⟩
    refine on (if_tail (fun σ H' => σ = [some (V.ref a), some (V.int b), none] ∧ Pen H' a l ∧ But a H H') ?_ (fun t => ?_))
    rotate_left
    · obtain ⟨cs, pos, val, ha, hl, hp⟩ := id pn
      refine ⟨.ref a, rfl, a, _, 2, .int val, rfl, rfl, SqL.of ha, atI_nat (j := 2) rfl, _, rfl, _, _, rfl, rfl, _, rfl, ite2 (fun _ => ?_) (fun _ => t _ _ ⟨rfl, pn, But.refl _ _⟩)⟩
      refine ⟨.ref a, rfl, a, l, rfl, pn, fun v H1 b1 p1 => ?_⟩
      obtain ⟨cs, pos, val, ha, hl, hp⟩ := p1
      exact ⟨.ref a, rfl, a, _, 2, 2, rfl, rfl, ha, rfl, t _ _ ⟨rfl, Pen.put ha hl hp, b1.trans But.put⟩⟩
    · rintro σ H1 ⟨rfl, ⟨cs, pos, val, ha, hl, hp⟩, b1⟩
      refine ⟨.ref a, rfl, a, _, 2, .int val, rfl, rfl, SqL.of ha, atI_nat (j := 2) rfl, _, rfl, _, _, rfl, rfl, hb, .ref a, rfl, a, _, 2, .int val, rfl, rfl, SqL.of ha, atI_nat (j := 2) rfl, _, rfl, _, _, rfl, rfl, ⟨hb, hb2⟩, .ref a, rfl, a, _, 2, 2, rfl, rfl, ha, rfl, _, rfl, ?_⟩
      exact q _ _ (Int.emod_nonneg _ (by omega)) (Int.emod_lt_of_pos _ hb) (b1.trans But.put) (Pen.put ha hl hp)
end
end Z

namespace M3
/-! a row less c times another, moved -/
def subs (c : Int) : List Int → Nat → List Int → List Int
  | r, _, [] => r
  | r, a, x :: f => subs c (r.set a (r.getD a 0 - c * x)) (a + 1) f
theorem getD_set (r : List Int) (a : Nat) (v : Int) (t : Nat) (h : a < r.length) : (r.set a v).getD t 0 = if t = a then v else r.getD t 0 := by
  rw [List.getD_eq_getElem?_getD, List.getD_eq_getElem?_getD, List.getElem?_set]
  by_cases e : a = t
  · subst e; simp [h]
  · simp [e, Ne.symm e]
theorem subs_len (c : Int) : ∀ (f r : List Int) (a : Nat), (subs c r a f).length = r.length
  | [], _, _ => rfl
  | x :: f, r, a => by
    show (subs c (r.set a _) (a + 1) f).length = _
    rw [subs_len c f, List.length_set]
theorem subs_get (c : Int) : ∀ (f r : List Int) (a t : Nat), a + f.length ≤ r.length →
    (subs c r a f).getD t 0 = r.getD t 0 - c * (if a ≤ t then f.getD (t - a) 0 else 0)
  | [], r, a, t, _ => by
    show r.getD t 0 = _
    by_cases e : a ≤ t <;> simp [e]
  | x :: f, r, a, t, h => by
    rw [List.length_cons] at h
    show (subs c (r.set a (r.getD a 0 - c * x)) (a + 1) f).getD t 0 = _
    rw [subs_get c f _ _ _ (by rw [List.length_set]; omega), getD_set _ _ _ _ (by omega)]
    by_cases e : t = a
    · subst e
      rw [if_pos rfl, if_neg (by omega), if_pos (Nat.le_refl _), Nat.sub_self]
      simp
    · rw [if_neg e]
      by_cases e2 : a ≤ t
      · rw [if_pos (by omega), if_pos e2, show t - a = (t - (a + 1)) + 1 by omega]
        simp
      · rw [if_neg (by omega), if_neg e2]
theorem ext_getD {l l' : List Int} (h : l.length = l'.length) (g : ∀ t, t < l.length → l.getD t 0 = l'.getD t 0) : l = l' := by
  apply List.ext_getElem h
  intro i h1 h2
  have := g i h1
  rw [List.getD_eq_getElem?_getD, List.getD_eq_getElem?_getD, List.getElem?_eq_getElem h1, List.getElem?_eq_getElem h2] at this
  exact this
theorem subs_snoc (c x : Int) (f r : List Int) (a : Nat) (h : a + f.length + 1 ≤ r.length) :
    subs c r a (f ++ [x]) = (subs c r a f).set (a + f.length) ((subs c r a f).getD (a + f.length) 0 - c * x) := by
  apply ext_getD
  · rw [subs_len, List.length_set, subs_len]
  · intro t ht
    rw [subs_len] at ht
    rw [getD_set _ _ _ _ (by rw [subs_len]; omega), subs_get _ _ _ _ _ (by rw [List.length_append]; simp; omega), subs_get _ _ _ _ _ (by omega), subs_get _ _ _ _ _ (by omega)]
    by_cases e : t = a + f.length
    · subst e
      rw [if_pos (by omega), if_pos rfl, if_pos (by omega), show a + f.length - a = f.length by omega]
      simp [List.getD_eq_getElem?_getD]
    · rw [if_neg e]
      by_cases e2 : a ≤ t
      · rw [if_pos e2, if_pos e2]
        by_cases e3 : t - a < f.length
        · simp [List.getD_eq_getElem?_getD, List.getElem?_append_left e3]
        · have h1 : (f ++ [x]).getD (t - a) 0 = 0 := by
            rw [List.getD_eq_getElem?_getD, List.getElem?_eq_none (by rw [List.length_append]; simp; omega)]; rfl
          have h2 : f.getD (t - a) 0 = 0 := by
            rw [List.getD_eq_getElem?_getD, List.getElem?_eq_none (by omega)]; rfl
          rw [h1, h2]
      · rw [if_neg e2, if_neg e2]
theorem subs_scale (S c : Int) : ∀ (f r : List Int) (a : Nat), a + f.length ≤ r.length → subs (S * c) (r.map (S * ·)) a f = (subs c r a f).map (S * ·)
  | [], _, _, _ => rfl
  | x :: f, r, a, h => by
    rw [List.length_cons] at h
    show subs (S * c) ((r.map (S * ·)).set a ((r.map (S * ·)).getD a 0 - S * c * x)) (a + 1) f = (subs c (r.set a (r.getD a 0 - c * x)) (a + 1) f).map (S * ·)
    rw [← subs_scale S c f _ _ (by rw [List.length_set]; omega), List.map_set]
    have e : (r.map (S * ·)).getD a 0 = S * r.getD a 0 := by
      rw [List.getD_eq_getElem?_getD, List.getD_eq_getElem?_getD, List.getElem?_map, List.getElem?_eq_getElem (by omega)]
      rfl
    rw [e, Int.mul_sub, Int.mul_assoc]
/-! the two divisions -/
def divP (f : List Int) (m : Nat) (l : Int) : Nat → List Int → List Int → Option (List Int × List Int)
  | 0, r, q => some (r, q)
  | n + 1, r, q => if (r.getD (n + m - 1) 0).fmod l ≠ 0 then none else
      divP f m l n (subs ((r.getD (n + m - 1) 0).fdiv l) r n f) (q.set n ((r.getD (n + m - 1) 0).fdiv l))
def divL (f : List Int) (m : Nat) (l : Int) : Nat → List Int → List Int → List Int × List Int
  | 0, r, q => (r, q)
  | n + 1, r, q => divL f m l n (subs ((r.getD (n + m - 1) 0).fdiv l) r n f) (q.set n ((r.getD (n + m - 1) 0).fdiv l))
theorem divL_keep (f : List Int) (m : Nat) (l : Int) : ∀ (n : Nat) (r q : List Int) (t : Nat), n ≤ t → (divL f m l n r q).2.getD t 0 = q.getD t 0
  | 0, _, _, _, _ => rfl
  | n + 1, r, q, t, h => by
    show (divL f m l n _ (q.set n _)).2.getD t 0 = _
    rw [divL_keep f m l n _ _ t (by omega), List.getD_eq_getElem?_getD, List.getElem?_set_ne (by omega), ← List.getD_eq_getElem?_getD]
theorem divL_len (f : List Int) (m : Nat) (l : Int) : ∀ (n : Nat) (r q : List Int), (divL f m l n r q).1.length = r.length ∧ (divL f m l n r q).2.length = q.length
  | 0, _, _ => ⟨rfl, rfl⟩
  | n + 1, r, q => by
    have := divL_len f m l n (subs ((r.getD (n + m - 1) 0).fdiv l) r n f) (q.set n ((r.getD (n + m - 1) 0).fdiv l))
    rw [subs_len, List.length_set] at this
    exact this
theorem getD_scale (S : Int) (r : List Int) (t : Nat) : (r.map (S * ·)).getD t 0 = S * r.getD t 0 := by
  rw [List.getD_eq_getElem?_getD, List.getD_eq_getElem?_getD, List.getElem?_map]
  cases r[t]? with
  | none => simp
  | some v => rfl
theorem sim {f : List Int} {m : Nat} {l S' : Int} (hl : l ≠ 0) (hS : S' ≠ 0) (hm : f.length = m) (h1 : 1 ≤ m) : ∀ (n : Nat) (r q : List Int), n + m ≤ r.length + 1 → n ≤ q.length →
    match divP f m l n r q with
    | some (r', q') => divL f m l n (r.map (l * S' * ·)) (q.map (l * S' * ·)) = (r'.map (l * S' * ·), q'.map (l * S' * ·)) ∧ q'.length = q.length
    | none => ∃ t, t < q.length ∧ ((divL f m l n (r.map (l * S' * ·)) (q.map (l * S' * ·))).2.getD t 0).fmod (l * S') ≠ 0
  | 0, r, q, _, _ => ⟨rfl, rfl⟩
  | n + 1, r, q, hr, hq => by
    unfold divP
    have e1 : ((r.map (l * S' * ·)).getD (n + m - 1) 0).fdiv l = S' * r.getD (n + m - 1) 0 := by
      rw [getD_scale, Int.mul_assoc, Int.mul_fdiv_cancel_left _ hl]
    by_cases hx : (r.getD (n + m - 1) 0).fmod l = 0
    · rw [if_neg (by simpa using hx)]
      have hd : l ∣ r.getD (n + m - 1) 0 := Int.dvd_of_fmod_eq_zero hx
      obtain ⟨c, hc⟩ := hd
      have ec : (r.getD (n + m - 1) 0).fdiv l = c := by rw [hc, Int.mul_fdiv_cancel_left _ hl]
      have e2 : S' * r.getD (n + m - 1) 0 = l * S' * c := by rw [hc]; grind
      have ih := sim hl hS hm h1 n (subs c r n f) (q.set n c) (by rw [subs_len]; omega) (by rw [List.length_set]; omega)
      have eL : divL f m l (n + 1) (r.map (l * S' * ·)) (q.map (l * S' * ·)) = divL f m l n ((subs c r n f).map (l * S' * ·)) ((q.set n c).map (l * S' * ·)) := by
        show divL f m l n (subs (((r.map (l * S' * ·)).getD (n + m - 1) 0).fdiv l) (r.map (l * S' * ·)) n f) ((q.map (l * S' * ·)).set n (((r.map (l * S' * ·)).getD (n + m - 1) 0).fdiv l)) = _
        rw [e1, e2, subs_scale _ _ _ _ _ (by omega), List.map_set]
      rw [ec, eL]
      rw [List.length_set] at ih
      exact ih
    · rw [if_pos hx]
      refine ⟨n, by omega, ?_⟩
      show ((divL f m l n _ ((q.map (l * S' * ·)).set n (((r.map (l * S' * ·)).getD (n + m - 1) 0).fdiv l))).2.getD n 0).fmod (l * S') ≠ 0
      rw [divL_keep f m l n _ _ n (Nat.le_refl _), getD_set _ _ _ _ (by rw [List.length_map]; omega), if_pos rfl, e1]
      intro h0
      obtain ⟨k, hk⟩ := Int.dvd_of_fmod_eq_zero h0
      apply hx
      have : r.getD (n + m - 1) 0 = l * k := by
        apply Int.eq_of_mul_eq_mul_left hS
        rw [hk]
        grind
      rw [this, Int.mul_fmod_right]

def res (x : Option (List Int × List Int)) : Option (List Int) := match x with
  | none => none
  | some (r, q) => if (r.any fun a => a != 0) = true then none else some q
def resL (S : Int) (x : List Int × List Int) : Option (List Int) :=
  if (x.1.filter fun a => a != 0) ≠ [] ∨ (x.2.filter fun a => a.fmod S != 0) ≠ [] then none else some (x.2.map (·.fdiv S))
theorem pow_ne {l : Int} (h : l ≠ 0) : ∀ n : Nat, l ^ n ≠ 0
  | 0 => by simp
  | n + 1 => by rw [Int.pow_succ]; exact Int.mul_ne_zero (pow_ne h n) h
theorem any_filter (r : List Int) : (r.filter fun a => a != 0) ≠ [] ↔ (r.any fun a => a != 0) = true := by
  induction r with
  | nil => simp
  | cons x r ih => by_cases h : x = 0 <;> simp_all
theorem filter_scale {S : Int} (hS : S ≠ 0) (r : List Int) : ((r.map (S * ·)).filter fun a => a != 0) ≠ [] ↔ (r.any fun a => a != 0) = true := by
  rw [any_filter]
  induction r with
  | nil => simp
  | cons x r ih =>
    have : (S * x != 0) = (x != 0) := by
      by_cases h : x = 0
      · simp [h]
      · have h2 : S * x ≠ 0 := Int.mul_ne_zero hS h
        rw [bne_iff_ne.mpr h2, bne_iff_ne.mpr h]
    simp only [List.map_cons, List.any_cons, this, Bool.or_eq_true]
    rw [ih]
theorem res_eq {f : List Int} {m : Nat} {l : Int} (hl : l ≠ 0) (hm : f.length = m) (h1 : 1 ≤ m) (n : Nat) (p q : List Int) (hp : n + m ≤ p.length + 1 ∨ n = 0) (hq : n = q.length) :
    resL (l ^ n) (divL f m l n (p.map (l ^ n * ·)) (q.map (l ^ n * ·))) = res (divP f m l n p q) := by
  cases n with
  | zero =>
    obtain rfl : q = [] := List.eq_nil_of_length_eq_zero hq.symm
    show resL (l ^ 0) (p.map (l ^ 0 * ·), []) = res (some (p, []))
    unfold resL res
    simp only [Int.pow_zero, Int.one_mul, List.map_id', List.filter_nil, ne_eq, not_true_eq_false, or_false, List.map_nil]
    by_cases h : (p.any fun a => a != 0) = true
    · rw [if_pos ((any_filter p).mpr h), if_pos h]
    · rw [if_neg (fun e => h ((any_filter p).mp e)), if_neg h]
  | succ n =>
    have hS' := pow_ne hl n
    have hS := pow_ne hl (n + 1)
    have eS : l ^ (n + 1) = l * l ^ n := by rw [Int.pow_succ, Int.mul_comm]
    have s := sim hl hS' hm h1 (n + 1) p q (by omega) (by omega)
    rw [← eS] at s
    cases hd : divP f m l (n + 1) p q with
    | none =>
      rw [hd] at s
      obtain ⟨t, ht, hne⟩ := s
      unfold resL res
      rw [if_pos]
      right
      intro e
      have lt : t < (divL f m l (n + 1) (p.map (l ^ (n + 1) * ·)) (q.map (l ^ (n + 1) * ·))).2.length := by
        rw [(divL_len f m l _ _ _).2, List.length_map]
        exact ht
      have hx := List.filter_eq_nil_iff.mp e _ (List.getElem_mem lt)
      apply hne
      rw [List.getD_eq_getElem?_getD, List.getElem?_eq_getElem lt]
      simpa using hx
    | some rq =>
      obtain ⟨r', q'⟩ := rq
      rw [hd] at s
      obtain ⟨e, hlq⟩ := s
      rw [e]
      unfold resL res
      have z : ((q'.map (l ^ (n + 1) * ·)).filter fun a => a.fmod (l ^ (n + 1)) != 0) = [] := by
        apply List.filter_eq_nil_iff.mpr
        intro a ha
        obtain ⟨b, _, rfl⟩ := List.mem_map.mp ha
        simp [Int.mul_fmod_right]
      have e3 : (q'.map (l ^ (n + 1) * ·)).map (·.fdiv (l ^ (n + 1))) = q' := by
        rw [List.map_map]
        conv => rhs; rw [← List.map_id q']
        apply List.map_congr_left
        intro a _
        show (l ^ (n + 1) * a).fdiv (l ^ (n + 1)) = a
        exact Int.mul_fdiv_cancel_left _ hS
      dsimp only
      simp only [z, ne_eq, not_true_eq_false, or_false, e3]
      by_cases h : (r'.any fun a => a != 0) = true
      · rw [if_pos ((filter_scale hS r').mpr h), if_pos h]
      · rw [if_neg (fun e => h ((filter_scale hS r').mp e)), if_neg h]
/-! sizes -/
def Bd (M : Nat) (r : List Int) : Prop := ∀ t, (r.getD t 0).natAbs ≤ M
theorem bd_of {M : Nat} {r : List Int} (h : ∀ x ∈ r, x.natAbs ≤ M) : Bd M r := fun t => by
  rw [List.getD_eq_getElem?_getD]
  cases e : r[t]? with
  | none => simp
  | some v => exact h v (List.mem_of_getElem? e)
theorem Bd.mem {M : Nat} {r : List Int} (h : Bd M r) {x : Int} (hx : x ∈ r) : x.natAbs ≤ M := by
  obtain ⟨i, hi, rfl⟩ := List.getElem_of_mem hx
  have := h i
  rwa [List.getD_eq_getElem?_getD, List.getElem?_eq_getElem hi] at this
theorem Bd.mono {M N : Nat} {r : List Int} (h : Bd M r) (hn : M ≤ N) : Bd N r := fun t => Nat.le_trans (h t) hn
theorem Bd.set {M : Nat} {r : List Int} (h : Bd M r) {n : Nat} {c : Int} (hc : c.natAbs ≤ M) : Bd M (r.set n c) := fun t => by
  rw [List.getD_eq_getElem?_getD, List.getElem?_set]
  by_cases e : n = t
  · subst e
    by_cases l : n < r.length
    · simp [l]; exact hc
    · simp [l]
  · simp only [e, if_false]
    exact h t
theorem Bd.take {M : Nat} {r : List Int} (h : Bd M r) (k : Nat) : Bd M (r.take k) := bd_of fun _ hx => h.mem (List.mem_of_mem_take hx)
theorem subs_bd {M B : Nat} {r f : List Int} {c : Int} {a : Nat} (hr : Bd M r) (hc : c.natAbs ≤ M) (hf : Bd B f) (h : a + f.length ≤ r.length) : Bd (M * (B + 1)) (subs c r a f) := fun t => by
  rw [subs_get _ _ _ _ _ h]
  have h1 := hr t
  have h2 : (if a ≤ t then f.getD (t - a) 0 else 0).natAbs ≤ B := by
    split
    · exact hf _
    · simp
  have h3 : (c * (if a ≤ t then f.getD (t - a) 0 else 0)).natAbs ≤ M * B := by
    rw [Int.natAbs_mul]
    exact Nat.mul_le_mul hc h2
  have h4 := Int.natAbs_sub_le (r.getD t 0) (c * (if a ≤ t then f.getD (t - a) 0 else 0))
  rw [Nat.mul_add, Nat.mul_one]
  omega
theorem fdiv_le {x l : Int} (hl : l ≠ 0) : (x.fdiv l).natAbs ≤ x.natAbs := by
  rcases Int.lt_or_gt_of_ne hl with h | h
  · have e : x.fdiv l = (-x).fdiv (-l) := by rw [Int.neg_fdiv_neg]
    rw [e, Int.fdiv_eq_ediv_of_nonneg _ (by omega)]
    have := Int.natAbs_ediv_le_natAbs (-x) (-l)
    rwa [Int.natAbs_neg] at this
  · rw [Int.fdiv_eq_ediv_of_nonneg _ (by omega)]
    exact Int.natAbs_ediv_le_natAbs x l
theorem divP_bd {f : List Int} {m B : Nat} {l : Int} (hl : l ≠ 0) (hm : f.length = m) (hf : Bd B f) : ∀ (n M : Nat) (r q r' q' : List Int), n + m ≤ r.length + 1 ∨ n = 0 → Bd M r → Bd M q → divP f m l n r q = some (r', q') → Bd (M * (B + 1) ^ n) q'
  | 0, M, r, q, r', q', _, _, hq, e => by
    cases e
    simpa using hq
  | n + 1, M, r, q, r', q', h, hr, hq, e => by
    unfold divP at e
    split at e
    · cases e
    · have hc : ((r.getD (n + m - 1) 0).fdiv l).natAbs ≤ M := Nat.le_trans (fdiv_le hl) (hr _)
      have up : M ≤ M * (B + 1) := Nat.le_mul_of_pos_right _ (by omega)
      have := divP_bd hl hm hf n (M * (B + 1)) _ _ r' q' (by rw [subs_len]; omega) (subs_bd hr hc hf (by omega)) ((hq.set hc).mono up) e
      rwa [Nat.mul_assoc, ← Nat.pow_succ'] at this
/-! products -/
def pf : List Int → List Int → Nat → Int
  | [], _, _ => 0
  | x :: f, g, t => x * g.getD t 0 + (match t with | 0 => 0 | t + 1 => pf f g t)
theorem getD_snoc (g : List Int) (y : Int) (t : Nat) : (g ++ [y]).getD t 0 = g.getD t 0 + if t = g.length then y else 0 := by
  rw [List.getD_eq_getElem?_getD, List.getD_eq_getElem?_getD]
  rcases Nat.lt_trichotomy t g.length with h | h | h
  · rw [List.getElem?_append_left h, if_neg (by omega)]; simp
  · subst h; simp
  · rw [List.getElem?_eq_none (by rw [List.length_append]; simp; omega), List.getElem?_eq_none (by omega), if_neg (by omega)]; simp
theorem getD_out {g : List Int} {t : Nat} (h : g.length ≤ t) : g.getD t 0 = 0 := by
  rw [List.getD_eq_getElem?_getD, List.getElem?_eq_none h]; rfl
theorem pf_snoc_f (g : List Int) (x : Int) : ∀ (f : List Int) (t : Nat), pf (f ++ [x]) g t = pf f g t + if f.length ≤ t then x * g.getD (t - f.length) 0 else 0
  | [], t => by cases t <;> simp [pf]
  | z :: f, 0 => by simp [pf]
  | z :: f, t + 1 => by
    show z * g.getD (t + 1) 0 + pf (f ++ [x]) g t = z * g.getD (t + 1) 0 + pf f g t + _
    rw [pf_snoc_f g x f t, List.length_cons, Nat.add_sub_add_right]
    by_cases h : f.length ≤ t
    · rw [if_pos h, if_pos (by omega)]; omega
    · rw [if_neg h, if_neg (by omega)]; omega
theorem pf_snoc_g (g : List Int) (y : Int) : ∀ (f : List Int) (t : Nat), pf f (g ++ [y]) t = pf f g t + if g.length ≤ t then f.getD (t - g.length) 0 * y else 0
  | [], t => by simp [pf]
  | z :: f, 0 => by
    show z * (g ++ [y]).getD 0 0 + 0 = z * g.getD 0 0 + 0 + _
    rw [getD_snoc]
    by_cases h : g.length = 0
    · rw [if_pos h.symm, if_pos (by omega), h]; simp; rw [Int.mul_add]
    · rw [if_neg (Ne.symm h), if_neg (by omega)]; simp
  | z :: f, t + 1 => by
    show z * (g ++ [y]).getD (t + 1) 0 + pf f (g ++ [y]) t = z * g.getD (t + 1) 0 + pf f g t + _
    rw [getD_snoc, pf_snoc_g g y f t]
    by_cases h : t + 1 = g.length
    · rw [if_pos h, if_neg (by omega), if_pos (by omega), h, Nat.sub_self]
      simp
      omega
    · rw [if_neg h]
      by_cases h2 : g.length ≤ t
      · rw [if_pos h2, if_pos (by omega), show t + 1 - g.length = (t - g.length) + 1 by omega]
        simp
        omega
      · rw [if_neg h2, if_neg (by omega)]
        simp
theorem pf_zero (g : List Int) : ∀ (f : List Int) (t : Nat), f.length + g.length ≤ t + 1 → pf f g t = 0
  | [], t, _ => by simp [pf]
  | z :: f, 0, h => by
    rw [List.length_cons] at h
    have : g.length = 0 := by omega
    show z * g.getD 0 0 + 0 = 0
    rw [getD_out (by omega)]; simp
  | z :: f, t + 1, h => by
    rw [List.length_cons] at h
    show z * g.getD (t + 1) 0 + pf f g t = 0
    by_cases hf : f.length = 0
    · obtain rfl := List.eq_nil_of_length_eq_zero hf
      rw [getD_out (by simp at h; omega)]; simp [pf]
    · rw [pf_zero g f t (by omega), getD_out (by omega)]; simp
theorem pf_bd {F G : Nat} {g : List Int} (hg : Bd G g) : ∀ (f : List Int) (t : Nat), Bd F f → (pf f g t).natAbs ≤ f.length * (F * G)
  | [], t, _ => by simp [pf]
  | z :: f, t, h => by
    have hz : z.natAbs ≤ F := h.mem List.mem_cons_self
    have hf : Bd F f := bd_of fun x hx => h.mem (List.mem_cons_of_mem _ hx)
    have h1 : (z * g.getD t 0).natAbs ≤ F * G := by rw [Int.natAbs_mul]; exact Nat.mul_le_mul hz (hg t)
    rw [List.length_cons, Nat.succ_mul]
    cases t with
    | zero =>
      show (z * g.getD 0 0 + 0).natAbs ≤ _
      rw [Int.add_zero]; omega
    | succ t =>
      show (z * g.getD (t + 1) 0 + pf f g t).natAbs ≤ _
      have := pf_bd hg f t hf
      have := Int.natAbs_add_le (z * g.getD (t + 1) 0) (pf f g t)
      omega
/-- what was multiplied comes out again -/
theorem divP_pf {f : List Int} {m : Nat} {l : Int} (hl : l ≠ 0) (hm : f.length = m) (h1 : 1 ≤ m) (hlast : f.getD (m - 1) 0 = l) : ∀ (n : Nat) (g r q : List Int), g.length = n → n + m ≤ r.length + 1 → n ≤ q.length → (∀ t, r.getD t 0 = pf f g t) →
    ∃ r' q', divP f m l n r q = some (r', q') ∧ (∀ t, r'.getD t 0 = 0) ∧ ∀ t, q'.getD t 0 = if t < n then g.getD t 0 else q.getD t 0
  | 0, g, r, q, hg, _, _, hr => by
    obtain rfl := List.eq_nil_of_length_eq_zero hg
    refine ⟨r, q, rfl, fun t => ?_, fun t => by rw [if_neg (by omega)]⟩
    rw [hr t]
    have : ∀ (f : List Int) (t : Nat), pf f [] t = 0 := by
      intro f
      induction f with
      | nil => intro t; rfl
      | cons z f ih =>
        intro t
        cases t with
        | zero => simp [pf]
        | succ t => simp [pf, ih t]
    exact this f t
  | n + 1, g, r, q, hg, hrl, hq, hr => by
    have hne : g ≠ [] := fun e => by rw [e] at hg; simp at hg
    obtain ⟨g0, y, rfl⟩ : ∃ g0 y, g = g0 ++ [y] := ⟨g.dropLast, g.getLast hne, (List.dropLast_concat_getLast hne).symm⟩
    have hg0 : g0.length = n := by simpa using hg
    have top : r.getD (n + m - 1) 0 = l * y := by
      rw [hr, pf_snoc_g, pf_zero _ _ _ (by omega), if_pos (by omega), show n + m - 1 - g0.length = m - 1 by omega, hlast]
      simp
    have e1 : (l * y).fdiv l = y := Int.mul_fdiv_cancel_left _ hl
    have e2 : (l * y).fmod l = 0 := Int.mul_fmod_right ..
    obtain ⟨r', q', ed, z, w⟩ := divP_pf hl hm h1 hlast n g0 (subs y r n f) (q.set n y) hg0 (by rw [subs_len]; omega) (by rw [List.length_set]; omega) fun t => by
      rw [subs_get _ _ _ _ _ (by omega), hr t, pf_snoc_g, hg0]
      by_cases h : n ≤ t
      · rw [if_pos h, if_pos h, Int.mul_comm]; omega
      · rw [if_neg h, if_neg h]; simp
    refine ⟨r', q', ?_, z, fun t => ?_⟩
    · unfold divP
      rw [top, e1, e2, if_neg (by simp)]
      exact ed
    · rw [w t, getD_snoc, hg0, getD_set _ _ _ _ (by omega)]
      rcases Nat.lt_trichotomy t n with h | h | h
      · rw [if_pos h, if_pos (by omega), if_neg (by omega)]; simp
      · subst h
        rw [if_neg (by omega), if_pos rfl, if_pos (by omega), if_pos rfl, getD_out (by omega)]; simp
      · rw [if_neg (by omega), if_neg (by omega), if_neg (by omega)]
end M3

set_option Elab.async false
set_option maxRecDepth 100000
set_option maxHeartbeats 4000000
/-! enumerate(t), t a tuple -/
namespace EN
open PySem PySem.Spec PyProof.Rows L2
open Sem (wp)
theorem new_enum {v : Value} {o : Obj} {G : Heap → Prop} (B : Begins v o G) :
    Meets (Builtin.«enumerate.__new__» ⟨[.type "enumerate", v], []⟩) (fun _ R s => G s.heap ∧
      R (.ok (.ret (.ref (s.heap.push o).objs.size)))
        { s with heap := (s.heap.push o).push { cls := .type "enumerate", data := .fields #[.none, .bool false, .ref s.heap.objs.size, rawInt 0, .none, .none] } }) := by
  refine .of_wp fun prog w A R s h => ?_
  obtain ⟨hp, g, d, tk, os⟩ := s
  obtain ⟨hG, h⟩ := h
  have sub := sub_enumerate
  have begin_ : ∀ {A' : Around} {E : Value → Shared → Prop} {Q : Value → Shared → Prop}, Q (.ref hp.objs.size) ⟨hp.push o, g, d, tk, os⟩ →
      wpAny (model prog w) A' (pyIter v) Q E ⟨hp, g, d, tk, os⟩ := fun q => B.iter prog w _ _ ⟨hp, g, d, tk, os⟩ _ hG q
  wp_walk using begin_
  refine wpAny_stack_any fun st => wpAny_pure ?_
  split
  · rename_i c _ _ _ _ _
    cases (c == Value.type "enumerate")
    all_goals
      wp_walk using begin_
      exact ⟨_, rfl, h⟩
  · wp_walk using begin_
    exact ⟨_, rfl, h⟩
theorem call_enum {prog : Program} {w : World} {A : Around} {E : Value → Shared → Prop} {s : Shared} {v : Value} {o : Obj} {G : Heap → Prop} {Q : Value → Shared → Prop} (B : Begins v o G) (hG : G s.heap)
    (h : ∀ h', IsEnum h' (s.heap.objs.size + 1) s.heap.objs.size 0 .none → h'.get? s.heap.objs.size = some o →
      (∀ b u, s.heap.get? b = some u → h'.get? b = some u) → Q (.ref (s.heap.objs.size + 1)) { s with heap := h' }) :
    wpAny (model prog w) A (call (.type "enumerate") [v]) Q E s := by
  apply callType_new F.called_enumerate (by decide) (F.typeCall_enumerate_1 _) (F.newCall_enumerate_1 _) (fun obj => F.args_object_init_2 obj _) F.entry_enumerate_new (new_enum B)
  refine ⟨hG, ?_⟩
  have size : (s.heap.push o).objs.size = s.heap.objs.size + 1 := Heap.size_push ..
  show _ ∧ _
  rw [size]
  have made : IsEnum ((s.heap.push o).push { cls := .type "enumerate", data := .fields #[.none, .bool false, .ref s.heap.objs.size, rawInt 0, .none, .none] }) (s.heap.objs.size + 1) s.heap.objs.size 0 .none := by
    have e := Heap.get?_push_size (s.heap.push o) (o := { cls := .type "enumerate", data := .fields #[.none, .bool false, .ref s.heap.objs.size, rawInt 0, .none, .none] }) rfl
    rwa [size] at e
  refine ⟨⟨_, made, rfl⟩, h _ made ?_ ?_⟩
  · exact Heap.get?_push_of_some _ (Heap.get?_push_size _ B.free)
  · intro b u e
    exact Heap.get?_push_of_some _ (Heap.get?_push_of_some _ e)

/-- the tuple at a, each item in a new pair with its place -/
def Pairs (K : PySem.W.Frag) (a : Addr) : It where
  go := fun i H => ∃ (xs : List V) (x : V), SqT K H a xs ∧ xs[i]? = some x
  yld := fun i H v H' => ∃ T x, v = .ref T ∧ H T = none ∧ H' = upd H T (.tup [.int (i : Nat), x]) ∧ ∀ xs, SqT K H a xs → xs[i]? = some x
  stop := fun i H => ∃ xs : List V, SqT K H a xs ∧ xs.length ≤ i
theorem turn_pairs {P : Program} {w : World} {K : PySem.W.Frag} {elts : List Expr} {kk : Nat} {tpos : Pos} (a e it : Addr) :
    Turn P w K (.Tuple elts kk tpos) (Pairs K a) [e, it] e (fun i h => (∃ old, IsEnum h e it ((i : Nat) : Int) old) ∧ h.IsTupleIter it a i ∧ e ≠ it) where
  mem := List.mem_cons_self ..
  obj := by
    rintro i h ⟨⟨old, he⟩, ⟨o, ho, hc, hd⟩, _⟩ b hb
    simp only [List.mem_cons, List.not_mem_nil, or_false] at hb
    rcases hb with rfl | rfl
    · exact ⟨_, he, fun v q => nomatch q⟩
    · exact ⟨o, ho, fun v q => by rw [hd] at q; cases q⟩
  keep := by
    rintro i h h' ⟨⟨old, he⟩, hi, hne⟩ k
    exact ⟨⟨old, k e (by simp) _ he⟩, hi.at fun o q => k it (by simp) o q, hne⟩
  item := by
    intro X hP hw hK calm i pins s σ H E I hf st hg
    subst hP hw hK
    obtain ⟨⟨old, he⟩, hit, hne⟩ := st
    obtain ⟨xs, x, hq, hx⟩ := hg
    obtain ⟨its, rv, p, hz⟩ := I.tuple hq
    obtain ⟨u, hu, ru⟩ := rv.get hx
    have le : e < s.heap.objs.size := Heap.lt_size he
    have li : it < s.heap.objs.size := by obtain ⟨_, q, _⟩ := hit; exact Heap.lt_size q
    have tup : s.heap.IsTuple a its.toArray := p
    have nai : a ≠ it := by
      rintro rfl
      obtain ⟨o1, q1, c1, _⟩ := tup
      obtain ⟨o2, q2, c2, _⟩ := hit
      rw [q1] at q2
      cases q2
      rw [c1] at c2
      injection c2 with c3
      exact absurd c3 (by decide)
    have nae : a ≠ e := by
      rintro rfl
      obtain ⟨o1, q1, c1, _⟩ := tup
      have q2 : s.heap.get? a = _ := he
      rw [q1] at q2
      cases q2
      injection c1 with c3
      exact absurd c3 (by decide)
    have lt : i < its.toArray.size := by
      have := (List.getElem?_eq_some_iff.mp hu).1
      simpa using this
    refine wpAny_pyNext_enum_itemD (Draws.tuple (A := X.A.in1) (by exact I.ok.hd calm) it a nai its.toArray) he ⟨hit, tup⟩ lt hne (by simp [hne, Ne.symm nae]) fun y h' tk hy ho st' hT hsz hk => ?_
    have ey : y = u := by
      have : its.toArray[i]? = some u := by simpa using hu
      exact Option.some.inj (hy.symm.trans this)
    subst ey
    refine ⟨_, rfl, wpAny_letOwnedTupleGo_enum (s := { s with heap := h', toks := tk + 1 }) ho fun h2 he2 sb => ?_⟩
    have sb' : Heap.SameBut e h' h2 := sb
    have hT2 : h2.get? s.heap.objs.size = some { cls := .type "tuple", data := .seq #[.int i tk, y] } := (sb'.2 _ (Nat.ne_of_gt le)).trans hT
    have new : ObjOk X.prog X.w (upd H s.heap.objs.size (.tup [.int (i : Nat), x])) h2 s.heap.objs.size (.tup [.int (i : Nat), x]) :=
      ⟨by show 2 ≤ sizeLine; decide, [.int i tk, y], .cons ⟨_, rfl⟩ (.cons ru .nil), ⟨_, hT2, rfl, _, rfl⟩⟩
    have I2 : Inv X pins σ (upd H s.heap.objs.size (.tup [.int (i : Nat), x])) { s with heap := h2, toks := tk + 1 } := by
      refine I.turnedNew (ch := [e, it]) (fun b ob hb q => ?_) hf (Nat.le_refl _) new
      have ne : b ≠ e := fun z => hb (by simp [z])
      have ni : b ≠ it := fun z => hb (by simp [z])
      exact (sb'.2 b ne).trans (hk b ob ne ni q)
    refine ⟨.ref s.heap.objs.size, _, I2, rfl, ⟨_, x, rfl, I.hok.fresh (Nat.le_refl _), rfl, fun ys hy => by rw [I.tuple_inj hy hq]; exact hx⟩, ⟨⟨y, ?_⟩, st'.1.at fun o q => (sb'.2 it (Ne.symm hne)).trans q, hne⟩, fun b hb => ?_⟩
    · have e1 : ((i + 1 : Nat) : Int) = (i : Int) + 1 := by omega
      rw [e1]
      exact he2
    · have lb : b < s.heap.objs.size := by
        simp only [List.mem_cons, List.not_mem_nil, or_false] at hb
        rcases hb with rfl | rfl
        · exact le
        · exact li
      rw [upd_ne (Nat.ne_of_lt lb)]
      exact (hf b hb).1
  done := by
    intro X hP hw hK calm i pins s σ H E I hf st hg
    subst hP hw hK
    obtain ⟨⟨old, he⟩, hit, hne⟩ := st
    obtain ⟨xs, hq, hx⟩ := hg
    obtain ⟨its, rv, p, hz⟩ := I.tuple hq
    have tup : s.heap.IsTuple a its.toArray := p
    have nai : a ≠ it := by
      rintro rfl
      obtain ⟨o1, q1, c1, _⟩ := tup
      obtain ⟨o2, q2, c2, _⟩ := hit
      rw [q1] at q2
      cases q2
      rw [c1] at c2
      injection c2 with c3
      exact absurd c3 (by decide)
    obtain ⟨f0, f1, f2, f3, f4, f5⟩ := hf it (by simp)
    have hl := rv.length
    have none_ : its.toArray[i]? = none := by simp; omega
    have hT : s.TypeIs (.ref e) "enumerate" := ⟨_, he, rfl⟩
    unfold pyNext
    refine wpAny_bind (wpAny_attempt (wpAny_callSpecial?_slot (name := Str.ofString "__next__") hT F.slot_enumerate_next
      (wpAny_call_entry F.slot_enumerate_next hT F.entry_enumerate_next ?_ (F.args_enumerate_next_1 _))))
    show wpAny _ _ (field (.ref e) 2 >>= _) _ _ _
    refine wpAny_bind (wpAny_field he rfl (x := .ref it) rfl ?_)
    refine wpAny_bind (wpAny_nextOf_tuple_end (I.ok.hd calm) hit tup none_ fun h' x he' hx' => ?_)
    obtain ⟨o, ho, hc⟩ := hx'
    refine wpAny_bind (wpAny_isInstance (T := "StopIteration") (b := true) ⟨o, ho, hc⟩ isSubtype_stop ?_)
    refine wpAny_pure ⟨rfl, ?_⟩
    exact I.turned (t' := s.toks) (fun b o hb q => he' b o hb q) f0 f1 f3 f4 f5
  self := by
    rintro A i s Q E ⟨⟨old, he⟩, _⟩ h
    exact wpAny_pyIter_enum he h
section
variable {X : Cx}
def tPairs (K : PySem.W.Frag) (ta : TA) : TI := fun σ H R => ta σ H fun vs H1 => ∃ a xs, vs = [.ref a] ∧ SqT K H1 a xs ∧ R (Pairs K a) H1
theorem pi_pairs {e : Expr} {ta : TA} {p pos tpos : Pos} {elts : List Expr} {kk : Nat} (glob : Gl X "enumerate") (none_ : X.mg "enumerate" = none) (args : PA X [e] ta)
    (star : starEach [e] X.env = [(false, eval e X.env)] := by rfl) : PI X (.Tuple elts kk tpos) (.Call (.Name "enumerate" p) [e] [] pos) (tPairs X.K ta) := by
  constructor
  intro pins s σ H R I h
  refine Call_ (ld_blt I glob none_ boot_enumerate ?_)
  refine PyProof.Rows.callWith_type1 (thn (args.run pos pins s σ H _ I h) fun us s1 got => ?_) star rfl
  obtain ⟨vs, H1, I1, r1, a, xs, ex, hq, q⟩ := got
  subst ex
  obtain ⟨u, eu, ru⟩ := vals1 r1
  subst eu
  have eu : u = Value.ref a := ru
  subst eu
  obtain ⟨its, rv, p', hz⟩ := I1.tuple hq
  refine call_enum (begins_tuple a its.toArray) p' fun h' he hit hk => wpAny_pyIter_enum he ?_
  have I2 : Inv X pins σ H1 { s1 with heap := h' } := I1.kept (t' := s1.toks) hk
  refine ⟨s1.heap.objs.size + 1, [s1.heap.objs.size + 1, s1.heap.objs.size], _, _, H1, rfl, I2, turn_pairs a (s1.heap.objs.size + 1) s1.heap.objs.size, ⟨⟨.none, he⟩, ⟨_, hit, rfl, rfl⟩, Nat.succ_ne_self _⟩, fun b hb => ?_, q⟩
  have above : s1.heap.objs.size ≤ b := by
    simp only [List.mem_cons, List.not_mem_nil, or_false] at hb
    rcases hb with rfl | rfl
    · exact Nat.le_add_right _ _
    · exact Nat.le_refl _
  exact I1.fpOk above (I1.hok.fresh above)
/-- the loop over the pairs -/
theorem for_pairs {K : PySem.W.Frag} {a : Addr} {xs : List V} {g : TG} {tb : TS} {D : Ends} {σ : L2.St} {H : Hp} (Pv : Nat → L2.St → Hp → Prop) (h0 : Pv 0 σ H) (hl : ∀ i σ H, i ≤ xs.length → Pv i σ H → SqT K H a xs)
    (turn : ∀ i x σ H T, xs[i]? = some x → Pv i σ H → H T = none → g (.ref T) σ (upd H T (.tup [.int (i : Nat), x])) fun σ2 H2 => tb { D with nx := Pv (i + 1), ct := Pv (i + 1), bk := D.nx } σ2 H2) (done : ∀ σ H, Pv xs.length σ H → D.nx σ H) :
    ∃ W : Nat → Nat → L2.St → Hp → Prop, (∃ m, W 0 m σ H) ∧ ∀ i m σ H, W i m σ H →
      ((Pairs K a).stop i H ∧ D.nx σ H) ∨ ((Pairs K a).go i H ∧ ∃ N : L2.St → Hp → Prop, (∀ σ' H', N σ' H' → ∃ m', m' < m ∧ W (i + 1) m' σ' H') ∧ ∀ x H', (Pairs K a).yld i H x H' → g x σ H' fun σ2 H2 => tb { D with nx := N, ct := N, bk := D.nx } σ2 H2) := by
  refine ⟨fun i m σ H => m = xs.length - i ∧ i ≤ xs.length ∧ Pv i σ H, ⟨xs.length, by simp, Nat.zero_le _, h0⟩, ?_⟩
  rintro i m σ H ⟨rfl, le, pv⟩
  have here := hl i σ H le pv
  rcases Nat.lt_or_ge i xs.length with lt | ge
  · refine .inr ⟨⟨xs, xs[i], here, List.getElem?_eq_getElem lt⟩, Pv (i + 1), fun σ' H' n => ⟨xs.length - (i + 1), by omega, rfl, lt, n⟩, ?_⟩
    rintro v H' ⟨T, x, rfl, nT, rfl, hx⟩
    exact turn i x σ H T (hx xs here) pv nT
  · have e : i = xs.length := by omega
    subst e
    exact .inl ⟨⟨xs, here, Nat.le_refl _⟩, done σ H pv⟩
end
end EN

set_option Elab.async false
set_option linter.all false
set_option maxRecDepth 100000
set_option maxHeartbeats 4000000
/-! operators and calls that the layer has for fewer numbers -/
namespace OPS
open PySem PySem.Spec PyProof.Rows L2
section
variable {X : Cx}
/-- a divisor of either sign -/
def CDivZ (_ j : Int) : Prop := j ≠ 0 ∧ j.natAbs.log2 < 9000
theorem op_fdivZ : OpR X (binaryOp .FloorDiv) (rI CDivZ fun i j => .int (i.fdiv j)) := opI fun _ _ _ _ _ _ _ c q => floordiv_int c.1 q (.inl (PyProof.noPylong_of_log2 c.2))
theorem call_divmodZ : CallR X (.builtin "divmod") (fun vs H Q => ∃ i j : Int, vs = [.int i, .int j] ∧ CDivZ i j ∧ ∀ p, H p = none → Q (.ref p) (upd H p (.tup [.int (i.fdiv j), .int (i.fmod j)]))) := by
  intro pins s σ H vs us Q I r h
  obtain ⟨i, j, ev, c, q⟩ := h
  subst ev
  obtain ⟨u, v, eu, ⟨t, et⟩, ⟨t', et'⟩⟩ := vals2 r
  subst eu et et'
  apply divmod_int c.1 _ (.inl (PyProof.noPylong_of_log2 c.2))
  have free : H s.heap.objs.size = none := I.hok.fresh (Nat.le_refl _)
  refine ⟨.ref s.heap.objs.size, _, I.laid (fun b o e => Heap.get?_push_of_some _ e) (Nat.le_refl _) ?_, rfl, q _ free⟩
  exact ⟨by show 2 ≤ sizeLine; decide, [.int (i.fdiv j) s.toks, .int (i.fmod j) (s.toks + 1)], .cons ⟨_, rfl⟩ (.cons ⟨_, rfl⟩ .nil), ⟨_, Heap.get?_push_size s.heap rfl, rfl, 0, rfl⟩⟩
/-- xs[i] as read ahead of xs[i] op= .. -/
theorem get_list : PGet X (fun o i H Q => ∃ (p : Addr) (xs : List V) (k : Nat) (v : V), o = .ref p ∧ i = .int (k : Int) ∧ SqL X.K H p xs ∧ xs[k]? = some v ∧ Q v H) := by
  intro pins s σ H o i ov iv Q I ro ri h
  obtain ⟨p, xs, k, v, eo, ei, hq, hv, q⟩ := h
  subst eo ei
  have eov : ov = Value.ref p := ro
  subst eov
  obtain ⟨t, et⟩ := ri
  subst et
  obtain ⟨its, r, pl, hz⟩ := I.list hq
  obtain ⟨u, hu, ru⟩ := r.get hv
  have lt : k < its.length := (List.getElem?_eq_some_iff.mp hu).1
  have hl := r.length
  have hn := line63
  refine wpAny_getItem_list pl.isList (by omega) (by omega) (x := u) (by simpa using hu) ⟨v, H, I, ru, q⟩
/-- any(xs), xs a list of ints -/
def rAnyI (K : PySem.W.Frag) : List V → Hp → VK → Prop := fun vs H Q => ∃ (a : Addr) (ns : List Int), vs = [.ref a] ∧ SqL K H a (ns.map V.int) ∧ Q (.bl (ns.any fun n => n != 0)) H
theorem dpI {K : PySem.W.Frag} {H : Hp} : ∀ ns : List Int, DpAll K H (ns.map V.int) (ns.map PyData.int)
  | [] => .nil
  | n :: r => .cons (.int n) (dpI r)
theorem plain_ints : ∀ ns : List Int, PyData.plainAll (ns.map PyData.int) = true
  | [] => rfl
  | _ :: r => by simp [PyData.plainAll, PyData.plain, plain_ints r]
theorem any_truthy : ∀ ns : List Int, (ns.map PyData.int).any PyData.truthy = ns.any fun n => n != 0
  | [] => rfl
  | n :: r => by simp [PyData.truthy, List.any_map]; rfl
theorem call_anyI (calm : X.calm = true) : CallR X (.builtin "any") (rAnyI X.K) := by
  intro pins s σ H vs us Q I r h
  obtain ⟨a, ns, ev, hs, q⟩ := h
  subst ev
  rw [Vals.ref1 r]
  obtain ⟨as, reads⟩ := Dp.reads I (.list (ns.map PyData.int)) (.ref a) (.ref a) (.lst hs (dpI ns)) rfl
  obtain ⟨its, rv, hl, _⟩ := I.list hs
  cases reads with
  | list hg hc hd hr =>
    rename_i o vs n bs
    refine PySem.W.any_list_data (vs := vs) (I.ok.hd calm) ⟨_, hg, hc, _, hd⟩ hr (plain_ints ns) (fun x hx => ?_) fun h' tk hk => ?_
    · obtain ⟨n, _, rfl⟩ := List.mem_map.mp hx
      trivial
    · exact ⟨.bl _, H, I.kept hk, by rw [any_truthy]; rfl, q⟩
end
end OPS

set_option Elab.async false
set_option linter.all false
set_option maxRecDepth 100000
set_option maxHeartbeats 4000000
namespace Z
open PySem PySem.Spec PyProof.Rows L2 GG M3
/-! ### rows of coefficients as functions -/
abbrev Fn := Nat → Int
def fn (l : List Int) : Fn := fun t => l.getD t 0
def Sh (f : Fn) : Fn := fun t => match t with
  | 0 => 0
  | t + 1 => f t
def Tl (f : Fn) : Fn := fun t => f t - Sh f t
def one1 : Fn := fun t => if t = 0 then 1 else 0
def Tn : Nat → Fn
  | 0 => one1
  | n + 1 => Tl (Tn n)
def Sk : Nat → Fn → Fn
  | 0, f => f
  | k + 1, f => Sh (Sk k f)
def Sn (k : Nat) : Fn := Sk k one1
theorem Sh_Tl (f : Fn) : Sh (Tl f) = Tl (Sh f) := by
  funext t
  cases t with
  | zero => rfl
  | succ t => rfl
theorem Sk_Tl (f : Fn) : ∀ k, Sk k (Tl f) = Tl (Sk k f)
  | 0 => rfl
  | k + 1 => by
    show Sh (Sk k (Tl f)) = Tl (Sh (Sk k f))
    rw [Sk_Tl f k, Sh_Tl]
theorem Sk_Sh (f : Fn) : ∀ k, Sk k (Sh f) = Sh (Sk k f)
  | 0 => rfl
  | k + 1 => by
    show Sh (Sk k (Sh f)) = Sh (Sh (Sk k f))
    rw [Sk_Sh f k]
theorem Sh_add (f g : Fn) : Sh (fun t => f t + g t) = fun t => Sh f t + Sh g t := by
  funext t
  cases t <;> rfl
theorem Sh_mul (c : Int) (f : Fn) : Sh (fun t => c * f t) = fun t => c * Sh f t := by
  funext t
  cases t with
  | zero => show (0 : Int) = c * 0; rw [Int.mul_zero]
  | succ t => rfl
theorem Sk_add (f g : Fn) : ∀ k, Sk k (fun t => f t + g t) = fun t => Sk k f t + Sk k g t
  | 0 => rfl
  | k + 1 => by
    show Sh (Sk k _) = fun t => Sh (Sk k f) t + Sh (Sk k g) t
    rw [Sk_add f g k, Sh_add]
theorem Sk_mul (c : Int) (f : Fn) : ∀ k, Sk k (fun t => c * f t) = fun t => c * Sk k f t
  | 0 => rfl
  | k + 1 => by
    show Sh (Sk k _) = fun t => c * Sh (Sk k f) t
    rw [Sk_mul c f k, Sh_mul]
theorem Tl_add (f g : Fn) : Tl (fun t => f t + g t) = fun t => Tl f t + Tl g t := by
  funext t
  show f t + g t - Sh (fun t => f t + g t) t = (f t - Sh f t) + (g t - Sh g t)
  rw [Sh_add]
  show f t + g t - (Sh f t + Sh g t) = _
  omega
theorem Tl_mul (c : Int) (f : Fn) : Tl (fun t => c * f t) = fun t => c * Tl f t := by
  funext t
  show c * f t - Sh (fun t => c * f t) t = c * (f t - Sh f t)
  rw [Sh_mul, Int.mul_sub]
theorem Sn_at (k t : Nat) : Sn k t = if t = k then 1 else 0 := by
  induction k generalizing t with
  | zero => rfl
  | succ k ih =>
    cases t with
    | zero => rfl
    | succ t =>
      show Sn k t = _
      rw [ih]
      by_cases h : t = k
      · rw [if_pos h, if_pos (by omega)]
      · rw [if_neg h, if_neg (by omega)]
/-- what a form comes to -/
def Ex : List Int → Fn
  | [] => fun _ => 0
  | c :: r => fun t => c * Tn r.length t + Sh (Ex r) t
theorem Sh_zero : Sh (fun _ => 0) = fun _ => 0 := by
  funext t
  cases t <;> rfl
theorem Ex_snoc (c : Int) : ∀ r : List Int, Ex (r ++ [c]) = fun t => Tl (Ex r) t + c * Sn r.length t
  | [] => by
    funext t
    show c * one1 t + Sh (fun _ => 0) t = (0 - Sh (fun _ => 0) t) + c * one1 t
    rw [Sh_zero]
    show c * one1 t + 0 = 0 - 0 + c * one1 t
    omega
  | a :: r => by
    funext t
    show a * Tn (r ++ [c]).length t + Sh (Ex (r ++ [c])) t = Tl (fun t => a * Tn r.length t + Sh (Ex r) t) t + c * Sh (Sn r.length) t
    rw [Ex_snoc c r, Sh_add, Tl_add, Tl_mul, Sh_mul, Sh_Tl, List.length_append]
    show a * Tl (Tn r.length) t + (Tl (Sh (Ex r)) t + c * Sh (Sn r.length) t) = _
    rw [Int.add_assoc]
def zp (k : Int) (x y : List Int) : List Int := List.zipWith (fun a b => a + k * b) x y
theorem Ex_zp (k : Int) : ∀ x y : List Int, x.length = y.length → Ex (zp k x y) = fun t => Ex x t + k * Ex y t
  | [], [], _ => by
    funext t
    show (0 : Int) = 0 + k * 0
    simp
  | a :: x, b :: y, h => by
    have h' : x.length = y.length := by simpa using h
    funext t
    show (a + k * b) * Tn (zp k x y).length t + Sh (Ex (zp k x y)) t = a * Tn x.length t + Sh (Ex x) t + k * (b * Tn y.length t + Sh (Ex y) t)
    rw [Ex_zp k x y h', Sh_add, Sh_mul, ← h', show (zp k x y).length = x.length by simp [zp, h']]
    grind
/-- the next degree -/
def rz (k : Int) (x : List Int) : List Int := zp k (x ++ [0]) (0 :: x)
theorem Ex_rz (x : List Int) : Ex (rz 1 x) = Ex x := by
  unfold rz
  rw [Ex_zp 1 _ _ (by simp), Ex_snoc]
  funext t
  show Ex x t - Sh (Ex x) t + 0 * Sn x.length t + 1 * (0 * Tn x.length t + Sh (Ex x) t) = Ex x t
  grind
theorem rz_len (k : Int) (x : List Int) : (rz k x).length = x.length + 1 := by simp [rz, zp]
theorem zp_get (k : Int) (x y : List Int) (h : x.length = y.length) (t : Nat) : fn (zp k x y) t = fn x t + k * fn y t := by
  unfold fn zp
  rw [List.getD_eq_getElem?_getD, List.getD_eq_getElem?_getD, List.getD_eq_getElem?_getD, List.getElem?_zipWith]
  by_cases lt : t < x.length
  · rw [List.getElem?_eq_getElem lt, List.getElem?_eq_getElem (by omega)]
    rfl
  · rw [List.getElem?_eq_none (by omega), List.getElem?_eq_none (by omega)]
    simp
theorem fn_snoc0 (x : List Int) : fn (x ++ [0]) = fn x := by
  funext t
  unfold fn
  rw [getD_snoc]
  split <;> simp
theorem fn_cons0 (x : List Int) : fn (0 :: x) = Sh (fn x) := by
  funext t
  cases t <;> rfl
theorem rz_down (x : List Int) : fn (rz (-1) x) = Tl (fn x) := by
  funext t
  unfold rz
  rw [zp_get _ _ _ (by simp), fn_snoc0, fn_cons0]
  show fn x t + -1 * Sh (fn x) t = fn x t - Sh (fn x) t
  omega
theorem Ex_ht (x : List Int) : Ex (0 :: (x ++ [0])) = Sh (Tl (Ex x)) := by
  funext t
  show 0 * Tn (x ++ [0]).length t + Sh (Ex (x ++ [0])) t = _
  rw [Ex_snoc, Sh_add, Sh_mul]
  show _ + (Sh (Tl (Ex x)) t + 0 * _) = _
  grind
/-- the last entry and a number -/
def al (x : List Int) (c : Int) : List Int := x.dropLast ++ [x.getLastD 0 + c]
theorem al_len {x : List Int} (h : x ≠ []) (c : Int) : (al x c).length = x.length := by
  unfold al
  have := List.length_pos_iff.mpr h
  simp
  omega
theorem snoc_of {x : List Int} (h : x ≠ []) : ∃ r d, x = r ++ [d] := ⟨x.dropLast, x.getLast h, (List.dropLast_concat_getLast h).symm⟩
theorem al_snoc (r : List Int) (d c : Int) : al (r ++ [d]) c = r ++ [d + c] := by
  unfold al
  simp
theorem Ex_al {x : List Int} (h : x ≠ []) (c : Int) : Ex (al x c) = fun t => Ex x t + c * Sn (x.length - 1) t := by
  obtain ⟨r, d, rfl⟩ := snoc_of h
  rw [al_snoc, Ex_snoc, Ex_snoc]
  funext t
  rw [List.length_append]
  show Tl (Ex r) t + (d + c) * Sn r.length t = Tl (Ex r) t + d * Sn r.length t + c * Sn (r.length + 1 - 1) t
  rw [Nat.add_sub_cancel]
  grind
theorem fn_al {x : List Int} (h : x ≠ []) (c : Int) : fn (al x c) = fun t => fn x t + c * Sn (x.length - 1) t := by
  obtain ⟨r, d, rfl⟩ := snoc_of h
  rw [al_snoc]
  funext t
  unfold fn
  rw [getD_snoc, getD_snoc, Sn_at, List.length_append]
  show _ = _ + c * if t = r.length + 1 - 1 then 1 else 0
  rw [Nat.add_sub_cancel]
  split <;> omega
/-! sizes -/
def Le (M : Nat) (f : Fn) : Prop := ∀ t, (f t).natAbs ≤ M
theorem Le.sh {M : Nat} {f : Fn} (h : Le M f) : Le M (Sh f) := fun t => by
  cases t with
  | zero => exact Nat.zero_le _
  | succ t => exact h t
theorem Le.tl {M : Nat} {f : Fn} (h : Le M f) : Le (2 * M) (Tl f) := fun t => by
  have h1 := h t
  have h2 := h.sh t
  show (f t - Sh f t).natAbs ≤ _
  omega
theorem Le.sk {M : Nat} {f : Fn} (h : Le M f) : ∀ k, Le M (Sk k f)
  | 0 => h
  | k + 1 => (Le.sk h k).sh
theorem Tn_le : ∀ n, Le (2 ^ n) (Tn n)
  | 0 => fun t => by
    show (if t = 0 then (1 : Int) else 0).natAbs ≤ 1
    split <;> decide
  | n + 1 => by
    have := (Tn_le n).tl
    rwa [Nat.pow_succ, Nat.mul_comm]
/-! the law's products -/
theorem strip_getD (l : List Int) : fn (strip l) = fn l := by
  suffices ∀ (k : Nat) (l : List Int), l.length = k → ∀ t, (strip l).getD t 0 = l.getD t 0 from funext fun t => this _ l rfl t
  intro k
  induction k with
  | zero =>
    intro l h t
    obtain rfl := List.eq_nil_of_length_eq_zero h
    rfl
  | succ k ih =>
    intro l h t
    rcases List.eq_nil_or_concat l with rfl | ⟨r, z, rfl⟩
    · rfl
    · rw [List.concat_eq_append] at *
      by_cases hz : z = 0
      · subst hz
        rw [strip_zero, ih r (by simpa using h), getD_snoc]
        split <;> simp
      · rw [strip_last hz]
theorem pf_one (g : List Int) : ∀ (f : List Int) (t : Nat), g = [1, -1] → pf f g t = Tl (fn f) t
  | [], t, _ => by
    cases t <;> rfl
  | x :: f, 0, h => by
    subst h
    show x * 1 + 0 = x - 0
    omega
  | x :: f, 1, h => by
    subst h
    show x * (-1) + pf f [1, -1] 0 = f.getD 0 0 - x
    rw [pf_one _ f 0 rfl]
    show x * (-1) + (f.getD 0 0 - 0) = _
    omega
  | x :: f, t + 2, h => by
    subst h
    show x * 0 + pf f [1, -1] (t + 1) = f.getD (t + 1) 0 - f.getD t 0
    rw [pf_one _ f (t + 1) rfl]
    show x * 0 + (f.getD (t + 1) 0 - f.getD t 0) = _
    omega
theorem pf_shift : ∀ (f : List Int) (t : Nat), pf f [0, 1] t = Sh (fn f) t
  | [], t => by
    cases t <;> rfl
  | x :: f, 0 => by
    show x * 0 + 0 = 0
    omega
  | x :: f, 1 => by
    show x * 1 + pf f [0, 1] 0 = x
    rw [pf_shift f 0]
    show x * 1 + 0 = x
    omega
  | x :: f, t + 2 => by
    show x * 0 + pf f [0, 1] (t + 1) = f.getD t 0
    rw [pf_shift f (t + 1)]
    show x * 0 + f.getD t 0 = _
    omega
theorem pf_num (c : Int) : ∀ (f : List Int) (t : Nat), pf f [c] t = c * fn f t
  | [], t => by
    show (0 : Int) = c * 0
    simp
  | x :: f, 0 => by
    show x * c + 0 = c * x
    rw [Int.add_zero, Int.mul_comm]
  | x :: f, t + 1 => by
    show x * 0 + pf f [c] t = c * f.getD t 0
    rw [pf_num c f t]
    show x * 0 + c * f.getD t 0 = _
    omega
theorem pf_ht (f : List Int) : ∀ (t : Nat), pf f [0, 1, -1] t = Sh (Tl (fn f)) t := by
  intro t
  have e : ([0, 1, -1] : List Int) = [0, 1] ++ [-1] := rfl
  rw [e, pf_snoc_g, pf_shift]
  match t with
  | 0 => rfl
  | 1 =>
    show f.getD 0 0 + 0 = f.getD 0 0 - 0
    omega
  | t + 2 =>
    show f.getD (t + 1) 0 + (if 2 ≤ t + 2 then f.getD (t + 2 - 2) 0 * -1 else 0) = f.getD (t + 1) 0 - f.getD t 0
    rw [if_pos (by omega), show t + 2 - 2 = t by omega]
    omega
def prod (f g : List Int) : List Int := (List.range (f.length + g.length)).map (pf f g)
theorem fn_prod (f g : List Int) : fn (prod f g) = pf f g := by
  funext t
  unfold fn prod
  rw [List.getD_eq_getElem?_getD, List.getElem?_map]
  by_cases h : t < f.length + g.length
  · rw [List.getElem?_range h]
    rfl
  · rw [List.getElem?_eq_none (by rw [List.length_range]; omega), pf_zero _ _ _ (by omega)]
    rfl
/-- two rows without zeros at the end -/
theorem row_ext {a b : List Int} (ha : strip a = a) (hb : strip b = b) (h : fn a = fn b) : a = b := by
  have key : ∀ {a b : List Int}, strip a = a → fn a = fn b → a.length ≤ b.length := by
    intro a b ha h
    rcases List.eq_nil_or_concat a with rfl | ⟨r, z, e⟩
    · exact Nat.zero_le _
    · rw [List.concat_eq_append] at e
      subst e
      by_cases hz : z = 0
      · subst hz
        rw [strip_zero] at ha
        have l1 := congrArg List.length ha
        have l2 := strip_len r
        rw [List.length_append] at l1
        simp at l1
        omega
      · have q := congrFun h r.length
        unfold fn at q
        rw [getD_snoc, if_pos rfl, getD_out (Nat.le_refl _)] at q
        by_cases lt : r.length < b.length
        · simp
          omega
        · rw [getD_out (by omega)] at q
          omega
  have l1 := key ha h
  have l2 := key hb h.symm
  exact ext_getD (by omega) fun t _ => congrFun h t
end Z

set_option Elab.async false
set_option linter.all false
set_option maxRecDepth 100000
set_option maxHeartbeats 4000000
set_option exponentiation.threshold 20000
namespace Z
open PySem PySem.Spec PyProof.Rows L2 GG M3
abbrev sTrim : Stmt := top 1
abbrev sStrip : Stmt := top 12
abbrev sPoly : Stmt := top 13
abbrev sProd : Stmt := top 15
abbrev sAdd : Stmt := top 14
theorem Same.tup {K : PySem.W.Frag} {H H' : Hp} {a : Addr} {xs : List V} (e : Same H H') (h : SqT K H a xs) : SqT K H' a xs := by
  rcases h with (h | ⟨o, h⟩) | h
  · exact .inl (.inl (e _ _ h))
  · exact .inl (.inr ⟨o, e _ _ h⟩)
  · exact .inr h
theorem tup_of {K : PySem.W.Frag} {H : Hp} {a : Addr} {xs : List V} (h : H a = some (.tup xs)) : SqT K H a xs := .inl (.inl h)
theorem ixN_of {n j : Nat} {z : Int} (e : z = (j : Int)) (h : j < n) : ixN n z = some j := by
  subst e
  unfold ixN
  rw [if_pos (by omega), if_pos (by omega)]
  simp
theorem get_int {ns : List Int} {k : Nat} (h : k < ns.length) : (ns.map V.int)[k]? = some (.int (ns.getD k 0)) := by
  rw [List.getElem?_map, List.getElem?_eq_getElem h, List.getD_eq_getElem?_getD, List.getElem?_eq_getElem h]
  rfl
theorem cut_len {xs : List V} (j : Nat) : cutV xs none (some (j : Int)) = xs.take (min j xs.length) := by
  unfold cutV
  rw [HT.sIx_none, HT.sIx_nat]
  rfl
theorem many_zeros (n : Nat) : (List.replicate n [V.int 0]).flatten = (List.replicate n (0 : Int)).map V.int := by
  induction n with
  | zero => rfl
  | succ n ih => rw [List.replicate_succ, List.flatten_cons, ih, List.replicate_succ]; rfl
structure Names8 (mg : Str → Option Value) : Prop extends Names mg where
  max : mg "max" = none
  enumerate : mg "enumerate" = none
  repr : mg "repr" = none
  zip : mg "zip" = none
  isinstance : mg "isinstance" = none
  all : mg "all" = none
theorem lc_zT {K : PySem.W.Frag} {a b : Addr} {xs ys : List V} {g : TG} {tt : TT} {te : TE} {vs : List Nat} {σ : L2.St} {H1 : Hp} {D : Addr} {Qd : Hp → Prop} (len : xs.length = ys.length) (Pv : Nat → Hp → Prop) (h0 : Pv 0 (upd H1 D (.lst []))) (hl : ∀ i H, Pv i H → SqT K H a xs ∧ SqT K H b ys)
    (turn : ∀ i x y H T, xs[i]? = some x → ys[i]? = some y → Pv i H → H T = none → g (.ref T) (wipe σ vs) (upd H T (.tup [x, y])) fun σ2 H2 => wipe σ2 vs = wipe σ vs ∧ tt σ2 H2 fun c H3 =>
      if c = true then te σ2 H3 fun y H4 => ∃ acc, H4 D = some (.lst acc) ∧ acc.length < sizeLine ∧ Pv (i + 1) (upd H4 D (.lst (acc ++ [y]))) else Pv (i + 1) H3) (done : ∀ H, Pv xs.length H → Qd H) :
    ∃ W : Nat → Nat → Hp → Prop, (∃ m, W 0 m (upd H1 D (.lst []))) ∧ ∀ i m H, W i m H →
      ((RZ.ItzT K a b).stop i H ∧ Qd H) ∨ ((RZ.ItzT K a b).go i H ∧ ∃ Nx : Hp → Prop, (∀ H', Nx H' → ∃ m', m' < m ∧ W (i + 1) m' H') ∧
        ∀ x H', (RZ.ItzT K a b).yld i H x H' → g x (wipe σ vs) H' fun σ2 H2 => wipe σ2 vs = wipe σ vs ∧ tt σ2 H2 fun c H3 =>
          if c = true then te σ2 H3 fun y H4 => ∃ acc, H4 D = some (.lst acc) ∧ acc.length < sizeLine ∧ Nx (upd H4 D (.lst (acc ++ [y]))) else Nx H3) := by
  refine ⟨fun i m H => m = xs.length - i ∧ i ≤ xs.length ∧ Pv i H, ⟨_, rfl, Nat.zero_le _, h0⟩, ?_⟩
  rintro i m H ⟨rfl, le, pv⟩
  obtain ⟨qx, qy⟩ := hl i H pv
  rcases Nat.lt_or_ge i xs.length with lt | ge
  · have hx : xs[i]? = some xs[i] := List.getElem?_eq_getElem lt
    have lt2 : i < ys.length := by omega
    have hy : ys[i]? = some ys[i] := List.getElem?_eq_getElem lt2
    refine .inr ⟨⟨xs, ys, _, _, qx, qy, hx, hy⟩, Pv (i + 1), fun H' n => ⟨xs.length - (i + 1), by omega, rfl, lt, n⟩, ?_⟩
    rintro v H' ⟨T, x, y, rfl, nT, rfl, f1, f2⟩
    exact turn i x y H T (f1 xs qx) (f2 ys qy) pv nT
  · have e : i = xs.length := by omega
    subst e
    exact .inl ⟨⟨xs, ys, qx, qy, .inl (Nat.le_refl _)⟩, done H pv⟩
theorem lc_zL {K : PySem.W.Frag} {a b : Addr} {xs ys : List V} {g : TG} {tt : TT} {te : TE} {vs : List Nat} {σ : L2.St} {H1 : Hp} {D : Addr} {Qd : Hp → Prop} (len : xs.length = ys.length) (Pv : Nat → Hp → Prop) (h0 : Pv 0 (upd H1 D (.lst []))) (hl : ∀ i H, Pv i H → SqL K H a xs ∧ SqL K H b ys)
    (turn : ∀ i x y H T, xs[i]? = some x → ys[i]? = some y → Pv i H → H T = none → g (.ref T) (wipe σ vs) (upd H T (.tup [x, y])) fun σ2 H2 => wipe σ2 vs = wipe σ vs ∧ tt σ2 H2 fun c H3 =>
      if c = true then te σ2 H3 fun y H4 => ∃ acc, H4 D = some (.lst acc) ∧ acc.length < sizeLine ∧ Pv (i + 1) (upd H4 D (.lst (acc ++ [y]))) else Pv (i + 1) H3) (done : ∀ H, Pv xs.length H → Qd H) :
    ∃ W : Nat → Nat → Hp → Prop, (∃ m, W 0 m (upd H1 D (.lst []))) ∧ ∀ i m H, W i m H →
      ((Itz K a b).stop i H ∧ Qd H) ∨ ((Itz K a b).go i H ∧ ∃ Nx : Hp → Prop, (∀ H', Nx H' → ∃ m', m' < m ∧ W (i + 1) m' H') ∧
        ∀ x H', (Itz K a b).yld i H x H' → g x (wipe σ vs) H' fun σ2 H2 => wipe σ2 vs = wipe σ vs ∧ tt σ2 H2 fun c H3 =>
          if c = true then te σ2 H3 fun y H4 => ∃ acc, H4 D = some (.lst acc) ∧ acc.length < sizeLine ∧ Nx (upd H4 D (.lst (acc ++ [y]))) else Nx H3) := by
  refine ⟨fun i m H => m = xs.length - i ∧ i ≤ xs.length ∧ Pv i H, ⟨_, rfl, Nat.zero_le _, h0⟩, ?_⟩
  rintro i m H ⟨rfl, le, pv⟩
  obtain ⟨qx, qy⟩ := hl i H pv
  rcases Nat.lt_or_ge i xs.length with lt | ge
  · have hx : xs[i]? = some xs[i] := List.getElem?_eq_getElem lt
    have lt2 : i < ys.length := by omega
    have hy : ys[i]? = some ys[i] := List.getElem?_eq_getElem lt2
    refine .inr ⟨⟨xs, ys, _, _, qx, qy, hx, hy⟩, Pv (i + 1), fun H' n => ⟨xs.length - (i + 1), by omega, rfl, lt, n⟩, ?_⟩
    rintro v H' ⟨T, x, y, rfl, nT, rfl, f1, f2⟩
    exact turn i x y H T (f1 xs qx) (f2 ys qy) pv nT
  · have e : i = xs.length := by omega
    subst e
    exact .inl ⟨⟨xs, ys, qx, qy, .inl (Nat.le_refl _)⟩, done H pv⟩
theorem getD_set {l : List Int} {k : Nat} {v : Int} (h : k < l.length) (t : Nat) : (l.set k v).getD t 0 = if t = k then v else l.getD t 0 := by
  rw [List.getD_eq_getElem?_getD, List.getElem?_set]
  by_cases e : k = t
  · subst e
    rw [if_pos rfl, if_pos h, if_pos rfl]
    rfl
  · rw [if_neg e, if_neg (Ne.symm e), List.getD_eq_getElem?_getD]
theorem prod_of {f g tot : List Int} (len : tot.length = f.length + g.length) (h : ∀ t, t < f.length + g.length → tot.getD t 0 = pf f g t) : tot = prod f g := by
  apply List.ext_getElem?
  intro i
  unfold prod
  rw [List.getElem?_map]
  by_cases lt : i < f.length + g.length
  · have q := h i lt
    rw [List.getD_eq_getElem?_getD, List.getElem?_eq_getElem (by omega)] at q
    rw [List.getElem?_range lt, List.getElem?_eq_getElem (by omega)]
    exact congrArg some q
  · rw [List.getElem?_eq_none (by omega), List.getElem?_eq_none (by rw [List.length_range]; omega)]
    rfl
section
variable {P : Program} {w : World} {K : PySem.W.Frag} {mg : Str → Option Value} {base : Heap}
theorem len_seqK {X : Cx} {K : PySem.W.Frag} (hK : X.K = K) : CallR X (.builtin "len") (fun xs H Q => ∃ l ys, xs = [.ref l] ∧ (SqL K H l ys ∨ SqT K H l ys) ∧ Q (.int (ys.length : Nat)) H) := by
  subst hK
  exact call_len_seq
theorem call_listK {X : Cx} {K : PySem.W.Frag} (hK : X.K = K) : CallR X (.type "list") (fun xs H Q => ∃ p ys, xs = [.ref p] ∧ (SqL K H p ys ∨ SqT K H p ys) ∧ ∀ l, H l = none → Q (.ref l) (upd H l (.lst ys))) := by
  subst hK
  exact call_list_of
theorem call_isi2 {X : Cx} {K : PySem.W.Frag} (hK : X.K = K) : CallR X (.builtin "isinstance") (rIsi K) := by
  subst hK
  exact call_isi
def spTrim (K : PySem.W.Frag) : Sp := fun vs H Q _ => ∃ (a : Addr) (ns : List Int), vs = [.ref a] ∧ SqL K H a (ns.map V.int) ∧ ∀ p H', Same H H' → H p = none → H' p = some (.tup ((strip ns).map V.int)) → Q (.ref p) H'
theorem scTrim : FnScope ["coefficients", "size"] ["coefficients"] (defScope sTrim) := ⟨rfl, rfl, rfl, by decide +kernel, rfl, by decide +kernel, by decide +kernel⟩
theorem ok_trim {f : Addr} {fd : FuncData} (F : Fun K "trim_zeros" "trim_zeros" sTrim f fd) (T : Names mg) : FnOk P w K mg base CX0 1 f fd ["coefficients"] (spTrim K) := by
  refine F.ok scTrim (fun vs H Q E h => ?_) (fun cdv A outer s H vs Q E hr h => ?_)
  · obtain ⟨a, ns, rfl, _⟩ := h
    rfl
  · obtain ⟨a, ns, rfl, hS, q⟩ := h
    refine ⟨_, (pss_cons (ps_set (i := 1) scTrim.nd rfl (.inl rfl) (pe_callB call_len_seq (by rfl) T.len PySem.boot_len (pa_cons (pv 0) pa_nil)))
      (pss_cons (ps_while PassesOwn.never (PW.pt (pw_and (pt_cmpR op_gt (pv 1) pe_int (nomark _)) (pw_and1 (pt_cmpR op_eq (pe_ix ix_list (pv 0) (pe_op op_sub (pv 1) pe_int) (fun _ _ => rfl)) pe_int (nomark _))))) (pss_one (ps_aug (i := 1) scTrim.nd rfl (.inl rfl) pe_int ip_sub)))
      (pss_one (ps_ret (pe_callTy call_tuple_of (by rfl) T.tuple (by decide +kernel) (pa_cons (pe_slice sl_list (pv 0) po_none (po_some (pv 1))) pa_nil)))))), ?_⟩
    refine ⟨.ref a, rfl, a, _, rfl, .inl hS, ?_⟩
    refine ⟨fun n σ H' => ∃ j : Nat, n = j ∧ j ≤ ns.length ∧ σ = [some (V.ref a), some (V.int (j : Int))] ∧ H' = H ∧ strip (ns.take j) = strip ns, ⟨ns.length, ns.length, rfl, Nat.le_refl _, by rw [List.length_map]; rfl, rfl, by rw [List.take_length]⟩, ?_⟩
    rintro j σ H' ⟨_, rfl, hj, rfl, rfl, ej⟩
    have fin : ∀ j : Nat, j ≤ ns.length → strip ns = ns.take j → ∀ c, H' c = none → ∀ p, upd H' c (.lst (cutV (ns.map V.int) none (some (j : Int)))) p = none → Q (.ref p) (upd (upd H' c (.lst (cutV (ns.map V.int) none (some (j : Int))))) p (.tup (cutV (ns.map V.int) none (some (j : Int))))) := fun j hj e c nc p np => by
      have s2 := (Same.upd (o := .lst (cutV (ns.map V.int) none (some (j : Int)))) nc).trans (Same.upd (o := .tup (cutV (ns.map V.int) none (some (j : Int)))) np)
      refine q p _ s2 ((Same.upd nc).free np) ?_
      rw [upd_same, cut_len, e, List.length_map, Nat.min_eq_left hj, List.map_take]
    refine ⟨_, rfl, _, _, rfl, rfl, _, rfl, ?_⟩
    cases j with
    | zero =>
      rw [decide_eq_false (by omega)]
      refine iteF (iteF ⟨.ref a, rfl, _, rfl, ((0 : Nat) : Int), rfl, a, _, rfl, hS, fun c nc => ⟨c, _, rfl, .inl ⟨SqL.of upd_same, fin 0 (Nat.zero_le _) (by rw [← ej]; rfl) c nc⟩⟩⟩)
    | succ j =>
      rw [decide_eq_true (by omega)]
      refine iteT ⟨.ref a, rfl, _, rfl, _, _, rfl, rfl, a, _, _, .int (ns.getD j 0), rfl, rfl, hS, at_of (j := j) (by omega) (get_int (by omega)), rfl, _, rfl, ?_⟩
      have et : ns.take (j + 1) = ns.take j ++ [ns.getD j 0] := by
        rw [List.take_succ_eq_append_getElem (by omega), List.getD_eq_getElem?_getD, List.getElem?_eq_getElem (by omega)]
        rfl
      by_cases hz : ns.getD j 0 = 0
      · rw [hz, decide_eq_true rfl]
        refine iteT ⟨fun σ H4 => ∃ j' : Nat, j' < j + 1 ∧ j' ≤ ns.length ∧ σ = [some (V.ref a), some (V.int (j' : Int))] ∧ H4 = H' ∧ strip (ns.take j') = strip ns, ?_, ?_⟩
        · rintro σ H4 ⟨j', lt, h1, h2, h3, h4⟩
          exact ⟨j', lt, j', rfl, h1, h2, h3, h4⟩
        · refine ⟨_, rfl, _, _, rfl, rfl, j, by omega, by omega, ?_, rfl, by rw [← ej, et, hz, strip_zero]⟩
          show [some (V.ref a), some (V.int (((j + 1 : Nat) : Int) - 1))] = _
          rw [show ((j + 1 : Nat) : Int) - 1 = (j : Int) by omega]
      · rw [decide_eq_false (by intro e; exact hz (V.int.inj e))]
        exact iteF ⟨.ref a, rfl, _, rfl, ((j + 1 : Nat) : Int), rfl, a, _, rfl, hS, fun c nc => ⟨c, _, rfl, .inl ⟨SqL.of upd_same, fin (j + 1) hj (by rw [← ej, et, strip_last hz]) c nc⟩⟩⟩
theorem wide_le2 {x y : Int} {a b : Nat} (hx : x.natAbs ≤ 2 ^ a) (hy : y.natAbs ≤ 2 ^ b) (h : a + b + 2 ≤ 1000000) : CMulW x y :=
  wide_mul (a := a + 1) (b := b + 1) (Nat.lt_of_le_of_lt hx (Nat.pow_lt_pow_right (by decide) (by omega))) (Nat.lt_of_le_of_lt hy (Nat.pow_lt_pow_right (by decide) (by omega))) (by omega) (by omega) (by omega)
def spStrip (K : PySem.W.Frag) : Sp := fun vs H Q _ => ∃ (a : Addr) (ns : List Int), vs = [.ref a] ∧ (SqL K H a (ns.map V.int) ∨ SqT K H a (ns.map V.int)) ∧ ∀ p H', Same H H' → H p = none → H' p = some (.tup ((strip ns).map V.int)) → Q (.ref p) H'
theorem scStrip : FnScope ["numbers", "found"] ["numbers"] (defScope sStrip) := ⟨rfl, rfl, rfl, by decide +kernel, rfl, by decide +kernel, by decide +kernel⟩
theorem ok_strip {f : Addr} {fd : FuncData} (F : Fun K "_law_strip" "_law_strip" sStrip f fd) (T : Names mg) : FnOk P w K mg base CX0 1 f fd ["numbers"] (spStrip K) := by
  refine F.ok scStrip (fun vs H Q E h => ?_) (fun cdv A outer s H vs Q E hr h => ?_)
  · obtain ⟨a, ns, rfl, _⟩ := h
    rfl
  · obtain ⟨a, ns, rfl, hS, q⟩ := h
    have hu : A.units + 3 + 64 < cLine := hr.units
    refine ⟨_, pss_cons (ps_set (i := 1) scStrip.nd rfl (.inl rfl) (pe_callTy call_list_of (by rfl) T.list (by decide +kernel) (pa_cons (pv 0) pa_nil)))
      (pss_cons (ps_while PassesOwn.never (PW.pt (pw_and (pt_cmpR (op_neD hu) (pv 1) (pe_lst pa_nil) (nomark _)) (pw_and1 (pt_cmpR op_eq (pe_ix ix_list (pv 1) (pe_un un_neg pe_int) (fun _ _ => rfl)) pe_int (nomark _)))))
        (pss_one (ps_expr (pe_bm0 PySem.F.plainAttrs_list PySem.F.slot_list_pop PySem.F.type_list_pop mt_pop (pv 1)))))
      (pss_one (ps_ret (pe_callTy call_tuple_of (by rfl) T.tuple (by decide +kernel) (pa_cons (pv 1) pa_nil))))), ?_⟩
    refine ⟨.ref a, rfl, a, _, rfl, hS, fun l nl => ?_⟩
    have s1 : Same H (upd H l (.lst (ns.map V.int))) := Same.upd nl
    refine ⟨fun n σ H' => ∃ xs : List Int, n = xs.length ∧ σ = [some (V.ref a), some (V.ref l)] ∧ Same H H' ∧ H' l = some (.lst (xs.map V.int)) ∧ strip xs = strip ns, ⟨ns.length, ns, rfl, rfl, s1, upd_same, rfl⟩, ?_⟩
    rintro n σ H' ⟨xs, rfl, rfl, s2, hl, ex⟩
    refine ⟨.ref l, rfl, Nat.zero_le _, fun e ne => ?_⟩
    have s3 : Same H' (upd H' e (.lst [])) := Same.upd ne
    have hl3 := s3 _ _ hl
    have de : Dp K (upd H' e (.lst [])) (.ref e) (.list []) := .lst (SqL.of upd_same) .nil
    generalize upd H' e (.lst []) = H3 at s3 hl3 de ⊢
    refine ⟨.list (xs.map PyData.int), .list [], .lst (SqL.of hl3) (dpInts xs), de, PySem.W.ke_shaped_ints xs, rfl, _, rfl, ?_⟩
    have fin : ∀ ys : List Int, H3 l = some (.lst (ys.map V.int)) → strip ns = ys → ∀ p, H3 p = none → Q (.ref p) (upd H3 p (.tup (ys.map V.int))) := fun ys hy e1 p np =>
      q p _ ((s2.trans s3).trans (Same.upd np)) ((s2.trans s3).free np) (by rw [upd_same, e1])
    rcases List.eq_nil_or_concat xs with rfl | ⟨ys, z, rfl⟩
    · exact iteF (iteF ⟨.ref l, rfl, l, _, rfl, .inl ⟨SqL.of hl3, fin [] hl3 (by rw [← ex]; rfl)⟩⟩)
    · rw [List.concat_eq_append] at *
      rw [eqv_nil (by simp)]
      refine iteT ?_
      have em : ((ys ++ [z]).map V.int) = ys.map V.int ++ [V.int z] := by rw [List.map_append]; rfl
      refine ⟨.ref l, rfl, 1, rfl, l, _, -1, .int z, rfl, rfl, SqL.of hl3, by rw [em]; exact atI_last _ _, rfl, _, rfl, ?_⟩
      by_cases hz : z = 0
      · subst hz
        rw [decide_eq_true rfl]
        refine iteT ⟨fun σ H4 => ∃ xs : List Int, xs.length < (ys ++ [(0 : Int)]).length ∧ σ = [some (V.ref a), some (V.ref l)] ∧ Same H H4 ∧ H4 l = some (.lst (xs.map V.int)) ∧ strip xs = strip ns, ?_, ?_⟩
        · rintro σ H4 ⟨xs, lt, e1, e2, e3, e4⟩
          exact ⟨xs.length, lt, xs, rfl, e1, e2, e3, e4⟩
        · refine ⟨.ref l, rfl, .inl ⟨rfl, _, SqL.of hl3⟩, l, _, .int 0, rfl, rfl, hl3, ?_, ys, by simp, rfl, ?_, ?_, by rw [← ex, strip_zero]⟩
          · rw [em]
            simp
          · exact fun b o e => by rw [upd_ne (ne_of_none e nl)]; exact s3 _ _ (s2 _ _ e)
          · rw [upd_same, em, List.dropLast_concat]
      · rw [decide_eq_false (by intro e; exact hz (V.int.inj e))]
        exact iteF ⟨.ref l, rfl, l, _, rfl, .inl ⟨SqL.of hl3, fin _ hl3 (by rw [← ex, strip_last hz])⟩⟩
def spProd (K : PySem.W.Frag) : Sp := fun vs H Q _ => ∃ (x y : Addr) (f g : List Int), vs = [.ref x, .ref y] ∧ SqT K H x (f.map V.int) ∧ SqT K H y (g.map V.int) ∧ f.length ≤ 60 ∧ g.length ≤ 60 ∧ Bd (2 ^ 200) f ∧ Bd (2 ^ 200) g ∧
  ∀ p H', Same H H' → H p = none → H' p = some (.tup ((strip (prod f g)).map V.int)) → Q (.ref p) H'
theorem scProd : FnScope ["one", "other", "found", "i", "a", "j", "b"] ["one", "other"] (defScope sProd) := ⟨rfl, rfl, rfl, by decide +kernel, rfl, by decide +kernel, by decide +kernel⟩
theorem ok_prod {f0 t : Addr} {fd td : FuncData} (F : Fun K "_law_product" "_law_product" sProd f0 fd) (T : Names8 mg) (GT : FnOk P w K mg base CX0 1 t td ["numbers"] (spStrip K)) (PT_ : Def K mg "_law_strip" t td ["numbers"]) :
    FnOk P w K mg base CX0 2 f0 fd ["one", "other"] (spProd K) := by
  refine F.ok scProd (fun vs H Q E h => ?_) (fun cdv A outer s H vs Q E hr h => ?_)
  · obtain ⟨x, y, f, g, rfl, _⟩ := h
    rfl
  · obtain ⟨x, y, f, g, rfl, hX, hY, hlf, hlg, bf, bg, q⟩ := h
    refine ⟨_, (pss_cons (ps_set (i := 2) scProd.nd rfl (.inl rfl) (pe_op op_rep (pe_lst (pa_cons pe_int pa_nil)) (pe_op op_add (pe_callB call_len_seq (by rfl) T.len PySem.boot_len (pa_cons (pv 0) pa_nil)) (pe_callB call_len_seq (by rfl) T.len PySem.boot_len (pa_cons (pv 1) pa_nil)))))
      (pss_cons (ps_for PassesOwn.never rfl (EN.pi_pairs (by rfl) T.enumerate (pa_cons (pv 0) pa_nil)) (pg_tup rfl (pgs_cons (pg_name (i := 3) scProd.nd rfl (.inl rfl)) (pgs_cons (pg_name (i := 4) scProd.nd rfl (.inl rfl)) pgs_nil))) (pss_one (ps_for PassesOwn.never rfl (EN.pi_pairs (by rfl) T.enumerate (pa_cons (pv 1) pa_nil)) (pg_tup rfl (pgs_cons (pg_name (i := 5) scProd.nd rfl (.inl rfl)) (pgs_cons (pg_name (i := 6) scProd.nd rfl (.inl rfl)) pgs_nil))) (pss_one (ps_asg (pe_op op_add (pe_ix ix_list (pv 2) (pe_op op_add (pv 3) (pv 5)) (fun _ _ => rfl)) (pe_op op_mulW (pv 4) (pv 6))) (pg_sub (pv 2) (pe_op op_add (pv 3) (pv 5)) set_list))))))
      (pss_one (ps_ret (pe_call GT (hr.mono (by decide)) (by rfl) PT_.is PT_.kp PT_.bi .nil pass0 (pa_cons (pv 2) pa_nil)))))), ?_⟩
    obtain ⟨n, hn⟩ : ∃ n : Nat, n = f.length + g.length := ⟨_, rfl⟩
    refine ⟨by show 1 ≤ sizeLine; decide, fun z nz => ?_⟩
    have s1 := Same.upd (o := .lst [.int 0]) nz
    refine ⟨.ref x, rfl, x, _, rfl, .inr (Same.tup s1 hX), .ref y, rfl, y, _, rfl, .inr (Same.tup s1 hY), _, _, rfl, rfl, z, (n : Int), _, rfl, ?_, upd_same, by omega, by omega, ?_, fun R nR => ?_⟩
    · rw [List.length_map, List.length_map, hn]
      rfl
    · show 1 * (n : Int).toNat ≤ sizeLine
      rw [Int.toNat_natCast, Nat.one_mul]
      exact Nat.le_of_lt (small1000 (by omega))
    have s2 := Same.upd (o := .lst (List.replicate (n : Int).toNat [V.int 0]).flatten) nR
    have nRH : H R = none := s1.free nR
    have eR : upd (upd H z (.lst [.int 0])) R (.lst (List.replicate (n : Int).toNat [V.int 0]).flatten) R = some (.lst ((List.replicate n (0 : Int)).map V.int)) := by
      rw [upd_same, Int.toNat_natCast, many_zeros]
    have sH : Same H (upd (upd H z (.lst [.int 0])) R (.lst (List.replicate (n : Int).toNat [V.int 0]).flatten)) := s1.trans s2
    change (_ : Hp → Prop) (upd (upd H z (.lst [.int 0])) R (.lst (List.replicate (n : Int).toNat [V.int 0]).flatten))
    generalize upd (upd H z (.lst [.int 0])) R (.lst (List.replicate (n : Int).toNat [V.int 0]).flatten) = H0 at eR sH ⊢
    clear s1 s2
    refine ⟨.ref x, rfl, x, _, rfl, Same.tup sH hX, ?_⟩
    refine EN.for_pairs (K := K) (xs := f.map V.int) (fun i σ H' => ∃ (tot : List Int) (v3 v4 v5 v6 : Option V), σ = [some (V.ref x), some (V.ref y), some (V.ref R), v3, v4, v5, v6] ∧ Same H H' ∧ H' R = some (.lst (tot.map V.int)) ∧
        tot.length = n ∧ ∀ t, t < n → tot.getD t 0 = pf (f.take i) g t)
      ⟨List.replicate n 0, _, _, _, _, rfl, sH, eR, by simp, fun t ht => ?_⟩ (fun i σ H' _ ⟨_, _, _, _, _, _, s, _⟩ => Same.tup s hX) ?_ ?_
    · rw [List.getD_eq_getElem?_getD, List.getElem?_replicate, if_pos ht]
      rfl
    · rintro i v σ H' T hv ⟨tot, v3, v4, v5, v6, rfl, s2, ed, hlen, ag⟩ nT
      have hi : i < f.length := by
        have := (List.getElem?_eq_some_iff.mp hv).1
        rwa [List.length_map] at this
      have ev : v = .int (f.getD i 0) := by
        rw [get_int hi] at hv
        exact (Option.some.inj hv).symm
      subst ev
      have s3 := Same.upd (o := .tup [.int (i : Nat), .int (f.getD i 0)]) nT
      refine ⟨T, _, rfl, tup_of upd_same, rfl, _, _, rfl, _, _, rfl, rfl, ?_⟩
      refine ⟨.ref y, rfl, y, _, rfl, Same.tup (s2.trans s3) hY, ?_⟩
      refine EN.for_pairs (K := K) (xs := g.map V.int) (fun j σ H' => ∃ (tot : List Int) (v5 v6 : Option V), σ = [some (V.ref x), some (V.ref y), some (V.ref R), some (V.int (i : Int)), some (V.int (f.getD i 0)), v5, v6] ∧ Same H H' ∧ H' R = some (.lst (tot.map V.int)) ∧
          tot.length = n ∧ ∀ t, t < n → tot.getD t 0 = pf (f.take i) g t + if i ≤ t then f.getD i 0 * (g.take j).getD (t - i) 0 else 0)
        ⟨tot, _, _, rfl, s2.trans s3, s3 _ _ ed, hlen, fun t ht => by rw [ag t ht]; simp⟩ (fun i σ H' _ ⟨_, _, _, _, s, _⟩ => Same.tup s hY) ?_ ?_
      · rintro j v σ H1 T1 hv ⟨tot, v5, v6, rfl, s4, ed4, hlen4, ag4⟩ nT1
        have hj : j < g.length := by
          have := (List.getElem?_eq_some_iff.mp hv).1
          rwa [List.length_map] at this
        have ev : v = .int (g.getD j 0) := by
          rw [get_int hj] at hv
          exact (Option.some.inj hv).symm
        subst ev
        have s5 := Same.upd (o := .tup [.int (j : Nat), .int (g.getD j 0)]) nT1
        have ed5 := s5 _ _ ed4
        have s6 := s4.trans s5
        refine ⟨T1, _, rfl, tup_of upd_same, rfl, _, _, rfl, _, _, rfl, rfl, ?_⟩
        generalize upd H1 T1 (.tup [.int (j : Nat), .int (g.getD j 0)]) = H2 at ed5 s6 ⊢
        refine ⟨.ref R, rfl, _, rfl, _, rfl, _, _, rfl, rfl, R, _, _, .int (tot.getD (i + j) 0), rfl, rfl, SqL.of ed5, at_of (j := i + j) (by omega) (get_int (by omega)), _, rfl, _, rfl, _, _, rfl, rfl, wide_le2 (bf i) (bg j) (by decide), _, _, rfl, rfl, .ref R, rfl, _, rfl, _, rfl, _, _, rfl, rfl, R, _, _, i + j, rfl, rfl, ed5, ixN_of (by omega) (by rw [List.length_map]; omega), ?_⟩
        refine ⟨tot.set (i + j) (tot.getD (i + j) 0 + f.getD i 0 * g.getD j 0), _, _, rfl, ?_, ?_, by rw [List.length_set]; exact hlen4, fun t ht => ?_⟩
        · intro b o e
          rw [upd_ne (ne_of_none e nRH)]
          exact s6 _ _ e
        · rw [upd_same, List.map_set]
        · rw [getD_set (by omega)]
          have et : (g.take (j + 1)) = g.take j ++ [g.getD j 0] := by
            rw [List.take_succ_eq_append_getElem hj, List.getD_eq_getElem?_getD, List.getElem?_eq_getElem hj]
            rfl
          by_cases e : t = i + j
          · subst e
            rw [if_pos rfl, ag4 _ ht, if_pos (Nat.le_add_right _ _), if_pos (Nat.le_add_right _ _), Nat.add_sub_cancel_left, et, getD_snoc, List.length_take, Nat.min_eq_left (by omega), if_pos rfl, getD_out (g := g.take j) (t := j) (by rw [List.length_take]; omega), Int.mul_zero, Int.zero_add, Int.add_zero]
          · rw [if_neg e, ag4 t ht]
            by_cases le : i ≤ t
            · rw [if_pos le, if_pos le, et, getD_snoc, List.length_take, Nat.min_eq_left (by omega), if_neg (by omega), Int.add_zero]
            · rw [if_neg le, if_neg le]
      · rintro σ H1 ⟨tot, v5, v6, rfl, s4, ed4, hlen4, ag4⟩
        refine ⟨tot, _, _, _, _, rfl, s4, ed4, hlen4, fun t ht => ?_⟩
        rw [ag4 t ht, List.length_map, List.take_length, List.take_succ_eq_append_getElem hi, pf_snoc_f, List.length_take, Nat.min_eq_left (by omega)]
        have e : f.getD i 0 = f[i] := by
          rw [List.getD_eq_getElem?_getD, List.getElem?_eq_getElem hi]
          rfl
        rw [e]
    · rintro σ H' ⟨tot, v3, v4, v5, v6, rfl, s2, ed, hlen, ag⟩
      rw [List.length_map, List.take_length] at ag
      have et : tot = prod f g := prod_of (by omega) fun t ht => ag t (by omega)
      rw [et] at ed
      exact ⟨.ref R, rfl, R, prod f g, rfl, .inl (SqL.of ed), fun p H4 s4 np e4 => q p H4 (s2.trans s4) (s2.free np) e4⟩
/-! ### the law's sum -/
def sumF (f g : List Int) : List Int := (List.range (max f.length g.length)).map fun i => f.getD i 0 + g.getD i 0
theorem fn_sum (f g : List Int) : fn (sumF f g) = fun t => fn f t + fn g t := by
  funext t
  unfold fn sumF
  rw [List.getD_eq_getElem?_getD, List.getElem?_map]
  by_cases h : t < max f.length g.length
  · rw [List.getElem?_range h]
    rfl
  · rw [List.getElem?_eq_none (by rw [List.length_range]; omega), getD_out (g := f) (by omega), getD_out (g := g) (by omega)]
    rfl
def pad (n : Nat) (f : List Int) : List Int := f ++ List.replicate (n - f.length) 0
theorem pad_len {n : Nat} {f : List Int} (h : f.length ≤ n) : (pad n f).length = n := by
  unfold pad
  rw [List.length_append, List.length_replicate]
  omega
theorem pad_getD (n : Nat) (f : List Int) (t : Nat) : (pad n f).getD t 0 = f.getD t 0 := by
  unfold pad
  rw [List.getD_eq_getElem?_getD, List.getD_eq_getElem?_getD, List.getElem?_append]
  by_cases h : t < f.length
  · rw [if_pos h]
  · rw [if_neg h, List.getElem?_replicate, List.getElem?_eq_none (by omega)]
    split <;> rfl
def spAdd (K : PySem.W.Frag) : Sp := fun vs H Q _ => ∃ (x y : Addr) (f g : List Int), vs = [.ref x, .ref y] ∧ SqT K H x (f.map V.int) ∧ SqT K H y (g.map V.int) ∧ f.length ≤ 200 ∧ g.length ≤ 200 ∧
  ∀ p H', Same H H' → H p = none → H' p = some (.tup ((strip (sumF f g)).map V.int)) → Q (.ref p) H'
theorem scAdd : FnScope ["one", "other", "many", "wide", "poly", "a", "b"] ["one", "other"] (defScope sAdd) := ⟨rfl, rfl, rfl, by decide +kernel, rfl, by decide +kernel, by decide +kernel⟩
theorem ok_add {f0 t : Addr} {fd td : FuncData} (F : Fun K "_law_add" "_law_add" sAdd f0 fd) (T : Names8 mg) (GS : FnOk P w K mg base CX0 1 t td ["numbers"] (spStrip K)) (PS_ : Def K mg "_law_strip" t td ["numbers"]) :
    FnOk P w K mg base CX0 2 f0 fd ["one", "other"] (spAdd K) := by
  refine F.ok scAdd (fun vs H Q E h => ?_) (fun cdv A outer s H vs Q E hr h => ?_)
  · obtain ⟨x, y, f, g, rfl, _⟩ := h
    rfl
  · obtain ⟨x, y, f, g, rfl, hX, hY, hlf, hlg, q⟩ := h
    refine ⟨_, (pss_cons (ps_set (i := 2) scAdd.nd rfl (.inr rfl) (pe_callB (max_is rfl) (by rfl) T.max (by decide +kernel) (pa_cons (pe_callB call_len_seq (by rfl) T.len PySem.boot_len (pa_cons (pv 0) pa_nil)) (pa_cons (pe_callB call_len_seq (by rfl) T.len PySem.boot_len (pa_cons (pv 1) pa_nil)) pa_nil))))
      (pss_cons (ps_setLc (i := 3) (own := [("poly", 4)]) (g := gName 4) (tt := tYes) rfl scAdd.nd rfl rfl (sw_true rfl rfl rfl (by decide +kernel)) (pi_tup (pe_tup (pa_cons (pv 0) (pa_cons (pv 1) pa_nil)))) (blkOk_by (N := ["one", "other", "many", "wide", "poly", "a", "b"]) (sc := defScope sAdd) (own := [("poly", 4)]) (by decide +kernel)) (fun _ _ _ _ _ => (pg_name (i := 4) scAdd.nd rfl (.inl rfl))) (fun _ _ _ _ _ => pts_nil) (fun _ _ _ _ _ => (pe_op op_cat (pe_callTy (call_listK (K := K) rfl) (by rfl) T.list (by decide +kernel) (pa_cons (pv 4) pa_nil)) (pe_op op_rep (pe_lst (pa_cons pe_int pa_nil)) (pe_op op_sub (pv 2) (pe_callB (len_seqK (K := K) rfl) (by rfl) T.len PySem.boot_len (pa_cons (pv 4) pa_nil)))))))
      (pss_one (ps_ret (pe_call GS (hr.mono (by decide)) (by rfl) PS_.is PS_.kp PS_.bi .nil pass0 (pa_cons (pe_lc (own := [("a", 5), ("b", 6)]) (g := gTup K 2 (gCons (gName 5) (gCons (gName 6) gNil))) (tt := tYes) rfl scAdd.nd (RZ.pi_zipA (by rfl) T.zip (pa_cons (pe_ix ix_list (pv 3) pe_int (fun _ _ => rfl)) (pa_cons (pe_ix ix_list (pv 3) pe_int (fun _ _ => rfl)) pa_nil))) (blkOk_by (N := ["one", "other", "many", "wide", "poly", "a", "b"]) (sc := defScope sAdd) (own := [("a", 5), ("b", 6)]) (by decide +kernel)) (fun _ _ _ _ _ => (pg_tup rfl (pgs_cons (pg_name (i := 5) scAdd.nd rfl (.inl rfl) (Or.inr rfl)) (pgs_cons (pg_name (i := 6) scAdd.nd rfl (.inl rfl) (Or.inr rfl)) pgs_nil)))) (fun _ _ _ _ _ => pts_nil) (fun _ _ _ _ _ => (pe_op op_add (pv 5) (pv 6)))) pa_nil)))))), ?_⟩
    obtain ⟨n, hn⟩ : ∃ n : Nat, n = max f.length g.length := ⟨_, rfl⟩
    refine ⟨.ref x, rfl, x, _, rfl, .inr hX, .ref y, rfl, y, _, rfl, .inr hY, _, _, (n : Int), rfl, ?_, ?_⟩
    · rw [List.length_map, List.length_map]
      split <;> omega
    refine ⟨.ref x, rfl, .ref y, rfl, by show 2 ≤ sizeLine; decide, fun t nt => ⟨t, rfl, ⟨_, tup_of upd_same⟩, fun D nD => ?_⟩⟩
    have s1 := Same.upd (o := .tup [.ref x, .ref y]) nt
    have et : upd H t (.tup [.ref x, .ref y]) t = some (.tup [.ref x, .ref y]) := upd_same
    generalize upd H t (.tup [.ref x, .ref y]) = H1 at s1 et nD ⊢
    refine lc_tup (K := K) (a := t) (xs := [.ref x, .ref y]) (fun i H' => Same H1 H' ∧ ∃ ps : List Addr, H' D = some (.lst (ps.map V.ref)) ∧ ps.length = i ∧ (∀ p, ps[0]? = some p → p ≠ D ∧ H' p = some (.lst ((pad n f).map V.int))) ∧ ∀ p, ps[1]? = some p → p ≠ D ∧ H' p = some (.lst ((pad n g).map V.int)))
      ⟨Same.upd nD, [], upd_same, rfl, (by intro p e; cases e), (by intro p e; cases e)⟩ (fun i H' _ h => Same.tup h.1 (tup_of et)) ?_ ?_
    · rintro i v H2 hv ⟨s2, ps, eD, hl, h0, h1⟩
      refine ⟨rfl, ?_⟩
      dsimp only [tYes]
      refine iteT ?_
      have hi : i < 2 := (List.getElem?_eq_some_iff.mp hv).1
      have sX := Same.tup (s1.trans s2) hX
      have sY := Same.tup (s1.trans s2) hY
      obtain ⟨a, ns, rfl, hA, hns, hwhich⟩ : ∃ (a : Addr) (ns : List Int), v = .ref a ∧ SqT K H2 a (ns.map V.int) ∧ ns.length ≤ n ∧ ((i = 0 ∧ ns = f) ∨ (i = 1 ∧ ns = g)) := by
        rcases (by omega : i = 0 ∨ i = 1) with rfl | rfl
        · cases hv
          exact ⟨x, f, rfl, sX, by omega, .inl ⟨rfl, rfl⟩⟩
        · cases hv
          exact ⟨y, g, rfl, sY, by omega, .inr ⟨rfl, rfl⟩⟩
      refine ⟨.ref a, rfl, a, _, rfl, .inr hA, fun l nl => ?_⟩
      have s3 := Same.upd (o := .lst (ns.map V.int)) nl
      have el : upd H2 l (.lst (ns.map V.int)) l = some (.lst (ns.map V.int)) := upd_same
      have eD3 := s3 _ _ eD
      have hA3 := Same.tup s3 hA
      generalize upd H2 l (.lst (ns.map V.int)) = H3 at s3 el eD3 hA3 ⊢
      refine ⟨by show 1 ≤ sizeLine; decide, fun e ne => ?_⟩
      have s4 := Same.upd (o := .lst [.int 0]) ne
      refine ⟨_, rfl, .ref a, rfl, a, _, rfl, .inr (Same.tup s4 hA3), _, _, rfl, rfl, e, ((n - ns.length : Nat) : Int), [.int 0], rfl, congrArg V.int (by rw [List.length_map]; omega), upd_same, by omega, by omega, ?_, fun p np => ?_⟩
      · show 1 * _ ≤ sizeLine
        rw [Int.toNat_natCast, Nat.one_mul]
        exact Nat.le_of_lt (small1000 (by omega))
      have s5 := Same.upd (o := .lst (List.replicate ((n - ns.length : Nat) : Int).toNat [V.int 0]).flatten) np
      have s45 := s4.trans s5
      have ep : upd (upd H3 e (.lst [.int 0])) p (.lst (List.replicate ((n - ns.length : Nat) : Int).toNat [V.int 0]).flatten) p = some (.lst ((List.replicate (n - ns.length) (0 : Int)).map V.int)) := by
        rw [upd_same, Int.toNat_natCast, many_zeros]
      generalize upd (upd H3 e (.lst [.int 0])) p (.lst (List.replicate ((n - ns.length : Nat) : Int).toNat [V.int 0]).flatten) = H5 at s45 ep ⊢
      refine ⟨l, p, _, _, rfl, rfl, s45 _ _ el, ep, ?_, fun r nr => ?_⟩
      · rw [List.length_map, List.length_map, List.length_replicate]
        exact Nat.le_of_lt (small1000 (by omega))
      have s6 := Same.upd (o := .lst (ns.map V.int ++ (List.replicate (n - ns.length) (0 : Int)).map V.int)) nr
      have er : upd H5 r (.lst (ns.map V.int ++ (List.replicate (n - ns.length) (0 : Int)).map V.int)) r = some (.lst ((pad n ns).map V.int)) := by
        rw [upd_same]
        unfold pad
        rw [List.map_append]
      have sAll := (s3.trans s45).trans s6
      have nrD : r ≠ D := (ne_of_none (s45 _ _ eD3) nr).symm
      generalize upd H5 r (.lst (ns.map V.int ++ (List.replicate (n - ns.length) (0 : Int)).map V.int)) = H6 at er sAll ⊢
      refine ⟨_, sAll _ _ eD, by rw [List.length_map]; exact small1000 (by omega), ?_, ps ++ [r], ?_, by simp [hl], fun u e => ?_, fun u e => ?_⟩
      · intro b o e
        rw [upd_ne (ne_of_none e nD)]
        exact sAll _ _ (s2 _ _ e)
      · rw [upd_same, List.map_append]
        rfl
      · rcases hwhich with ⟨rfl, rfl⟩ | ⟨rfl, rfl⟩
        · obtain rfl := List.eq_nil_of_length_eq_zero hl
          cases e
          exact ⟨nrD, by rw [upd_ne nrD]; exact er⟩
        · rw [List.getElem?_append_left (by omega)] at e
          obtain ⟨q1, q2⟩ := h0 u e
          exact ⟨q1, by rw [upd_ne q1]; exact sAll _ _ q2⟩
      · rcases hwhich with ⟨rfl, rfl⟩ | ⟨rfl, rfl⟩
        · obtain rfl := List.eq_nil_of_length_eq_zero hl
          cases e
        · rw [List.getElem?_append_right (by omega), hl] at e
          cases e
          exact ⟨nrD, by rw [upd_ne nrD]; exact er⟩
    · rintro H2 ⟨s2, ps, eD, hl, h0, h1⟩
      obtain ⟨p0, p1, rfl⟩ : ∃ p0 p1, ps = [p0, p1] := by
        match ps, hl with
        | [a, b], _ => exact ⟨a, b, rfl⟩
      have t0 := (h0 p0 rfl).2
      have t1 := (h1 p1 rfl).2
      have l0 : (pad n f).length = n := pad_len (by omega)
      have l1 : (pad n g).length = n := pad_len (by omega)
      refine ⟨.ref D, rfl, D, _, 0, .ref p0, rfl, rfl, SqL.of eD, atI_nat (j := 0) rfl, .ref D, rfl, D, _, 1, .ref p1, rfl, rfl, SqL.of eD, atI_nat (j := 1) rfl, p0, p1, _, _, rfl, .inl ⟨SqL.of t0, SqL.of t1, fun D2 nD2 => ?_⟩⟩
      refine lc_zL (K := K) (xs := (pad n f).map V.int) (ys := (pad n g).map V.int) (by rw [List.length_map, List.length_map, l0, l1]) (fun i H' => H' D2 = some (.lst (((List.range i).map fun t => f.getD t 0 + g.getD t 0).map V.int)) ∧ Same H2 H') ⟨upd_same, Same.upd nD2⟩ (fun i H' h => ⟨SqL.of (h.2 _ _ t0), SqL.of (h.2 _ _ t1)⟩) ?_ ?_
      · rintro i a b H3 T0 ha hb ⟨e3, s3⟩ nT
        have hi : i < n := by
          have := (List.getElem?_eq_some_iff.mp ha).1
          rwa [List.length_map, l0] at this
        have ea : a = .int (f.getD i 0) := by
          rw [get_int (by omega), pad_getD] at ha
          exact (Option.some.inj ha).symm
        have eb : b = .int (g.getD i 0) := by
          rw [get_int (by omega), pad_getD] at hb
          exact (Option.some.inj hb).symm
        subst ea eb
        have s4 := Same.upd (o := .tup [.int (f.getD i 0), .int (g.getD i 0)]) nT
        refine ⟨T0, _, rfl, tup_of upd_same, rfl, _, _, rfl, _, _, rfl, rfl, rfl, ?_⟩
        dsimp only [tYes]
        refine iteT ?_
        refine ⟨_, rfl, _, rfl, _, _, rfl, rfl, _, s4 _ _ e3, by rw [List.length_map, List.length_map, List.length_range]; exact small1000 (by omega), ?_, ?_⟩
        · rw [upd_same, List.range_succ, List.map_append, List.map_append]
          rfl
        · intro b o e
          rw [upd_ne (ne_of_none e nD2)]
          exact s4 _ _ (s3 _ _ e)
      · rintro H3 ⟨e3, s3⟩
        rw [List.length_map, l0, hn] at e3
        exact ⟨D2, sumF f g, rfl, .inl (SqL.of e3), fun p H4 s4 np e4 => q p H4 (((s1.trans s2).trans s3).trans s4) (((s1.trans s2).trans s3).free np) e4⟩
/-! ### a row that is drawn -/
def spPoly : Sp := fun vs H Q _ => ∃ (a l : Addr) (m z : Int), vs = [.ref a, .int m, .int z] ∧ Pen H a l ∧ 0 < m ∧ m ≤ 20 ∧ 0 < z ∧ z.natAbs < 2 ^ 101 ∧
  ∀ (p : Addr) (ns : List Int) H', (ns.length : Int) ≤ m → Bd (2 ^ 101) ns → strip ns = ns → But a H H' → H p = none → H' p = some (.tup (ns.map V.int)) → Pen H' a l → Q (.ref p) H'
theorem scPoly : FnScope ["pen", "many", "size", "k"] ["pen", "many", "size"] (defScope sPoly) := ⟨rfl, rfl, rfl, by decide +kernel, rfl, by decide +kernel, by decide +kernel⟩
theorem ok_poly {f g t : Addr} {fd gd td : FuncData} (F : Fun K "_law_polynomial" "_law_polynomial" sPoly f fd) (T : Names8 mg) (GD : FnOk P w K mg base CX0 2 g gd ["pen", "many"] spDraw) (PD : Def K mg "_law_draw" g gd ["pen", "many"])
    (GS : FnOk P w K mg base CX0 1 t td ["numbers"] (spStrip K)) (PS_ : Def K mg "_law_strip" t td ["numbers"]) : FnOk P w K mg base CX0 3 f fd ["pen", "many", "size"] spPoly := by
  refine F.ok scPoly (fun vs H Q E h => ?_) (fun cdv A outer s H vs Q E hr h => ?_)
  · obtain ⟨a, l, m, z, rfl, _⟩ := h
    rfl
  · obtain ⟨a, l, m, z, rfl, pn, m0, m1, z0, z1, q⟩ := h
    refine ⟨_, (pss_one (ps_ret (pe_call GS (hr.mono (by decide)) (by rfl) PS_.is PS_.kp PS_.bi .nil pass0 (pa_cons (pe_lc (own := [("k", 3)]) (g := gName 3) (tt := tYes) rfl scPoly.nd (pi_range1 rfl T.range (pa_cons (pe_op op_add pe_int (pe_call GD (hr.mono (by decide)) (by rfl) PD.is PD.kp PD.bi .nil pass0 (pa_cons (pv 0) (pa_cons (pv 1) pa_nil)))) pa_nil)) (blkOk_by (N := ["pen", "many", "size", "k"]) (sc := defScope sPoly) (own := [("k", 3)]) (by decide +kernel)) (fun _ _ _ _ _ => (pg_name (i := 3) scPoly.nd rfl (.inl rfl))) (fun _ _ _ _ _ => pts_nil) (fun _ _ _ _ _ => (pe_op op_sub (pe_call GD (hr.mono (by decide)) (by rfl) PD.is PD.kp PD.bi .nil pass0 (pa_cons (pv 0) (pa_cons (pe_op op_add (pe_op op_mul pe_int (pv 2)) pe_int) pa_nil))) (pv 2)))) pa_nil)))), ?_⟩
    refine ⟨.ref a, rfl, _, rfl, a, l, m, rfl, pn, m0, log_le (Nat.lt_of_le_of_lt (show _ ≤ 100 by omega) (by decide)), fun d H1 d0 d1 b1 p1 => ?_⟩
    refine ⟨_, _, rfl, rfl, _, rfl, by omega, by omega, fun D nD => ?_⟩
    have aD := p1.apart nD
    refine lc_range (lo := 0) (n := (1 + d).toNat) (fun i Hx => ∃ ns : List Int, Hx D = some (.lst (ns.map V.int)) ∧ ns.length = i ∧ (∀ x ∈ ns, x.natAbs ≤ 2 ^ 101) ∧ But a H Hx ∧ Pen Hx a l) ⟨[], upd_same, rfl, (by simp), b1.trans (But.of (Same.upd nD)), p1.same (Same.upd nD)⟩ ?_ ?_
    · rintro i H2 hi ⟨ns, hD, hn, hc, b2, p2⟩
      refine ⟨rfl, ?_⟩
      dsimp only [tYes]
      refine iteT ?_
      refine ⟨.ref a, rfl, _, rfl, _, _, rfl, rfl, .inl ⟨by decide, by decide⟩, _, _, rfl, rfl, a, l, _, rfl, p2, by omega, ?_, fun c H3 c0 c1 b3 p3 => ?_⟩
      · refine Nat.lt_of_lt_of_le (PySem.Flt.log2_lt_of (k := 103) (by decide) ?_) (by decide)
        omega
      refine ⟨_, rfl, _, _, rfl, rfl, ns.map V.int, b3.mem aD.1 hD, by rw [List.length_map]; exact small1000 (by omega), ns ++ [c - z], ?_, by simp [hn], ?_, ?_, ?_⟩
      · rw [upd_same, List.map_append]
        rfl
      · intro x hx
        rcases List.mem_append.mp hx with hx | hx
        · exact hc x hx
        · rw [List.mem_singleton.mp hx]
          omega
      · intro b o e n
        rw [upd_ne (ne_of_none e (b1.free aD.1 nD))]
        exact b3 _ _ (b2 _ _ e n) n
      · obtain ⟨cs, pos, val, h1, h2, h3⟩ := p3
        exact ⟨cs, pos, val, by rw [upd_ne aD.1.symm]; exact h1, by rw [upd_ne aD.2.symm]; exact h2, h3⟩
    · rintro H2 ⟨ns, hD, hn, hc, b2, p2⟩
      refine ⟨D, ns, rfl, .inl (SqL.of hD), fun p H3 s3 np e3 => ?_⟩
      refine q p (strip ns) H3 (by have := strip_len ns; omega) (bd_of fun x hx => hc x (strip_mem hx)) (strip_strip ns) (b2.trans (But.of s3)) (b2.free (p2.apart np).1 np) e3 (p2.same s3)
end
end Z

set_option Elab.async false
set_option linter.all false
set_option maxRecDepth 100000
set_option maxHeartbeats 4000000
set_option exponentiation.threshold 20000
namespace Z
open PySem PySem.Spec PyProof.Rows L2 GG M3
abbrev sAtl : Stmt := top 4
abbrev sRaise : Stmt := top 5
abbrev sHt : Stmt := top 6
abbrev sTo : Stmt := top 3
abbrev sFrom : Stmt := top 7
theorem slA {K : PySem.W.Frag} {x : Addr} {xs : List V} {lo hi : Option Int} {H : Hp} {Q : VK} (hx : SqT K H x xs) (go : ∀ t H', Same H H' → SqT K H' t (cutV xs lo hi) → Q (.ref t) H') : rSlA K (.ref x) lo hi H Q := by
  refine ⟨x, xs, rfl, hx, fun w => go x H (Same.refl _) ?_, fun _ p np => go p _ (Same.upd np) (tup_of upd_same)⟩
  unfold cutV
  rw [w.1, w.2, List.drop_zero, Nat.sub_zero, List.take_length]
  exact hx
section
variable {P : Program} {w : World} {K : PySem.W.Frag} {mg : Str → Option Value} {base : Heap}
theorem get_neg {X : Cx} : PGet X (fun o i H Q => ∃ (p : Addr) (xs : List V) (k : Int) (v : V), o = .ref p ∧ i = .int k ∧ k < 0 ∧ SqL X.K H p xs ∧ atI xs k = some v ∧ Q v H) := by
  intro pins s σ H o i ov iv Q I ro ri h
  obtain ⟨p, xs, k, z, eo, ei, kn, hq, he, q⟩ := h
  subst eo ei
  have eov : ov = Value.ref p := ro
  subst eov
  obtain ⟨t, et⟩ := ri
  subst et
  obtain ⟨its, r, pl, hz⟩ := I.list hq
  obtain ⟨j, h1, h2, h3, h4, h5⟩ := atI_get he
  obtain ⟨w, ew, rw'⟩ := r.get h2
  have hl := r.length
  have hn := line63
  have hj : (k + (its.toArray.size : Int)).toNat = j := by
    rw [seqIndex_neg (by omega) h4] at h1
    rw [List.size_toArray, ← hl]
    exact Option.some.inj h1
  exact wpAny_getItem_list_neg pl.isList (by omega) (by rw [List.size_toArray] <;> omega) (by omega) (by rw [hj]; simpa using ew) ⟨z, H, I, rw', q⟩
def spAtl (K : PySem.W.Frag) : Sp := fun vs H Q _ => ∃ (x : Addr) (f : List Int) (c : Int), vs = [.ref x, .int c] ∧ (SqT K H x (f.map V.int) ∨ SqL K H x (f.map V.int)) ∧ f ≠ [] ∧
  ∀ p H', Same H H' → H p = none → H' p = some (.tup ((al f c).map V.int)) → Q (.ref p) H'
theorem scAtl : FnScope ["form", "number", "entries"] ["form", "number"] (defScope sAtl) := ⟨rfl, rfl, rfl, by decide +kernel, rfl, by decide +kernel, by decide +kernel⟩
theorem ok_atl {f0 : Addr} {fd : FuncData} (F : Fun K "add_to_last" "add_to_last" sAtl f0 fd) (T : Names8 mg) : FnOk P w K mg base CX0 1 f0 fd ["form", "number"] (spAtl K) := by
  refine F.ok scAtl (fun vs H Q E h => ?_) (fun cdv A outer s H vs Q E hr h => ?_)
  · obtain ⟨x, f, c, rfl, _⟩ := h
    rfl
  · obtain ⟨x, f, c, rfl, hX, hf, q⟩ := h
    refine ⟨_, (pss_cons (ps_set (i := 2) scAtl.nd rfl (.inl rfl) (pe_callTy call_list_of (by rfl) T.list (by decide +kernel) (pa_cons (pv 0) pa_nil)))
      (pss_cons (ps_augS (pv 2) (pe_un un_neg pe_int) get_neg (pv 1) ip_add set_list)
      (pss_one (ps_ret (pe_callTy call_tuple_of (by rfl) T.tuple (by decide +kernel) (pa_cons (pv 2) pa_nil)))))), ?_⟩
    obtain ⟨r, d, rfl⟩ := snoc_of hf
    rw [al_snoc] at q
    refine ⟨.ref x, rfl, x, _, rfl, hX.symm, fun l nl => ?_⟩
    have s1 := Same.upd (o := .lst ((r ++ [d]).map V.int)) nl
    have el : upd H l (.lst ((r ++ [d]).map V.int)) l = some (.lst (r.map V.int ++ [V.int d])) := by
      rw [upd_same, List.map_append]
      rfl
    change (_ : Hp → Prop) (upd H l (.lst ((r ++ [d]).map V.int)))
    generalize upd H l (.lst ((r ++ [d]).map V.int)) = H1 at s1 el ⊢
    refine ⟨.ref l, rfl, 1, rfl, l, _, -1, _, rfl, rfl, by decide, SqL.of el, atI_last _ _, ?_⟩
    refine ⟨_, rfl, d, c, rfl, rfl, l, _, _, r.length, rfl, rfl, el, ?_, ?_⟩
    · unfold ixN
      simp
      omega
    have s2 : Same H (upd H1 l (.lst ((r.map V.int ++ [V.int d]).set r.length (.int (d + c))))) := fun b o e => by
      rw [upd_ne (ne_of_none e nl)]
      exact s1 _ _ e
    have el2 : upd H1 l (.lst ((r.map V.int ++ [V.int d]).set r.length (.int (d + c)))) l = some (.lst ((r ++ [d + c]).map V.int)) := by
      rw [upd_same, List.map_append, List.set_append_right _ _ (by simp), List.length_map, Nat.sub_self]
      rfl
    generalize upd H1 l (.lst ((r.map V.int ++ [V.int d]).set r.length (.int (d + c)))) = H2 at s2 el2 ⊢
    exact ⟨.ref l, rfl, l, _, rfl, .inl ⟨SqL.of el2, fun p np => q p _ (s2.trans (Same.upd np)) (s2.free np) upd_same⟩⟩
/-! the next degree -/
theorem zip_map : ∀ (k : Int) (x y : List Int), zp k x y = (List.range (min x.length y.length)).map fun t => x.getD t 0 + k * y.getD t 0
  | k, [], y => by simp [zp]
  | k, a :: x, [] => by simp [zp]
  | k, a :: x, b :: y => by
    have ih := zip_map k x y
    show (a + k * b) :: zp k x y = _
    rw [ih, List.length_cons, List.length_cons, show min (x.length + 1) (y.length + 1) = min x.length y.length + 1 by omega, List.range_succ_eq_map, List.map_cons, List.map_map]
    rfl
theorem rz_map (k : Int) (f : List Int) : rz k f = (List.range (f.length + 1)).map fun t => (f ++ [0]).getD t 0 + k * (0 :: f).getD t 0 := by
  unfold rz
  rw [zip_map]
  simp
def spRaise (K : PySem.W.Frag) : Sp := fun vs H Q _ => ∃ (x : Addr) (f : List Int), vs = [.ref x] ∧ SqT K H x (f.map V.int) ∧ f.length ≤ 100 ∧ ∀ p H', Same H H' → H p = none → H' p = some (.tup ((rz 1 f).map V.int)) → Q (.ref p) H'
theorem scRaise : FnScope ["form", "lower", "upper"] ["form"] (defScope sRaise) := ⟨rfl, rfl, rfl, by decide +kernel, rfl, by decide +kernel, by decide +kernel⟩
theorem ok_raise {f0 : Addr} {fd : FuncData} (F : Fun K "raise_degree" "raise_degree" sRaise f0 fd) (T : Names8 mg) : FnOk P w K mg base CX0 1 f0 fd ["form"] (spRaise K) := by
  refine F.ok scRaise (fun vs H Q E h => ?_) (fun cdv A outer s H vs Q E hr h => ?_)
  · obtain ⟨x, f, rfl, _⟩ := h
    rfl
  · obtain ⟨x, f, rfl, hX, hl, q⟩ := h
    refine ⟨_, (pss_one (ps_ret (pe_callTy call_tuple_of (by rfl) T.tuple (by decide +kernel) (pa_cons (pe_lc (own := [("lower", 1), ("upper", 2)]) (g := gTup K 2 (gCons (gName 1) (gCons (gName 2) gNil))) (tt := tYes) rfl scRaise.nd (RZ.pi_zipA (by rfl) T.zip (pa_cons (pe_tup (StX.pa_star (pv 0) (pa_cons pe_int pa_nil))) (pa_cons (pe_tup (pa_cons pe_int (StX.pa_star (pv 0) pa_nil))) pa_nil))) (blkOk_by (N := ["form", "lower", "upper"]) (sc := defScope sRaise) (own := [("lower", 1), ("upper", 2)]) (by decide +kernel)) (fun _ _ _ _ _ => (pg_tup rfl (pgs_cons (pg_name (i := 1) scRaise.nd rfl (.inl rfl) (Or.inr rfl)) (pgs_cons (pg_name (i := 2) scRaise.nd rfl (.inl rfl) (Or.inr rfl)) pgs_nil)))) (fun _ _ _ _ _ => pts_nil) (fun _ _ _ _ _ => (pe_op op_add (pv 1) (pv 2)))) pa_nil)))), ?_⟩
    refine ⟨.ref x, rfl, x, _, rfl, .inl hX, ?_, fun p1 n1 => ?_⟩
    · rw [List.length_append, List.length_map]
      exact Nat.le_of_lt (small1000 (by show _ + 1 ≤ 1000; omega))
    have s1 := Same.upd (o := .tup (f.map V.int ++ [V.int 0])) n1
    have e1 : upd H p1 (.tup (f.map V.int ++ [V.int 0])) p1 = some (.tup ((f ++ [0]).map V.int)) := by
      rw [upd_same, List.map_append]
      rfl
    have hX1 := Same.tup s1 hX
    generalize upd H p1 (.tup (f.map V.int ++ [V.int 0])) = H1 at s1 e1 hX1 ⊢
    refine ⟨.ref x, rfl, x, _, rfl, .inl hX1, ?_, fun p2 n2 => ?_⟩
    · show (V.int 0 :: (f.map V.int ++ [])).length ≤ sizeLine
      rw [List.length_cons, List.append_nil, List.length_map]
      exact Nat.le_of_lt (small1000 (by omega))
    have s2 := Same.upd (o := .tup (V.int 0 :: (f.map V.int ++ []))) n2
    have e2 : upd H1 p2 (.tup (V.int 0 :: (f.map V.int ++ []))) p2 = some (.tup ((0 :: f).map V.int)) := by
      rw [upd_same, List.append_nil]
      rfl
    replace e1 := s2 _ _ e1
    have s12 := s1.trans s2
    generalize upd H1 p2 (.tup (V.int 0 :: (f.map V.int ++ []))) = H2 at s12 e1 e2 ⊢
    refine ⟨p1, p2, _, _, rfl, .inr ⟨tup_of e1, tup_of e2, fun D nD => ?_⟩⟩
    have lx : (f ++ [0]).length = f.length + 1 := by simp
    have ly : (0 :: f).length = f.length + 1 := by simp
    refine lc_zT (K := K) (xs := (f ++ [0]).map V.int) (ys := (0 :: f).map V.int) (by simp) (fun i H' => H' D = some (.lst (((List.range i).map fun t => (f ++ [0]).getD t 0 + 1 * (0 :: f).getD t 0).map V.int)) ∧ Same H2 H') ⟨upd_same, Same.upd nD⟩ (fun i H' h => ⟨Same.tup h.2 (tup_of e1), Same.tup h.2 (tup_of e2)⟩) ?_ ?_
    · rintro i a b H3 T0 ha hb ⟨e3, s3⟩ nT
      have hi : i < f.length + 1 := by
        have := (List.getElem?_eq_some_iff.mp ha).1
        rwa [List.length_map, lx] at this
      have ea : a = .int ((f ++ [0]).getD i 0) := by
        rw [get_int (by omega)] at ha
        exact (Option.some.inj ha).symm
      have eb : b = .int ((0 :: f).getD i 0) := by
        rw [get_int (by omega)] at hb
        exact (Option.some.inj hb).symm
      generalize hu : (f ++ [0]).getD i 0 = u at *
      generalize hv : (0 :: f).getD i 0 = v at *
      subst ea eb
      have s4 := Same.upd (o := .tup [.int u, .int v]) nT
      refine ⟨T0, _, rfl, tup_of upd_same, rfl, _, _, rfl, _, _, rfl, rfl, rfl, ?_⟩
      dsimp only [tYes]
      refine iteT ?_
      refine ⟨_, rfl, _, rfl, _, _, rfl, rfl, _, s4 _ _ e3, by rw [List.length_map, List.length_map, List.length_range]; exact small1000 (by omega), ?_, ?_⟩
      · rw [upd_same, List.range_succ, List.map_append, List.map_append]
        show _ = some (HO.lst (_ ++ [V.int ((f ++ [0]).getD i 0 + 1 * (0 :: f).getD i 0)]))
        rw [hu, hv, Int.one_mul]
      · intro b o e
        rw [upd_ne (ne_of_none e nD)]
        exact s4 _ _ (s3 _ _ e)
    · rintro H3 ⟨e3, s3⟩
      rw [List.length_map, lx, ← rz_map] at e3
      refine ⟨D, _, rfl, .inl ⟨SqL.of e3, fun p np => ?_⟩⟩
      have s13 := s12.trans s3
      exact q p _ (s13.trans (Same.upd np)) (s13.free np) upd_same
def spHt (K : PySem.W.Frag) : Sp := fun vs H Q _ => ∃ (x : Addr) (f : List Int), vs = [.ref x] ∧ SqT K H x (f.map V.int) ∧ f.length ≤ 100 ∧ ∀ p H', Same H H' → H p = none → H' p = some (.tup ((0 :: (f ++ [0])).map V.int)) → Q (.ref p) H'
theorem scHt : FnScope ["form"] ["form"] (defScope sHt) := ⟨rfl, rfl, rfl, by decide +kernel, rfl, by decide +kernel, by decide +kernel⟩
theorem ok_ht {f0 : Addr} {fd : FuncData} (F : Fun K "multiply_by_ht" "multiply_by_ht" sHt f0 fd) : FnOk P w K mg base CX0 1 f0 fd ["form"] (spHt K) := by
  refine F.ok scHt (fun vs H Q E h => ?_) (fun cdv A outer s H vs Q E hr h => ?_)
  · obtain ⟨x, f, rfl, _⟩ := h
    rfl
  · obtain ⟨x, f, rfl, hX, hl, q⟩ := h
    refine ⟨_, (pss_one (ps_ret (pe_tup (pa_cons pe_int (StX.pa_star (pv 0) (pa_cons pe_int pa_nil)))))), ?_⟩
    refine ⟨.ref x, rfl, x, _, rfl, .inl hX, ?_, fun p np => q p _ (Same.upd np) np ?_⟩
    · show (V.int 0 :: (f.map V.int ++ [V.int 0])).length ≤ sizeLine
      rw [List.length_cons, List.length_append, List.length_map]
      exact Nat.le_of_lt (small1000 (by show _ + 1 + 1 ≤ 1000; omega))
    · rw [upd_same, List.map_cons, List.map_append]
      rfl
/-! to a form -/
/-- the form of the terms below p^k -/
def toF (f : List Int) : Nat → List Int
  | 0 => []
  | k + 1 => al (rz 1 (toF f k)) (f.getD k 0)
theorem rz_ne (k : Int) (x : List Int) : rz k x ≠ [] := fun h => by
  have := rz_len k x
  rw [h] at this
  simp at this
theorem toF_len (f : List Int) : ∀ k, (toF f k).length = k
  | 0 => rfl
  | k + 1 => by
    show (al _ _).length = _
    rw [al_len (rz_ne 1 _), rz_len, toF_len f k]
theorem toF_ex (f : List Int) : ∀ k, Ex (toF f k) = fun t => if t < k then f.getD t 0 else 0
  | 0 => by
    funext t
    rfl
  | k + 1 => by
    show Ex (al _ _) = _
    rw [Ex_al (rz_ne 1 _), Ex_rz, toF_ex f k, rz_len, toF_len]
    funext t
    rw [Nat.add_sub_cancel, Sn_at]
    show (if t < k then f.getD t 0 else 0) + f.getD k 0 * (if t = k then 1 else 0) = _
    by_cases h : t = k
    · subst h
      rw [if_neg (by omega), if_pos rfl, if_pos (by omega)]
      omega
    · rw [if_neg h]
      by_cases h2 : t < k
      · rw [if_pos h2, if_pos (by omega)]
        omega
      · rw [if_neg h2, if_neg (by omega)]
        omega
def spTo (K : PySem.W.Frag) : Sp := fun vs H Q _ => ∃ (x : Addr) (f : List Int) (n : Nat), vs = [.ref x, .int (n : Int)] ∧ SqT K H x (f.map V.int) ∧ n ≤ 50 ∧
  ∀ p r H', Same H H' → H p = none → H' p = some (.tup (r.map V.int)) → r = toF f (n + 1) → Q (.ref p) H'
theorem scTo : FnScope ["polynomial", "degree", "form", "at", "last"] ["polynomial", "degree"] (defScope sTo) := ⟨rfl, rfl, rfl, by decide +kernel, rfl, by decide +kernel, by decide +kernel⟩
theorem ok_to {f0 fa fr : Addr} {fd da dr : FuncData} (F : Fun K "to_form" "to_form" sTo f0 fd) (T : Names8 mg) (GA : FnOk P w K mg base CX0 1 fa da ["form", "number"] (spAtl K)) (PA_ : Def K mg "add_to_last" fa da ["form", "number"])
    (GR : FnOk P w K mg base CX0 1 fr dr ["form"] (spRaise K)) (PR : Def K mg "raise_degree" fr dr ["form"]) : FnOk P w K mg base CX0 2 f0 fd ["polynomial", "degree"] (spTo K) := by
  refine F.ok scTo (fun vs H Q E h => ?_) (fun cdv A outer s H vs Q E hr h => ?_)
  · obtain ⟨x, f, n, rfl, _⟩ := h
    rfl
  · obtain ⟨x, f, n, rfl, hX, hn, q⟩ := h
    refine ⟨_, (pss_cons (ps_set (i := 2) scTo.nd rfl (.inl rfl) (pe_tup pa_nil))
      (pss_cons (ps_for PassesOwn.never rfl (pi_range1 rfl T.range (pa_cons (pe_op op_add (pv 1) pe_int) pa_nil)) (pg_name (i := 3) scTo.nd rfl (.inl rfl)) (pss_cons (ps_set (i := 4) scTo.nd rfl (.inl rfl) (pe_ifExp (pt_cmpR op_lt (pv 3) (pe_callB call_len_seq (by rfl) T.len PySem.boot_len (pa_cons (pv 0) pa_nil)) (nomark _)) (pe_ix ix_tup (pv 0) (pv 3) (fun _ _ => rfl)) pe_int))
      (pss_one (ps_set (i := 2) scTo.nd rfl (.inl rfl) (pe_call GA (hr.mono (by decide)) (by rfl) PA_.is PA_.kp PA_.bi .nil pass0 (pa_cons (pe_call GR (hr.mono (by decide)) (by rfl) PR.is PR.kp PR.bi .nil pass0 (pa_cons (pv 2) pa_nil)) (pa_cons (pv 4) pa_nil)))))))
      (pss_one (ps_ret (pv 2))))), ?_⟩
    refine ⟨Nat.zero_le _, fun e ne => ?_⟩
    have s1 := Same.upd (o := .tup []) ne
    have e1 : upd H e (.tup []) e = some (.tup ((toF f 0).map V.int)) := upd_same
    refine ⟨_, rfl, _, _, rfl, rfl, _, rfl, by omega, by omega, ?_⟩
    have en : ((n : Int) + 1).toNat = n + 1 := by omega
    rw [en]
    refine for_range (lo := 0) (n := n + 1) (fun i σ H' => ∃ (r : Addr) (v3 v4 : Option V), σ = [some (V.ref x), some (V.int (n : Int)), some (V.ref r), v3, v4] ∧ Same H H' ∧ H r = none ∧ H' r = some (.tup ((toF f i).map V.int)))
      ⟨e, _, _, rfl, s1, ne, e1⟩ ?_ ?_
    · rintro i σ H' hi ⟨r, v3, v4, rfl, s2, nr, er⟩
      have hX2 := Same.tup s2 hX
      have e0 : (0 : Int) + (i : Nat) = (i : Nat) := by omega
      rw [e0]
      refine on (asg_tail (fun v H3 => v = .int (f.getD i 0) ∧ H3 = H') ?_ (fun t => ?_))
      rotate_left
      · refine ⟨_, rfl, .ref x, rfl, x, _, rfl, .inr hX2, _, _, rfl, rfl, _, rfl, ?_⟩
        by_cases lt : i < f.length
        · rw [decide_eq_true (by rw [List.length_map]; omega)]
          exact iteT ⟨.ref x, rfl, _, rfl, x, _, _, .int (f.getD i 0), rfl, rfl, hX2, atI_nat (get_int lt), t _ _ ⟨rfl, rfl⟩⟩
        · rw [decide_eq_false (by rw [List.length_map]; omega)]
          refine iteF (t _ _ ⟨?_, rfl⟩)
          rw [getD_out (by omega)]
      · rintro v H3 ⟨rfl, rfl⟩
        refine ⟨.ref r, rfl, r, toF f i, rfl, tup_of er, by rw [toF_len]; omega, fun p H4 s4 np ep => ⟨_, rfl, p, rz 1 (toF f i), f.getD i 0, rfl, .inl (tup_of ep), rz_ne _ _, fun p2 H5 s5 np2 ep2 => ?_⟩⟩
        have s24 := s2.trans s4
        exact ⟨p2, _, _, rfl, s24.trans s5, s24.free np2, ep2⟩
    · rintro σ H' ⟨r, v3, v4, rfl, s2, nr, er⟩
      exact ⟨_, rfl, q r _ H' s2 nr er rfl⟩
/-! zeros at a tuple's end -/
def spTrimT (K : PySem.W.Frag) : Sp := fun vs H Q _ => ∃ (a : Addr) (ns : List Int), vs = [.ref a] ∧ SqT K H a (ns.map V.int) ∧ ∀ p H', Same H H' → SqT K H' p ((strip ns).map V.int) → Q (.ref p) H'
theorem ok_trimT {f : Addr} {fd : FuncData} (F : Fun K "trim_zeros" "trim_zeros" sTrim f fd) (T : Names mg) : FnOk P w K mg base CX0 1 f fd ["coefficients"] (spTrimT K) := by
  refine F.ok scTrim (fun vs H Q E h => ?_) (fun cdv A outer s H vs Q E hr h => ?_)
  · obtain ⟨a, ns, rfl, _⟩ := h
    rfl
  · obtain ⟨a, ns, rfl, hS, q⟩ := h
    refine ⟨_, (pss_cons (ps_set (i := 1) scTrim.nd rfl (.inl rfl) (pe_callB call_len_seq (by rfl) T.len PySem.boot_len (pa_cons (pv 0) pa_nil)))
      (pss_cons (ps_while PassesOwn.never (PW.pt (pw_and (pt_cmpR op_gt (pv 1) pe_int (nomark _)) (pw_and1 (pt_cmpR op_eq (pe_ix ix_tup (pv 0) (pe_op op_sub (pv 1) pe_int) (fun _ _ => rfl)) pe_int (nomark _))))) (pss_one (ps_aug (i := 1) scTrim.nd rfl (.inl rfl) pe_int ip_sub)))
      (pss_one (ps_ret (pe_callTy call_tuple_of (by rfl) T.tuple (by decide +kernel) (pa_cons (pe_slice sl_tupA (pv 0) po_none (po_some (pv 1))) pa_nil)))))), ?_⟩
    refine ⟨.ref a, rfl, a, _, rfl, .inr hS, ?_⟩
    refine ⟨fun n σ H' => ∃ j : Nat, n = j ∧ j ≤ ns.length ∧ σ = [some (V.ref a), some (V.int (j : Int))] ∧ H' = H ∧ strip (ns.take j) = strip ns, ⟨ns.length, ns.length, rfl, Nat.le_refl _, by rw [List.length_map]; rfl, rfl, by rw [List.take_length]⟩, ?_⟩
    rintro j σ H' ⟨_, rfl, hj, rfl, rfl, ej⟩
    have fin : ∀ j : Nat, j ≤ ns.length → strip ns = ns.take j → rSlA K (.ref a) none (some (j : Int)) H' fun x H1 => ∃ p ys, [x] = [V.ref p] ∧ ((SqL K H1 p ys ∧ ∀ l, H1 l = none → Q (.ref l) (upd H1 l (.tup ys))) ∨ (SqT K H1 p ys ∧ Q (.ref p) H1)) := fun j hj e =>
      slA hS fun t H5 s5 et => ⟨t, _, rfl, .inr ⟨et, q t H5 s5 (by rw [e, List.map_take]; rw [cut_len, List.length_map, Nat.min_eq_left hj] at et; exact et)⟩⟩
    refine ⟨_, rfl, _, _, rfl, rfl, _, rfl, ?_⟩
    cases j with
    | zero =>
      rw [decide_eq_false (by omega)]
      exact iteF (iteF ⟨.ref a, rfl, _, rfl, ((0 : Nat) : Int), rfl, fin 0 (Nat.zero_le _) (by rw [← ej]; rfl)⟩)
    | succ j =>
      rw [decide_eq_true (by omega)]
      refine iteT ⟨.ref a, rfl, _, rfl, _, _, rfl, rfl, a, _, _, .int (ns.getD j 0), rfl, rfl, hS, at_of (j := j) (by omega) (get_int (by omega)), rfl, _, rfl, ?_⟩
      have et : ns.take (j + 1) = ns.take j ++ [ns.getD j 0] := by
        rw [List.take_succ_eq_append_getElem (by omega), List.getD_eq_getElem?_getD, List.getElem?_eq_getElem (by omega)]
        rfl
      by_cases hz : ns.getD j 0 = 0
      · rw [hz, decide_eq_true rfl]
        refine iteT ⟨fun σ H4 => ∃ j' : Nat, j' < j + 1 ∧ j' ≤ ns.length ∧ σ = [some (V.ref a), some (V.int (j' : Int))] ∧ H4 = H' ∧ strip (ns.take j') = strip ns, ?_, ?_⟩
        · rintro σ H4 ⟨j', lt, h1, h2, h3, h4⟩
          exact ⟨j', lt, j', rfl, h1, h2, h3, h4⟩
        · refine ⟨_, rfl, _, _, rfl, rfl, j, by omega, by omega, ?_, rfl, by rw [← ej, et, hz, strip_zero]⟩
          show [some (V.ref a), some (V.int (((j + 1 : Nat) : Int) - 1))] = _
          rw [show ((j + 1 : Nat) : Int) - 1 = (j : Int) by omega]
      · rw [decide_eq_false (by intro e; exact hz (V.int.inj e))]
        exact iteF ⟨.ref a, rfl, _, rfl, ((j + 1 : Nat) : Int), rfl, fin (j + 1) hj (by rw [← ej, et, strip_last hz])⟩
/-! from a form -/
/-- the row of a form's first entries, put together from the left -/
def fromF : List Int → List Int → List Int
  | acc, [] => acc
  | acc, c :: r => fromF (al (rz (-1) acc) c) r
def fromK (f : List Int) : Nat → List Int
  | 0 => []
  | k + 1 => al (rz (-1) (fromK f k)) (f.getD k 0)
theorem fromK_len (f : List Int) : ∀ k, (fromK f k).length = k
  | 0 => rfl
  | k + 1 => by
    show (al _ _).length = _
    rw [al_len (rz_ne _ _), rz_len, fromK_len f k]
theorem fromK_fn (f : List Int) : ∀ k, k ≤ f.length → fn (fromK f k) = Ex (f.take k)
  | 0, _ => rfl
  | k + 1, h => by
    have et : f.take (k + 1) = f.take k ++ [f.getD k 0] := by
      rw [List.take_succ_eq_append_getElem (by omega), List.getD_eq_getElem?_getD, List.getElem?_eq_getElem (by omega)]
      rfl
    show fn (al _ _) = _
    rw [fn_al (rz_ne _ _), rz_down, fromK_fn f k (by omega), et, Ex_snoc, rz_len, fromK_len, Nat.add_sub_cancel, List.length_take, Nat.min_eq_left (by omega)]
def spFrom (K : PySem.W.Frag) : Sp := fun vs H Q _ => ∃ (x : Addr) (f : List Int), vs = [.ref x] ∧ SqT K H x (f.map V.int) ∧ f.length ≤ 60 ∧
  ∀ p H', Same H H' → SqT K H' p ((strip (fromK f f.length)).map V.int) → Q (.ref p) H'
theorem scFrom : FnScope ["form", "coefficients", "c", "shifted", "same", "lower"] ["form"] (defScope sFrom) := ⟨rfl, rfl, rfl, by decide +kernel, rfl, by decide +kernel, by decide +kernel⟩
theorem ok_from {f0 fa ft : Addr} {fd da dt : FuncData} (F : Fun K "from_form" "from_form" sFrom f0 fd) (T : Names8 mg) (GA : FnOk P w K mg base CX0 1 fa da ["form", "number"] (spAtl K)) (PA_ : Def K mg "add_to_last" fa da ["form", "number"])
    (GT : FnOk P w K mg base CX0 1 ft dt ["coefficients"] (spTrimT K)) (PT_ : Def K mg "trim_zeros" ft dt ["coefficients"]) : FnOk P w K mg base CX0 2 f0 fd ["form"] (spFrom K) := by
  refine F.ok scFrom (fun vs H Q E h => ?_) (fun cdv A outer s H vs Q E hr h => ?_)
  · obtain ⟨x, f, rfl, _⟩ := h
    rfl
  · obtain ⟨x, f, rfl, hX, hn, q⟩ := h
    refine ⟨_, (pss_cons (ps_set (i := 1) scFrom.nd rfl (.inl rfl) (pe_tup pa_nil))
      (pss_cons (ps_for PassesOwn.never rfl (pi_tup (pv 0)) (pg_name (i := 2) scFrom.nd rfl (.inl rfl)) (pss_cons (ps_setLc (i := 3) (own := [("same", 4), ("lower", 5)]) (g := gTup K 2 (gCons (gName 4) (gCons (gName 5) gNil))) (tt := tYes) rfl scFrom.nd rfl rfl (sw_true rfl rfl rfl (by decide +kernel)) (RZ.pi_zipA (by rfl) T.zip (pa_cons (pe_tup (StX.pa_star (pv 1) (pa_cons pe_int pa_nil))) (pa_cons (pe_tup (pa_cons pe_int (StX.pa_star (pv 1) pa_nil))) pa_nil))) (blkOk_by (N := ["form", "coefficients", "c", "shifted", "same", "lower"]) (sc := defScope sFrom) (own := [("same", 4), ("lower", 5)]) (by decide +kernel)) (fun _ _ _ _ _ => (pg_tup rfl (pgs_cons (pg_name (i := 4) scFrom.nd rfl (.inl rfl) (Or.inr rfl)) (pgs_cons (pg_name (i := 5) scFrom.nd rfl (.inl rfl) (Or.inr rfl)) pgs_nil)))) (fun _ _ _ _ _ => pts_nil) (fun _ _ _ _ _ => (pe_op op_sub (pv 4) (pv 5))))
      (pss_one (ps_set (i := 1) scFrom.nd rfl (.inl rfl) (pe_call GA (hr.mono (by decide)) (by rfl) PA_.is PA_.kp PA_.bi .nil pass0 (pa_cons (pv 3) (pa_cons (pv 2) pa_nil)))))))
      (pss_one (ps_ret (pe_call GT (hr.mono (by decide)) (by rfl) PT_.is PT_.kp PT_.bi .nil pass0 (pa_cons (pv 1) pa_nil)))))), ?_⟩
    refine ⟨Nat.zero_le _, fun e ne => ?_⟩
    have s1 := Same.upd (o := .tup []) ne
    have e1 : upd H e (.tup []) e = some (.tup ((fromK f 0).map V.int)) := upd_same
    have hX1 := Same.tup s1 hX
    refine ⟨.ref x, rfl, x, rfl, ⟨_, hX1⟩, for_tup (K := K) (a := x) (xs := f.map V.int) (fun i σ H' => ∃ (r : Addr) (v2 v3 : Option V), σ = [some (V.ref x), some (V.ref r), v2, v3, none, none] ∧ Same H H' ∧ H' r = some (.tup ((fromK f i).map V.int)))
      ⟨e, _, _, rfl, s1, e1⟩ (fun i σ H' _ ⟨_, _, _, _, s, _⟩ => Same.tup s hX) ?_ ?_⟩
    · rintro i v σ H' hv ⟨r, v2, v3, rfl, s2, er⟩
      have hi : i < f.length := by
        have := (List.getElem?_eq_some_iff.mp hv).1
        rwa [List.length_map] at this
      have ev : v = .int (f.getD i 0) := by
        rw [get_int hi] at hv
        exact (Option.some.inj hv).symm
      subst ev
      refine on ?_
      have sH := s2
      have hR : SqT K H' r ((fromK f i).map V.int) := tup_of er
      have gl : (fromK f i).length ≤ 100 := by rw [fromK_len]; omega
      generalize hg : fromK f i = g at *
      clear er hv
      refine ⟨.ref r, rfl, r, _, rfl, .inl hR, ?_, fun p1 n1 => ?_⟩
      · rw [List.length_append, List.length_map]
        exact Nat.le_of_lt (small1000 (by show _ + 1 ≤ 1000; omega))
      have s1 := Same.upd (o := .tup (g.map V.int ++ [V.int 0])) n1
      have e1 : upd H' p1 (.tup (g.map V.int ++ [V.int 0])) p1 = some (.tup ((g ++ [0]).map V.int)) := by
        rw [upd_same, List.map_append]
        rfl
      have hR1 := Same.tup s1 hR
      generalize upd H' p1 (.tup (g.map V.int ++ [V.int 0])) = H1 at s1 e1 hR1 ⊢
      refine ⟨.ref r, rfl, r, _, rfl, .inl hR1, ?_, fun p2 n2 => ?_⟩
      · show (V.int 0 :: (g.map V.int ++ [])).length ≤ sizeLine
        rw [List.length_cons, List.append_nil, List.length_map]
        exact Nat.le_of_lt (small1000 (by omega))
      have s2 := Same.upd (o := .tup (V.int 0 :: (g.map V.int ++ []))) n2
      have e2 : upd H1 p2 (.tup (V.int 0 :: (g.map V.int ++ []))) p2 = some (.tup ((0 :: g).map V.int)) := by
        rw [upd_same, List.append_nil]
        rfl
      replace e1 := s2 _ _ e1
      have s12 := s1.trans s2
      generalize upd H1 p2 (.tup (V.int 0 :: (g.map V.int ++ []))) = H2 at s12 e1 e2 ⊢
      refine ⟨p1, p2, _, _, rfl, .inr ⟨tup_of e1, tup_of e2, fun D nD => ?_⟩⟩
      have lx : (g ++ [0]).length = g.length + 1 := by simp
      have ly : (0 :: g).length = g.length + 1 := by simp
      refine lc_zT (K := K) (xs := (g ++ [0]).map V.int) (ys := (0 :: g).map V.int) (by simp) (fun i Hx => Hx D = some (.lst (((List.range i).map fun t => (g ++ [0]).getD t 0 + (-1) * (0 :: g).getD t 0).map V.int)) ∧ Same H2 Hx) ⟨upd_same, Same.upd nD⟩ (fun i Hx h => ⟨Same.tup h.2 (tup_of e1), Same.tup h.2 (tup_of e2)⟩) ?_ ?_
      · rintro j a b H3 T0 ha hb ⟨e3, s3⟩ nT
        have hj : j < g.length + 1 := by
          have := (List.getElem?_eq_some_iff.mp ha).1
          rwa [List.length_map, lx] at this
        have ea : a = .int ((g ++ [0]).getD j 0) := by
          rw [get_int (by omega)] at ha
          exact (Option.some.inj ha).symm
        have eb : b = .int ((0 :: g).getD j 0) := by
          rw [get_int (by omega)] at hb
          exact (Option.some.inj hb).symm
        generalize hu : (g ++ [0]).getD j 0 = u at *
        generalize hv : (0 :: g).getD j 0 = v at *
        subst ea eb
        have s4 := Same.upd (o := .tup [.int u, .int v]) nT
        refine ⟨T0, _, rfl, tup_of upd_same, rfl, _, _, rfl, _, _, rfl, rfl, rfl, ?_⟩
        dsimp only [tYes]
        refine iteT ?_
        refine ⟨_, rfl, _, rfl, _, _, rfl, rfl, _, s4 _ _ e3, by rw [List.length_map, List.length_map, List.length_range]; exact small1000 (by omega), ?_, ?_⟩
        · rw [upd_same, List.range_succ, List.map_append, List.map_append]
          show _ = some (HO.lst (_ ++ [V.int ((g ++ [0]).getD j 0 + (-1) * (0 :: g).getD j 0)]))
          rw [hu, hv, show u + -1 * v = u - v by omega]
        · intro b o e
          rw [upd_ne (ne_of_none e nD)]
          exact s4 _ _ (s3 _ _ e)
      · rintro H3 ⟨e3, s3⟩
        rw [List.length_map, lx, ← rz_map] at e3
        have s13 := s12.trans s3
        refine ⟨.ref D, rfl, _, rfl, D, rz (-1) g, f.getD i 0, rfl, .inr (SqL.of e3), rz_ne _ _, fun p H4 s4 np ep => ?_⟩
        exact ⟨p, _, _, rfl, (sH.trans s13).trans s4, by rw [ep, ← hg]; rfl⟩
    · rintro σ H' ⟨r, v2, v3, rfl, s2, er⟩
      rw [List.length_map] at er
      exact ⟨.ref r, rfl, r, _, rfl, tup_of er, fun p H3 s3 et => q p H3 (s2.trans s3) et⟩
end
end Z

set_option Elab.async false
set_option linter.all false
set_option maxRecDepth 100000
set_option maxHeartbeats 4000000
set_option exponentiation.threshold 20000
namespace Z
open PySem PySem.Spec PyProof.Rows L2 GG M3
abbrev sExp : Stmt := top 16
abbrev sIs : Stmt := top 17
section
variable {P : Program} {w : World} {K : PySem.W.Frag} {mg : Str → Option Value} {base : Heap}
/-! is it a tuple of ints -/
def spIs (K : PySem.W.Frag) : Sp := fun vs H Q _ => ∃ (x : Addr) (f : List Int), vs = [.ref x, .int (f.length : Nat)] ∧ H x = some (.tup (f.map V.int)) ∧ f.length ≤ 60 ∧ ∀ H', Same H H' → Q (.bl true) H'
theorem scIs : FnScope ["found", "many", "number"] ["found", "many"] (defScope sIs) := ⟨rfl, rfl, rfl, by decide +kernel, rfl, by decide +kernel, by decide +kernel⟩
theorem all_true : ∀ n : Nat, (List.replicate n true).all id = true
  | 0 => rfl
  | n + 1 => by rw [List.replicate_succ, List.all_cons, all_true n]; rfl
theorem ok_is {f0 : Addr} {fd : FuncData} (F : Fun K "_law_is_form" "_law_is_form" sIs f0 fd) (T : Names8 mg) (mI : mg "int" = none) (mB : mg "bool" = none) : FnOk P w K mg base CX0 1 f0 fd ["found", "many"] (spIs K) := by
  refine F.ok scIs (fun vs H Q E h => ?_) (fun cdv A outer s H vs Q E hr h => ?_)
  · obtain ⟨x, f, rfl, _⟩ := h
    rfl
  · obtain ⟨x, f, rfl, hX, hn, q⟩ := h
    refine ⟨_, (pss_cons (ps_if (PW.pt (pw_or (pt_not (pt_val (pe_callB call_isi (by rfl) T.isinstance (by decide +kernel) (pa_cons (pv 0) (pa_cons (pe_bltn (v := .ty "tuple") (by rfl) T.tuple (by decide +kernel) rfl) pa_nil))))) (pw_or1 (pt_cmpR op_ne (pe_callB call_len_seq (by rfl) T.len PySem.boot_len (pa_cons (pv 0) pa_nil)) (pv 1) (nomark _))))) (pss_one (ps_ret pe_bl)) pss_nil)
      (pss_one (ps_ret (pe_callB (cr_all rfl) (by rfl) T.all (by decide +kernel) (pa_cons (pe_lc (own := [("number", 2)]) (g := gName 2) (tt := tYes) rfl scIs.nd (pi_tup (pv 0)) (blkOk_by (N := ["found", "many", "number"]) (sc := defScope sIs) (own := [("number", 2)]) (by decide +kernel)) (fun _ _ _ _ _ => (pg_name (i := 2) scIs.nd rfl (.inl rfl))) (fun _ _ _ _ _ => pts_nil) (fun _ _ _ _ _ => (pe_and (pe_callB (call_isi2 (K := K) rfl) (by rfl) T.isinstance (by decide +kernel) (pa_cons (pv 2) (pa_cons (pe_bltn (v := .ty "int") (by rfl) mI (by decide +kernel) rfl) pa_nil))) (pe_one (pe_not (pe_callB (call_isi2 (K := K) rfl) (by rfl) T.isinstance (by decide +kernel) (pa_cons (pv 2) (pa_cons (pe_bltn (v := .ty "bool") (by rfl) mB (by decide +kernel) rfl) pa_nil)))))))) pa_nil))))), ?_⟩
    refine on (if_tail (fun σ H' => σ = [some (V.ref x), some (V.int (f.length : Nat)), none] ∧ H' = H) ?_ (fun tl => ?_))
    rotate_left
    · refine ⟨.ref x, rfl, .ref x, .ty "tuple", .type "tuple", .type "tuple", true, rfl, .ty "tuple", .base (.tup hX), kit_ty (by decide +kernel), true, rfl, iteF ?_⟩
      refine ⟨.ref x, rfl, x, _, rfl, .inr (tup_of hX), _, rfl, rfl, _, rfl, ?_⟩
      rw [List.length_map, decide_eq_true rfl]
      exact iteF (tl _ _ ⟨rfl, rfl⟩)
    · rintro σ H' ⟨rfl, rfl⟩
      refine ⟨.ref x, rfl, x, rfl, ⟨_, tup_of hX⟩, fun D nD => ?_⟩
      refine lc_tup (K := K) (a := x) (xs := f.map V.int) (fun i H1 => Same H' H1 ∧ H1 D = some (.lst ((List.replicate i true).map V.bl))) ⟨Same.upd nD, upd_same⟩ (fun i H1 _ h => tup_of (h.1 _ _ hX)) ?_ ?_
      · rintro i v H1 hv ⟨s1, e1⟩
        have hi : i < f.length := by
          have := (List.getElem?_eq_some_iff.mp hv).1
          rwa [List.length_map] at this
        have ev : v = .int (f.getD i 0) := by
          rw [get_int hi] at hv
          exact (Option.some.inj hv).symm
        subst ev
        refine ⟨rfl, ?_⟩
        dsimp only [tYes]
        refine iteT ?_
        refine ⟨_, rfl, _, .ty "int", .type "int", .type "int", true, rfl, .ty "int", .base (.int _), kit_ty (by decide +kernel), true, rfl, ?_⟩
        refine ⟨_, rfl, _, .ty "bool", .type "int", .type "bool", false, rfl, .ty "bool", .base (.int _), kit_ty (by decide +kernel), false, rfl, _, e1, by rw [List.length_map, List.length_replicate]; exact small1000 (by omega), ?_, ?_⟩
        · intro b o e
          rw [upd_ne (ne_of_none e nD)]
          exact s1 _ _ e
        · rw [upd_same, List.replicate_succ', List.map_append]
          rfl
      · rintro H1 ⟨s1, e1⟩
        refine ⟨D, _, rfl, SqL.of e1, ?_⟩
        rw [all_true]
        exact q _ s1
/-! the law's polynomial of a form -/
def spExp (K : PySem.W.Frag) : Sp := fun vs H Q _ => ∃ (x : Addr) (f : List Int), vs = [.ref x] ∧ SqT K H x (f.map V.int) ∧ f.length ≤ 13 ∧ Bd (2 ^ 150) f ∧
  ∀ p u H', Same H H' → H' p = some (.tup (u.map V.int)) → strip u = u → fn u = Ex f → Q (.ref p) H'
theorem scExp : FnScope ["form_n", "found", "heads", "k", "number", "part", "turn"] ["form_n"] (defScope sExp) := ⟨rfl, rfl, rfl, by decide +kernel, rfl, by decide +kernel, by decide +kernel⟩
theorem prod_len (f g : List Int) : (strip (prod f g)).length ≤ f.length + g.length := Nat.le_trans (strip_len _) (by simp [prod])
theorem bd_small {l : List Int} {k j : Nat} (h : fn l = Sk k (Tn j)) (hj : j ≤ 100) : Bd (2 ^ 200) l := fun t => by
  have := (Tn_le j).sk k t
  rw [← h] at this
  exact Nat.le_trans this (Nat.pow_le_pow_right (by decide) (by omega))
theorem ok_exp {f0 fp fa : Addr} {fd dp da : FuncData} (F : Fun K "_law_expand" "_law_expand" sExp f0 fd) (T : Names8 mg) (GP : FnOk P w K mg base CX0 2 fp dp ["one", "other"] (spProd K)) (PP : Def K mg "_law_product" fp dp ["one", "other"])
    (GA : FnOk P w K mg base CX0 2 fa da ["one", "other"] (spAdd K)) (PA_ : Def K mg "_law_add" fa da ["one", "other"]) : FnOk P w K mg base CX0 3 f0 fd ["form_n"] (spExp K) := by
  refine F.ok scExp (fun vs H Q E h => ?_) (fun cdv A outer s H vs Q E hr h => ?_)
  · obtain ⟨x, f, rfl, _⟩ := h
    rfl
  · obtain ⟨x, f, rfl, hX, hn, hb, q⟩ := h
    refine ⟨_, (pss_cons (ps_asg (pe_tup (pa_cons (pe_tup pa_nil) (pa_cons (pe_tup (pa_cons pe_int pa_nil)) pa_nil))) (pg_tup rfl (pgs_cons (pg_name (i := 1) scExp.nd rfl (.inl rfl)) (pgs_cons (pg_name (i := 2) scExp.nd rfl (.inl rfl)) pgs_nil))))
      (pss_cons (ps_for PassesOwn.never rfl (EN.pi_pairs (by rfl) T.enumerate (pa_cons (pv 0) pa_nil)) (pg_tup rfl (pgs_cons (pg_name (i := 3) scExp.nd rfl (.inl rfl)) (pgs_cons (pg_name (i := 4) scExp.nd rfl (.inl rfl)) pgs_nil))) (pss_cons (ps_set (i := 5) scExp.nd rfl (.inl rfl) (pv 2))
      (pss_cons (ps_for PassesOwn.never rfl (pi_range1 rfl T.range (pa_cons (pe_op op_sub (pe_op op_sub (pe_callB call_len_seq (by rfl) T.len PySem.boot_len (pa_cons (pv 0) pa_nil)) pe_int) (pv 3)) pa_nil)) (pg_name (i := 6) scExp.nd rfl (.inl rfl)) (pss_one (ps_set (i := 5) scExp.nd rfl (.inl rfl) (pe_call GP (hr.mono (by decide)) (by rfl) PP.is PP.kp PP.bi .nil pass0 (pa_cons (pv 5) (pa_cons (pe_tup (pa_cons pe_int (pa_cons (pe_un un_neg pe_int) pa_nil))) pa_nil))))))
      (pss_cons (ps_set (i := 1) scExp.nd rfl (.inl rfl) (pe_call GA (hr.mono (by decide)) (by rfl) PA_.is PA_.kp PA_.bi .nil pass0 (pa_cons (pv 1) (pa_cons (pe_call GP (hr.mono (by decide)) (by rfl) PP.is PP.kp PP.bi .nil pass0 (pa_cons (pv 5) (pa_cons (pe_tup (pa_cons (pv 4) pa_nil)) pa_nil))) pa_nil))))
      (pss_one (ps_set (i := 2) scExp.nd rfl (.inl rfl) (pe_call GP (hr.mono (by decide)) (by rfl) PP.is PP.kp PP.bi .nil pass0 (pa_cons (pv 2) (pa_cons (pe_tup (pa_cons pe_int (pa_cons pe_int pa_nil))) pa_nil)))))))))
      (pss_one (ps_ret (pv 1))))), ?_⟩
    obtain ⟨n, en⟩ : ∃ n, f.length = n := ⟨_, rfl⟩
    refine ⟨Nat.zero_le _, fun e ne => ⟨by show 1 ≤ sizeLine; decide, fun e2 ne2 => ⟨by show 2 ≤ sizeLine; decide, fun e3 ne3 => ?_⟩⟩⟩
    have s1 := Same.upd (o := .tup []) ne
    have s2 := Same.upd (o := .tup [.int 1]) ne2
    have s3 := Same.upd (o := .tup [.ref e, .ref e2]) ne3
    have ee : upd (upd (upd H e (.tup [])) e2 (.tup [.int 1])) e3 (.tup [.ref e, .ref e2]) e = some (.tup (([] : List Int).map V.int)) := s3 _ _ (s2 _ _ upd_same)
    have ee2 : upd (upd (upd H e (.tup [])) e2 (.tup [.int 1])) e3 (.tup [.ref e, .ref e2]) e2 = some (.tup (([1] : List Int).map V.int)) := s3 _ _ upd_same
    have ee3 : upd (upd (upd H e (.tup [])) e2 (.tup [.int 1])) e3 (.tup [.ref e, .ref e2]) e3 = some (.tup [.ref e, .ref e2]) := upd_same
    have s12 := (s1.trans s2).trans s3
    generalize upd (upd (upd H e (.tup [])) e2 (.tup [.int 1])) e3 (.tup [.ref e, .ref e2]) = H0 at s12 ee ee2 ee3 ⊢
    refine ⟨e3, _, rfl, tup_of ee3, rfl, _, _, rfl, _, _, rfl, rfl, ?_⟩
    refine ⟨.ref x, rfl, x, _, rfl, Same.tup s12 hX, ?_⟩
    refine EN.for_pairs (K := K) (xs := f.map V.int) (fun k σ H' => ∃ (fo he : Addr) (u h : List Int) (v3 v4 v5 v6 : Option V), σ = [some (V.ref x), some (V.ref fo), some (V.ref he), v3, v4, v5, v6] ∧ Same H H' ∧ H' fo = some (.tup (u.map V.int)) ∧ H' he = some (.tup (h.map V.int)) ∧
        fn h = Sn k ∧ h.length ≤ 1 + 2 * k ∧ (∀ t, fn u t + Sk k (Ex (f.drop k)) t = Ex f t) ∧ strip u = u ∧ u.length ≤ 60)
      ⟨e, e2, [], [1], _, _, _, _, rfl, s12, ee, ee2, ?_, by decide, fun t => ?_, rfl, by decide⟩ (fun k σ H' _ ⟨_, _, _, _, _, _, _, _, _, s, _⟩ => Same.tup s hX) ?_ ?_
    · funext t
      cases t with
      | zero => rfl
      | succ t => rfl
    · show (0 : Int) + Ex (f.drop 0) t = _
      rw [List.drop_zero, Int.zero_add]
    · rintro k v σ H' T0 hv ⟨fo, he, u, h, v3, v4, v5, v6, rfl, sH, eu, eh, fh, lh, inv, su, lu⟩ nT
      have hk : k < f.length := by
        have := (List.getElem?_eq_some_iff.mp hv).1
        rwa [List.length_map] at this
      have ev : v = .int (f.getD k 0) := by
        rw [get_int hk] at hv
        exact (Option.some.inj hv).symm
      subst ev
      generalize hc : f.getD k 0 = c at *
      have s3 := Same.upd (o := .tup [.int (k : Nat), .int c]) nT
      refine ⟨T0, _, rfl, tup_of upd_same, rfl, _, _, rfl, _, _, rfl, rfl, ?_⟩
      have sH3 := sH.trans s3
      have eu3 := s3 _ _ eu
      have eh3 := s3 _ _ eh
      generalize upd H' T0 (.tup [.int (k : Nat), .int c]) = H3 at sH3 eu3 eh3 ⊢
      refine ⟨_, rfl, ?_⟩
      refine ⟨.ref x, rfl, x, _, rfl, .inr (Same.tup sH3 hX), _, _, rfl, rfl, _, rfl, _, _, rfl, rfl, _, rfl, ?_, ?_, ?_⟩
      · rw [List.length_map]
        omega
      · rw [List.length_map]
        omega
      have er : (((f.map V.int).length : Nat) : Int) - 1 - (k : Nat) = ((n - 1 - k : Nat) : Int) := by
        rw [List.length_map]
        omega
      have er2 : ((((f.map V.int).length : Nat) : Int) - 1 - (k : Nat)).toNat = n - 1 - k := by
        rw [er]
        omega
      rw [er2]
      refine for_range (lo := 0) (n := n - 1 - k) (fun j σ H4 => ∃ (pa : Addr) (pl : List Int) (v6 : Option V), σ = [some (V.ref x), some (V.ref fo), some (V.ref he), some (V.int (k : Nat)), some (V.int c), some (V.ref pa), v6] ∧ Same H3 H4 ∧ H4 pa = some (.tup (pl.map V.int)) ∧
          fn pl = Sk k (Tn j) ∧ pl.length ≤ 1 + 2 * k + 2 * j) ⟨he, h, _, rfl, Same.refl _, eh3, fh, by omega⟩ ?_ ?_
      · rintro j σ H4 hj ⟨pa, pl, v6, rfl, s4, ep, fp, lp⟩
        refine ⟨.ref pa, rfl, 1, rfl, by show 2 ≤ sizeLine; decide, fun t nt => ?_⟩
        have s5 := Same.upd (o := .tup [.int 1, .int (-1)]) nt
        refine ⟨pa, t, pl, [1, -1], rfl, tup_of (s5 _ _ ep), tup_of upd_same, by omega, by decide, bd_small fp (by omega), ?_, fun p H5 s6 np ep2 => ?_⟩
        · exact bd_of (by decide)
        · refine ⟨p, strip (prod pl [1, -1]), _, rfl, (s4.trans s5).trans s6, ep2, ?_, ?_⟩
          · rw [strip_getD, fn_prod]
            funext t
            rw [pf_one _ _ _ rfl, fp, ← Sk_Tl]
            rfl
          · have := prod_len pl [1, -1]
            show _ ≤ _
            have e2 : ([1, -1] : List Int).length = 2 := rfl
            omega
      · rintro σ H4 ⟨pa, pl, v6, rfl, s4, ep, fp, lp⟩
        have sH4 := sH3.trans s4
        refine ⟨.ref fo, rfl, .ref pa, rfl, _, rfl, by show 1 ≤ sizeLine; decide, fun t nt => ?_⟩
        have s5 := Same.upd (o := .tup [.int c]) nt
        have hc2 : c.natAbs ≤ 2 ^ 150 := by
          rw [← hc]
          exact hb k
        refine ⟨pa, t, pl, [c], rfl, tup_of (s5 _ _ ep), tup_of upd_same, by omega, by show 1 ≤ 60; decide, bd_small fp (by omega), bd_of (fun z hz => ?_), fun p H5 s6 np ep2 => ?_⟩
        · rw [List.mem_singleton.mp hz]
          exact Nat.le_trans hc2 (Nat.pow_le_pow_right (by decide) (by decide))
        have l2 := prod_len pl [c]
        have e1 : ([c] : List Int).length = 1 := rfl
        have s45 := s5.trans s6
        refine ⟨fo, p, u, strip (prod pl [c]), rfl, tup_of (s45 _ _ (s4 _ _ eu3)), tup_of ep2, by omega, by omega, fun p2 H6 s7 np2 ep3 => ?_⟩
        have s47 := s45.trans s7
        refine ⟨.ref he, rfl, by show 2 ≤ sizeLine; decide, fun t2 nt2 => ?_⟩
        have s8 := Same.upd (o := .tup [.int 0, .int 1]) nt2
        refine ⟨he, t2, h, [0, 1], rfl, tup_of (s8 _ _ (s47 _ _ (s4 _ _ eh3))), tup_of upd_same, by omega, by decide, bd_small (j := 0) fh (by decide), bd_of (by decide), fun p3 H7 s9 np3 ep4 => ?_⟩
        have s79 := s8.trans s9
        refine ⟨p2, p3, strip (sumF u (strip (prod pl [c]))), strip (prod h [0, 1]), _, _, _, _, rfl, (sH4.trans s47).trans s79, s79 _ _ ep3, ep4, ?_, ?_, fun t => ?_, strip_strip _, ?_⟩
        · rw [strip_getD, fn_prod]
          funext t
          rw [pf_shift, fh]
          rfl
        · have := prod_len h [0, 1]
          have e2 : ([0, 1] : List Int).length = 2 := rfl
          omega
        · have ed : f.drop k = c :: f.drop (k + 1) := by
            rw [List.drop_eq_getElem_cons hk, ← hc, List.getD_eq_getElem?_getD, List.getElem?_eq_getElem hk]
            rfl
          have q1 := inv t
          rw [ed] at q1
          have e3 : Ex (c :: f.drop (k + 1)) = fun t => c * Tn (n - 1 - k) t + Sh (Ex (f.drop (k + 1))) t := by
            show (fun t => c * Tn (f.drop (k + 1)).length t + _) = _
            rw [List.length_drop, show f.length - (k + 1) = n - 1 - k by omega]
          rw [e3, Sk_add, Sk_mul, Sk_Sh] at q1
          rw [strip_getD, fn_sum, strip_getD, fn_prod]
          show fn u t + pf pl [c] t + Sh (Sk k (Ex (f.drop (k + 1)))) t = _
          rw [pf_num, fp]
          have q2 : fn u t + (c * Sk k (Tn (n - 1 - k)) t + Sh (Sk k (Ex (f.drop (k + 1)))) t) = Ex f t := q1
          omega
        · refine Nat.le_trans (strip_len _) ?_
          simp only [sumF, List.length_map, List.length_range]
          omega
    · rintro σ H' ⟨fo, he, u, h, v3, v4, v5, v6, rfl, sH, eu, eh, fh, lh, inv, su, lu⟩
      refine ⟨.ref fo, rfl, q fo u H' sH eu su ?_⟩
      funext t
      have q1 := inv t
      rw [List.length_map, List.drop_length] at q1
      have z : ∀ k t, Sk k (Ex []) t = 0 := by
        intro k
        induction k with
        | zero => intro t; rfl
        | succ k ih =>
          intro t
          cases t with
          | zero => rfl
          | succ t => exact ih t
      rw [z, Int.add_zero] at q1
      exact q1
end
end Z

set_option Elab.async false
set_option linter.all false
set_option maxRecDepth 100000
set_option maxHeartbeats 4000000
set_option exponentiation.threshold 20000
namespace Z
open PySem PySem.Spec PyProof.Rows L2 GG M3
abbrev sLaw : Stmt := top 18
theorem lay_ints (ns : List Int) : (PyData.tuple (ns.map PyData.int)).canLay0 = true := by
  show PyData.canLayAll0 _ = true
  induction ns with
  | nil => rfl
  | cons n r ih =>
    have e : (PyData.int n).canLay0 = true := rfl
    simp [PyData.canLayAll0, e, ih]
theorem shaped_ints (ns : List Int) : SeqAt.shaped (.tuple (ns.map PyData.int)) = true := by
  have d : PyData.depthAll (ns.map PyData.int) = 0 := by
    induction ns with
    | nil => rfl
    | cons n r ih => simp [PyData.depthAll, PyData.depth, ih]
  unfold SeqAt.shaped
  rw [lay_ints, Bool.true_and]
  simp [PyData.depth, d]
theorem eqv_ints (ns : List Int) : PyData.eqv (.tuple (ns.map PyData.int)) (.tuple (ns.map PyData.int)) = true := SeqAt.eqv_refl _ (lay_ints ns)
theorem dp_ints {K : PySem.W.Frag} {H : Hp} {t : Addr} {ns : List Int} (h : SqT K H t (ns.map V.int)) : Dp K H (.ref t) (.tuple (ns.map PyData.int)) := .tup h (dpInts ns)
theorem shows_row {ns : List Int} {k : Nat} (h : ∀ t, (fn ns t).natAbs ≤ 2 ^ k) (hk : k ≤ 1000) (hl : ns.length ≤ 100) : Shows (.tuple (ns.map PyData.int)) 50 8000 := by
  refine (shows_ints fun z hz => ?_).mono (by decide) (by omega)
  obtain ⟨i, hi, e⟩ := List.getElem_of_mem hz
  have := h i
  unfold fn at this
  rw [List.getD_eq_getElem?_getD, List.getElem?_eq_getElem hi] at this
  have h2 : z.natAbs ≤ 2 ^ k := by rw [← e]; exact this
  exact Nat.lt_of_lt_of_le (PySem.Flt.log2_lt_of (k := k + 1) (by omega) (Nat.lt_of_le_of_lt h2 (Nat.pow_lt_pow_right (by decide) (by omega)))) (by omega)
theorem named1 {K : PySem.W.Frag} {x qual : Str} {st : Stmt} {f : Addr} {fd : FuncData} {a : Str} (F : Fun K x qual st f fd)
    (h : ∀ (kV doc pm : Value) (an : Option Addr) (cd ct u : Value), bindArgs (PySem.W.fnOf x qual (defArgs st) (defBody st) (defScope st) .none kV doc pm an cd ct) ⟨[], [(a, u)]⟩ = pure [(a, u)]) :
    KBn K fd [a] 0 [a] (fun _ ws => ws) (fun _ zs => zs) := by
  obtain ⟨oc, od, kV, doc, pm, an, cd, ct, slots, rfl, found, code⟩ := F.ex
  refine ⟨fun s us ws _ l0 l2 => ?_, fun _ r => r⟩
  match us, ws, l0, l2 with
  | [], [u], _, _ => exact .of_eq (h kV doc pm an cd ct u)
/-! sizes -/
theorem rz_le {x : List Int} {M : Nat} (h : Le M (fn x)) : Le (2 * M) (fn (rz 1 x)) := fun t => by
  unfold rz
  rw [zp_get _ _ _ (by simp), fn_snoc0, fn_cons0]
  have h1 := h t
  have h2 := h.sh t
  show (fn x t + 1 * Sh (fn x) t).natAbs ≤ _
  omega
theorem al_le {x : List Int} {M C : Nat} (hx : x ≠ []) {c : Int} (h : Le M (fn x)) (hc : c.natAbs ≤ C) : Le (M + C) (fn (al x c)) := fun t => by
  rw [fn_al hx]
  have h1 := h t
  show (fn x t + c * Sn (x.length - 1) t).natAbs ≤ _
  rw [Sn_at]
  split <;> omega
theorem toF_le {f : List Int} (hf : Bd (2 ^ 101) f) : ∀ k, Le (3 ^ k * 2 ^ 101) (fn (toF f k))
  | 0 => fun t => Nat.zero_le _
  | k + 1 => fun t => by
    have h1 := al_le (rz_ne 1 (toF f k)) (rz_le (toF_le hf k)) (hf k) t
    refine Nat.le_trans h1 ?_
    have h2 : 1 ≤ 3 ^ k := Nat.one_le_pow _ _ (by decide)
    have h3 : 3 ^ (k + 1) = 3 * 3 ^ k := Nat.pow_succ'
    have h4 : 1 * 2 ^ 101 ≤ 3 ^ k * 2 ^ 101 := Nat.mul_le_mul_right _ h2
    rw [h3, Nat.mul_assoc]
    omega
theorem Ex_le {M L : Nat} : ∀ (f : List Int), (∀ c ∈ f, c.natAbs ≤ M) → f.length ≤ L → Le (f.length * (M * 2 ^ L)) (Ex f)
  | [], _, _ => fun t => Nat.zero_le _
  | c :: r, h, hl => fun t => by
    rw [List.length_cons] at hl
    have ih := (Ex_le (L := L) r (fun c hc => h c (List.mem_cons_of_mem _ hc)) (by omega)).sh t
    have hc := h c List.mem_cons_self
    have h1 := Tn_le r.length t
    have h2 : 2 ^ r.length ≤ 2 ^ L := Nat.pow_le_pow_right (by decide) (by omega)
    have h3 : (c * Tn r.length t).natAbs ≤ M * 2 ^ L := by
      rw [Int.natAbs_mul]
      exact Nat.mul_le_mul hc (Nat.le_trans h1 h2)
    have h4 := Int.natAbs_add_le (c * Tn r.length t) (Sh (Ex r) t)
    show (c * Tn r.length t + Sh (Ex r) t).natAbs ≤ (r.length + 1) * (M * 2 ^ L)
    rw [Nat.add_mul, Nat.one_mul]
    omega
theorem to_is {f : List Int} {n : Nat} (h : f.length ≤ n + 1) : Ex (toF f (n + 1)) = fn f := by
  rw [toF_ex]
  funext t
  show (if t < n + 1 then f.getD t 0 else 0) = f.getD t 0
  by_cases lt : t < n + 1
  · rw [if_pos lt]
  · rw [if_neg lt, getD_out (by omega)]
theorem from_is (f : List Int) : fn (strip (fromK f f.length)) = Ex f := by
  rw [strip_getD, fromK_fn f _ (Nat.le_refl _), List.take_length]
section
variable {P : Program} {w : World} {K : PySem.W.Frag} {mg : Str → Option Value} {base : Heap}
def spLaw (K : PySem.W.Frag) : Sp := fun vs H Q _ => ∃ (a : Addr) (ns : List Int), vs = [.ref a] ∧ SqL K H a (ns.map V.int) ∧ ns.length ≤ 63 ∧ ∀ H', Q (.bl true) H'
theorem scLaw : FnScope ["script", "pen", "turn", "poly", "target", "form_n", "higher", "between", "any_heap", "k"] ["script"] (defScope sLaw) := ⟨rfl, rfl, rfl, by decide +kernel, rfl, by decide +kernel, by decide +kernel⟩
theorem pick3 {d : Int} (d0 : 0 ≤ d) (d1 : d < 3) : ∃ z : Int, atI [V.int 2, V.int 50, V.int (10 ^ 30)] d = some (.int z) ∧ 0 < z ∧ z.natAbs < 2 ^ 101 := by
  rcases (show d = 0 ∨ d = 1 ∨ d = 2 by omega) with rfl | rfl | rfl
  · exact ⟨2, rfl, by decide, by decide⟩
  · exact ⟨50, rfl, by decide, by decide⟩
  · exact ⟨10 ^ 30, rfl, by decide, by decide⟩
theorem ok_law {f fP fD fY fT fI fX fR fH fF fM : Addr} {fd dP dD dY dT dI dX dR dH dF dM : FuncData} (F : Fun K "law" "law" sLaw f fd) (T : Names8 mg)
    (GP : FnOk P w K mg base CX0 1 fP dP ["script"] (spPen K)) (P1 : Def K mg "_law_pen" fP dP ["script"])
    (GD : FnOk P w K mg base CX0 2 fD dD ["pen", "many"] spDraw) (P2 : Def K mg "_law_draw" fD dD ["pen", "many"])
    (GY : FnOk P w K mg base CX0 3 fY dY ["pen", "many", "size"] spPoly) (P3 : Def K mg "_law_polynomial" fY dY ["pen", "many", "size"])
    (GT : FnOk P w K mg base CX0 2 fT dT ["polynomial", "degree"] (spTo K)) (P4 : Def K mg "to_form" fT dT ["polynomial", "degree"])
    (kT : KBn K dT ["polynomial", "degree"] 0 ["degree", "polynomial"] (fun _ ws => turned ws) (fun _ zs => turned zs))
    (GI : FnOk P w K mg base CX0 1 fI dI ["found", "many"] (spIs K)) (P5 : Def K mg "_law_is_form" fI dI ["found", "many"])
    (GX : FnOk P w K mg base CX0 3 fX dX ["form_n"] (spExp K)) (P6 : Def K mg "_law_expand" fX dX ["form_n"])
    (GR : FnOk P w K mg base CX0 1 fR dR ["form"] (spRaise K)) (P7 : Def K mg "raise_degree" fR dR ["form"]) (kR : KBn K dR ["form"] 0 ["form"] (fun _ ws => ws) (fun _ zs => zs))
    (GH : FnOk P w K mg base CX0 1 fH dH ["form"] (spHt K)) (P8 : Def K mg "multiply_by_ht" fH dH ["form"]) (kH : KBn K dH ["form"] 0 ["form"] (fun _ ws => ws) (fun _ zs => zs))
    (GF : FnOk P w K mg base CX0 2 fF dF ["form"] (spFrom K)) (P9 : Def K mg "from_form" fF dF ["form"]) (kF : KBn K dF ["form"] 0 ["form"] (fun _ ws => ws) (fun _ zs => zs))
    (GM : FnOk P w K mg base CX0 2 fM dM ["one", "other"] (spProd K)) (PM : Def K mg "_law_product" fM dM ["one", "other"]) :
    FnG P w K mg base 4 f fd ["script"] (spLaw K) := by
  refine fnG_of F scLaw (fun vs H Q E h => ?_) (fun cdv A outer s H vs Q E hg hr h => ?_)
  · obtain ⟨a, ns, rfl, _⟩ := h
    rfl
  · obtain ⟨a, ns, rfl, hS, hlen, q⟩ := h
    have hu : A.units + 3 + 64 < cLine := hr.units
    have cr := call_repr (X := (cxOf CX0 P w K mg base ["script", "pen", "turn", "poly", "target", "form_n", "higher", "between", "any_heap", "k"] "law" (defScope sLaw) f cdv A outer s H E).nox) hg hr
    refine ⟨_, (pss_cons (ps_set (i := 1) scLaw.nd rfl (.inr rfl) (pe_call GP (hr.mono (by decide)) (by rfl) P1.is P1.kp P1.bi .nil pass0 (pa_cons (pv 0) pa_nil)))
      (pss_cons (ps_for PassesOwn.never rfl (pi_range1 rfl T.range (pa_cons pe_int pa_nil)) (pg_name (i := 2) scLaw.nd rfl (.inl rfl)) (pss_cons (ps_set (i := 3) scLaw.nd rfl (.inl rfl) (pe_call GY (hr.mono (by decide)) (by rfl) P3.is P3.kp P3.bi .nil pass0 (pa_cons (pv 1) (pa_cons pe_int (pa_cons (pe_ix ix_list (pe_lst (pa_cons pe_int (pa_cons pe_int (pa_cons (pe_op op_pow pe_int pe_int) pa_nil)))) (pe_call GD (hr.mono (by decide)) (by rfl) P2.is P2.kp P2.bi .nil pass0 (pa_cons (pv 1) (pa_cons pe_int pa_nil))) (fun _ _ => rfl)) pa_nil)))))
      (pss_cons (ps_set (i := 4) scLaw.nd rfl (.inl rfl) (pe_op op_add (pe_callB (max_is rfl) (by rfl) T.max (by decide +kernel) (pa_cons pe_int (pa_cons (pe_op op_sub (pe_callB call_len_seq (by rfl) T.len PySem.boot_len (pa_cons (pv 3) pa_nil)) pe_int) pa_nil))) (pe_call GD (hr.mono (by decide)) (by rfl) P2.is P2.kp P2.bi .nil pass0 (pa_cons (pv 1) (pa_cons pe_int pa_nil)))))
      (pss_cons (ps_set (i := 5) scLaw.nd rfl (.inl rfl) (pe_call GT (hr.mono (by decide)) (by rfl) P4.is P4.kp P4.bi .nil pass0 (pa_cons (pv 3) (pa_cons (pv 4) pa_nil))))
      (pss_cons (ps_if (PW.pt (pw_or (pt_not (pt_val (pe_call GI (hr.mono (by decide)) (by rfl) P5.is P5.kp P5.bi .nil pass0 (pa_cons (pv 5) (pa_cons (pe_op op_add (pv 4) pe_int) pa_nil))))) (pw_or1 (pt_cmpR (op_neD hu) (pe_call GX (hr.mono (by decide)) (by rfl) P6.is P6.kp P6.bi .nil pass0 (pa_cons (pv 5) pa_nil)) (pv 3) (nomark _))))) (pss_one (ps_ret pe_bl)) pss_nil)
      (pss_cons (ps_par (i := 6) (j := 7) (by rfl) scLaw.nd rfl rfl (by decide) rfl rfl (pa_cons (pe_call GR (hr.mono (by decide)) (by rfl) P7.is P7.kp P7.bi .nil pass0 (pa_cons (pv 5) pa_nil)) (pa_cons (pe_call GH (hr.mono (by decide)) (by rfl) P8.is P8.kp P8.bi .nil pass0 (pa_cons (pv 5) pa_nil)) pa_nil)) (by rfl))
      (pss_cons (ps_if (PW.pt (pw_or (pt_not (pt_val (pe_call GI (hr.mono (by decide)) (by rfl) P5.is P5.kp P5.bi .nil pass0 (pa_cons (pv 6) (pa_cons (pe_op op_add (pv 4) pe_int) pa_nil))))) (pw_or1 (pt_cmpR (op_neD hu) (pe_call GX (hr.mono (by decide)) (by rfl) P6.is P6.kp P6.bi .nil pass0 (pa_cons (pv 6) pa_nil)) (pv 3) (nomark _))))) (pss_one (ps_ret pe_bl)) pss_nil)
      (pss_cons (ps_if (PW.pt (pw_or (pt_not (pt_val (pe_call GI (hr.mono (by decide)) (by rfl) P5.is P5.kp P5.bi .nil pass0 (pa_cons (pv 7) (pa_cons (pe_op op_add (pv 4) pe_int) pa_nil))))) (pw_or1 (pt_cmpR (op_neD hu) (pe_call GX (hr.mono (by decide)) (by rfl) P6.is P6.kp P6.bi .nil pass0 (pa_cons (pv 7) pa_nil)) (pe_call GM (hr.mono (by decide)) (by rfl) PM.is PM.kp PM.bi .nil pass0 (pa_cons (pv 3) (pa_cons (pe_tup (pa_cons pe_int (pa_cons pe_int (pa_cons (pe_un un_neg pe_int) pa_nil)))) pa_nil))) (nomark _))))) (pss_one (ps_ret pe_bl)) pss_nil)
      (pss_cons (ps_if (PW.pt (pw_or (pt_cmpR op_ne (pe_callB cr (by rfl) T.repr (by decide +kernel) (pa_cons (pe_call GF (hr.mono (by decide)) (by rfl) P9.is P9.kp P9.bi .nil pass0 (pa_cons (pv 5) pa_nil)) pa_nil)) (pe_callB cr (by rfl) T.repr (by decide +kernel) (pa_cons (pv 3) pa_nil)) (nomark _)) (pw_or1 (pt_cmpR op_ne (pe_callB cr (by rfl) T.repr (by decide +kernel) (pa_cons (pe_call GF (hr.mono (by decide)) (by rfl) P9.is P9.kp P9.bi .nil pass0 (pa_cons (pv 6) pa_nil)) pa_nil)) (pe_callB cr (by rfl) T.repr (by decide +kernel) (pa_cons (pv 3) pa_nil)) (nomark _))))) (pss_one (ps_ret pe_bl)) pss_nil)
      (pss_cons (ps_if (PW.pt (pw_or (pt_cmpR (op_neD hu) (pe_named GT (hr.mono (by decide)) (by rfl) P4.is P4.kp kT pass0 (pk_cons (pv 4) (pk_cons (pv 3) pk_nil))) (pv 5) (nomark _)) (pw_or1 (pt_cmpR (op_neD hu) (pe_named GR (hr.mono (by decide)) (by rfl) P7.is P7.kp kR pass0 (pk_cons (pv 5) pk_nil)) (pv 6) (nomark _))))) (pss_one (ps_ret pe_bl)) pss_nil)
      (pss_cons (ps_if (pt_cmpR (op_neD hu) (pe_named GH (hr.mono (by decide)) (by rfl) P8.is P8.kp kH pass0 (pk_cons (pv 5) pk_nil)) (pv 7) (nomark _)) (pss_one (ps_ret pe_bl)) pss_nil)
      (pss_cons (ps_set (i := 8) scLaw.nd rfl (.inl rfl) (pe_callTy call_tuple_of (by rfl) T.tuple (by decide +kernel) (pa_cons (pe_lc (own := [("k", 9)]) (g := gName 9) (tt := tYes) rfl scLaw.nd (pi_range1 rfl T.range (pa_cons (pe_op op_add pe_int (pe_call GD (hr.mono (by decide)) (by rfl) P2.is P2.kp P2.bi .nil pass0 (pa_cons (pv 1) (pa_cons pe_int pa_nil)))) pa_nil)) (blkOk_by (N := ["script", "pen", "turn", "poly", "target", "form_n", "higher", "between", "any_heap", "k"]) (sc := defScope sLaw) (own := [("k", 9)]) (by decide +kernel)) (fun _ _ _ _ _ => (pg_name (i := 9) scLaw.nd rfl (.inl rfl))) (fun _ _ _ _ _ => pts_nil) (fun _ _ _ _ _ => (pe_op op_sub (pe_call GD (hr.mono (by decide)) (by rfl) P2.is P2.kp P2.bi .nil pass0 (pa_cons (pv 1) (pa_cons pe_int pa_nil))) pe_int))) pa_nil)))
      (pss_one (ps_if (pt_cmpR op_ne (pe_callB cr (by rfl) T.repr (by decide +kernel) (pa_cons (pe_named GF (hr.mono (by decide)) (by rfl) P9.is P9.kp kF pass0 (pk_cons (pv 8) pk_nil)) pa_nil)) (pe_callB cr (by rfl) T.repr (by decide +kernel) (pa_cons (pe_call GX (hr.mono (by decide)) (by rfl) P6.is P6.kp P6.bi .nil pass0 (pa_cons (pv 8) pa_nil)) pa_nil)) (nomark _)) (pss_one (ps_ret pe_bl)) pss_nil))))))))))))))
      (pss_one (ps_ret pe_bl)))), ?_⟩
    refine ⟨.ref a, rfl, a, ns, rfl, hS, hlen, fun p l H1 s1 np nl p1 => ?_⟩
    refine ⟨4, rfl, by decide, by decide, for_range (lo := 0) (n := 4) (fun i σ H' => ∃ v2 v3 v4 v5 v6 v7 v8 : Option V, σ = [some (V.ref a), some (V.ref p), v2, v3, v4, v5, v6, v7, v8, none] ∧ Pen H' p l) ⟨none, none, none, none, none, none, none, rfl, p1⟩ ?_ ?_⟩
    · rintro i σ H' hi ⟨v2, v3, v4, v5, v6, v7, v8, rfl, pn⟩
      -- poly
      refine ⟨.ref p, rfl, _, _, rfl, rfl, ⟨by decide, by decide, by decide⟩, by show 3 ≤ sizeLine; decide, fun e ne => ?_⟩
      have eE : upd H' e (.lst [.int 2, .int 50, .int (10 ^ 30)]) e = some (.lst [.int 2, .int 50, .int (10 ^ 30)]) := upd_same
      have pn2 := pn.same (Same.upd (o := .lst [.int 2, .int 50, .int (10 ^ 30)]) ne)
      have nep := (pn.apart ne).1
      change (_ : Hp → Prop) (upd H' e (.lst [.int 2, .int 50, .int (10 ^ 30)]))
      generalize upd H' e (.lst [.int 2, .int 50, .int (10 ^ 30)]) = H2 at eE pn2 ⊢
      refine ⟨.ref p, rfl, p, l, 3, rfl, pn2, by decide, by decide +kernel, fun d H3 d0 d1 b3 p3 => ?_⟩
      obtain ⟨z, hz, z0, z1⟩ := pick3 d0 d1
      refine ⟨e, _, d, .int z, rfl, rfl, SqL.of (b3.mem nep eE), hz, p, l, 7, z, rfl, p3, by decide, by decide, z0, z1, fun r f H4 lf bf sf b4 nr er p4 => ?_⟩
      -- target
      refine ⟨.ref r, rfl, r, _, rfl, .inr (tup_of er), _, _, rfl, rfl, _, _, ((f.length - 1 : Nat) : Int), rfl, ?_, .ref p, rfl, p, l, 5, rfl, p4, by decide, by decide +kernel, fun d2 H5 w0 w1 b5 p5 => ?_⟩
      · rw [List.length_map]
        split <;> omega
      obtain ⟨n, en⟩ : ∃ n : Nat, ((f.length - 1 : Nat) : Int) + d2 = (n : Int) := ⟨_, (Int.toNat_of_nonneg (by omega)).symm⟩
      refine ⟨_, _, rfl, rfl, ?_⟩
      dsimp only
      rw [en]
      have er5 := b5.mem (p4.notTup er) er
      have hn10 : n ≤ 10 := by omega
      have hfn : f.length ≤ n + 1 := by omega
      clear hz eE
      -- form_n
      refine ⟨.ref r, rfl, _, rfl, r, f, n, rfl, tup_of er5, by omega, fun fo F6 H6 s6 nf ef hF => ?_⟩
      have lF : F6.length = n + 1 := by rw [hF, toF_len]
      have xF : Ex F6 = fn f := by rw [hF]; exact to_is hfn
      have bF : Le (2 ^ 121) (fn F6) := by
        have p3 : 3 ^ (n + 1) ≤ 2 ^ 20 := Nat.le_trans (Nat.pow_le_pow_right (by decide) (show n + 1 ≤ 11 by omega)) (by decide)
        intro t
        rw [hF]
        refine Nat.le_trans (toF_le bf _ t) (Nat.le_trans (Nat.mul_le_mul_right _ p3) (by decide))
      have big : 2 ^ 121 ≤ 2 ^ 150 := Nat.pow_le_pow_right (by decide) (by decide)
      have big2 : 2 * 2 ^ 121 ≤ 2 ^ 150 := by decide
      have p6 := p5.same s6
      have er6 := s6 _ _ er5
      -- is it a form of the row
      refine ⟨.ref fo, rfl, _, rfl, _, _, rfl, rfl, fo, F6, by rw [lF]; rfl, ef, by omega, fun H7 s7 => ⟨true, rfl, iteF ?_⟩⟩
      refine ⟨.ref fo, rfl, fo, F6, rfl, tup_of (s7 _ _ ef), by omega, fun t => Nat.le_trans (bF t) big, fun u1 U H8 s8 eu su fu => ?_⟩
      have hU : U = f := row_ext su sf (by rw [fu, xF])
      rw [hU] at eu
      have s78 := s7.trans s8
      refine ⟨.ref r, rfl, _, _, dp_ints (tup_of eu), dp_ints (tup_of (s78 _ _ er6)), shaped_ints _, shaped_ints _, _, rfl, ?_⟩
      rw [eqv_ints]
      refine iteF ?_
      have er8 := s78 _ _ er6
      have ef8 := s78 _ _ ef
      have p8 := p6.same s78
      clear eu su fu hU s7 s8
      -- higher, between
      refine ⟨.ref fo, rfl, fo, F6, rfl, tup_of ef8, by omega, fun hi_ H9 s9 nh eh => ?_⟩
      refine ⟨.ref fo, rfl, fo, F6, rfl, tup_of (s9 _ _ ef8), by omega, fun bt H10 s10 nb eb => ⟨_, _, rfl, ?_⟩⟩
      have s910 := s9.trans s10
      have er10 := s910 _ _ er8
      have ef10 := s910 _ _ ef8
      have eh10 := s10 _ _ eh
      have p10 := p8.same s910
      clear eh
      have lR : (rz 1 F6).length = n + 2 := by rw [rz_len, lF]
      have xR : Ex (rz 1 F6) = fn f := by rw [Ex_rz, xF]
      have bR : Le (2 ^ 150) (fn (rz 1 F6)) := fun t => Nat.le_trans (rz_le bF t) big2
      have lG : (0 :: (F6 ++ [0])).length = n + 3 := by
        rw [List.length_cons, List.length_append, lF]
        rfl
      have xG : Ex (0 :: (F6 ++ [0])) = Sh (Tl (fn f)) := by rw [Ex_ht, xF]
      have bG : Le (2 ^ 150) (fn (0 :: (F6 ++ [0]))) := by
        rw [fn_cons0, fn_snoc0]
        exact fun t => Nat.le_trans (bF.sh t) big
      generalize hR : rz 1 F6 = R6 at *
      generalize hG : 0 :: (F6 ++ [0]) = G6 at *
      refine ⟨.ref hi_, rfl, _, rfl, _, _, rfl, rfl, hi_, R6, by rw [lR]; rfl, eh10, by omega, fun H11 s11 => ⟨true, rfl, iteF ?_⟩⟩
      refine ⟨.ref hi_, rfl, hi_, R6, rfl, tup_of (s11 _ _ eh10), by omega, bR, fun u2 U H12 s12 eu su fu => ?_⟩
      have hU : U = f := row_ext su sf (by rw [fu, xR])
      rw [hU] at eu
      have s112 := s11.trans s12
      refine ⟨.ref r, rfl, _, _, dp_ints (tup_of eu), dp_ints (tup_of (s112 _ _ er10)), shaped_ints _, shaped_ints _, _, rfl, ?_⟩
      rw [eqv_ints]
      refine iteF ?_
      have er12 := s112 _ _ er10
      have ef12 := s112 _ _ ef10
      have eh12 := s112 _ _ eh10
      have eb12 := s112 _ _ eb
      have p12 := p10.same s112
      clear eu su fu hU s11 s12
      -- between
      refine ⟨.ref bt, rfl, _, rfl, _, _, rfl, rfl, bt, G6, by rw [lG]; rfl, eb12, by omega, fun H13 s13 => ⟨true, rfl, iteF ?_⟩⟩
      refine ⟨.ref bt, rfl, bt, G6, rfl, tup_of (s13 _ _ eb12), by omega, bG, fun u3 U H14 s14 eu su fu => ?_⟩
      refine ⟨.ref r, rfl, 1, rfl, by show 3 ≤ sizeLine; decide, fun t3 nt3 => ?_⟩
      have s15 := Same.upd (o := .tup [.int 0, .int 1, .int (-1)]) nt3
      have s135 := (s13.trans s14).trans s15
      refine ⟨r, t3, f, [0, 1, -1], rfl, tup_of (s135 _ _ er12), tup_of upd_same, by omega, by decide, fun t => Nat.le_trans (bf t) (Nat.pow_le_pow_right (by decide) (by decide)), bd_of (by decide), fun p3_ H16 s16 np3 ep3 => ?_⟩
      have hU : U = strip (prod f [0, 1, -1]) := row_ext su (strip_strip _) (by
        rw [fu, xG, strip_getD, fn_prod]
        funext t
        rw [pf_ht])
      rw [hU] at eu
      refine ⟨_, _, dp_ints (tup_of (s16 _ _ (s15 _ _ eu))), dp_ints (tup_of ep3), shaped_ints _, shaped_ints _, _, rfl, ?_⟩
      rw [eqv_ints]
      refine iteF ?_
      have s136 := s135.trans s16
      have er16 := s136 _ _ er12
      have ef16 := s136 _ _ ef12
      have eh16 := s136 _ _ eh12
      have eb16 := s136 _ _ eb12
      have p16 := p12.same s136
      clear eu su fu hU s13 s14 s15 s16 ep3
      -- from_form
      have shf : Shows (.tuple (f.map PyData.int)) 50 8000 := shows_row (k := 101) bf (by decide) (by omega)
      have k1 : strip (fromK F6 F6.length) = f := row_ext (strip_strip _) sf (by rw [from_is, xF])
      have k2 : strip (fromK R6 R6.length) = f := row_ext (strip_strip _) sf (by rw [from_is, xR])
      refine ⟨.ref fo, rfl, fo, F6, rfl, tup_of ef16, by omega, fun q1 H17 s17 hq1 => ?_⟩
      rw [k1] at hq1
      refine ⟨q1, _, rfl, dp_ints hq1, shf, .ref r, rfl, r, _, rfl, dp_ints (tup_of (s17 _ _ er16)), shf, rfl, _, rfl, iteNS rfl ?_⟩
      refine ⟨.ref hi_, rfl, hi_, R6, rfl, tup_of (s17 _ _ eh16), by omega, fun q2 H18 s18 hq2 => ?_⟩
      rw [k2] at hq2
      have s178 := s17.trans s18
      refine ⟨q2, _, rfl, dp_ints hq2, shf, .ref r, rfl, r, _, rfl, dp_ints (tup_of (s178 _ _ er16)), shf, rfl, _, rfl, iteNS rfl ?_⟩
      have er18 := s178 _ _ er16
      have ef18 := s178 _ _ ef16
      have eh18 := s178 _ _ eh16
      have eb18 := s178 _ _ eb16
      have p18 := p16.same s178
      clear hq1 hq2 s17 s18
      -- by names
      refine ⟨_, rfl, .ref r, rfl, rfl, r, f, n, rfl, tup_of er18, by omega, fun fo2 F2 H19 s19 nf2 ef2 hF2 => ?_⟩
      have e26 : F2 = F6 := hF2.trans hF.symm
      rw [e26] at ef2
      refine ⟨.ref fo, rfl, _, _, dp_ints (tup_of ef2), dp_ints (tup_of (s19 _ _ ef18)), shaped_ints _, shaped_ints _, _, rfl, ?_⟩
      rw [eqv_ints]
      refine iteF ?_
      refine ⟨.ref fo, rfl, rfl, fo, F6, rfl, tup_of (s19 _ _ ef18), by omega, fun h2 H20 s20 nh2 eh2 => ?_⟩
      rw [hR] at eh2
      have s190 := s19.trans s20
      refine ⟨.ref hi_, rfl, _, _, dp_ints (tup_of eh2), dp_ints (tup_of (s190 _ _ eh18)), shaped_ints _, shaped_ints _, _, rfl, ?_⟩
      rw [eqv_ints]
      refine iteF ?_
      refine ⟨.ref fo, rfl, rfl, fo, F6, rfl, tup_of (s190 _ _ ef18), by omega, fun b2_ H21 s21 nb2 eb2 => ?_⟩
      rw [hG] at eb2
      have s191 := s190.trans s21
      refine ⟨.ref bt, rfl, _, _, dp_ints (tup_of eb2), dp_ints (tup_of (s191 _ _ eb18)), shaped_ints _, shaped_ints _, _, rfl, ?_⟩
      rw [eqv_ints]
      refine iteF ?_
      have p21 := p18.same s191
      clear ef2 eh2 eb2 er18 ef18 eh18 eb18 s19 s20 s21
      -- any heap
      refine ⟨.ref p, rfl, p, l, 6, rfl, p21, by decide, by decide +kernel, fun d6 H22 y0 y1 b22 p22 => ⟨_, _, rfl, rfl, _, rfl, by omega, by omega, fun D nD => ?_⟩⟩
      have aD := p22.apart nD
      refine lc_range (lo := 0) (n := (1 + d6).toNat) (fun i Hx => ∃ ms : List Int, Hx D = some (.lst (ms.map V.int)) ∧ ms.length = i ∧ (∀ x ∈ ms, x.natAbs ≤ 4) ∧ Pen Hx p l) ⟨[], upd_same, rfl, (by simp), p22.same (Same.upd nD)⟩ ?_ ?_
      · rintro i H23 hi ⟨ms, hD, hm, hc, p23⟩
        refine ⟨rfl, ?_⟩
        dsimp only [tYes]
        refine iteT ?_
        refine ⟨.ref p, rfl, p, l, 9, rfl, p23, by decide, by decide +kernel, fun c H24 c0 c1 b24 p24 => ⟨_, _, rfl, rfl, ms.map V.int, b24.mem aD.1 hD, by rw [List.length_map]; exact small1000 (by omega), ms ++ [c - 4], ?_, by simp [hm], ?_, ?_⟩⟩
        · rw [upd_same, List.map_append]
          rfl
        · intro x hx
          rcases List.mem_append.mp hx with hx | hx
          · exact hc x hx
          · rw [List.mem_singleton.mp hx]
            omega
        · obtain ⟨cs, pos, val, h1, h2, h3⟩ := p24
          exact ⟨cs, pos, val, by rw [upd_ne aD.1.symm]; exact h1, by rw [upd_ne aD.2.symm]; exact h2, h3⟩
      rintro H23 ⟨ms, hD, hm, hc, p23⟩
      refine ⟨D, _, rfl, .inl ⟨SqL.of hD, fun t nt => ?_⟩⟩
      have p24 := p23.same (Same.upd (o := .tup (ms.map V.int)) nt)
      have et : upd H23 t (.tup (ms.map V.int)) t = some (.tup (ms.map V.int)) := upd_same
      change (_ : Hp → Prop) (upd H23 t (.tup (ms.map V.int)))
      generalize upd H23 t (.tup (ms.map V.int)) = H24 at p24 et ⊢
      have lm : ms.length ≤ 6 := by omega
      have xm : Le (2 ^ 20) (Ex ms) := fun t => by
        have h1 := Ex_le (L := 6) ms hc lm t
        have h2 : ms.length * (4 * 2 ^ 6) ≤ 6 * (4 * 2 ^ 6) := Nat.mul_le_mul_right _ lm
        exact Nat.le_trans h1 (Nat.le_trans h2 (by decide))
      have shm : Shows (.tuple ((strip (fromK ms ms.length)).map PyData.int)) 50 8000 := shows_row (k := 20) (fun t => by rw [from_is]; exact xm t) (by decide) (by
        have := strip_len (fromK ms ms.length)
        rw [fromK_len] at this
        omega)
      refine ⟨.ref t, rfl, rfl, t, ms, rfl, tup_of et, by omega, fun q3 H25 s25 hq3 => ?_⟩
      refine ⟨q3, _, rfl, dp_ints hq3, shm, .ref t, rfl, t, ms, rfl, tup_of (s25 _ _ et), by omega, bd_of (fun z hz => Nat.le_trans (hc z hz) (by decide)), fun u5 U H26 s26 eu su fu => ?_⟩
      have hU : U = strip (fromK ms ms.length) := row_ext su (strip_strip _) (fu.trans (from_is ms).symm)
      rw [hU] at eu
      refine ⟨u5, _, rfl, dp_ints (tup_of eu), shm, rfl, _, rfl, iteNS rfl ?_⟩
      exact ⟨_, _, _, _, _, _, _, rfl, (p24.same s25).same s26⟩
    · rintro σ H' ⟨v2, v3, v4, v5, v6, v7, v8, rfl, pn⟩
      exact q _
end
theorem all_mk {w : World} {K : PySem.W.Frag} {h : Heap} {mg : Str → Option Value} {fa f0 f1 f2 f3 f4 f5 f6 f7 f8 f9 f10 f11 f12 f13 f14 f15 : Addr} (X : K.In h) (G : h.Ns mainGlobals mg) (hfa : mg "law" = some (.ref fa))
    {od0 an0 od1 an1 od2 an2 od3 an3 od4 an4 od5 an5 od6 an6 od7 an7 od8 an8 od9 an9 od10 an10 od11 an11 od12 an12 od13 an13 od14 an14 od15 an15 : Option Addr} {sl0 sl1 sl2 sl3 sl4 sl5 sl6 sl7 sl8 sl9 sl10 sl11 sl12 sl13 sl14 sl15 : Array (Option Value)} {oc0 kV0 dc0 pm0 cd0 ct0 oc1 kV1 dc1 pm1 cd1 ct1 oc2 kV2 dc2 pm2 cd2 ct2 oc3 kV3 dc3 pm3 cd3 ct3 oc4 kV4 dc4 pm4 cd4 ct4 oc5 kV5 dc5 pm5 cd5 ct5 oc6 kV6 dc6 pm6 cd6 ct6 oc7 kV7 dc7 pm7 cd7 ct7 oc8 kV8 dc8 pm8 cd8 ct8 oc9 kV9 dc9 pm9 cd9 ct9 oc10 kV10 dc10 pm10 cd10 ct10 oc11 kV11 dc11 pm11 cd11 ct11 oc12 kV12 dc12 pm12 cd12 ct12 oc13 kV13 dc13 pm13 cd13 ct13 oc14 kV14 dc14 pm14 cd14 ct14 oc15 kV15 dc15 pm15 cd15 ct15 : Value}
    (a0 : PySem.W.nsIn K mainGlobals "_law_pen" = some (some (.ref f0))) (l0 : K.lookup f0 = some ⟨oc0, od0, .func (PySem.W.fnOf "_law_pen" "_law_pen" (defArgs sPen) (defBody sPen) (defScope sPen) .none kV0 dc0 pm0 an0 cd0 ct0), sl0⟩) (c0 : PySem.W.codeIn K cd0 "_law_pen" = true) (k0 : PySem.W.keepIn K (.ref f0) = true)
    (a1 : PySem.W.nsIn K mainGlobals "_law_fresh" = some (some (.ref f1))) (l1 : K.lookup f1 = some ⟨oc1, od1, .func (PySem.W.fnOf "_law_fresh" "_law_fresh" (defArgs sFresh) (defBody sFresh) (defScope sFresh) .none kV1 dc1 pm1 an1 cd1 ct1), sl1⟩) (c1 : PySem.W.codeIn K cd1 "_law_fresh" = true) (k1 : PySem.W.keepIn K (.ref f1) = true)
    (a2 : PySem.W.nsIn K mainGlobals "_law_draw" = some (some (.ref f2))) (l2 : K.lookup f2 = some ⟨oc2, od2, .func (PySem.W.fnOf "_law_draw" "_law_draw" (defArgs sDraw) (defBody sDraw) (defScope sDraw) .none kV2 dc2 pm2 an2 cd2 ct2), sl2⟩) (c2 : PySem.W.codeIn K cd2 "_law_draw" = true) (k2 : PySem.W.keepIn K (.ref f2) = true)
    (a3 : PySem.W.nsIn K mainGlobals "_law_strip" = some (some (.ref f3))) (l3 : K.lookup f3 = some ⟨oc3, od3, .func (PySem.W.fnOf "_law_strip" "_law_strip" (defArgs sStrip) (defBody sStrip) (defScope sStrip) .none kV3 dc3 pm3 an3 cd3 ct3), sl3⟩) (c3 : PySem.W.codeIn K cd3 "_law_strip" = true) (k3 : PySem.W.keepIn K (.ref f3) = true)
    (a4 : PySem.W.nsIn K mainGlobals "_law_polynomial" = some (some (.ref f4))) (l4 : K.lookup f4 = some ⟨oc4, od4, .func (PySem.W.fnOf "_law_polynomial" "_law_polynomial" (defArgs sPoly) (defBody sPoly) (defScope sPoly) .none kV4 dc4 pm4 an4 cd4 ct4), sl4⟩) (c4 : PySem.W.codeIn K cd4 "_law_polynomial" = true) (k4 : PySem.W.keepIn K (.ref f4) = true)
    (a5 : PySem.W.nsIn K mainGlobals "_law_add" = some (some (.ref f5))) (l5 : K.lookup f5 = some ⟨oc5, od5, .func (PySem.W.fnOf "_law_add" "_law_add" (defArgs sAdd) (defBody sAdd) (defScope sAdd) .none kV5 dc5 pm5 an5 cd5 ct5), sl5⟩) (c5 : PySem.W.codeIn K cd5 "_law_add" = true) (k5 : PySem.W.keepIn K (.ref f5) = true)
    (a6 : PySem.W.nsIn K mainGlobals "_law_product" = some (some (.ref f6))) (l6 : K.lookup f6 = some ⟨oc6, od6, .func (PySem.W.fnOf "_law_product" "_law_product" (defArgs sProd) (defBody sProd) (defScope sProd) .none kV6 dc6 pm6 an6 cd6 ct6), sl6⟩) (c6 : PySem.W.codeIn K cd6 "_law_product" = true) (k6 : PySem.W.keepIn K (.ref f6) = true)
    (a7 : PySem.W.nsIn K mainGlobals "_law_expand" = some (some (.ref f7))) (l7 : K.lookup f7 = some ⟨oc7, od7, .func (PySem.W.fnOf "_law_expand" "_law_expand" (defArgs sExp) (defBody sExp) (defScope sExp) .none kV7 dc7 pm7 an7 cd7 ct7), sl7⟩) (c7 : PySem.W.codeIn K cd7 "_law_expand" = true) (k7 : PySem.W.keepIn K (.ref f7) = true)
    (a8 : PySem.W.nsIn K mainGlobals "_law_is_form" = some (some (.ref f8))) (l8 : K.lookup f8 = some ⟨oc8, od8, .func (PySem.W.fnOf "_law_is_form" "_law_is_form" (defArgs sIs) (defBody sIs) (defScope sIs) .none kV8 dc8 pm8 an8 cd8 ct8), sl8⟩) (c8 : PySem.W.codeIn K cd8 "_law_is_form" = true) (k8 : PySem.W.keepIn K (.ref f8) = true)
    (a9 : PySem.W.nsIn K mainGlobals "trim_zeros" = some (some (.ref f9))) (l9 : K.lookup f9 = some ⟨oc9, od9, .func (PySem.W.fnOf "trim_zeros" "trim_zeros" (defArgs sTrim) (defBody sTrim) (defScope sTrim) .none kV9 dc9 pm9 an9 cd9 ct9), sl9⟩) (c9 : PySem.W.codeIn K cd9 "trim_zeros" = true) (k9 : PySem.W.keepIn K (.ref f9) = true)
    (a10 : PySem.W.nsIn K mainGlobals "add_to_last" = some (some (.ref f10))) (l10 : K.lookup f10 = some ⟨oc10, od10, .func (PySem.W.fnOf "add_to_last" "add_to_last" (defArgs sAtl) (defBody sAtl) (defScope sAtl) .none kV10 dc10 pm10 an10 cd10 ct10), sl10⟩) (c10 : PySem.W.codeIn K cd10 "add_to_last" = true) (k10 : PySem.W.keepIn K (.ref f10) = true)
    (a11 : PySem.W.nsIn K mainGlobals "raise_degree" = some (some (.ref f11))) (l11 : K.lookup f11 = some ⟨oc11, od11, .func (PySem.W.fnOf "raise_degree" "raise_degree" (defArgs sRaise) (defBody sRaise) (defScope sRaise) .none kV11 dc11 pm11 an11 cd11 ct11), sl11⟩) (c11 : PySem.W.codeIn K cd11 "raise_degree" = true) (k11 : PySem.W.keepIn K (.ref f11) = true)
    (a12 : PySem.W.nsIn K mainGlobals "multiply_by_ht" = some (some (.ref f12))) (l12 : K.lookup f12 = some ⟨oc12, od12, .func (PySem.W.fnOf "multiply_by_ht" "multiply_by_ht" (defArgs sHt) (defBody sHt) (defScope sHt) .none kV12 dc12 pm12 an12 cd12 ct12), sl12⟩) (c12 : PySem.W.codeIn K cd12 "multiply_by_ht" = true) (k12 : PySem.W.keepIn K (.ref f12) = true)
    (a13 : PySem.W.nsIn K mainGlobals "to_form" = some (some (.ref f13))) (l13 : K.lookup f13 = some ⟨oc13, od13, .func (PySem.W.fnOf "to_form" "to_form" (defArgs sTo) (defBody sTo) (defScope sTo) .none kV13 dc13 pm13 an13 cd13 ct13), sl13⟩) (c13 : PySem.W.codeIn K cd13 "to_form" = true) (k13 : PySem.W.keepIn K (.ref f13) = true)
    (a14 : PySem.W.nsIn K mainGlobals "from_form" = some (some (.ref f14))) (l14 : K.lookup f14 = some ⟨oc14, od14, .func (PySem.W.fnOf "from_form" "from_form" (defArgs sFrom) (defBody sFrom) (defScope sFrom) .none kV14 dc14 pm14 an14 cd14 ct14), sl14⟩) (c14 : PySem.W.codeIn K cd14 "from_form" = true) (k14 : PySem.W.keepIn K (.ref f14) = true)
    (a15 : PySem.W.nsIn K mainGlobals "law" = some (some (.ref f15))) (l15 : K.lookup f15 = some ⟨oc15, od15, .func (PySem.W.fnOf "law" "law" (defArgs sLaw) (defBody sLaw) (defScope sLaw) .none kV15 dc15 pm15 an15 cd15 ct15), sl15⟩) (c15 : PySem.W.codeIn K cd15 "law" = true) (k15 : PySem.W.keepIn K (.ref f15) = true)
    (z_list : PySem.W.nsIn K mainGlobals "list" = some none)
    (z_tuple : PySem.W.nsIn K mainGlobals "tuple" = some none)
    (z_len : PySem.W.nsIn K mainGlobals "len" = some none)
    (z_range : PySem.W.nsIn K mainGlobals "range" = some none)
    (z_max : PySem.W.nsIn K mainGlobals "max" = some none)
    (z_repr : PySem.W.nsIn K mainGlobals "repr" = some none)
    (z_int : PySem.W.nsIn K mainGlobals "int" = some none)
    (z_bool : PySem.W.nsIn K mainGlobals "bool" = some none)
    (z_enumerate : PySem.W.nsIn K mainGlobals "enumerate" = some none)
    (z_zip : PySem.W.nsIn K mainGlobals "zip" = some none)
    (z_isinstance : PySem.W.nsIn K mainGlobals "isinstance" = some none)
    (z_all : PySem.W.nsIn K mainGlobals "all" = some none)
    : ∃ fd : FuncData, (∀ (s : Shared) (v : Value), BindsTo s fd ⟨[v], []⟩ [("script", v)]) ∧ ∀ base : Heap, K.In base → base.Ns mainGlobals mg → FnG (PySem.Challenge.rw_bentcoin_k08_heaped_rows).prog w K mg base 4 fa fd ["script"] (spLaw K) := by
  have e := hfa.symm.trans (PySem.W.mg_of X G a15)
  cases e
  have F0 := fun_mk (st := sPen) l0 c0 k0
  have b0 := F0.binds (ps := ["script"]) fun _ _ _ _ _ _ us hl => match us, hl with | [_], _ => rfl
  have F1 := fun_mk (st := sFresh) l1 c1 k1
  have b1 := F1.binds (ps := ["pen"]) fun _ _ _ _ _ _ us hl => match us, hl with | [_], _ => rfl
  have F2 := fun_mk (st := sDraw) l2 c2 k2
  have b2 := F2.binds (ps := ["pen", "many"]) fun _ _ _ _ _ _ us hl => match us, hl with | [_, _], _ => rfl
  have F3 := fun_mk (st := sStrip) l3 c3 k3
  have b3 := F3.binds (ps := ["numbers"]) fun _ _ _ _ _ _ us hl => match us, hl with | [_], _ => rfl
  have F4 := fun_mk (st := sPoly) l4 c4 k4
  have b4 := F4.binds (ps := ["pen", "many", "size"]) fun _ _ _ _ _ _ us hl => match us, hl with | [_, _, _], _ => rfl
  have F5 := fun_mk (st := sAdd) l5 c5 k5
  have b5 := F5.binds (ps := ["one", "other"]) fun _ _ _ _ _ _ us hl => match us, hl with | [_, _], _ => rfl
  have F6 := fun_mk (st := sProd) l6 c6 k6
  have b6 := F6.binds (ps := ["one", "other"]) fun _ _ _ _ _ _ us hl => match us, hl with | [_, _], _ => rfl
  have F7 := fun_mk (st := sExp) l7 c7 k7
  have b7 := F7.binds (ps := ["form_n"]) fun _ _ _ _ _ _ us hl => match us, hl with | [_], _ => rfl
  have F8 := fun_mk (st := sIs) l8 c8 k8
  have b8 := F8.binds (ps := ["found", "many"]) fun _ _ _ _ _ _ us hl => match us, hl with | [_, _], _ => rfl
  have F9 := fun_mk (st := sTrim) l9 c9 k9
  have b9 := F9.binds (ps := ["coefficients"]) fun _ _ _ _ _ _ us hl => match us, hl with | [_], _ => rfl
  have F10 := fun_mk (st := sAtl) l10 c10 k10
  have b10 := F10.binds (ps := ["form", "number"]) fun _ _ _ _ _ _ us hl => match us, hl with | [_, _], _ => rfl
  have F11 := fun_mk (st := sRaise) l11 c11 k11
  have b11 := F11.binds (ps := ["form"]) fun _ _ _ _ _ _ us hl => match us, hl with | [_], _ => rfl
  have F12 := fun_mk (st := sHt) l12 c12 k12
  have b12 := F12.binds (ps := ["form"]) fun _ _ _ _ _ _ us hl => match us, hl with | [_], _ => rfl
  have F13 := fun_mk (st := sTo) l13 c13 k13
  have b13 := F13.binds (ps := ["polynomial", "degree"]) fun _ _ _ _ _ _ us hl => match us, hl with | [_, _], _ => rfl
  have F14 := fun_mk (st := sFrom) l14 c14 k14
  have b14 := F14.binds (ps := ["form"]) fun _ _ _ _ _ _ us hl => match us, hl with | [_], _ => rfl
  have F15 := fun_mk (st := sLaw) l15 c15 k15
  refine ⟨PySem.W.fnOf "law" "law" (defArgs sLaw) (defBody sLaw) (defScope sLaw) .none kV15 dc15 pm15 an15 cd15 ct15, fun s v => .of_eq rfl, fun base _ _ => ?_⟩
  have T : Names8 mg := ⟨⟨PySem.W.mg_none_of X G z_list, PySem.W.mg_none_of X G z_tuple, PySem.W.mg_none_of X G z_len, PySem.W.mg_none_of X G z_range⟩, PySem.W.mg_none_of X G z_max, PySem.W.mg_none_of X G z_enumerate, PySem.W.mg_none_of X G z_repr, PySem.W.mg_none_of X G z_zip, PySem.W.mg_none_of X G z_isinstance, PySem.W.mg_none_of X G z_all⟩
  have m : ∀ {x : Str} {u : Value}, PySem.W.nsIn K mainGlobals x = some (some u) → mg x = some u := fun e => PySem.W.mg_of X G e
  have G0 := ok_pen (P := PySem.Challenge.pw_bentcoin_k08_heaped_rows) (w := w) (mg := mg) (base := base) F0 T.toNames
  have G1 := ok_fresh (P := PySem.Challenge.pw_bentcoin_k08_heaped_rows) (w := w) (mg := mg) (base := base) F1 T.toNames
  have G2 := ok_draw F2 G1 (m a1) k1 b1
  have G3 := ok_strip (P := PySem.Challenge.pw_bentcoin_k08_heaped_rows) (w := w) (mg := mg) (base := base) F3 T.toNames
  have G4 := ok_poly F4 T G2 ⟨m a2, k2, b2⟩ G3 ⟨m a3, k3, b3⟩
  have G5 := ok_add F5 T G3 ⟨m a3, k3, b3⟩
  have G6 := ok_prod F6 T G3 ⟨m a3, k3, b3⟩
  have G7 := ok_exp F7 T G6 ⟨m a6, k6, b6⟩ G5 ⟨m a5, k5, b5⟩
  have G8 := ok_is (P := PySem.Challenge.pw_bentcoin_k08_heaped_rows) (w := w) (mg := mg) (base := base) F8 T (PySem.W.mg_none_of X G z_int) (PySem.W.mg_none_of X G z_bool)
  have G9 := ok_trimT (P := PySem.Challenge.pw_bentcoin_k08_heaped_rows) (w := w) (mg := mg) (base := base) F9 T.toNames
  have G10 := ok_atl (P := PySem.Challenge.pw_bentcoin_k08_heaped_rows) (w := w) (mg := mg) (base := base) F10 T
  have G11 := ok_raise (P := PySem.Challenge.pw_bentcoin_k08_heaped_rows) (w := w) (mg := mg) (base := base) F11 T
  have G12 := ok_ht (P := PySem.Challenge.pw_bentcoin_k08_heaped_rows) (w := w) (mg := mg) (base := base) F12
  have G13 := ok_to F13 T G10 ⟨m a10, k10, b10⟩ G11 ⟨m a11, k11, b11⟩
  have G14 := ok_from F14 T G10 ⟨m a10, k10, b10⟩ G9 ⟨m a9, k9, b9⟩
  exact ok_law F15 T G0 ⟨m a0, k0, b0⟩ G2 ⟨m a2, k2, b2⟩ G4 ⟨m a4, k4, b4⟩ G13 ⟨m a13, k13, b13⟩ (named2 F13 fun _ _ _ _ _ _ _ _ => rfl) G8 ⟨m a8, k8, b8⟩ G7 ⟨m a7, k7, b7⟩ G11 ⟨m a11, k11, b11⟩ (named1 F11 fun _ _ _ _ _ _ _ => rfl) G12 ⟨m a12, k12, b12⟩ (named1 F12 fun _ _ _ _ _ _ _ => rfl) G14 ⟨m a14, k14, b14⟩ (named1 F14 fun _ _ _ _ _ _ _ => rfl) G6 ⟨m a6, k6, b6⟩
end Z
open PySem PySem.W PyProof.Rows
set_option maxRecDepth 100000 in
set_option maxHeartbeats 0 in
theorem PySem.Challenge.cw_bentcoin_k08_heaped_rows_holds : PySem.Challenge.rw_bentcoin_k08_heaped_rows.Holds := by
  w_on; o_law; k_head; (case hw => w_witness2)
  k_fill
  refine GG.walkG (l := PySem.Challenge.rw_bentcoin_k08_heaped_rows) (n := 63) (k := 4) (x := "script") (sp := Z.spLaw) rfl (by decide) rfl ⟨rfl, by decide, by decide⟩ (fun w h Y => PySem.W.kIn_of Y) ?F (fun _ _ a ns hl hS => ⟨a, ns, rfl, hS, hl, fun _ => rfl⟩)
  case F =>
    intro w mg fa h KX G hmg
    refine' Z.all_mk KX G hmg ?a0 ?l0 ?c0 ?k0 ?a1 ?l1 ?c1 ?k1 ?a2 ?l2 ?c2 ?k2 ?a3 ?l3 ?c3 ?k3 ?a4 ?l4 ?c4 ?k4 ?a5 ?l5 ?c5 ?k5 ?a6 ?l6 ?c6 ?k6 ?a7 ?l7 ?c7 ?k7 ?a8 ?l8 ?c8 ?k8 ?a9 ?l9 ?c9 ?k9 ?a10 ?l10 ?c10 ?k10 ?a11 ?l11 ?c11 ?k11 ?a12 ?l12 ?c12 ?k12 ?a13 ?l13 ?c13 ?k13 ?a14 ?l14 ?c14 ?k14 ?a15 ?l15 ?c15 ?k15 ?z_list ?z_tuple ?z_len ?z_range ?z_max ?z_repr ?z_int ?z_bool ?z_enumerate ?z_zip ?z_isinstance ?z_all
    (case a0 => k_is)
    (case l0 => k_is)
    (case c0 => k_is)
    (case k0 => k_is)
    (case a1 => k_is)
    (case l1 => k_is)
    (case c1 => k_is)
    (case k1 => k_is)
    (case a2 => k_is)
    (case l2 => k_is)
    (case c2 => k_is)
    (case k2 => k_is)
    (case a3 => k_is)
    (case l3 => k_is)
    (case c3 => k_is)
    (case k3 => k_is)
    (case a4 => k_is)
    (case l4 => k_is)
    (case c4 => k_is)
    (case k4 => k_is)
    (case a5 => k_is)
    (case l5 => k_is)
    (case c5 => k_is)
    (case k5 => k_is)
    (case a6 => k_is)
    (case l6 => k_is)
    (case c6 => k_is)
    (case k6 => k_is)
    (case a7 => k_is)
    (case l7 => k_is)
    (case c7 => k_is)
    (case k7 => k_is)
    (case a8 => k_is)
    (case l8 => k_is)
    (case c8 => k_is)
    (case k8 => k_is)
    (case a9 => k_is)
    (case l9 => k_is)
    (case c9 => k_is)
    (case k9 => k_is)
    (case a10 => k_is)
    (case l10 => k_is)
    (case c10 => k_is)
    (case k10 => k_is)
    (case a11 => k_is)
    (case l11 => k_is)
    (case c11 => k_is)
    (case k11 => k_is)
    (case a12 => k_is)
    (case l12 => k_is)
    (case c12 => k_is)
    (case k12 => k_is)
    (case a13 => k_is)
    (case l13 => k_is)
    (case c13 => k_is)
    (case k13 => k_is)
    (case a14 => k_is)
    (case l14 => k_is)
    (case c14 => k_is)
    (case k14 => k_is)
    (case a15 => k_is)
    (case l15 => k_is)
    (case c15 => k_is)
    (case k15 => k_is)
    (case z_list => k_is)
    (case z_tuple => k_is)
    (case z_len => k_is)
    (case z_range => k_is)
    (case z_max => k_is)
    (case z_repr => k_is)
    (case z_int => k_is)
    (case z_bool => k_is)
    (case z_enumerate => k_is)
    (case z_zip => k_is)
    (case z_isinstance => k_is)
    (case z_all => k_is)
