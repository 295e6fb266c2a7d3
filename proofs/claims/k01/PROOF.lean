import PyProof.Rows.All
import Wide.All
import OpenK.AllK
import Wide.FinOn
import HandS.ForMost
import HandS.Defaults
import KE.GoesEnum
import HandS.Wide
import KE.DataAny
import KE.GoesEnumKw
import HandS.TupMul
import HandS.Rev
import HandS.Flow
import HandS.TupAny
import HandS.Zip
import HandS.WideBits
import PySem.Challenge.RW_bentcoin_k01_rows_reckoned
set_option Elab.async false
set_option maxRecDepth 100000
set_option maxHeartbeats 4000000
/-! Defs that are run where no text of an object is being made: so that repr gives the whole text. -/
namespace GG
open PySem PySem.Spec PyProof.Rows L2
section
variable {P : Program} {w : World} {K : PySem.W.Frag} {mg : Str → Option Value} {base : Heap}
structure FnG (P : Program) (w : World) (K : PySem.W.Frag) (mg : Str → Option Value) (base : Heap) (k : Nat) (f : Addr) (fd : FuncData) (ps : List Str) (sp : Sp) : Prop where
  size : ∀ vs H Q E, sp vs H Q E → vs.length = ps.length
  goes : ∀ (A : Around) (o : List Env) (s : Shared) (H : Hp) (ar : Args) (us : List Value) (vs : List V) (Q : VK) (E : XK),
    A.guards = some [] → Room k A → Env0 P w K mg base A o s H → BindsTo s fd ar (ps.zip us) → Vals vs us → sp vs H Q E →
    codeAny (model P w) A (.call (.ref f) ar) (CR CX0 o P w H s Q E) s

theorem fnG_of {x qual : Str} {st : Stmt} {f : Addr} {fd : FuncData} {N ps : List Str} {k : Nat} {sp : Sp}
    (F : Fun K x qual st f fd) (S : FnScope N ps (defScope st)) (size : ∀ vs H Q E, sp vs H Q E → vs.length = ps.length)
    (body : ∀ (cd : Value) (A : Around) (o : List Env) (s : Shared) (H : Hp) (vs : List V) (Q : VK) (E : XK),
      A.guards = some [] → Room k (A.deeper (envOfC qual (defScope st) s.heap.objs.size f cd)) → sp vs H Q E →
      ∃ t, PSs (cxOf CX0 P w K mg base N qual (defScope st) f cd A o s H E).nox (defBody st) t ∧
        t { nx := fun _ H' => Q .non H', rt := Q } (start N vs) H) :
    FnG P w K mg base (k + 1) f fd ps sp := by
  obtain ⟨oc, od, kV, doc, pm, an, cd, ct, slots, rfl, found, code⟩ := F.ex
  refine ⟨size, ?_⟩
  intro A o s H ar us vs Q E gA room e0 hbind given asked
  have inK : K.In s.heap := e0.mod.kin.keeps fun b u e => (e0.bs b u e).1
  have free : s.heap.NoLimit := e0.mod.nolimit.keeps fun b u e => (e0.bs b u e).1
  have many := size vs H Q E asked
  have kinds : ∀ y ∈ ps.zip us, (defScope st).names.lookup y.1 = some .local ∨ ((defScope st).names.lookup y.1 = some .cell ∧
      ((cellsFrom (s.heap.objs.size + 1) (defScope st).names []).lookup y.1).isSome = true) := by
    rintro ⟨n, v⟩ hy
    cases S.par n (List.of_mem_zip hy).1 with
    | inl q => exact Or.inl q
    | inr q => exact Or.inr ⟨q, PySem.W.cellsFrom_some _ _ _ (Or.inl q)⟩
  apply codeAny_call_function room.depth (inK _ _ found) rfl S.co S.gen rfl (PySem.W.codeRec_of inK code)
  apply hbind
  apply wpAny_newFunctionEnv_cells S.kind kinds
  intro env he s1 ready
  subst he
  refine ⟨free.keeps ready.toInCall.keep, ?_⟩
  apply codeAny_func
  obtain ⟨t, ht, hq⟩ := body cd A o s H vs Q E gA (room.deeper _) asked
  have first := inv_start (E := E) (CX := CX0) S room.hd e0 many given ready
  refine wpAny_mono (ht.nox.run [] s1 (start N vs) H _ first hq) (fun fl s' hs => ?_) (fun e s' hs => hs)
  cases fl with
  | next =>
    obtain ⟨σ', H', J, q⟩ := hs
    exact ⟨V.non, H', J.os, J.bare, J.base, J.hok, rfl, q⟩
  | ret u =>
    obtain ⟨v, σ', H', J, rv, q⟩ := hs
    exact ⟨v, H', J.os, J.bare, J.base, J.hok, rv, q⟩
  | brk => exact hs.elim fun _ z => z.elim fun _ z => z.elim fun _ z => z.elim
  | cont => exact hs.elim fun _ z => z.elim fun _ z => z.elim fun _ z => z.elim

/-- what is left of the heap when the script stands alone in it -/
def one (a : Addr) (o : HO) : Hp := fun b => if b = a then some o else none
theorem one_at {a : Addr} {o : HO} : one a o a = some o := if_pos rfl
theorem one_no {a b : Addr} {o : HO} (h : b ≠ a) : one a o b = none := if_neg h

section
variable {mb : Str → Option Value} {k : Nat} {fa a : Addr} {fd : FuncData} {x : Str} {sp : Sp} {s₁ : Shared} {vs : List Value} {ns : List Int}
abbrev Fine (s₁ : Shared) (r : Result) (s' : Shared) : Prop := r = .ok (.ret (.bool true)) ∧ OldK s₁.heap s'.heap ∧ s'.os = s₁.os ∧ AllBare s'.gens

/-- from a heap in which at most the script is told of -/
theorem from_heap {H : Hp} (inK : K.In (hidT s₁.heap H)) (names : (hidT s₁.heap H).Ns mainGlobals mg) (blt : (hidT s₁.heap H).Ns builtinsNs mb)
    (known : ∀ y : Str, y ≠ "__name__" → mb y = bootBuiltins y) (free : (hidT s₁.heap H).NoLimit) (none_ : s₁.gens = #[])
    (alone : ∀ b, H b = none ∨ ∃ o xs, H b = some (.frz o (.lst xs))) (hok : HOk P w H s₁.heap) (room : Room k callerA)
    (F : FnG P w K mg (hidT s₁.heap H) k fa fd [x] sp) (binds : ∀ (s : Shared) (u : Value), BindsTo s fd ⟨[u], []⟩ [(x, u)])
    (asked : sp [.ref a] H (fun v _ => v = .bl true) fun _ _ _ => False) :
    codeAny (model P w) callerA (.call (.ref fa) ⟨[.ref a], []⟩) (Fine s₁) s₁ := by
  have entry : Env0 P w K mg (hidT s₁.heap H) callerA [] s₁ H :=
    { frames := rfl, mod := ⟨inK, names, ⟨mb, blt, known⟩, free⟩, bs := fun b u e => of_hidT e, bsz := Nat.le_of_eq (hidT_size _ _), funs := trivial,
      frf := fun b hb => absurd (show b ∈ ([] : List Addr) from hb) (by simp), hok := hok, bare := .of_eq none_ }
  have run := F.goes callerA [] s₁ H ⟨[.ref a], []⟩ [.ref a] [.ref a] _ _ rfl room entry (binds s₁ (.ref a)) (.cons rfl .nil) asked
  refine codeAny_mono run fun r s' got => ?_
  cases r with
  | error e => exact False.elim got
  | ok fl =>
    cases fl with
    | ret u =>
      obtain ⟨v, H', os, bare, un, hok', ru, yes⟩ := got
      have yes' : v = .bl true := yes
      subst yes'
      have eu : u = Value.bool true := ru
      subst eu
      refine ⟨rfl, OldK.of_keep ?_, os, bare⟩
      intro b u e
      rcases alone b with q | ⟨ob, xs, q⟩
      · exact un.keep b u e q (fun z => absurd (show b ∈ ([] : List Addr) from z) (by simp)) (by simp)
      · have e1 := (hok b _ q).1
        have e2 := (hok' b _ (un.frzs b ob _ q)).1
        rw [e] at e1
        cases e1
        exact e2
    | next => exact False.elim got
    | brk => exact False.elim got
    | cont => exact False.elim got
/-- the law's call, its promise once -/
theorem lawG (inK : K.In s₁.heap) (names : s₁.heap.Ns mainGlobals mg) (blt : s₁.heap.Ns builtinsNs mb) (known : ∀ y : Str, y ≠ "__name__" → mb y = bootBuiltins y)
    (free : s₁.heap.NoLimit) (none_ : s₁.gens = #[]) (script : s₁.heap.get? a = some { cls := .type "list", data := .seq vs.toArray }) (nums : IntsAre vs ns)
    (few : ns.length ≤ sizeLine) (room : Room k callerA) (F : ∀ base : Heap, K.In base → base.Ns mainGlobals mg → FnG P w K mg base k fa fd [x] sp)
    (binds : ∀ (s : Shared) (u : Value), BindsTo s fd ⟨[u], []⟩ [(x, u)]) (asked : ∀ H : Hp, SqL K H a (ns.map V.int) → sp [.ref a] H (fun v _ => v = .bl true) fun _ _ _ => False) :
    codeAny (model P w) callerA (.call (.ref fa) ⟨[.ref a], []⟩) (Fine s₁) s₁ := by
  have rel := vals_ints nums
  have len := nums.length
  cases look : K.lookup a with
  | some o =>
    have e := inK a o look
    rw [script] at e
    cases e
    have keep : ∀ {b : Addr} {u : Obj}, s₁.heap.get? b = some u → (hidT s₁.heap fun _ => none).get? b = some u := fun e => hidT_get e rfl
    have ns' : ∀ {b : Addr} {m : Str → Option Value}, s₁.heap.Ns b m → (hidT s₁.heap fun _ => none).Ns b m := fun ⟨o, es, ep, e, d, r⟩ => ⟨o, es, ep, keep e, d, r⟩
    have inK' : K.In (hidT s₁.heap fun _ => none) := fun b u e => keep (inK b u e)
    refine from_heap inK' (ns' names) (ns' blt) known (let ⟨mc, h1, h2⟩ := free; ⟨mc, ns' h1, h2⟩) none_ (fun _ => .inl rfl) (fun b u z => nomatch z) room (F _ inK' (ns' names)) binds ?_
    exact asked _ (.inr ⟨_, vs.toArray, _, look, rfl, rfl, rfl, by rw [List.size_toArray, len]; exact few, by simpa using rel⟩)
  | none =>
    have keep : ∀ {b : Addr} {u : Obj}, b ≠ a → s₁.heap.get? b = some u → (hidT s₁.heap (one a (.frz { cls := .type "list", data := .seq vs.toArray } (.lst (ns.map V.int))))).get? b = some u := fun n e => hidT_get e (one_no n)
    have ns' : ∀ {b : Addr} {m : Str → Option Value}, s₁.heap.Ns b m → (hidT s₁.heap (one a (.frz { cls := .type "list", data := .seq vs.toArray } (.lst (ns.map V.int))))).Ns b m := by
      rintro b m ⟨o, es, ep, e, d, r⟩
      refine ⟨o, es, ep, keep (fun z => ?_) e, d, r⟩
      rw [z, script] at e
      cases e
      cases d
    have inK' : K.In (hidT s₁.heap (one a (.frz { cls := .type "list", data := .seq vs.toArray } (.lst (ns.map V.int))))) := fun b u e => keep (fun z => by rw [z, look] at e; cases e) (inK b u e)
    refine from_heap inK' (ns' names) (ns' blt) known (let ⟨mc, h1, h2⟩ := free; ⟨mc, ns' h1, h2⟩) none_ (fun b => ?_) (fun b u z => ?_) room (F _ inK' (ns' names)) binds (asked _ (.inl (.inr ⟨_, one_at⟩)))
    · by_cases e : b = a
      · exact .inr ⟨_, _, by rw [e]; exact one_at⟩
      · exact .inl (one_no e)
    · by_cases e : b = a
      · subst e
        have z' := one_at.symm.trans z
        cases z'
        exact ⟨script, by rw [List.length_map]; exact few, vs, _, rel, script⟩
      · have z' := (one_no e).symm.trans z
        cases z'
end
end
/-- the end of a proof: as the layer's own, for such a promise -/
theorem walkG {l : PySem.W.OpenLaw} {n k : Nat} {q : Program} {loose : List Str} {XP : (Str → Option Value) → Heap → Prop} {YP : World → Heap → Prop} {d : DefRec} {K : Params → PySem.W.Frag}
    {sp : PySem.W.Frag → Sp} {x : Str} (most : l.most = some n) (few : n ≤ sizeLine) (plain : d.params.defaults = []) (room : Room k callerA) (inY : ∀ (w : World) (h : Heap), YP w h → (K w.params).In h)
    (F : ∀ (w : World) (mg : Str → Option Value) (fa : Addr) (h : Heap), (K w.params).In h → h.Ns mainGlobals mg → mg d.name = some (.ref fa) →
      ∃ fd : FuncData, (∀ (s : Shared) (u : Value), BindsTo s fd ⟨[u], []⟩ [(x, u)]) ∧
        ∀ base : Heap, (K w.params).In base → base.Ns mainGlobals mg → FnG l.prog w (K w.params) mg base k fa fd [x] (sp (K w.params)))
    (asked : ∀ (K : PySem.W.Frag) (H : Hp) (a : Addr) (ns : List Int), ns.length ≤ n → SqL K H a (ns.map V.int) → sp K [.ref a] H (fun v _ => v = .bl true) fun _ _ _ => False) :
    PySem.W.WalkO q loose XP YP l.row.toRowW d [] (fun f vs => PySem.call f vs) := by
  apply Att.attach_call most plain
  intro w s₀ s₁ mg mb fa o pm cd doc a vs ns G Y _ _ _ named script nums size none_
  have inK := inY w _ Y
  obtain ⟨fd, binds, hF⟩ := F w mg fa _ inK G.T.g named
  exact lawG inK G.T.g G.T.b G.T.builtins G.T.nolimit none_ script nums (Nat.le_trans size few) room hF binds fun H hs => asked _ H a ns size hs

/-! the text of data -/
/-- data whose text is made: no dict, no int too long, not too deep, not too many -/
structure Shows (d : PyData) (deep many : Nat) : Prop where
  s : d.showable = true
  l : d.leavesShort 1922 = true
  h : d.hasDict = false
  p : d.depth ≤ deep
  b : d.bulk ≤ many
theorem Shows.mono {d : PyData} {a b a' b' : Nat} (x : Shows d a b) (h1 : a ≤ a') (h2 : b ≤ b') : Shows d a' b' := ⟨x.s, x.l, x.h, Nat.le_trans x.p h1, Nat.le_trans x.b h2⟩
theorem Shows.room {d : PyData} (x : Shows d 50 8000) : d.shown.length ≤ sizeLine := by
  have h := PyData.shown_le_bulk 1922 (by decide) d x.l
  have hb := x.b
  have e : sizeLine = 16777216 := by decide
  have := Nat.mul_le_mul_left 1924 hb
  omega
theorem short_int {i : Int} (h : i.natAbs.log2 < 1920) : (PyData.int i).leavesShort 1922 = true := by
  simp only [PyData.leavesShort, decide_eq_true_eq]
  have e := int_text_length_le (k := 1920) (by decide) h
  rw [PyData.shown_int, PySem.ofString_length]
  omega
theorem ints_show : ∀ {ns : List Int}, (∀ n ∈ ns, n.natAbs.log2 < 1920) → PyData.showableAll (ns.map PyData.int) = true ∧ PyData.leavesShortAll 1922 (ns.map PyData.int) = true ∧ PyData.hasDictAll (ns.map PyData.int) = false ∧ PyData.depthAll (ns.map PyData.int) = 0 ∧ PyData.bulkAll (ns.map PyData.int) = ns.length
  | [], _ => ⟨rfl, rfl, rfl, rfl, rfl⟩
  | n :: r, h => by
    obtain ⟨h1, h2, h3, h4, h5⟩ := ints_show (ns := r) fun m hm => h m (List.mem_cons_of_mem _ hm)
    have hn := h n List.mem_cons_self
    have hs := short_int hn
    refine ⟨?_, ?_, ?_, ?_, ?_⟩
    · simp [PyData.showableAll, PyData.showable, h1, hn]
    · simp [PyData.leavesShortAll, h2, hs]
    · simp [PyData.hasDictAll, PyData.hasDict, h3]
    · simp [PyData.depthAll, PyData.depth, h4]
    · simp [PyData.bulkAll, PyData.bulk, h5]; omega
theorem shows_ints {ns : List Int} (h : ∀ n ∈ ns, n.natAbs.log2 < 1920) : Shows (.tuple (ns.map PyData.int)) 1 ns.length := by
  obtain ⟨h1, h2, h3, h4, h5⟩ := ints_show h
  exact ⟨by simp [PyData.showable, h1], by simp [PyData.leavesShort, h2], by simp [PyData.hasDict, h3], by simp [PyData.depth, h4], by simp [PyData.bulk, h5]⟩
section
variable {X : Cx}
def rRepr (K : PySem.W.Frag) : List V → Hp → VK → Prop := fun vs H Q => ∃ (a : Addr) (d : PyData), vs = [.ref a] ∧ Dp K H (.ref a) d ∧ Shows d 50 8000 ∧ Q (.str d.shown) H
theorem call_repr {k : Nat} (hg : X.A.guards = some []) (room : Room k X.A) : CallR X (.builtin "repr") (rRepr X.K) := by
  intro pins s σ H vs us Q I r h
  obtain ⟨a, d, rfl, hd, hs, q⟩ := h
  obtain ⟨u, rfl, ru⟩ := vals1 r
  have eu : u = Value.ref a := ru
  subst eu
  obtain ⟨as, reads⟩ := Dp.reads I d (.ref a) (.ref a) hd rfl
  have hu := room.un
  have hp := hs.p
  refine repr_of_reads' reads hs.s (fun e => by rw [hs.h] at e; cases e) hg (by omega) (fun _ _ e => e) (fun h' u tk hk => ?_) hs.room
  exact ⟨.str d.shown, H, I.kept hk, ⟨u, rfl⟩, q⟩
/-! x *= e of ints -/
theorem ip_mulW : PIp X .Mult (fun x y H Q => ∃ i j : Int, x = .int i ∧ y = .int j ∧ IntMulOk i j ∧ Q (.int (i * j)) H) := by
  intro pins s σ H x y v u Q I rx ry h
  obtain ⟨i, j, ex, ey, ok, q⟩ := h
  subst ex ey
  obtain ⟨t, et⟩ := rx
  obtain ⟨t', et'⟩ := ry
  subst et et'
  exact imul_int ⟨V.int (i * j), H, I.tok _, ⟨_, rfl⟩, q⟩ ok
/-! f(k = v, ..): all by their names -/
variable {CX : CXT} {k : Nat} {f : Addr} {fd : FuncData} {ps ks : List Str} {sp : Sp} {E : XK} {x : Str} {p pos : Pos} {kws : List Keyword} {t tk : TA}
  {g : List Value → List Value → List Value} {gV : List V → List V → List V}
def tNamed (sp : Sp) (gV : List V → List V → List V) (E : XK) (m : Nat) (tk : TA) : TE := fun σ H Q => tk σ H fun zs H1 => zs.length = m ∧ sp (gV [] zs) H1 Q E
theorem pe_named (F : FnOk X.prog X.w X.K X.mg X.base CX k f fd ps sp) (room : Room k X.A) (glob : Gl X x) (is : X.mg x = some (.ref f)) (keep : PySem.W.keepIn X.K (.ref f) = true)
    (bound : KBn X.K fd ps 0 ks g gV) (pass : Passes CX X E) (args : PK X kws tk) (all : (backToKw pos (keywordEach kws X.env)).all (·.1.isSome) = true := by rfl)
    (names : (backToKw pos (keywordEach kws X.env)).filterMap (·.1) = ks := by rfl) (nodebug : (x == ("__debug__" : Str)) = false := by decide)
    (plain : ((backTo pos (starEach [] X.env)).any (·.1) || (backToKw pos (keywordEach kws X.env)).any (·.1.isNone)) = false := by rfl) :
    PE X (.Call (.Name x p) [] kws pos) (tNamed sp gV E ks.length tk) := by
  constructor
  intro pins s σ H Q I h
  apply wpAny_Call_Name_kw
  refine ld_glob I glob is ?_ nodebug
  apply PySem.W.callWith_KW0 I.ok.mod.kin keep all _ plain
  have run := args.run pos pins s σ H _ I h
  refine thn run fun ws s2 done => ?_
  obtain ⟨zs, H2, I2, rz, many, q⟩ := done
  refine ⟨I2.kIn, ?_⟩
  rw [names]
  have few : ws.length = ks.length := by rw [← rz.length]; exact many
  first
  | exact run_fnN (us := []) (vs := []) F room bound pass I2 .nil rz rfl few q
  | exact run_fnN (us := []) (vs := []) F room bound pass I2 .nil rz rfl many q
def turned {α : Type} : List α → List α
  | [u, v] => [v, u]
  | l => l
theorem turned_vals : ∀ {zs : List V} {ws : List Value}, Vals zs ws → Vals (turned zs) (turned ws)
  | _, _, .nil => .nil
  | _, _, .cons a .nil => .cons a .nil
  | _, _, .cons a (.cons b .nil) => .cons b (.cons a .nil)
  | _, _, .cons a (.cons b (.cons c r)) => .cons a (.cons b (.cons c r))
/-- two parameters, both by name, the second ahead -/
theorem named2 {K : PySem.W.Frag} {x qual : Str} {st : Stmt} {a b : Str} (F : Fun K x qual st f fd)
    (h : ∀ (kV doc pm : Value) (an : Option Addr) (cd ct u v : Value), bindArgs (PySem.W.fnOf x qual (defArgs st) (defBody st) (defScope st) .none kV doc pm an cd ct) ⟨[], [(b, u), (a, v)]⟩ = pure [(a, v), (b, u)]) :
    KBn K fd [a, b] 0 [b, a] (fun _ ws => turned ws) (fun _ zs => turned zs) := by
  obtain ⟨oc, od, kV, doc, pm, an, cd, ct, slots, rfl, found, code⟩ := F.ex
  refine ⟨fun s us ws _ l0 l2 => ?_, fun _ r => turned_vals r⟩
  match us, ws, l0, l2 with
  | [], [u, v], _, _ => exact .of_eq (h kV doc pm an cd ct u v)
theorem max_is (calm : X.calm = true) : CallR X (.builtin "max") (fun vs H Q => ∃ i j k : Int, vs = [.int i, .int j] ∧ k = (if j > i then j else i) ∧ Q (.int k) H) := by
  intro pins s σ H vs us Q I r h
  obtain ⟨i, j, k, e, ek, q⟩ := h
  subst ek
  exact call_max2 calm pins s σ H vs us Q I r ⟨i, j, e, q⟩
/-! a def that wants that no text is being made, called -/
theorem pe_callG {F : FuncData} {es : List Expr} {e : Expr} (G : FnG X.prog X.w X.K X.mg X.base k f F ps sp) (quiet : X.A.guards = some []) (room : Room k X.A) (glob : Gl X x) (is : X.mg x = some (.ref f)) (keep : PySem.W.keepIn X.K (.ref f) = true)
    (bound : Binds X.K F ps []) (args : PA X (e :: es) t) (nodebug : (x == ("__debug__" : Str)) = false := by decide) (star : starEach (e :: es) X.env = (false, eval e X.env) :: starEach es X.env := by rfl)
    (plain : (backTo pos (starEach es X.env)).any (·.1) = false := by rfl) : PE X (.Call (.Name x p) (e :: es) [] pos) (tCall sp [] E0 t) := by
  constructor
  intro pins s σ H Q I h
  apply wpAny_Call_Name_kw
  refine ld_glob I glob is ?_ nodebug
  refine PySem.W.callWith_K (h₀ := X.base) I.ok.mod.kin keep (thn (args.run pos pins s σ H _ I h) fun us s1 got => ?_) star plain
  obtain ⟨vs, H1, I1, r, asked⟩ := got
  refine ⟨I1.kIn, ?_⟩
  have asked' : sp vs H1 Q E0 := by simpa using asked
  have many : (us ++ []).length = ps.length := by rw [List.append_nil, ← r.length]; exact G.size _ _ _ _ asked'
  have bind := bound s1 us I1.kIn many
  rw [List.append_nil] at bind
  apply wpAny_call
  refine codeAny_mono (G.goes X.A X.stack s1 H1 ⟨us, []⟩ us vs Q E0 quiet room I1.env0 bind r asked') fun res s' hq => ?_
  cases res with
  | error e => exact False.elim hq
  | ok fl =>
    cases fl with
    | ret u => exact I1.after hq
    | next => exact False.elim hq
    | brk => exact False.elim hq
    | cont => exact False.elim hq
/-! repr of None, or of data -/
def rRepr2 (K : PySem.W.Frag) : List V → Hp → VK → Prop := fun vs H Q => (vs = [.non] ∧ Q (.str "None") H) ∨ rRepr K vs H Q
theorem call_repr2 {k : Nat} (hg : X.A.guards = some []) (room : Room k X.A) : CallR X (.builtin "repr") (rRepr2 X.K) := by
  intro pins s σ H vs us Q I r h
  rcases h with ⟨ev, q⟩ | h
  · subst ev
    obtain ⟨u, eu, ru⟩ := vals1 r
    subst eu
    have e : u = Value.none := ru
    subst e
    exact PySem.P.repr_of_none ⟨.str _, H, I.tok _, ⟨_, rfl⟩, q⟩
  · exact call_repr hg room pins s σ H vs us Q I r h
end
end GG

namespace M3
/-! a row less c times another, moved -/
def subs (c : Int) : List Int → Nat → List Int → List Int
  | r, _, [] => r
  | r, a, x :: f => subs c (r.set a (r.getD a 0 - c * x)) (a + 1) f
theorem getD_set (r : List Int) (a : Nat) (v : Int) (t : Nat) (h : a < r.length) : (r.set a v).getD t 0 = if t = a then v else r.getD t 0 := by
  rw [List.getD_eq_getElem?_getD, List.getD_eq_getElem?_getD, List.getElem?_set]
  by_cases e : a = t
  · subst e; simp [h]
  · simp [e, Ne.symm e]
theorem subs_len (c : Int) : ∀ (f r : List Int) (a : Nat), (subs c r a f).length = r.length
  | [], _, _ => rfl
  | x :: f, r, a => by
    show (subs c (r.set a _) (a + 1) f).length = _
    rw [subs_len c f, List.length_set]
theorem subs_get (c : Int) : ∀ (f r : List Int) (a t : Nat), a + f.length ≤ r.length →
    (subs c r a f).getD t 0 = r.getD t 0 - c * (if a ≤ t then f.getD (t - a) 0 else 0)
  | [], r, a, t, _ => by
    show r.getD t 0 = _
    by_cases e : a ≤ t <;> simp [e]
  | x :: f, r, a, t, h => by
    rw [List.length_cons] at h
    show (subs c (r.set a (r.getD a 0 - c * x)) (a + 1) f).getD t 0 = _
    rw [subs_get c f _ _ _ (by rw [List.length_set]; omega), getD_set _ _ _ _ (by omega)]
    by_cases e : t = a
    · subst e
      rw [if_pos rfl, if_neg (by omega), if_pos (Nat.le_refl _), Nat.sub_self]
      simp
    · rw [if_neg e]
      by_cases e2 : a ≤ t
      · rw [if_pos (by omega), if_pos e2, show t - a = (t - (a + 1)) + 1 by omega]
        simp
      · rw [if_neg (by omega), if_neg e2]
theorem ext_getD {l l' : List Int} (h : l.length = l'.length) (g : ∀ t, t < l.length → l.getD t 0 = l'.getD t 0) : l = l' := by
  apply List.ext_getElem h
  intro i h1 h2
  have := g i h1
  rw [List.getD_eq_getElem?_getD, List.getD_eq_getElem?_getD, List.getElem?_eq_getElem h1, List.getElem?_eq_getElem h2] at this
  exact this
theorem subs_snoc (c x : Int) (f r : List Int) (a : Nat) (h : a + f.length + 1 ≤ r.length) :
    subs c r a (f ++ [x]) = (subs c r a f).set (a + f.length) ((subs c r a f).getD (a + f.length) 0 - c * x) := by
  apply ext_getD
  · rw [subs_len, List.length_set, subs_len]
  · intro t ht
    rw [subs_len] at ht
    rw [getD_set _ _ _ _ (by rw [subs_len]; omega), subs_get _ _ _ _ _ (by rw [List.length_append]; simp; omega), subs_get _ _ _ _ _ (by omega), subs_get _ _ _ _ _ (by omega)]
    by_cases e : t = a + f.length
    · subst e
      rw [if_pos (by omega), if_pos rfl, if_pos (by omega), show a + f.length - a = f.length by omega]
      simp [List.getD_eq_getElem?_getD]
    · rw [if_neg e]
      by_cases e2 : a ≤ t
      · rw [if_pos e2, if_pos e2]
        by_cases e3 : t - a < f.length
        · simp [List.getD_eq_getElem?_getD, List.getElem?_append_left e3]
        · have h1 : (f ++ [x]).getD (t - a) 0 = 0 := by
            rw [List.getD_eq_getElem?_getD, List.getElem?_eq_none (by rw [List.length_append]; simp; omega)]; rfl
          have h2 : f.getD (t - a) 0 = 0 := by
            rw [List.getD_eq_getElem?_getD, List.getElem?_eq_none (by omega)]; rfl
          rw [h1, h2]
      · rw [if_neg e2, if_neg e2]
theorem subs_scale (S c : Int) : ∀ (f r : List Int) (a : Nat), a + f.length ≤ r.length → subs (S * c) (r.map (S * ·)) a f = (subs c r a f).map (S * ·)
  | [], _, _, _ => rfl
  | x :: f, r, a, h => by
    rw [List.length_cons] at h
    show subs (S * c) ((r.map (S * ·)).set a ((r.map (S * ·)).getD a 0 - S * c * x)) (a + 1) f = (subs c (r.set a (r.getD a 0 - c * x)) (a + 1) f).map (S * ·)
    rw [← subs_scale S c f _ _ (by rw [List.length_set]; omega), List.map_set]
    have e : (r.map (S * ·)).getD a 0 = S * r.getD a 0 := by
      rw [List.getD_eq_getElem?_getD, List.getD_eq_getElem?_getD, List.getElem?_map, List.getElem?_eq_getElem (by omega)]
      rfl
    rw [e, Int.mul_sub, Int.mul_assoc]
/-! the two divisions -/
def divP (f : List Int) (m : Nat) (l : Int) : Nat → List Int → List Int → Option (List Int × List Int)
  | 0, r, q => some (r, q)
  | n + 1, r, q => if (r.getD (n + m - 1) 0).fmod l ≠ 0 then none else
      divP f m l n (subs ((r.getD (n + m - 1) 0).fdiv l) r n f) (q.set n ((r.getD (n + m - 1) 0).fdiv l))
def divL (f : List Int) (m : Nat) (l : Int) : Nat → List Int → List Int → List Int × List Int
  | 0, r, q => (r, q)
  | n + 1, r, q => divL f m l n (subs ((r.getD (n + m - 1) 0).fdiv l) r n f) (q.set n ((r.getD (n + m - 1) 0).fdiv l))
theorem divL_keep (f : List Int) (m : Nat) (l : Int) : ∀ (n : Nat) (r q : List Int) (t : Nat), n ≤ t → (divL f m l n r q).2.getD t 0 = q.getD t 0
  | 0, _, _, _, _ => rfl
  | n + 1, r, q, t, h => by
    show (divL f m l n _ (q.set n _)).2.getD t 0 = _
    rw [divL_keep f m l n _ _ t (by omega), List.getD_eq_getElem?_getD, List.getElem?_set_ne (by omega), ← List.getD_eq_getElem?_getD]
theorem divL_len (f : List Int) (m : Nat) (l : Int) : ∀ (n : Nat) (r q : List Int), (divL f m l n r q).1.length = r.length ∧ (divL f m l n r q).2.length = q.length
  | 0, _, _ => ⟨rfl, rfl⟩
  | n + 1, r, q => by
    have := divL_len f m l n (subs ((r.getD (n + m - 1) 0).fdiv l) r n f) (q.set n ((r.getD (n + m - 1) 0).fdiv l))
    rw [subs_len, List.length_set] at this
    exact this
theorem getD_scale (S : Int) (r : List Int) (t : Nat) : (r.map (S * ·)).getD t 0 = S * r.getD t 0 := by
  rw [List.getD_eq_getElem?_getD, List.getD_eq_getElem?_getD, List.getElem?_map]
  cases r[t]? with
  | none => simp
  | some v => rfl
theorem sim {f : List Int} {m : Nat} {l S' : Int} (hl : l ≠ 0) (hS : S' ≠ 0) (hm : f.length = m) (h1 : 1 ≤ m) : ∀ (n : Nat) (r q : List Int), n + m ≤ r.length + 1 → n ≤ q.length →
    match divP f m l n r q with
    | some (r', q') => divL f m l n (r.map (l * S' * ·)) (q.map (l * S' * ·)) = (r'.map (l * S' * ·), q'.map (l * S' * ·)) ∧ q'.length = q.length
    | none => ∃ t, t < q.length ∧ ((divL f m l n (r.map (l * S' * ·)) (q.map (l * S' * ·))).2.getD t 0).fmod (l * S') ≠ 0
  | 0, r, q, _, _ => ⟨rfl, rfl⟩
  | n + 1, r, q, hr, hq => by
    unfold divP
    have e1 : ((r.map (l * S' * ·)).getD (n + m - 1) 0).fdiv l = S' * r.getD (n + m - 1) 0 := by
      rw [getD_scale, Int.mul_assoc, Int.mul_fdiv_cancel_left _ hl]
    by_cases hx : (r.getD (n + m - 1) 0).fmod l = 0
    · rw [if_neg (by simpa using hx)]
      have hd : l ∣ r.getD (n + m - 1) 0 := Int.dvd_of_fmod_eq_zero hx
      obtain ⟨c, hc⟩ := hd
      have ec : (r.getD (n + m - 1) 0).fdiv l = c := by rw [hc, Int.mul_fdiv_cancel_left _ hl]
      have e2 : S' * r.getD (n + m - 1) 0 = l * S' * c := by rw [hc]; grind
      have ih := sim hl hS hm h1 n (subs c r n f) (q.set n c) (by rw [subs_len]; omega) (by rw [List.length_set]; omega)
      have eL : divL f m l (n + 1) (r.map (l * S' * ·)) (q.map (l * S' * ·)) = divL f m l n ((subs c r n f).map (l * S' * ·)) ((q.set n c).map (l * S' * ·)) := by
        show divL f m l n (subs (((r.map (l * S' * ·)).getD (n + m - 1) 0).fdiv l) (r.map (l * S' * ·)) n f) ((q.map (l * S' * ·)).set n (((r.map (l * S' * ·)).getD (n + m - 1) 0).fdiv l)) = _
        rw [e1, e2, subs_scale _ _ _ _ _ (by omega), List.map_set]
      rw [ec, eL]
      rw [List.length_set] at ih
      exact ih
    · rw [if_pos hx]
      refine ⟨n, by omega, ?_⟩
      show ((divL f m l n _ ((q.map (l * S' * ·)).set n (((r.map (l * S' * ·)).getD (n + m - 1) 0).fdiv l))).2.getD n 0).fmod (l * S') ≠ 0
      rw [divL_keep f m l n _ _ n (Nat.le_refl _), getD_set _ _ _ _ (by rw [List.length_map]; omega), if_pos rfl, e1]
      intro h0
      obtain ⟨k, hk⟩ := Int.dvd_of_fmod_eq_zero h0
      apply hx
      have : r.getD (n + m - 1) 0 = l * k := by
        apply Int.eq_of_mul_eq_mul_left hS
        rw [hk]
        grind
      rw [this, Int.mul_fmod_right]

def res (x : Option (List Int × List Int)) : Option (List Int) := match x with
  | none => none
  | some (r, q) => if (r.any fun a => a != 0) = true then none else some q
def resL (S : Int) (x : List Int × List Int) : Option (List Int) :=
  if (x.1.filter fun a => a != 0) ≠ [] ∨ (x.2.filter fun a => a.fmod S != 0) ≠ [] then none else some (x.2.map (·.fdiv S))
theorem pow_ne {l : Int} (h : l ≠ 0) : ∀ n : Nat, l ^ n ≠ 0
  | 0 => by simp
  | n + 1 => by rw [Int.pow_succ]; exact Int.mul_ne_zero (pow_ne h n) h
theorem any_filter (r : List Int) : (r.filter fun a => a != 0) ≠ [] ↔ (r.any fun a => a != 0) = true := by
  induction r with
  | nil => simp
  | cons x r ih => by_cases h : x = 0 <;> simp_all
theorem filter_scale {S : Int} (hS : S ≠ 0) (r : List Int) : ((r.map (S * ·)).filter fun a => a != 0) ≠ [] ↔ (r.any fun a => a != 0) = true := by
  rw [any_filter]
  induction r with
  | nil => simp
  | cons x r ih =>
    have : (S * x != 0) = (x != 0) := by
      by_cases h : x = 0
      · simp [h]
      · have h2 : S * x ≠ 0 := Int.mul_ne_zero hS h
        rw [bne_iff_ne.mpr h2, bne_iff_ne.mpr h]
    simp only [List.map_cons, List.any_cons, this, Bool.or_eq_true]
    rw [ih]
theorem res_eq {f : List Int} {m : Nat} {l : Int} (hl : l ≠ 0) (hm : f.length = m) (h1 : 1 ≤ m) (n : Nat) (p q : List Int) (hp : n + m ≤ p.length + 1 ∨ n = 0) (hq : n = q.length) :
    resL (l ^ n) (divL f m l n (p.map (l ^ n * ·)) (q.map (l ^ n * ·))) = res (divP f m l n p q) := by
  cases n with
  | zero =>
    obtain rfl : q = [] := List.eq_nil_of_length_eq_zero hq.symm
    show resL (l ^ 0) (p.map (l ^ 0 * ·), []) = res (some (p, []))
    unfold resL res
    simp only [Int.pow_zero, Int.one_mul, List.map_id', List.filter_nil, ne_eq, not_true_eq_false, or_false, List.map_nil]
    by_cases h : (p.any fun a => a != 0) = true
    · rw [if_pos ((any_filter p).mpr h), if_pos h]
    · rw [if_neg (fun e => h ((any_filter p).mp e)), if_neg h]
  | succ n =>
    have hS' := pow_ne hl n
    have hS := pow_ne hl (n + 1)
    have eS : l ^ (n + 1) = l * l ^ n := by rw [Int.pow_succ, Int.mul_comm]
    have s := sim hl hS' hm h1 (n + 1) p q (by omega) (by omega)
    rw [← eS] at s
    cases hd : divP f m l (n + 1) p q with
    | none =>
      rw [hd] at s
      obtain ⟨t, ht, hne⟩ := s
      unfold resL res
      rw [if_pos]
      right
      intro e
      have lt : t < (divL f m l (n + 1) (p.map (l ^ (n + 1) * ·)) (q.map (l ^ (n + 1) * ·))).2.length := by
        rw [(divL_len f m l _ _ _).2, List.length_map]
        exact ht
      have hx := List.filter_eq_nil_iff.mp e _ (List.getElem_mem lt)
      apply hne
      rw [List.getD_eq_getElem?_getD, List.getElem?_eq_getElem lt]
      simpa using hx
    | some rq =>
      obtain ⟨r', q'⟩ := rq
      rw [hd] at s
      obtain ⟨e, hlq⟩ := s
      rw [e]
      unfold resL res
      have z : ((q'.map (l ^ (n + 1) * ·)).filter fun a => a.fmod (l ^ (n + 1)) != 0) = [] := by
        apply List.filter_eq_nil_iff.mpr
        intro a ha
        obtain ⟨b, _, rfl⟩ := List.mem_map.mp ha
        simp [Int.mul_fmod_right]
      have e3 : (q'.map (l ^ (n + 1) * ·)).map (·.fdiv (l ^ (n + 1))) = q' := by
        rw [List.map_map]
        conv => rhs; rw [← List.map_id q']
        apply List.map_congr_left
        intro a _
        show (l ^ (n + 1) * a).fdiv (l ^ (n + 1)) = a
        exact Int.mul_fdiv_cancel_left _ hS
      dsimp only
      simp only [z, ne_eq, not_true_eq_false, or_false, e3]
      by_cases h : (r'.any fun a => a != 0) = true
      · rw [if_pos ((filter_scale hS r').mpr h), if_pos h]
      · rw [if_neg (fun e => h ((filter_scale hS r').mp e)), if_neg h]
/-! sizes -/
def Bd (M : Nat) (r : List Int) : Prop := ∀ t, (r.getD t 0).natAbs ≤ M
theorem bd_of {M : Nat} {r : List Int} (h : ∀ x ∈ r, x.natAbs ≤ M) : Bd M r := fun t => by
  rw [List.getD_eq_getElem?_getD]
  cases e : r[t]? with
  | none => simp
  | some v => exact h v (List.mem_of_getElem? e)
theorem Bd.mem {M : Nat} {r : List Int} (h : Bd M r) {x : Int} (hx : x ∈ r) : x.natAbs ≤ M := by
  obtain ⟨i, hi, rfl⟩ := List.getElem_of_mem hx
  have := h i
  rwa [List.getD_eq_getElem?_getD, List.getElem?_eq_getElem hi] at this
theorem Bd.mono {M N : Nat} {r : List Int} (h : Bd M r) (hn : M ≤ N) : Bd N r := fun t => Nat.le_trans (h t) hn
theorem Bd.set {M : Nat} {r : List Int} (h : Bd M r) {n : Nat} {c : Int} (hc : c.natAbs ≤ M) : Bd M (r.set n c) := fun t => by
  rw [List.getD_eq_getElem?_getD, List.getElem?_set]
  by_cases e : n = t
  · subst e
    by_cases l : n < r.length
    · simp [l]; exact hc
    · simp [l]
  · simp only [e, if_false]
    exact h t
theorem Bd.take {M : Nat} {r : List Int} (h : Bd M r) (k : Nat) : Bd M (r.take k) := bd_of fun _ hx => h.mem (List.mem_of_mem_take hx)
theorem subs_bd {M B : Nat} {r f : List Int} {c : Int} {a : Nat} (hr : Bd M r) (hc : c.natAbs ≤ M) (hf : Bd B f) (h : a + f.length ≤ r.length) : Bd (M * (B + 1)) (subs c r a f) := fun t => by
  rw [subs_get _ _ _ _ _ h]
  have h1 := hr t
  have h2 : (if a ≤ t then f.getD (t - a) 0 else 0).natAbs ≤ B := by
    split
    · exact hf _
    · simp
  have h3 : (c * (if a ≤ t then f.getD (t - a) 0 else 0)).natAbs ≤ M * B := by
    rw [Int.natAbs_mul]
    exact Nat.mul_le_mul hc h2
  have h4 := Int.natAbs_sub_le (r.getD t 0) (c * (if a ≤ t then f.getD (t - a) 0 else 0))
  rw [Nat.mul_add, Nat.mul_one]
  omega
theorem fdiv_le {x l : Int} (hl : l ≠ 0) : (x.fdiv l).natAbs ≤ x.natAbs := by
  rcases Int.lt_or_gt_of_ne hl with h | h
  · have e : x.fdiv l = (-x).fdiv (-l) := by rw [Int.neg_fdiv_neg]
    rw [e, Int.fdiv_eq_ediv_of_nonneg _ (by omega)]
    have := Int.natAbs_ediv_le_natAbs (-x) (-l)
    rwa [Int.natAbs_neg] at this
  · rw [Int.fdiv_eq_ediv_of_nonneg _ (by omega)]
    exact Int.natAbs_ediv_le_natAbs x l
theorem divP_bd {f : List Int} {m B : Nat} {l : Int} (hl : l ≠ 0) (hm : f.length = m) (hf : Bd B f) : ∀ (n M : Nat) (r q r' q' : List Int), n + m ≤ r.length + 1 ∨ n = 0 → Bd M r → Bd M q → divP f m l n r q = some (r', q') → Bd (M * (B + 1) ^ n) q'
  | 0, M, r, q, r', q', _, _, hq, e => by
    cases e
    simpa using hq
  | n + 1, M, r, q, r', q', h, hr, hq, e => by
    unfold divP at e
    split at e
    · cases e
    · have hc : ((r.getD (n + m - 1) 0).fdiv l).natAbs ≤ M := Nat.le_trans (fdiv_le hl) (hr _)
      have up : M ≤ M * (B + 1) := Nat.le_mul_of_pos_right _ (by omega)
      have := divP_bd hl hm hf n (M * (B + 1)) _ _ r' q' (by rw [subs_len]; omega) (subs_bd hr hc hf (by omega)) ((hq.set hc).mono up) e
      rwa [Nat.mul_assoc, ← Nat.pow_succ'] at this
/-! products -/
def pf : List Int → List Int → Nat → Int
  | [], _, _ => 0
  | x :: f, g, t => x * g.getD t 0 + (match t with | 0 => 0 | t + 1 => pf f g t)
theorem getD_snoc (g : List Int) (y : Int) (t : Nat) : (g ++ [y]).getD t 0 = g.getD t 0 + if t = g.length then y else 0 := by
  rw [List.getD_eq_getElem?_getD, List.getD_eq_getElem?_getD]
  rcases Nat.lt_trichotomy t g.length with h | h | h
  · rw [List.getElem?_append_left h, if_neg (by omega)]; simp
  · subst h; simp
  · rw [List.getElem?_eq_none (by rw [List.length_append]; simp; omega), List.getElem?_eq_none (by omega), if_neg (by omega)]; simp
theorem getD_out {g : List Int} {t : Nat} (h : g.length ≤ t) : g.getD t 0 = 0 := by
  rw [List.getD_eq_getElem?_getD, List.getElem?_eq_none h]; rfl
theorem pf_snoc_f (g : List Int) (x : Int) : ∀ (f : List Int) (t : Nat), pf (f ++ [x]) g t = pf f g t + if f.length ≤ t then x * g.getD (t - f.length) 0 else 0
  | [], t => by cases t <;> simp [pf]
  | z :: f, 0 => by simp [pf]
  | z :: f, t + 1 => by
    show z * g.getD (t + 1) 0 + pf (f ++ [x]) g t = z * g.getD (t + 1) 0 + pf f g t + _
    rw [pf_snoc_f g x f t, List.length_cons, Nat.add_sub_add_right]
    by_cases h : f.length ≤ t
    · rw [if_pos h, if_pos (by omega)]; omega
    · rw [if_neg h, if_neg (by omega)]; omega
theorem pf_snoc_g (g : List Int) (y : Int) : ∀ (f : List Int) (t : Nat), pf f (g ++ [y]) t = pf f g t + if g.length ≤ t then f.getD (t - g.length) 0 * y else 0
  | [], t => by simp [pf]
  | z :: f, 0 => by
    show z * (g ++ [y]).getD 0 0 + 0 = z * g.getD 0 0 + 0 + _
    rw [getD_snoc]
    by_cases h : g.length = 0
    · rw [if_pos h.symm, if_pos (by omega), h]; simp; rw [Int.mul_add]
    · rw [if_neg (Ne.symm h), if_neg (by omega)]; simp
  | z :: f, t + 1 => by
    show z * (g ++ [y]).getD (t + 1) 0 + pf f (g ++ [y]) t = z * g.getD (t + 1) 0 + pf f g t + _
    rw [getD_snoc, pf_snoc_g g y f t]
    by_cases h : t + 1 = g.length
    · rw [if_pos h, if_neg (by omega), if_pos (by omega), h, Nat.sub_self]
      simp
      omega
    · rw [if_neg h]
      by_cases h2 : g.length ≤ t
      · rw [if_pos h2, if_pos (by omega), show t + 1 - g.length = (t - g.length) + 1 by omega]
        simp
        omega
      · rw [if_neg h2, if_neg (by omega)]
        simp
theorem pf_zero (g : List Int) : ∀ (f : List Int) (t : Nat), f.length + g.length ≤ t + 1 → pf f g t = 0
  | [], t, _ => by simp [pf]
  | z :: f, 0, h => by
    rw [List.length_cons] at h
    have : g.length = 0 := by omega
    show z * g.getD 0 0 + 0 = 0
    rw [getD_out (by omega)]; simp
  | z :: f, t + 1, h => by
    rw [List.length_cons] at h
    show z * g.getD (t + 1) 0 + pf f g t = 0
    by_cases hf : f.length = 0
    · obtain rfl := List.eq_nil_of_length_eq_zero hf
      rw [getD_out (by simp at h; omega)]; simp [pf]
    · rw [pf_zero g f t (by omega), getD_out (by omega)]; simp
theorem pf_bd {F G : Nat} {g : List Int} (hg : Bd G g) : ∀ (f : List Int) (t : Nat), Bd F f → (pf f g t).natAbs ≤ f.length * (F * G)
  | [], t, _ => by simp [pf]
  | z :: f, t, h => by
    have hz : z.natAbs ≤ F := h.mem List.mem_cons_self
    have hf : Bd F f := bd_of fun x hx => h.mem (List.mem_cons_of_mem _ hx)
    have h1 : (z * g.getD t 0).natAbs ≤ F * G := by rw [Int.natAbs_mul]; exact Nat.mul_le_mul hz (hg t)
    rw [List.length_cons, Nat.succ_mul]
    cases t with
    | zero =>
      show (z * g.getD 0 0 + 0).natAbs ≤ _
      rw [Int.add_zero]; omega
    | succ t =>
      show (z * g.getD (t + 1) 0 + pf f g t).natAbs ≤ _
      have := pf_bd hg f t hf
      have := Int.natAbs_add_le (z * g.getD (t + 1) 0) (pf f g t)
      omega
/-- what was multiplied comes out again -/
theorem divP_pf {f : List Int} {m : Nat} {l : Int} (hl : l ≠ 0) (hm : f.length = m) (h1 : 1 ≤ m) (hlast : f.getD (m - 1) 0 = l) : ∀ (n : Nat) (g r q : List Int), g.length = n → n + m ≤ r.length + 1 → n ≤ q.length → (∀ t, r.getD t 0 = pf f g t) →
    ∃ r' q', divP f m l n r q = some (r', q') ∧ (∀ t, r'.getD t 0 = 0) ∧ ∀ t, q'.getD t 0 = if t < n then g.getD t 0 else q.getD t 0
  | 0, g, r, q, hg, _, _, hr => by
    obtain rfl := List.eq_nil_of_length_eq_zero hg
    refine ⟨r, q, rfl, fun t => ?_, fun t => by rw [if_neg (by omega)]⟩
    rw [hr t]
    have : ∀ (f : List Int) (t : Nat), pf f [] t = 0 := by
      intro f
      induction f with
      | nil => intro t; rfl
      | cons z f ih =>
        intro t
        cases t with
        | zero => simp [pf]
        | succ t => simp [pf, ih t]
    exact this f t
  | n + 1, g, r, q, hg, hrl, hq, hr => by
    have hne : g ≠ [] := fun e => by rw [e] at hg; simp at hg
    obtain ⟨g0, y, rfl⟩ : ∃ g0 y, g = g0 ++ [y] := ⟨g.dropLast, g.getLast hne, (List.dropLast_concat_getLast hne).symm⟩
    have hg0 : g0.length = n := by simpa using hg
    have top : r.getD (n + m - 1) 0 = l * y := by
      rw [hr, pf_snoc_g, pf_zero _ _ _ (by omega), if_pos (by omega), show n + m - 1 - g0.length = m - 1 by omega, hlast]
      simp
    have e1 : (l * y).fdiv l = y := Int.mul_fdiv_cancel_left _ hl
    have e2 : (l * y).fmod l = 0 := Int.mul_fmod_right ..
    obtain ⟨r', q', ed, z, w⟩ := divP_pf hl hm h1 hlast n g0 (subs y r n f) (q.set n y) hg0 (by rw [subs_len]; omega) (by rw [List.length_set]; omega) fun t => by
      rw [subs_get _ _ _ _ _ (by omega), hr t, pf_snoc_g, hg0]
      by_cases h : n ≤ t
      · rw [if_pos h, if_pos h, Int.mul_comm]; omega
      · rw [if_neg h, if_neg h]; simp
    refine ⟨r', q', ?_, z, fun t => ?_⟩
    · unfold divP
      rw [top, e1, e2, if_neg (by simp)]
      exact ed
    · rw [w t, getD_snoc, hg0, getD_set _ _ _ _ (by omega)]
      rcases Nat.lt_trichotomy t n with h | h | h
      · rw [if_pos h, if_pos (by omega), if_neg (by omega)]; simp
      · subst h
        rw [if_neg (by omega), if_pos rfl, if_pos (by omega), if_pos rfl, getD_out (by omega)]; simp
      · rw [if_neg (by omega), if_neg (by omega), if_neg (by omega)]
end M3

set_option Elab.async false
set_option maxRecDepth 100000
set_option maxHeartbeats 4000000
/-! enumerate(t), t a tuple -/
namespace EN
open PySem PySem.Spec PyProof.Rows L2
open Sem (wp)
theorem new_enum {v : Value} {o : Obj} {G : Heap → Prop} (B : Begins v o G) :
    Meets (Builtin.«enumerate.__new__» ⟨[.type "enumerate", v], []⟩) (fun _ R s => G s.heap ∧
      R (.ok (.ret (.ref (s.heap.push o).objs.size)))
        { s with heap := (s.heap.push o).push { cls := .type "enumerate", data := .fields #[.none, .bool false, .ref s.heap.objs.size, rawInt 0, .none, .none] } }) := by
  refine .of_wp fun prog w A R s h => ?_
  obtain ⟨hp, g, d, tk, os⟩ := s
  obtain ⟨hG, h⟩ := h
  have sub := sub_enumerate
  have begin_ : ∀ {A' : Around} {E : Value → Shared → Prop} {Q : Value → Shared → Prop}, Q (.ref hp.objs.size) ⟨hp.push o, g, d, tk, os⟩ →
      wpAny (model prog w) A' (pyIter v) Q E ⟨hp, g, d, tk, os⟩ := fun q => B.iter prog w _ _ ⟨hp, g, d, tk, os⟩ _ hG q
  wp_walk using begin_
  refine wpAny_stack_any fun st => wpAny_pure ?_
  split
  · rename_i c _ _ _ _ _
    cases (c == Value.type "enumerate")
    all_goals
      wp_walk using begin_
      exact ⟨_, rfl, h⟩
  · wp_walk using begin_
    exact ⟨_, rfl, h⟩
theorem call_enum {prog : Program} {w : World} {A : Around} {E : Value → Shared → Prop} {s : Shared} {v : Value} {o : Obj} {G : Heap → Prop} {Q : Value → Shared → Prop} (B : Begins v o G) (hG : G s.heap)
    (h : ∀ h', IsEnum h' (s.heap.objs.size + 1) s.heap.objs.size 0 .none → h'.get? s.heap.objs.size = some o →
      (∀ b u, s.heap.get? b = some u → h'.get? b = some u) → Q (.ref (s.heap.objs.size + 1)) { s with heap := h' }) :
    wpAny (model prog w) A (call (.type "enumerate") [v]) Q E s := by
  apply callType_new F.called_enumerate (by decide) (F.typeCall_enumerate_1 _) (F.newCall_enumerate_1 _) (fun obj => F.args_object_init_2 obj _) F.entry_enumerate_new (new_enum B)
  refine ⟨hG, ?_⟩
  have size : (s.heap.push o).objs.size = s.heap.objs.size + 1 := Heap.size_push ..
  show _ ∧ _
  rw [size]
  have made : IsEnum ((s.heap.push o).push { cls := .type "enumerate", data := .fields #[.none, .bool false, .ref s.heap.objs.size, rawInt 0, .none, .none] }) (s.heap.objs.size + 1) s.heap.objs.size 0 .none := by
    have e := Heap.get?_push_size (s.heap.push o) (o := { cls := .type "enumerate", data := .fields #[.none, .bool false, .ref s.heap.objs.size, rawInt 0, .none, .none] }) rfl
    rwa [size] at e
  refine ⟨⟨_, made, rfl⟩, h _ made ?_ ?_⟩
  · exact Heap.get?_push_of_some _ (Heap.get?_push_size _ B.free)
  · intro b u e
    exact Heap.get?_push_of_some _ (Heap.get?_push_of_some _ e)

/-- the tuple at a, each item in a new pair with its place -/
def Pairs (K : PySem.W.Frag) (a : Addr) : It where
  go := fun i H => ∃ (xs : List V) (x : V), SqT K H a xs ∧ xs[i]? = some x
  yld := fun i H v H' => ∃ T x, v = .ref T ∧ H T = none ∧ H' = upd H T (.tup [.int (i : Nat), x]) ∧ ∀ xs, SqT K H a xs → xs[i]? = some x
  stop := fun i H => ∃ xs : List V, SqT K H a xs ∧ xs.length ≤ i
theorem turn_pairs {P : Program} {w : World} {K : PySem.W.Frag} {elts : List Expr} {kk : Nat} {tpos : Pos} (a e it : Addr) :
    Turn P w K (.Tuple elts kk tpos) (Pairs K a) [e, it] e (fun i h => (∃ old, IsEnum h e it ((i : Nat) : Int) old) ∧ h.IsTupleIter it a i ∧ e ≠ it) where
  mem := List.mem_cons_self ..
  obj := by
    rintro i h ⟨⟨old, he⟩, ⟨o, ho, hc, hd⟩, _⟩ b hb
    simp only [List.mem_cons, List.not_mem_nil, or_false] at hb
    rcases hb with rfl | rfl
    · exact ⟨_, he, fun v q => nomatch q⟩
    · exact ⟨o, ho, fun v q => by rw [hd] at q; cases q⟩
  keep := by
    rintro i h h' ⟨⟨old, he⟩, hi, hne⟩ k
    exact ⟨⟨old, k e (by simp) _ he⟩, hi.at fun o q => k it (by simp) o q, hne⟩
  item := by
    intro X hP hw hK calm i pins s σ H E I hf st hg
    subst hP hw hK
    obtain ⟨⟨old, he⟩, hit, hne⟩ := st
    obtain ⟨xs, x, hq, hx⟩ := hg
    obtain ⟨its, rv, p, hz⟩ := I.tuple hq
    obtain ⟨u, hu, ru⟩ := rv.get hx
    have le : e < s.heap.objs.size := Heap.lt_size he
    have li : it < s.heap.objs.size := by obtain ⟨_, q, _⟩ := hit; exact Heap.lt_size q
    have tup : s.heap.IsTuple a its.toArray := p
    have nai : a ≠ it := by
      rintro rfl
      obtain ⟨o1, q1, c1, _⟩ := tup
      obtain ⟨o2, q2, c2, _⟩ := hit
      rw [q1] at q2
      cases q2
      rw [c1] at c2
      injection c2 with c3
      exact absurd c3 (by decide)
    have nae : a ≠ e := by
      rintro rfl
      obtain ⟨o1, q1, c1, _⟩ := tup
      have q2 : s.heap.get? a = _ := he
      rw [q1] at q2
      cases q2
      injection c1 with c3
      exact absurd c3 (by decide)
    have lt : i < its.toArray.size := by
      have := (List.getElem?_eq_some_iff.mp hu).1
      simpa using this
    refine wpAny_pyNext_enum_itemD (Draws.tuple (A := X.A.in1) (by exact I.ok.hd calm) it a nai its.toArray) he ⟨hit, tup⟩ lt hne (by simp [hne, Ne.symm nae]) fun y h' tk hy ho st' hT hsz hk => ?_
    have ey : y = u := by
      have : its.toArray[i]? = some u := by simpa using hu
      exact Option.some.inj (hy.symm.trans this)
    subst ey
    refine ⟨_, rfl, wpAny_letOwnedTupleGo_enum (s := { s with heap := h', toks := tk + 1 }) ho fun h2 he2 sb => ?_⟩
    have sb' : Heap.SameBut e h' h2 := sb
    have hT2 : h2.get? s.heap.objs.size = some { cls := .type "tuple", data := .seq #[.int i tk, y] } := (sb'.2 _ (Nat.ne_of_gt le)).trans hT
    have new : ObjOk X.prog X.w (upd H s.heap.objs.size (.tup [.int (i : Nat), x])) h2 s.heap.objs.size (.tup [.int (i : Nat), x]) :=
      ⟨by show 2 ≤ sizeLine; decide, [.int i tk, y], .cons ⟨_, rfl⟩ (.cons ru .nil), ⟨_, hT2, rfl, _, rfl⟩⟩
    have I2 : Inv X pins σ (upd H s.heap.objs.size (.tup [.int (i : Nat), x])) { s with heap := h2, toks := tk + 1 } := by
      refine I.turnedNew (ch := [e, it]) (fun b ob hb q => ?_) hf (Nat.le_refl _) new
      have ne : b ≠ e := fun z => hb (by simp [z])
      have ni : b ≠ it := fun z => hb (by simp [z])
      exact (sb'.2 b ne).trans (hk b ob ne ni q)
    refine ⟨.ref s.heap.objs.size, _, I2, rfl, ⟨_, x, rfl, I.hok.fresh (Nat.le_refl _), rfl, fun ys hy => by rw [I.tuple_inj hy hq]; exact hx⟩, ⟨⟨y, ?_⟩, st'.1.at fun o q => (sb'.2 it (Ne.symm hne)).trans q, hne⟩, fun b hb => ?_⟩
    · have e1 : ((i + 1 : Nat) : Int) = (i : Int) + 1 := by omega
      rw [e1]
      exact he2
    · have lb : b < s.heap.objs.size := by
        simp only [List.mem_cons, List.not_mem_nil, or_false] at hb
        rcases hb with rfl | rfl
        · exact le
        · exact li
      rw [upd_ne (Nat.ne_of_lt lb)]
      exact (hf b hb).1
  done := by
    intro X hP hw hK calm i pins s σ H E I hf st hg
    subst hP hw hK
    obtain ⟨⟨old, he⟩, hit, hne⟩ := st
    obtain ⟨xs, hq, hx⟩ := hg
    obtain ⟨its, rv, p, hz⟩ := I.tuple hq
    have tup : s.heap.IsTuple a its.toArray := p
    have nai : a ≠ it := by
      rintro rfl
      obtain ⟨o1, q1, c1, _⟩ := tup
      obtain ⟨o2, q2, c2, _⟩ := hit
      rw [q1] at q2
      cases q2
      rw [c1] at c2
      injection c2 with c3
      exact absurd c3 (by decide)
    obtain ⟨f0, f1, f2, f3, f4, f5⟩ := hf it (by simp)
    have hl := rv.length
    have none_ : its.toArray[i]? = none := by simp; omega
    have hT : s.TypeIs (.ref e) "enumerate" := ⟨_, he, rfl⟩
    unfold pyNext
    refine wpAny_bind (wpAny_attempt (wpAny_callSpecial?_slot (name := Str.ofString "__next__") hT F.slot_enumerate_next
      (wpAny_call_entry F.slot_enumerate_next hT F.entry_enumerate_next ?_ (F.args_enumerate_next_1 _))))
    show wpAny _ _ (field (.ref e) 2 >>= _) _ _ _
    refine wpAny_bind (wpAny_field he rfl (x := .ref it) rfl ?_)
    refine wpAny_bind (wpAny_nextOf_tuple_end (I.ok.hd calm) hit tup none_ fun h' x he' hx' => ?_)
    obtain ⟨o, ho, hc⟩ := hx'
    refine wpAny_bind (wpAny_isInstance (T := "StopIteration") (b := true) ⟨o, ho, hc⟩ isSubtype_stop ?_)
    refine wpAny_pure ⟨rfl, ?_⟩
    exact I.turned (t' := s.toks) (fun b o hb q => he' b o hb q) f0 f1 f3 f4 f5
  self := by
    rintro A i s Q E ⟨⟨old, he⟩, _⟩ h
    exact wpAny_pyIter_enum he h
section
variable {X : Cx}
def tPairs (K : PySem.W.Frag) (ta : TA) : TI := fun σ H R => ta σ H fun vs H1 => ∃ a xs, vs = [.ref a] ∧ SqT K H1 a xs ∧ R (Pairs K a) H1
theorem pi_pairs {e : Expr} {ta : TA} {p pos tpos : Pos} {elts : List Expr} {kk : Nat} (glob : Gl X "enumerate") (none_ : X.mg "enumerate" = none) (args : PA X [e] ta)
    (star : starEach [e] X.env = [(false, eval e X.env)] := by rfl) : PI X (.Tuple elts kk tpos) (.Call (.Name "enumerate" p) [e] [] pos) (tPairs X.K ta) := by
  constructor
  intro pins s σ H R I h
  refine Call_ (ld_blt I glob none_ boot_enumerate ?_)
  refine PyProof.Rows.callWith_type1 (thn (args.run pos pins s σ H _ I h) fun us s1 got => ?_) star rfl
  obtain ⟨vs, H1, I1, r1, a, xs, ex, hq, q⟩ := got
  subst ex
  obtain ⟨u, eu, ru⟩ := vals1 r1
  subst eu
  have eu : u = Value.ref a := ru
  subst eu
  obtain ⟨its, rv, p', hz⟩ := I1.tuple hq
  refine call_enum (begins_tuple a its.toArray) p' fun h' he hit hk => wpAny_pyIter_enum he ?_
  have I2 : Inv X pins σ H1 { s1 with heap := h' } := I1.kept (t' := s1.toks) hk
  refine ⟨s1.heap.objs.size + 1, [s1.heap.objs.size + 1, s1.heap.objs.size], _, _, H1, rfl, I2, turn_pairs a (s1.heap.objs.size + 1) s1.heap.objs.size, ⟨⟨.none, he⟩, ⟨_, hit, rfl, rfl⟩, Nat.succ_ne_self _⟩, fun b hb => ?_, q⟩
  have above : s1.heap.objs.size ≤ b := by
    simp only [List.mem_cons, List.not_mem_nil, or_false] at hb
    rcases hb with rfl | rfl
    · exact Nat.le_add_right _ _
    · exact Nat.le_refl _
  exact I1.fpOk above (I1.hok.fresh above)
/-- the loop over the pairs -/
theorem for_pairs {K : PySem.W.Frag} {a : Addr} {xs : List V} {g : TG} {tb : TS} {D : Ends} {σ : L2.St} {H : Hp} (Pv : Nat → L2.St → Hp → Prop) (h0 : Pv 0 σ H) (hl : ∀ i σ H, i ≤ xs.length → Pv i σ H → SqT K H a xs)
    (turn : ∀ i x σ H T, xs[i]? = some x → Pv i σ H → H T = none → g (.ref T) σ (upd H T (.tup [.int (i : Nat), x])) fun σ2 H2 => tb { D with nx := Pv (i + 1), ct := Pv (i + 1), bk := D.nx } σ2 H2) (done : ∀ σ H, Pv xs.length σ H → D.nx σ H) :
    ∃ W : Nat → Nat → L2.St → Hp → Prop, (∃ m, W 0 m σ H) ∧ ∀ i m σ H, W i m σ H →
      ((Pairs K a).stop i H ∧ D.nx σ H) ∨ ((Pairs K a).go i H ∧ ∃ N : L2.St → Hp → Prop, (∀ σ' H', N σ' H' → ∃ m', m' < m ∧ W (i + 1) m' σ' H') ∧ ∀ x H', (Pairs K a).yld i H x H' → g x σ H' fun σ2 H2 => tb { D with nx := N, ct := N, bk := D.nx } σ2 H2) := by
  refine ⟨fun i m σ H => m = xs.length - i ∧ i ≤ xs.length ∧ Pv i σ H, ⟨xs.length, by simp, Nat.zero_le _, h0⟩, ?_⟩
  rintro i m σ H ⟨rfl, le, pv⟩
  have here := hl i σ H le pv
  rcases Nat.lt_or_ge i xs.length with lt | ge
  · refine .inr ⟨⟨xs, xs[i], here, List.getElem?_eq_getElem lt⟩, Pv (i + 1), fun σ' H' n => ⟨xs.length - (i + 1), by omega, rfl, lt, n⟩, ?_⟩
    rintro v H' ⟨T, x, rfl, nT, rfl, hx⟩
    exact turn i x σ H T (hx xs here) pv nT
  · have e : i = xs.length := by omega
    subst e
    exact .inl ⟨⟨xs, here, Nat.le_refl _⟩, done σ H pv⟩
end
end EN

set_option Elab.async false
set_option linter.all false
set_option maxRecDepth 100000
set_option maxHeartbeats 4000000
/-! operators and calls that the layer has for fewer numbers -/
namespace OPS
open PySem PySem.Spec PyProof.Rows L2
section
variable {X : Cx}
/-- a divisor of either sign -/
def CDivZ (_ j : Int) : Prop := j ≠ 0 ∧ j.natAbs.log2 < 9000
theorem op_fdivZ : OpR X (binaryOp .FloorDiv) (rI CDivZ fun i j => .int (i.fdiv j)) := opI fun _ _ _ _ _ _ _ c q => floordiv_int c.1 q (.inl (PyProof.noPylong_of_log2 c.2))
theorem call_divmodZ : CallR X (.builtin "divmod") (fun vs H Q => ∃ i j : Int, vs = [.int i, .int j] ∧ CDivZ i j ∧ ∀ p, H p = none → Q (.ref p) (upd H p (.tup [.int (i.fdiv j), .int (i.fmod j)]))) := by
  intro pins s σ H vs us Q I r h
  obtain ⟨i, j, ev, c, q⟩ := h
  subst ev
  obtain ⟨u, v, eu, ⟨t, et⟩, ⟨t', et'⟩⟩ := vals2 r
  subst eu et et'
  apply divmod_int c.1 _ (.inl (PyProof.noPylong_of_log2 c.2))
  have free : H s.heap.objs.size = none := I.hok.fresh (Nat.le_refl _)
  refine ⟨.ref s.heap.objs.size, _, I.laid (fun b o e => Heap.get?_push_of_some _ e) (Nat.le_refl _) ?_, rfl, q _ free⟩
  exact ⟨by show 2 ≤ sizeLine; decide, [.int (i.fdiv j) s.toks, .int (i.fmod j) (s.toks + 1)], .cons ⟨_, rfl⟩ (.cons ⟨_, rfl⟩ .nil), ⟨_, Heap.get?_push_size s.heap rfl, rfl, 0, rfl⟩⟩
/-- xs[i] as read ahead of xs[i] op= .. -/
theorem get_list : PGet X (fun o i H Q => ∃ (p : Addr) (xs : List V) (k : Nat) (v : V), o = .ref p ∧ i = .int (k : Int) ∧ SqL X.K H p xs ∧ xs[k]? = some v ∧ Q v H) := by
  intro pins s σ H o i ov iv Q I ro ri h
  obtain ⟨p, xs, k, v, eo, ei, hq, hv, q⟩ := h
  subst eo ei
  have eov : ov = Value.ref p := ro
  subst eov
  obtain ⟨t, et⟩ := ri
  subst et
  obtain ⟨its, r, pl, hz⟩ := I.list hq
  obtain ⟨u, hu, ru⟩ := r.get hv
  have lt : k < its.length := (List.getElem?_eq_some_iff.mp hu).1
  have hl := r.length
  have hn := line63
  refine wpAny_getItem_list pl.isList (by omega) (by omega) (x := u) (by simpa using hu) ⟨v, H, I, ru, q⟩
/-- any(xs), xs a list of ints -/
def rAnyI (K : PySem.W.Frag) : List V → Hp → VK → Prop := fun vs H Q => ∃ (a : Addr) (ns : List Int), vs = [.ref a] ∧ SqL K H a (ns.map V.int) ∧ Q (.bl (ns.any fun n => n != 0)) H
theorem dpI {K : PySem.W.Frag} {H : Hp} : ∀ ns : List Int, DpAll K H (ns.map V.int) (ns.map PyData.int)
  | [] => .nil
  | n :: r => .cons (.int n) (dpI r)
theorem plain_ints : ∀ ns : List Int, PyData.plainAll (ns.map PyData.int) = true
  | [] => rfl
  | _ :: r => by simp [PyData.plainAll, PyData.plain, plain_ints r]
theorem any_truthy : ∀ ns : List Int, (ns.map PyData.int).any PyData.truthy = ns.any fun n => n != 0
  | [] => rfl
  | n :: r => by simp [PyData.truthy, List.any_map]; rfl
theorem call_anyI (calm : X.calm = true) : CallR X (.builtin "any") (rAnyI X.K) := by
  intro pins s σ H vs us Q I r h
  obtain ⟨a, ns, ev, hs, q⟩ := h
  subst ev
  rw [Vals.ref1 r]
  obtain ⟨as, reads⟩ := Dp.reads I (.list (ns.map PyData.int)) (.ref a) (.ref a) (.lst hs (dpI ns)) rfl
  obtain ⟨its, rv, hl, _⟩ := I.list hs
  cases reads with
  | list hg hc hd hr =>
    rename_i o vs n bs
    refine PySem.W.any_list_data (vs := vs) (I.ok.hd calm) ⟨_, hg, hc, _, hd⟩ hr (plain_ints ns) (fun x hx => ?_) fun h' tk hk => ?_
    · obtain ⟨n, _, rfl⟩ := List.mem_map.mp hx
      trivial
    · exact ⟨.bl _, H, I.kept hk, by rw [any_truthy]; rfl, q⟩
end
end OPS

set_option Elab.async false
set_option linter.all false
set_option maxRecDepth 100000
set_option maxHeartbeats 4000000
/-! zip_longest(a, b, fillvalue=0), a and b tuples -/
namespace ZL
open PySem PySem.Spec PyProof.Rows L2
open Sem (wp)
abbrev TN : String := "itertools.zip_longest"
theorem mro_zl : mroOf (.type TN) = pure [.type TN, .type "object"] := by
  rw [mroOf_type]
  kernel_rfl
theorem new_zl : typeLookup (.type TN) "__new__" = pure (some (.builtin "itertools.zip_longest.__new__")) := by
  rw [typeLookup_type, builtinLookup_eq_fast]
  kernel_rfl
theorem sub_zl : isSubtype (.type TN) (.type TN) = pure true := by
  rw [isSubtype_type]
  kernel_rfl
theorem slot_zl_init : Slot TN "__init__" "object.__init__" := by
  refine .of (owner := "object") (n := "__init__") ?_ (by decide +kernel) (by decide +kernel) (by decide +kernel) ?_ ?_
  · rw [typeLookup_type, builtinLookup_eq_fast]
    kernel_rfl
  · first | exact .inl (by decide +kernel) | exact .inr (by decide +kernel)
  · rw [isSubtype_type]
    kernel_rfl
theorem slot_zl_iter : Slot TN "__iter__" "itertools.zip_longest.__iter__" := by
  refine .of (owner := TN) (n := "__iter__") ?_ (by decide +kernel) (by decide +kernel) (by decide +kernel) ?_ sub_zl
  · rw [typeLookup_type, builtinLookup_eq_fast]
    kernel_rfl
  · first | exact .inl (by decide +kernel) | exact .inr (by decide +kernel)
theorem slot_zl_next : Slot TN "__next__" "itertools.zip_longest.__next__" := by
  refine .of (owner := TN) (n := "__next__") ?_ (by decide +kernel) (by decide +kernel) (by decide +kernel) ?_ sub_zl
  · rw [typeLookup_type, builtinLookup_eq_fast]
    kernel_rfl
  · first | exact .inl (by decide +kernel) | exact .inr (by decide +kernel)
theorem called_zl : TypeCalled TN "itertools.zip_longest.__new__" "object.__init__" :=
  ⟨by decide +kernel, by decide +kernel, ⟨_, _, mro_zl⟩, madeBy_type mro_zl new_zl (by decide +kernel), by decide +kernel, sub_zl, slot_zl_init⟩
theorem entry_zl_new : entryFor table "itertools.zip_longest.__new__" = some Builtin.«itertools.zip_longest.__new__» := entryFor_of_tree (by kernel_rfl)
theorem entry_zl_next : entryFor table "itertools.zip_longest.__next__" = some Builtin.«itertools.zip_longest.__next__» := entryFor_of_tree (by kernel_rfl)
theorem entry_zl_iter : entryFor table "itertools.zip_longest.__iter__" = some Builtin.«dict_keyiterator.__iter__» := by
  refine entryFor_alias (id' := "dict_keyiterator.__iter__") (by kernel_rfl) ?_ (by decide +kernel) (by kernel_rfl)
  first | rfl | decide +kernel | (unfold String.splitOn; simp +decide [String.splitOnAux])
abbrev rev : List Char := ['t', 's', 'e', 'g', 'n', 'o', 'l', '_', 'p', 'i', 'z', '.', 's', 'l', 'o', 'o', 't', 'r', 'e', 't', 'i']
theorem owner_zl : Manifest.owners.lookup (String.ofList rev.reverse) = some Manifest.sig_itertools_zip_longest := by kernel_rfl
theorem args_zl_iter (a : Value) : argsOk "itertools.zip_longest.__iter__" ⟨[a], []⟩ := by
  unfold argsOk
  rw [signature?_of (id := "itertools.zip_longest.__iter__") (n := ['_', '_', 'r', 'e', 't', 'i', '_', '_']) (o := rev) (by kernel_rfl) owner_zl]
  kernel_rfl
theorem args_zl_next (a : Value) : argsOk "itertools.zip_longest.__next__" ⟨[a], []⟩ := by
  unfold argsOk
  rw [signature?_of (id := "itertools.zip_longest.__next__") (n := ['_', '_', 't', 'x', 'e', 'n', '_', '_']) (o := rev) (by kernel_rfl) owner_zl]
  kernel_rfl
theorem dict_zl : typeHasDict (.type TN) = false := by decide +kernel
theorem typeCall_zl (a b c : Value) : checkTypeCall TN ⟨[a, b], [(Str.ofString "fillvalue", c)]⟩ = pure () := by kernel_rfl
theorem newCall_zl (a b c : Value) : checkBuiltinCall "itertools.zip_longest.__new__" ⟨[.type TN, a, b], [(Str.ofString "fillvalue", c)]⟩ = pure () := by kernel_rfl
theorem init_zl (o a b c : Value) : argsOk "object.__init__" ⟨[o, a, b], [(Str.ofString "fillvalue", c)]⟩ := by
  unfold argsOk
  kernel_rfl

/-- the record: what it keeps in hand, what it fills with, how many still run, the iterators, the pair it writes to -/
abbrev IsZL (h : Heap) (z TI TO : Addr) (own fill : Value) (run : Int) : Prop :=
  h.get? z = some { cls := .type TN, dict := none, data := .fields #[own, .bool false, fill, rawInt run, .ref TI, .ref TO], slots := #[] }
section
variable (h : Heap) (l1 l2 : Addr) (fill : Value)
abbrev n1 : Heap := h.push { cls := .type "tuple_iterator", data := .fields #[.ref l1, .int 0 0] }
abbrev n2 : Heap := (n1 h l1).push { cls := .type "tuple_iterator", data := .fields #[.ref l2, .int 0 0] }
abbrev n3 : Heap := (n2 h l1 l2).push { cls := .type "tuple", data := .seq #[.ref h.objs.size, .ref (n1 h l1).objs.size] }
abbrev n4 : Heap := (n3 h l1 l2).push { cls := .type "tuple", data := .seq #[.none, .none] }
abbrev n5 : Heap := (n4 h l1 l2).push { cls := .type TN, data := .fields #[.none, .bool false, fill, rawInt 2, .ref (n2 h l1 l2).objs.size, .ref (n3 h l1 l2).objs.size] }
end
end ZL

set_option Elab.async false
set_option linter.all false
set_option maxRecDepth 100000
set_option maxHeartbeats 4000000
/-! zip_longest(a, b, fillvalue=0), a and b tuples -/
namespace ZL
open PySem PySem.Spec PyProof.Rows L2
open Sem (wp)
theorem meets_zl_new (l1 l2 : Addr) (xs ys : Array Value) (fill : Value) :
    Meets (Builtin.«itertools.zip_longest.__new__» ⟨[.type TN, .ref l1, .ref l2], [(Str.ofString "fillvalue", fill)]⟩) (fun _ R s => s.heap.IsTuple l1 xs ∧ s.heap.IsTuple l2 ys ∧
      R (.ok (.ret (.ref (n4 s.heap l1 l2).objs.size))) { s with heap := n5 s.heap l1 l2 fill }) := by
  refine .of_wp fun prog w A R s h => ?_
  obtain ⟨hp, g, d, tk, os⟩ := s
  obtain ⟨t1, t2, h⟩ := h
  have subT : isSubtype (.type TN) (.type ("itertools." ++ "zip_longest")) = pure true := by
    rw [show "itertools." ++ "zip_longest" = TN from by decide +kernel]
    exact sub_zl
  have noD := dict_zl
  have e1 : (Str.ofString "fillvalue" == ("fillvalue" : Str)) = true := by decide +kernel
  have it1 : Heap.IsTuple (Shared.heap ⟨hp, g, d, tk, os⟩) l1 xs := t1
  have it2 : Heap.IsTuple (Shared.heap ⟨n1 hp l1, g, d, tk, os⟩) l2 ys := Heap.IsTuple.push t2 _
  wp_walk using wpAny_pyIter_tuple it1, wpAny_pyIter_tuple it2
  exact ⟨_, rfl, h⟩
section
variable {prog : Program} {w : World} {A : Around} {E : Value → Shared → Prop} {s : Shared}
theorem call_zl {l1 l2 : Addr} {xs ys : Array Value} {fill : Value} {Q : Value → Shared → Prop} (t1 : s.heap.IsTuple l1 xs) (t2 : s.heap.IsTuple l2 ys)
    (h : ∀ h', IsZL h' (s.heap.objs.size + 4) (s.heap.objs.size + 2) (s.heap.objs.size + 3) .none fill 2 → IsPair h' (s.heap.objs.size + 2) (.ref s.heap.objs.size) (.ref (s.heap.objs.size + 1)) →
      IsPair h' (s.heap.objs.size + 3) .none .none → h'.IsTupleIter s.heap.objs.size l1 0 → h'.IsTupleIter (s.heap.objs.size + 1) l2 0 →
      (∀ c o, s.heap.get? c = some o → h'.get? c = some o) → Q (.ref (s.heap.objs.size + 4)) { s with heap := h' }) :
    wpAny (model prog w) A (call (.type TN) [.ref l1, .ref l2] [(Str.ofString "fillvalue", fill)]) Q E s := by
  refine callType_newKw called_zl (by decide +kernel) (typeCall_zl _ _ _) (newCall_zl _ _ _) (fun obj => init_zl obj _ _ _) entry_zl_new (meets_zl_new l1 l2 xs ys fill) ⟨t1, t2, ?_⟩
  have c1 : (n1 s.heap l1).objs.size = s.heap.objs.size + 1 := Heap.size_push ..
  have c2 : (n2 s.heap l1 l2).objs.size = s.heap.objs.size + 2 := by rw [Heap.size_push, c1]
  have c3 : (n3 s.heap l1 l2).objs.size = s.heap.objs.size + 3 := by rw [Heap.size_push, c2]
  have c4 : (n4 s.heap l1 l2).objs.size = s.heap.objs.size + 4 := by rw [Heap.size_push, c3]
  have up1 : ∀ {c o}, (n4 s.heap l1 l2).get? c = some o → (n5 s.heap l1 l2 fill).get? c = some o := fun e => Heap.get?_push_of_some _ e
  have up2 : ∀ {c o}, (n3 s.heap l1 l2).get? c = some o → (n5 s.heap l1 l2 fill).get? c = some o := fun e => up1 (Heap.get?_push_of_some _ e)
  have up3 : ∀ {c o}, (n2 s.heap l1 l2).get? c = some o → (n5 s.heap l1 l2 fill).get? c = some o := fun e => up2 (Heap.get?_push_of_some _ e)
  have up4 : ∀ {c o}, (n1 s.heap l1).get? c = some o → (n5 s.heap l1 l2 fill).get? c = some o := fun e => up3 (Heap.get?_push_of_some _ e)
  have r5 : (n5 s.heap l1 l2 fill).get? (n4 s.heap l1 l2).objs.size = some _ := Heap.get?_push_size _ rfl
  have r4 : (n5 s.heap l1 l2 fill).get? (n3 s.heap l1 l2).objs.size = some _ := up1 (Heap.get?_push_size _ rfl)
  have r3 : (n5 s.heap l1 l2 fill).get? (n2 s.heap l1 l2).objs.size = some _ := up2 (Heap.get?_push_size _ rfl)
  have r2 : (n5 s.heap l1 l2 fill).get? (n1 s.heap l1).objs.size = some _ := up3 (Heap.get?_push_size _ rfl)
  have r1 : (n5 s.heap l1 l2 fill).get? s.heap.objs.size = some _ := up4 (Heap.get?_push_size _ rfl)
  show _ ∧ _
  rw [c2, c3, c4] at r5
  rw [c1, c2] at r3
  rw [c3] at r4
  rw [c1] at r2
  rw [c4]
  exact ⟨⟨_, r5, rfl⟩, h _ r5 r3 r4 ⟨_, r1, rfl, rfl⟩ ⟨_, r2, rfl, rfl⟩ fun c o x => up4 (Heap.get?_push_of_some _ x)⟩
theorem iter_zl {z TI TO : Addr} {own fill : Value} {run : Int} {Q : Value → Shared → Prop} (zr : IsZL s.heap z TI TO own fill run) (h : Q (.ref z) s) : wpAny (model prog w) A (pyIter (.ref z)) Q E s := by
  have ty : s.TypeIs (.ref z) TN := ⟨_, zr, rfl⟩
  refine wpAny_pyIter_slot ty slot_zl_iter (wpAny_call_entry slot_zl_iter ty entry_zl_iter ?_ (args_zl_iter _))
  show wpAny _ _ (ret (.ref z)) _ _ s
  exact wpAny_pure ⟨_, rfl, TN, _, ty, slot_zl_next.lookup, h⟩
end
end ZL

set_option Elab.async false
set_option linter.all false
set_option maxRecDepth 100000
set_option maxHeartbeats 4000000
/-! zip_longest(a, b, fillvalue=0), a and b tuples -/
namespace ZL
open PySem PySem.Spec PyProof.Rows L2
open Sem (wp)
section
variable {prog : Program} {w : World} {A : Around} {E : Value → Shared → Prop} {s : Shared}
/-- the tuple's iterator has no more, and what it is then -/
theorem tuple_out {it t : Addr} {i : Nat} {items : Array Value} {Q : Option Value → Shared → Prop} (calm : A.handled = none) (hit : s.heap.IsTupleIter it t i) (tp : s.heap.IsTuple t items) (no : items[i]? = none)
    (go : ∀ h', Heap.ExtBut it s.heap h' → (∃ o, h'.get? it = some o ∧ ∀ v, o.data ≠ .cell v) → s.heap.objs.size ≤ h'.objs.size → Q none { s with heap := h' }) : wpAny (model prog w) A (pyNext (.ref it)) Q E s := by
  obtain ⟨o, oi, oc, od⟩ := id hit
  obtain ⟨u, ui, _, k, ud⟩ := tp
  unfold pyNext
  refine wpAny_bind (wpAny_attempt (wpAny_callSpecial?_slot (name := Str.ofString "__next__") hit.typeIs F.slot_tuple_iterator_next ?_))
  refine wpAny_call_entry F.slot_tuple_iterator_next hit.typeIs F.entry_tuple_iterator_next ?_ (F.args_tuple_iterator_next_1 _)
  show wpAny _ _ (field (.ref it) 0 >>= _) _ _ s
  refine wpAny_bind (wpAny_field oi od (x := .ref t) rfl ?_)
  show wpAny _ _ (if (Value.ref t == Value.none) = true then _ else _) _ _ s
  rw [if_neg (by exact Bool.false_ne_true)]
  show wpAny _ _ (field (.ref it) 1 >>= _) _ _ s
  refine wpAny_bind (wpAny_field oi od (x := .int i 0) rfl ?_)
  show wpAny _ _ (seqItems? (.ref t) >>= _) _ _ s
  refine wpAny_bind (wpAny_seqItems ui ud ?_)
  simp only [Int.toNat_natCast, no]
  refine wpAny_bind (wpAny_rule (wpAny_bind (wpAny_setField oi od (by simp) ?_)))
  show wpAny _ _ (newExc (.type "StopIteration") [] >>= _) _ _ _
  refine wpAny_bind ?_
  simp only [newExc, newTuple]
  refine wpAny_bind (wpAny_newObj_type ?_ (by size_fits))
  refine wpAny_bind (m := firstArgMember _ _) (wpAny_of_eq (a := Value.none) ?_ ?_)
  · first | rfl | (simp only [firstArgMember]; rfl)
  refine wpAny_newObj_type ?_ (by size_fits)
  simp only [raiseNew]
  refine wpAny_bind (wpAny_handled ?_)
  first | rw [show A.in1.handled = none from calm] | rw [calm]
  refine wpAny_bind (wpAny_pure (wpAny_throw ?_))
  refine wpAny_bind (wpAny_isInstance (T := "StopIteration") (b := true) ⟨_, Heap.get?_push_size _ rfl, rfl⟩ isSubtype_stop ?_)
  refine wpAny_pure (go _ (((Heap.SameBut.update ..).extBut.push _).push _) ?_ ?_)
  rotate_left
  · show _ ≤ Array.size _
    rw [Heap.size_push, Heap.size_push, (Heap.SameBut.update s.heap it _).1]
    omega
  refine ⟨_, Heap.get?_push_of_some _ (Heap.get?_push_of_some _ (Heap.get?_update_self _ oi (Obj.isFreed_of_fields (Obj.data_mapFields od _)))), fun v e => ?_⟩
  rw [Obj.data_mapFields od] at e
  cases e
/-- who stands in the place of a tuple of n items at turn i -/
abbrev at_ (n i : Nat) (it : Addr) : Value := if i ≤ n then .ref it else .none
abbrev one_ (n i : Nat) : Int := if i ≤ n then 1 else 0
structure Live (h : Heap) (it l : Addr) (n i : Nat) : Prop where
  on : i ≤ n → h.IsTupleIter it l i
  obj : ∃ o, h.get? it = some o ∧ ∀ v, o.data ≠ .cell v
/-- what one draw leaves -/
def Out (h : Heap) (z TI TO j l : Addr) (n i : Nat) (fill x : Value) (oth : Int) (P : Value → Heap → Prop) (mk : Heap → Shared) (r : Option Value) (s' : Shared) : Prop :=
  ∃ h2, s' = mk h2 ∧ h.objs.size ≤ h2.objs.size ∧ (∀ c o, c ≠ z → c ≠ TI → c ≠ j → h.get? c = some o → h2.get? c = some o) ∧
    ((r = some x ∧ IsZL h2 z TI TO .ellipsis fill (one_ n (i + 1) + oth) ∧ P (at_ n (i + 1) j) h2 ∧ Live h2 j l n (i + 1) ∧ ¬ (i = n ∧ oth = 0)) ∨
      (r = none ∧ i = n ∧ oth = 0 ∧ ∃ q, IsZL h2 z TI TO .ellipsis fill q))
theorem next_zl {z TI TO j1 j2 l1 l2 : Addr} {i : Nat} {xs ys : Array Value} {fill a b : Value} {Q : Value → Shared → Prop} (calm : A.handled = none) (D : ZipApart z TI TO j1 j2 l1 l2) (dl : l2 ≠ TI)
    (zr : IsZL s.heap z TI TO .none fill (one_ xs.size i + one_ ys.size i)) (ti : IsPair s.heap TI (at_ xs.size i j1) (at_ ys.size i j2)) (to : IsPair s.heap TO a b)
    (v1 : Live s.heap j1 l1 xs.size i) (v2 : Live s.heap j2 l2 ys.size i) (t1 : s.heap.IsTuple l1 xs) (t2 : s.heap.IsTuple l2 ys) (lm : i ≤ max xs.size ys.size)
    (item : i < max xs.size ys.size → ∀ h' (T : Nat), s.heap.objs.size ≤ T → IsZL h' z TI TO (rawInt T) fill (one_ xs.size (i + 1) + one_ ys.size (i + 1)) → IsPair h' TI (at_ xs.size (i + 1) j1) (at_ ys.size (i + 1) j2) → (∃ p q, IsPair h' TO p q) →
      Live h' j1 l1 xs.size (i + 1) → Live h' j2 l2 ys.size (i + 1) → IsPair h' T ((xs[i]?).getD fill) ((ys[i]?).getD fill) →
      (∀ c o, c ≠ z → c ≠ TI → c ≠ TO → c ≠ j1 → c ≠ j2 → s.heap.get? c = some o → h'.get? c = some o) → Q (.ref T) { s with heap := h' })
    (done : i = max xs.size ys.size → ∀ h' e, (∀ c o, c ≠ z → c ≠ TI → c ≠ TO → c ≠ j1 → c ≠ j2 → s.heap.get? c = some o → h'.get? c = some o) → (∃ o, h'.get? e = some o ∧ o.cls = .type "StopIteration") → E (.ref e) { s with heap := h' }) :
    wpAny (model prog w) A (Builtin.«itertools.zip_longest.__next__» ⟨[.ref z], []⟩) (fun fin s' => ∃ v, fin = .done (.ret v) ∧ Q v s') E s := by
  have pos : one_ xs.size i + one_ ys.size i ≠ 0 := by
    unfold one_
    have : i ≤ xs.size ∨ i ≤ ys.size := by omega
    rcases this with q | q
    · rw [if_pos q]; split <;> decide
    · rw [if_pos q]; split <;> decide
  show wpAny _ _ (Builtin.Itertools.itIntField (.ref z) 3 >>= _) _ _ _
  refine wpAny_bind ?_
  show wpAny _ _ (field (.ref z) 3 >>= _) _ _ _
  refine wpAny_bind (wpAny_field zr rfl (x := rawInt (one_ xs.size i + one_ ys.size i)) rfl (wpAny_pure ?_))
  show wpAny _ _ (if (one_ xs.size i + one_ ys.size i == 0) = true then _ else _) _ _ s
  rw [if_neg (by rw [beq_iff_eq]; exact pos)]
  show wpAny _ _ (field (.ref z) 4 >>= _) _ _ _
  refine wpAny_bind (wpAny_field zr rfl (x := .ref TI) rfl ?_)
  show wpAny _ _ (Builtin.Itertools.itPoolItems (.ref TI) >>= _) _ _ _
  refine wpAny_bind ?_
  show wpAny _ _ (seqItems? (.ref TI) >>= _) _ _ _
  refine wpAny_bind (wpAny_seqItems ti rfl (wpAny_pure ?_))
  show wpAny _ _ (Builtin.Itertools.itOwnedIsFree (.ref z) >>= _) _ _ _
  refine wpAny_bind ?_
  show wpAny _ _ (field (.ref z) 0 >>= _) _ _ _
  refine wpAny_bind (wpAny_field zr rfl (x := .none) rfl (wpAny_pure ?_))
  simp only [if_true]
  refine wpAny_bind (wpAny_rule ?_)
  refine wpAny_bind (wpAny_field zr rfl (x := .ref TO) rfl ?_)
  refine wpAny_bind (wpAny_setField_rec zr (by simp) fun h1 zr1 sb1 => ?_)
  replace zr1 : IsZL h1 z TI TO .ellipsis fill (one_ xs.size i + one_ ys.size i) := zr1
  have ti1 := (sb1.2 TI D.TIz).trans ti
  have to1 : IsPair h1 TO a b := (sb1.2 TO D.TOz).trans to
  have w1 : Live h1 j1 l1 xs.size i := ⟨fun q => (v1.on q).at fun o e => (sb1.2 _ D.i1z).trans e, v1.obj.imp fun o e => ⟨(sb1.2 _ D.i1z).trans e.1, e.2⟩⟩
  have w2 : Live h1 j2 l2 ys.size i := ⟨fun q => (v2.on q).at fun o e => (sb1.2 _ D.i2z).trans e, v2.obj.imp fun o e => ⟨(sb1.2 _ D.i2z).trans e.1, e.2⟩⟩
  have x1 : h1.IsTuple l1 xs := t1.at fun o e => (sb1.2 _ D.l1z).trans e
  have x2 : h1.IsTuple l2 ys := t2.at fun o e => (sb1.2 _ D.l2z).trans e
  refine wpAny_bind ?_
  simp only [List.size_toArray, List.length_cons, List.length_nil]
  simp only [show List.range (0 + 1 + 1) = [0, 1] from rfl, List.forIn_cons, List.forIn_nil]
  refine wpAny_bind (wpAny_bind (wpAny_onRaise ?_))
  refine wpAny_mono (Q := Out h1 z TI TO j1 l1 xs.size i fill ((xs[i]?).getD fill) (one_ ys.size i) (fun v h => IsPair h TI v (at_ ys.size i j2)) (fun h => { s with heap := h })) ?_ ?_ (fun _ _ e => e)
  · show wpAny _ _ (field (.ref z) 4 >>= _) _ _ _
    refine wpAny_bind (wpAny_field zr1 rfl (x := .ref TI) rfl ?_)
    show wpAny _ _ (Builtin.Itertools.itPoolItems (.ref TI) >>= _) _ _ _
    refine wpAny_bind ?_
    show wpAny _ _ (seqItems? (.ref TI) >>= _) _ _ _
    rcases Nat.lt_trichotomy i xs.size with lt | eq | gt
    · have ea : at_ xs.size i j1 = .ref j1 := if_pos (Nat.le_of_lt lt)
      rw [ea] at ti1
      refine wpAny_bind (wpAny_seqItems ti1 rfl (wpAny_pure ?_))
      show wpAny _ _ (field (.ref z) 2 >>= _) _ _ _
      refine wpAny_bind (wpAny_field zr1 rfl (x := fill) rfl ?_)
      show wpAny _ _ (if (Value.ref j1 == Value.none) = true then _ else _) _ _ _
      rw [if_neg (by exact Bool.false_ne_true)]
      refine wpAny_bind (wpAny_onRaise ?_)
      show wpAny _ _ (pyNext (.ref j1)) _ _ _
      refine wpAny_pyNext_tuple_item (w1.on (Nat.le_of_lt lt)) x1 (x := xs[i]) (Array.getElem?_eq_getElem lt) fun h2 it2 sb2 => wpAny_pure ?_
      refine ⟨h2, rfl, Nat.le_of_eq sb2.1.symm, fun c o _ _ c3 e => (sb2.2 c c3).trans e, .inl ⟨by rw [Array.getElem?_eq_getElem lt]; rfl, ?_, ?_, ⟨fun _ => it2, ?_⟩, fun q => absurd q.1 (Nat.ne_of_lt lt)⟩⟩
      · have e1 : one_ xs.size (i + 1) = one_ xs.size i := by rw [show one_ xs.size (i + 1) = 1 from if_pos lt, show one_ xs.size i = 1 from if_pos (Nat.le_of_lt lt)]
        rw [e1]
        exact (sb2.2 z D.i1z.symm).trans zr1
      · rw [show at_ xs.size (i + 1) j1 = .ref j1 from if_pos lt]
        exact (sb2.2 TI D.TIi1).trans ti1
      · obtain ⟨o, e, _, d⟩ := it2
        exact ⟨o, e, fun v q => by rw [d] at q; cases q⟩
    · have ea : at_ xs.size i j1 = .ref j1 := if_pos (Nat.le_of_eq eq)
      rw [ea] at ti1
      refine wpAny_bind (wpAny_seqItems ti1 rfl (wpAny_pure ?_))
      show wpAny _ _ (field (.ref z) 2 >>= _) _ _ _
      refine wpAny_bind (wpAny_field zr1 rfl (x := fill) rfl ?_)
      show wpAny _ _ (if (Value.ref j1 == Value.none) = true then _ else _) _ _ _
      rw [if_neg (by exact Bool.false_ne_true)]
      refine wpAny_bind (wpAny_onRaise ?_)
      show wpAny _ _ (pyNext (.ref j1)) _ _ _
      have gone : xs[i]? = none := Array.getElem?_eq_none (by omega)
      refine tuple_out calm (w1.on (Nat.le_of_eq eq)) x1 gone fun h2 xb2 ob2 le2 => ?_
      have ti2 := xb2 _ _ D.TIi1 ti1
      have zr2 := xb2 _ _ D.i1z.symm zr1
      show wpAny _ _ (Builtin.Itertools.itPoolItems (.ref TI) >>= _) _ _ _
      refine wpAny_bind ?_
      show wpAny _ _ (seqItems? (.ref TI) >>= _) _ _ _
      refine wpAny_bind (wpAny_seqItems ti2 rfl (wpAny_pure ?_))
      show wpAny _ _ (if (Value.ref j1 == Value.none) = true then _ else _) _ _ _
      rw [if_neg (by exact Bool.false_ne_true)]
      show wpAny _ _ (Builtin.Itertools.itIntField (.ref z) 3 >>= _) _ _ _
      refine wpAny_bind ?_
      show wpAny _ _ (field (.ref z) 3 >>= _) _ _ _
      refine wpAny_bind (wpAny_field zr2 rfl (x := rawInt (one_ xs.size i + one_ ys.size i)) rfl (wpAny_pure ?_))
      refine wpAny_bind (wpAny_setField_rec zr2 (by simp) fun h3 zr3 sb3 => ?_)
      have e1 : one_ xs.size i = 1 := if_pos (Nat.le_of_eq eq)
      have e2 : one_ xs.size (i + 1) = 0 := if_neg (by omega)
      rw [e1] at zr3
      show wpAny _ _ (if (one_ xs.size i + one_ ys.size i == 1) = true then _ else _) _ _ _
      rw [e1]
      by_cases z0 : one_ ys.size i = 0
      · rw [z0, if_pos (by decide)]
        rw [z0] at zr3
        exact wpAny_pure ⟨h3, rfl, (by rw [sb3.1]; exact le2), fun c o c1 _ c3 e => (sb3.2 c c1).trans (xb2 c o c3 e), .inr ⟨rfl, eq, rfl, _, zr3⟩⟩
      · rw [if_neg (by rw [beq_iff_eq]; omega)]
        refine wpAny_bind (wpAny_rule ?_)
        have ti3 := (sb3.2 TI D.TIz).trans ti2
        refine wpAny_bind (wpAny_updateSeq_pair ti3 fun h4 ti4 sb4 => ?_)
        refine wpAny_bind (wpAny_letGo (wpAny_pure ?_))
        refine ⟨h4, rfl, (by rw [sb4.1, sb3.1]; exact le2), fun c o c1 c2 c3 e => (sb4.2 c c2).trans ((sb3.2 c c1).trans (xb2 c o c3 e)), .inl ⟨by rw [gone]; rfl, ?_, ?_, ⟨fun q => absurd q (by omega), ?_⟩, fun q => z0 q.2⟩⟩
        · rw [e2]
          have e3 : (1 : Int) + one_ ys.size i - 1 = 0 + one_ ys.size i := by omega
          rw [← e3]
          exact (sb4.2 z D.TIz.symm).trans zr3
        · rw [show at_ xs.size (i + 1) j1 = .none from if_neg (by omega)]
          exact ti4
        · obtain ⟨o, e, d⟩ := ob2
          exact ⟨o, (sb4.2 _ D.TIi1.symm).trans ((sb3.2 _ D.i1z).trans e), d⟩
    · have ea : at_ xs.size i j1 = .none := if_neg (by omega)
      rw [ea] at ti1
      refine wpAny_bind (wpAny_seqItems ti1 rfl (wpAny_pure ?_))
      show wpAny _ _ (field (.ref z) 2 >>= _) _ _ _
      refine wpAny_bind (wpAny_field zr1 rfl (x := fill) rfl ?_)
      show wpAny _ _ (if (Value.none == Value.none) = true then _ else _) _ _ _
      rw [if_pos (by rfl)]
      have gone : xs[i]? = none := Array.getElem?_eq_none (by omega)
      have e1 : one_ xs.size i = 0 := if_neg (by omega)
      have e2 : one_ xs.size (i + 1) = 0 := if_neg (by omega)
      rw [e1] at zr1
      refine wpAny_pure ⟨_, rfl, Nat.le_refl _, fun c o _ _ _ e => e, .inl ⟨by rw [gone]; rfl, by rw [e2]; exact zr1, ?_, ⟨fun q => absurd q (by omega), w1.obj⟩, fun q => absurd q.1 (by omega)⟩⟩
      rw [show at_ xs.size (i + 1) j1 = .none from if_neg (by omega)]
      exact ti1
  rintro r _ ⟨h2, rfl, le2, k2, ⟨rfl, zr2, ti2, w3, no1⟩ | ⟨rfl, en, oz, q, zr2⟩⟩
  · have to2 := k2 TO _ D.TOz D.TITO.symm D.TOi1 to1
    show wpAny _ _ (Builtin.Itertools.itPoolItems (.ref TO) >>= _) _ _ _
    refine wpAny_bind ?_
    show wpAny _ _ (seqItems? (.ref TO) >>= _) _ _ _
    refine wpAny_bind (wpAny_seqItems to2 rfl (wpAny_pure ?_))
    refine wpAny_bind (wpAny_updateSeq_pair to2 fun h3 to3 sb3 => ?_)
    replace to3 : IsPair h3 TO ((xs[i]?).getD fill) b := to3
    refine wpAny_bind (wpAny_letGo (wpAny_pure ?_))
    have zr3 : IsZL h3 z TI TO .ellipsis fill (one_ ys.size i + one_ xs.size (i + 1)) := by
      rw [Int.add_comm]
      exact (sb3.2 z D.TOz.symm).trans zr2
    have ti3 := (sb3.2 TI D.TITO).trans ti2
    have k3 : ∀ c o, c ≠ z → c ≠ TI → c ≠ TO → c ≠ j1 → h1.get? c = some o → h3.get? c = some o := fun c o c1 c2 c3 c4 e => (sb3.2 c c3).trans (k2 c o c1 c2 c4 e)
    have w4 : Live h3 j1 l1 xs.size (i + 1) := ⟨fun q => (w3.on q).at fun o e => (sb3.2 _ D.TOi1.symm).trans e, w3.obj.imp fun o e => ⟨(sb3.2 _ D.TOi1.symm).trans e.1, e.2⟩⟩
    have w5 : Live h3 j2 l2 ys.size i := ⟨fun q => (w2.on q).at fun o e => k3 _ _ D.i2z D.TIi2.symm D.TOi2.symm D.i12.symm e, w2.obj.imp fun o e => ⟨k3 _ _ D.i2z D.TIi2.symm D.TOi2.symm D.i12.symm e.1, e.2⟩⟩
    have x3 : h3.IsTuple l2 ys := x2.at fun o e => k3 _ _ D.l2z dl D.l2TO D.l2i1 e
    refine wpAny_bind (wpAny_bind (wpAny_onRaise ?_))
    refine wpAny_mono (Q := Out h3 z TI TO j2 l2 ys.size i fill ((ys[i]?).getD fill) (one_ xs.size (i + 1)) (fun v h => IsPair h TI (at_ xs.size (i + 1) j1) v) (fun h => { s with heap := h })) ?_ ?_ (fun _ _ e => e)
    · show wpAny _ _ (field (.ref z) 4 >>= _) _ _ _
      refine wpAny_bind (wpAny_field zr3 rfl (x := .ref TI) rfl ?_)
      show wpAny _ _ (Builtin.Itertools.itPoolItems (.ref TI) >>= _) _ _ _
      refine wpAny_bind ?_
      show wpAny _ _ (seqItems? (.ref TI) >>= _) _ _ _
      rcases Nat.lt_trichotomy i ys.size with lt | eq | gt
      · have ea : at_ ys.size i j2 = .ref j2 := if_pos (Nat.le_of_lt lt)
        rw [ea] at ti3
        refine wpAny_bind (wpAny_seqItems ti3 rfl (wpAny_pure ?_))
        show wpAny _ _ (field (.ref z) 2 >>= _) _ _ _
        refine wpAny_bind (wpAny_field zr3 rfl (x := fill) rfl ?_)
        show wpAny _ _ (if (Value.ref j2 == Value.none) = true then _ else _) _ _ _
        rw [if_neg (by exact Bool.false_ne_true)]
        refine wpAny_bind (wpAny_onRaise ?_)
        show wpAny _ _ (pyNext (.ref j2)) _ _ _
        refine wpAny_pyNext_tuple_item (w5.on (Nat.le_of_lt lt)) x3 (x := ys[i]) (Array.getElem?_eq_getElem lt) fun h6 it2 sb2 => wpAny_pure ?_
        refine ⟨h6, rfl, Nat.le_of_eq sb2.1.symm, fun c o _ _ c3 e => (sb2.2 c c3).trans e, .inl ⟨by rw [Array.getElem?_eq_getElem lt]; rfl, ?_, ?_, ⟨fun _ => it2, ?_⟩, fun q => absurd q.1 (Nat.ne_of_lt lt)⟩⟩
        · have e1 : one_ ys.size (i + 1) = one_ ys.size i := by rw [show one_ ys.size (i + 1) = 1 from if_pos lt, show one_ ys.size i = 1 from if_pos (Nat.le_of_lt lt)]
          rw [e1]
          exact (sb2.2 z D.i2z.symm).trans zr3
        · rw [show at_ ys.size (i + 1) j2 = .ref j2 from if_pos lt]
          exact (sb2.2 TI D.TIi2).trans ti3
        · obtain ⟨o, e, _, d⟩ := it2
          exact ⟨o, e, fun v q => by rw [d] at q; cases q⟩
      · have ea : at_ ys.size i j2 = .ref j2 := if_pos (Nat.le_of_eq eq)
        rw [ea] at ti3
        refine wpAny_bind (wpAny_seqItems ti3 rfl (wpAny_pure ?_))
        show wpAny _ _ (field (.ref z) 2 >>= _) _ _ _
        refine wpAny_bind (wpAny_field zr3 rfl (x := fill) rfl ?_)
        show wpAny _ _ (if (Value.ref j2 == Value.none) = true then _ else _) _ _ _
        rw [if_neg (by exact Bool.false_ne_true)]
        refine wpAny_bind (wpAny_onRaise ?_)
        show wpAny _ _ (pyNext (.ref j2)) _ _ _
        have gone : ys[i]? = none := Array.getElem?_eq_none (by omega)
        refine tuple_out calm (w5.on (Nat.le_of_eq eq)) x3 gone fun h6 xb2 ob2 le2 => ?_
        have ti6 := xb2 _ _ D.TIi2 ti3
        have zr6 := xb2 _ _ D.i2z.symm zr3
        show wpAny _ _ (Builtin.Itertools.itPoolItems (.ref TI) >>= _) _ _ _
        refine wpAny_bind ?_
        show wpAny _ _ (seqItems? (.ref TI) >>= _) _ _ _
        refine wpAny_bind (wpAny_seqItems ti6 rfl (wpAny_pure ?_))
        show wpAny _ _ (if (Value.ref j2 == Value.none) = true then _ else _) _ _ _
        rw [if_neg (by exact Bool.false_ne_true)]
        show wpAny _ _ (Builtin.Itertools.itIntField (.ref z) 3 >>= _) _ _ _
        refine wpAny_bind ?_
        show wpAny _ _ (field (.ref z) 3 >>= _) _ _ _
        refine wpAny_bind (wpAny_field zr6 rfl (x := rawInt (one_ ys.size i + one_ xs.size (i + 1))) rfl (wpAny_pure ?_))
        refine wpAny_bind (wpAny_setField_rec zr6 (by simp) fun h7 zr7 sb3 => ?_)
        have e1 : one_ ys.size i = 1 := if_pos (Nat.le_of_eq eq)
        have e2 : one_ ys.size (i + 1) = 0 := if_neg (by omega)
        rw [e1] at zr7
        show wpAny _ _ (if (one_ ys.size i + one_ xs.size (i + 1) == 1) = true then _ else _) _ _ _
        rw [e1]
        by_cases z0 : one_ xs.size (i + 1) = 0
        · rw [z0, if_pos (by decide)]
          rw [z0] at zr7
          exact wpAny_pure ⟨h7, rfl, (by rw [sb3.1]; exact le2), fun c o c1 _ c3 e => (sb3.2 c c1).trans (xb2 c o c3 e), .inr ⟨rfl, eq, rfl, _, zr7⟩⟩
        · rw [if_neg (by rw [beq_iff_eq]; omega)]
          refine wpAny_bind (wpAny_rule ?_)
          have ti7 := (sb3.2 TI D.TIz).trans ti6
          refine wpAny_bind (wpAny_updateSeq_pair ti7 fun h8 ti4 sb4 => ?_)
          refine wpAny_bind (wpAny_letGo (wpAny_pure ?_))
          refine ⟨h8, rfl, (by rw [sb4.1, sb3.1]; exact le2), fun c o c1 c2 c3 e => (sb4.2 c c2).trans ((sb3.2 c c1).trans (xb2 c o c3 e)), .inl ⟨by rw [gone]; rfl, ?_, ?_, ⟨fun q => absurd q (by omega), ?_⟩, fun q => z0 q.2⟩⟩
          · rw [e2]
            have e3 : (1 : Int) + one_ xs.size (i + 1) - 1 = 0 + one_ xs.size (i + 1) := by omega
            rw [← e3]
            exact (sb4.2 z D.TIz.symm).trans zr7
          · rw [show at_ ys.size (i + 1) j2 = .none from if_neg (by omega)]
            exact ti4
          · obtain ⟨o, e, d⟩ := ob2
            exact ⟨o, (sb4.2 _ D.TIi2.symm).trans ((sb3.2 _ D.i2z).trans e), d⟩
      · have ea : at_ ys.size i j2 = .none := if_neg (by omega)
        rw [ea] at ti3
        refine wpAny_bind (wpAny_seqItems ti3 rfl (wpAny_pure ?_))
        show wpAny _ _ (field (.ref z) 2 >>= _) _ _ _
        refine wpAny_bind (wpAny_field zr3 rfl (x := fill) rfl ?_)
        show wpAny _ _ (if (Value.none == Value.none) = true then _ else _) _ _ _
        rw [if_pos (by rfl)]
        have gone : ys[i]? = none := Array.getElem?_eq_none (by omega)
        have e1 : one_ ys.size i = 0 := if_neg (by omega)
        have e2 : one_ ys.size (i + 1) = 0 := if_neg (by omega)
        rw [e1] at zr3
        refine wpAny_pure ⟨_, rfl, Nat.le_refl _, fun c o _ _ _ e => e, .inl ⟨by rw [gone]; rfl, by rw [e2]; exact zr3, ?_, ⟨fun q => absurd q (by omega), w5.obj⟩, fun q => absurd q.1 (by omega)⟩⟩
        rw [show at_ ys.size (i + 1) j2 = .none from if_neg (by omega)]
        exact ti3
    rintro r _ ⟨h4, rfl, le4, k4, ⟨rfl, zr4, ti4, w6, no2⟩ | ⟨rfl, en, oz, q, zr4⟩⟩
    · have to4 := k4 TO _ D.TOz D.TITO.symm D.TOi2 to3
      show wpAny _ _ (Builtin.Itertools.itPoolItems (.ref TO) >>= _) _ _ _
      refine wpAny_bind ?_
      show wpAny _ _ (seqItems? (.ref TO) >>= _) _ _ _
      refine wpAny_bind (wpAny_seqItems to4 rfl (wpAny_pure ?_))
      refine wpAny_bind (wpAny_updateSeq_pair to4 fun h5 to5 sb5 => ?_)
      replace to5 : IsPair h5 TO ((xs[i]?).getD fill) ((ys[i]?).getD fill) := to5
      refine wpAny_bind (wpAny_letGo (wpAny_pure (wpAny_pure ?_)))
      show wpAny _ _ (Builtin.Itertools.itPoolItems (.ref TO) >>= _) _ _ _
      refine wpAny_bind ?_
      show wpAny _ _ (seqItems? (.ref TO) >>= _) _ _ _
      refine wpAny_bind (wpAny_seqItems to5 rfl (wpAny_pure ?_))
      refine wpAny_bind (wpAny_newTuple ?_)
      have zr5 : IsZL h5 z TI TO .ellipsis fill (one_ ys.size (i + 1) + one_ xs.size (i + 1)) := (sb5.2 z D.TOz.symm).trans zr4
      rw [Int.add_comm] at zr5
      have k5 : ∀ c o, c ≠ z → c ≠ TI → c ≠ TO → c ≠ j1 → c ≠ j2 → s.heap.get? c = some o → h5.get? c = some o := fun c o c1 c2 c3 c4 c5 e => (sb5.2 c c3).trans (k4 c o c1 c2 c5 (k3 c o c1 c2 c3 c4 ((sb1.2 c c1).trans e)))
      have l5 : s.heap.objs.size ≤ h5.objs.size := by
        have a1 : h1.objs.size = s.heap.objs.size := sb1.1
        have a3 : h3.objs.size = h2.objs.size := sb3.1
        have a5 : h5.objs.size = h4.objs.size := sb5.1
        have le4' : h3.objs.size ≤ h4.objs.size := le4
        have le2' : h1.objs.size ≤ h2.objs.size := le2
        omega
      have zlt : z < h5.objs.size := Heap.lt_size zr5
      have ti5 := (sb5.2 TI D.TITO).trans ti4
      have y1 : Live h5 j1 l1 xs.size (i + 1) := ⟨fun q => (w4.on q).at fun o e => (sb5.2 _ D.TOi1.symm).trans (k4 _ _ D.i1z D.TIi1.symm D.i12 e), w4.obj.imp fun o e => ⟨(sb5.2 _ D.TOi1.symm).trans (k4 _ _ D.i1z D.TIi1.symm D.i12 e.1), e.2⟩⟩
      have y2 : Live h5 j2 l2 ys.size (i + 1) := ⟨fun q => (w6.on q).at fun o e => (sb5.2 _ D.TOi2.symm).trans e, w6.obj.imp fun o e => ⟨(sb5.2 _ D.TOi2.symm).trans e.1, e.2⟩⟩
      show wpAny _ _ (Builtin.Itertools.itOwnedHandOut (.ref z) (.ref h5.objs.size) >>= _) _ _ _
      refine wpAny_bind ?_
      unfold Builtin.Itertools.itOwnedHandOut
      have zr6 : IsZL (h5.push { cls := .type "tuple", data := .seq #[(xs[i]?).getD fill, (ys[i]?).getD fill] }) z TI TO .ellipsis fill (one_ xs.size (i + 1) + one_ ys.size (i + 1)) := Heap.get?_push_of_some _ zr5
      refine wpAny_bind (wpAny_setField_rec zr6 (by simp) fun h7 zr7 sb7 => ?_)
      replace zr7 : IsZL h7 z TI TO (rawInt h5.objs.size) fill (one_ xs.size (i + 1) + one_ ys.size (i + 1)) := zr7
      refine wpAny_setField_rec zr7 (by simp) fun h8 zr8 sb8 => ?_
      replace zr8 : IsZL h8 z TI TO (rawInt h5.objs.size) fill (one_ xs.size (i + 1) + one_ ys.size (i + 1)) := zr8
      have up : ∀ c o, c ≠ z → h5.get? c = some o → h8.get? c = some o := fun c o c1 e => (sb8.2 c c1).trans ((sb7.2 c c1).trans (Heap.get?_push_of_some _ e))
      refine wpAny_pure ⟨_, rfl, ?_⟩
      have im : i < max xs.size ys.size := by
        rcases Nat.lt_or_ge i (max xs.size ys.size) with q | q
        · exact q
        · exfalso
          by_cases c1 : i = xs.size
          · by_cases c2 : i = ys.size
            · exact no2 ⟨c2, if_neg (by omega)⟩
            · exact no1 ⟨c1, if_neg (by omega)⟩
          · exact no2 ⟨by omega, if_neg (by omega)⟩
      refine item im h8 h5.objs.size l5 zr8 (up _ _ D.TIz ti5) ⟨_, _, up _ _ D.TOz to5⟩ ⟨fun q => (y1.on q).at fun o e => up _ _ D.i1z e, y1.obj.imp fun o e => ⟨up _ _ D.i1z e.1, e.2⟩⟩
        ⟨fun q => (y2.on q).at fun o e => up _ _ D.i2z e, y2.obj.imp fun o e => ⟨up _ _ D.i2z e.1, e.2⟩⟩ ?_ fun c o c1 c2 c3 c4 c5 e => up c o c1 (k5 c o c1 c2 c3 c4 c5 e)
      exact (sb8.2 _ (Nat.ne_of_gt zlt)).trans ((sb7.2 _ (Nat.ne_of_gt zlt)).trans (Heap.get?_push_size _ rfl))
    · have im : i = max xs.size ys.size := by
        have : ¬ (i + 1 ≤ xs.size) := fun c => by
          rw [show one_ xs.size (i + 1) = 1 from if_pos c] at oz
          exact absurd oz (by decide)
        omega
      refine wpAny_bind (wpAny_setField_rec zr4 (by simp) fun h5 zr5 sb5 => ?_)
      unfold Builtin.Itertools.itStop
      refine wpAny_bind ?_
      refine wpAny_bind ?_
      simp only [newExc, newTuple]
      refine wpAny_bind (wpAny_newObj_type ?_ (by size_fits))
      refine wpAny_bind (m := firstArgMember _ _) (wpAny_of_eq (a := Value.none) ?_ ?_)
      · first | rfl | (simp only [firstArgMember]; rfl)
      refine wpAny_newObj_type ?_ (by size_fits)
      simp only [raiseNew]
      refine wpAny_bind (wpAny_handled ?_)
      first | rw [show A.in1.handled = none from calm] | rw [calm]
      refine wpAny_bind (wpAny_pure (wpAny_throw ?_))
      exact done im _ _ (fun c o c1 c2 c3 c4 c5 e => Heap.get?_push_of_some _ (Heap.get?_push_of_some _ ((sb5.2 c c1).trans (k4 c o c1 c2 c5 (k3 c o c1 c2 c3 c4 ((sb1.2 c c1).trans e)))))) ⟨_, Heap.get?_push_size _ rfl, rfl⟩
  · have im : i = max xs.size ys.size := by
      have : ¬ (i ≤ ys.size) := fun c => by
        rw [show one_ ys.size i = 1 from if_pos c] at oz
        exact absurd oz (by decide)
      omega
    refine wpAny_bind (wpAny_setField_rec zr2 (by simp) fun h5 zr5 sb5 => ?_)
    unfold Builtin.Itertools.itStop
    refine wpAny_bind ?_
    refine wpAny_bind ?_
    simp only [newExc, newTuple]
    refine wpAny_bind (wpAny_newObj_type ?_ (by size_fits))
    refine wpAny_bind (m := firstArgMember _ _) (wpAny_of_eq (a := Value.none) ?_ ?_)
    · first | rfl | (simp only [firstArgMember]; rfl)
    refine wpAny_newObj_type ?_ (by size_fits)
    simp only [raiseNew]
    refine wpAny_bind (wpAny_handled ?_)
    first | rw [show A.in1.handled = none from calm] | rw [calm]
    refine wpAny_bind (wpAny_pure (wpAny_throw ?_))
    exact done im _ _ (fun c o c1 c2 c3 c4 c5 e => Heap.get?_push_of_some _ (Heap.get?_push_of_some _ ((sb5.2 c c1).trans (k2 c o c1 c2 c4 ((sb1.2 c c1).trans e))))) ⟨_, Heap.get?_push_size _ rfl, rfl⟩
theorem pull {z TI TO j1 j2 l1 l2 : Addr} {i : Nat} {xs ys : Array Value} {fill a b : Value} {Q : Option Value → Shared → Prop} (calm : A.handled = none) (D : ZipApart z TI TO j1 j2 l1 l2) (dl : l2 ≠ TI)
    (zr : IsZL s.heap z TI TO .none fill (one_ xs.size i + one_ ys.size i)) (ti : IsPair s.heap TI (at_ xs.size i j1) (at_ ys.size i j2)) (to : IsPair s.heap TO a b)
    (v1 : Live s.heap j1 l1 xs.size i) (v2 : Live s.heap j2 l2 ys.size i) (t1 : s.heap.IsTuple l1 xs) (t2 : s.heap.IsTuple l2 ys) (lm : i ≤ max xs.size ys.size)
    (item : i < max xs.size ys.size → ∀ h' (T : Nat), s.heap.objs.size ≤ T → IsZL h' z TI TO (rawInt T) fill (one_ xs.size (i + 1) + one_ ys.size (i + 1)) → IsPair h' TI (at_ xs.size (i + 1) j1) (at_ ys.size (i + 1) j2) → (∃ p q, IsPair h' TO p q) →
      Live h' j1 l1 xs.size (i + 1) → Live h' j2 l2 ys.size (i + 1) → IsPair h' T ((xs[i]?).getD fill) ((ys[i]?).getD fill) →
      (∀ c o, c ≠ z → c ≠ TI → c ≠ TO → c ≠ j1 → c ≠ j2 → s.heap.get? c = some o → h'.get? c = some o) → Q (some (.ref T)) { s with heap := h' })
    (done : i = max xs.size ys.size → ∀ h', (∀ c o, c ≠ z → c ≠ TI → c ≠ TO → c ≠ j1 → c ≠ j2 → s.heap.get? c = some o → h'.get? c = some o) → Q none { s with heap := h' }) :
    wpAny (model prog w) A (pyNext (.ref z)) Q E s := by
  have ty : s.TypeIs (.ref z) TN := ⟨_, zr, rfl⟩
  unfold pyNext
  refine wpAny_bind (wpAny_attempt (wpAny_callSpecial?_slot (name := Str.ofString "__next__") ty slot_zl_next ?_))
  refine wpAny_call_entry slot_zl_next ty entry_zl_next ?_ (args_zl_next _)
  refine next_zl calm D dl zr ti to v1 v2 t1 t2 lm (fun c h' T e1 e2 e3 e4 e5 e6 e7 e8 => wpAny_pure (item c h' T e1 e2 e3 e4 e5 e6 e7 e8)) fun c h' e k x => ?_
  obtain ⟨o, oi, oc⟩ := x
  refine wpAny_bind (wpAny_isInstance (T := "StopIteration") (b := true) ⟨o, oi, oc⟩ isSubtype_stop ?_)
  exact wpAny_pure (done c _ k)
theorem letGo_zl {elts : List Expr} {kk : Nat} {pos : Pos} {z TI TO T : Addr} {fill : Value} {run : Int} {Q : Unit → Shared → Prop} (zr : IsZL s.heap z TI TO (rawInt T) fill run)
    (h : ∀ h', IsZL h' z TI TO .none fill run → Heap.SameBut z s.heap h' → Q () { s with heap := h' }) :
    wpAny (model prog w) A (letOwnedTupleGo (.Tuple elts kk pos) (.ref z) (.ref T)) Q E s := by
  unfold letOwnedTupleGo
  refine wpAny_bind (wpAny_load zr ?_)
  dsimp only
  split
  · refine wpAny_bind (wpAny_rule ?_)
    show wpAny _ _ (setField (.ref z) 0 .none) Q E s
    exact wpAny_setField_rec zr (by simp) fun h' zr' sb' => h h' zr' sb'
  · rename_i no
    exact absurd (by simp) no
end
end ZL

set_option Elab.async false
set_option linter.all false
set_option maxRecDepth 100000
set_option maxHeartbeats 4000000
namespace ZL
open PySem PySem.Spec PyProof.Rows L2
open Sem (wp)
/-- the tuples at a and b, the shorter one filled up, the items in new pairs -/
def ItzL (K : PySem.W.Frag) (a b : Addr) (n m : Nat) (z : Int) : It where
  go := fun i H => ∃ xs ys : List V, SqT K H a xs ∧ SqT K H b ys ∧ xs.length = n ∧ ys.length = m ∧ i < max n m
  yld := fun i H v H' => ∃ T x y, v = .ref T ∧ H T = none ∧ H' = upd H T (.tup [x, y]) ∧ (∀ xs, SqT K H a xs → x = (xs[i]?).getD (.int z)) ∧ ∀ ys, SqT K H b ys → y = (ys[i]?).getD (.int z)
  stop := fun i H => ∃ xs ys : List V, SqT K H a xs ∧ SqT K H b ys ∧ xs.length = n ∧ ys.length = m ∧ i = max n m
theorem getD_rel {xs : List V} {its : List Value} (r : Vals xs its) (i : Nat) {z : Int} {t : Tok} : RelV ((xs[i]?).getD (.int z)) ((its.toArray[i]?).getD (.int z t)) := by
  have l := r.length
  rcases Nat.lt_or_ge i xs.length with q | q
  · have hx : xs[i]? = some xs[i] := List.getElem?_eq_getElem q
    obtain ⟨u, hu, ru⟩ := r.get hx
    have e : its.toArray[i]? = some u := by simpa using hu
    rw [hx, e]
    exact ru
  · have e1 : xs[i]? = none := List.getElem?_eq_none q
    have e2 : its.toArray[i]? = none := by simp; omega
    rw [e1, e2]
    exact ⟨t, rfl⟩
theorem turn_zl {P : Program} {w : World} {K : PySem.W.Frag} {elts : List Expr} {kk : Nat} {tpos : Pos} {a b z TI TO j1 j2 : Addr} {n m : Nat} {f : Int} {tk : Tok} (D : ZipApart z TI TO j1 j2 a b) (dl : b ≠ TI) :
    Turn P w K (.Tuple elts kk tpos) (ItzL K a b n m f) [z, TI, TO, j1, j2] z
      (fun i h => IsZL h z TI TO .none (.int f tk) (one_ n i + one_ m i) ∧ IsPair h TI (at_ n i j1) (at_ m i j2) ∧ (∃ x y, IsPair h TO x y) ∧ Live h j1 a n i ∧ Live h j2 b m i) where
  mem := List.mem_cons_self ..
  obj := by
    rintro i h ⟨zr, ti, ⟨x, y, to⟩, v1, v2⟩ c hc
    simp only [List.mem_cons, List.not_mem_nil, or_false] at hc
    rcases hc with rfl | rfl | rfl | rfl | rfl
    · exact ⟨_, zr, fun v q => nomatch q⟩
    · exact ⟨_, ti, fun v q => nomatch q⟩
    · exact ⟨_, to, fun v q => nomatch q⟩
    · exact v1.obj
    · exact v2.obj
  keep := by
    rintro i h h' ⟨zr, ti, ⟨x, y, to⟩, v1, v2⟩ k
    exact ⟨k z (by simp) _ zr, k TI (by simp) _ ti, ⟨x, y, k TO (by simp) _ to⟩, ⟨fun q => (v1.on q).at fun o e => k j1 (by simp) o e, v1.obj.imp fun o e => ⟨k j1 (by simp) o e.1, e.2⟩⟩,
      ⟨fun q => (v2.on q).at fun o e => k j2 (by simp) o e, v2.obj.imp fun o e => ⟨k j2 (by simp) o e.1, e.2⟩⟩⟩
  item := by
    intro X hP hw hK calm i pins s σ H E I hf st hg
    subst hP hw hK
    obtain ⟨zr, ti, ⟨x0, y0, to⟩, v1, v2⟩ := st
    obtain ⟨xs, ys, hqx, hqy, ln, lm, lt⟩ := hg
    obtain ⟨its, rv, p, _⟩ := I.tuple hqx
    obtain ⟨its2, rv2, p2, _⟩ := I.tuple hqy
    have sz1 : its.toArray.size = n := by rw [List.size_toArray, ← rv.length]; exact ln
    have sz2 : its2.toArray.size = m := by rw [List.size_toArray, ← rv2.length]; exact lm
    subst sz1 sz2
    have zlt : z < s.heap.objs.size := Heap.lt_size zr
    refine pull (I.ok.hd calm) D dl zr ti to v1 v2 p p2 (Nat.le_of_lt lt) (fun _ h' T le zr' ti' to' w1 w2 hT hk => ?_) fun q => absurd q (Nat.ne_of_lt lt)
    refine ⟨_, rfl, letGo_zl (s := { s with heap := h' }) zr' fun h2 zr2 sb => ?_⟩
    have neT : T ≠ z := Nat.ne_of_gt (Nat.lt_of_lt_of_le zlt le)
    have hT2 : h2.get? T = some { cls := .type "tuple", data := .seq #[(its.toArray[i]?).getD (.int f tk), (its2.toArray[i]?).getD (.int f tk)] } := (sb.2 _ neT).trans hT
    have r1 := getD_rel rv i (z := f) (t := tk)
    have r2 := getD_rel rv2 i (z := f) (t := tk)
    have new : ObjOk X.prog X.w (upd H T (.tup [(xs[i]?).getD (.int f), (ys[i]?).getD (.int f)])) h2 T (.tup [(xs[i]?).getD (.int f), (ys[i]?).getD (.int f)]) :=
      ⟨by show 2 ≤ sizeLine; decide, [_, _], .cons r1 (.cons r2 .nil), ⟨_, hT2, rfl, _, rfl⟩⟩
    have I1 : Inv X pins σ (upd H T (.tup [(xs[i]?).getD (.int f), (ys[i]?).getD (.int f)])) { s with heap := h2 } := by
      refine I.turnedNew (t' := s.toks) (ch := [z, TI, TO, j1, j2]) (fun c o hb q => ?_) hf le new
      simp only [List.mem_cons, List.not_mem_nil, or_false, not_or] at hb
      exact (sb.2 c hb.1).trans (hk c o hb.1 hb.2.1 hb.2.2.1 hb.2.2.2.1 hb.2.2.2.2 q)
    refine ⟨.ref T, _, I1, rfl, ⟨T, _, _, rfl, I.hok.fresh le, rfl, fun l hl => ?_, fun l hl => ?_⟩, ⟨zr2, ?_, ?_, ?_, ?_⟩, fun c hcm => ?_⟩
    · rw [I.tuple_inj hl hqx]
    · rw [I.tuple_inj hl hqy]
    · exact (sb.2 _ D.TIz).trans ti'
    · obtain ⟨p3, q3, e3⟩ := to'
      exact ⟨p3, q3, (sb.2 _ D.TOz).trans e3⟩
    · exact ⟨fun q => (w1.on q).at fun o e => (sb.2 _ D.i1z).trans e, w1.obj.imp fun o e => ⟨(sb.2 _ D.i1z).trans e.1, e.2⟩⟩
    · exact ⟨fun q => (w2.on q).at fun o e => (sb.2 _ D.i2z).trans e, w2.obj.imp fun o e => ⟨(sb.2 _ D.i2z).trans e.1, e.2⟩⟩
    · have hlt : c < s.heap.objs.size := by
        simp only [List.mem_cons, List.not_mem_nil, or_false] at hcm
        rcases hcm with rfl | rfl | rfl | rfl | rfl
        · exact zlt
        · exact Heap.lt_size ti
        · exact Heap.lt_size to
        · obtain ⟨_, e1, _⟩ := v1.obj
          exact Heap.lt_size e1
        · obtain ⟨_, e2, _⟩ := v2.obj
          exact Heap.lt_size e2
      rw [upd_ne (Nat.ne_of_lt (Nat.lt_of_lt_of_le hlt le))]
      exact (hf c hcm).1
  done := by
    intro X hP hw hK calm i pins s σ H E I hf st hg
    subst hP hw hK
    obtain ⟨zr, ti, ⟨x0, y0, to⟩, v1, v2⟩ := st
    obtain ⟨xs, ys, hqx, hqy, ln, lm, lt⟩ := hg
    obtain ⟨its, rv, p, _⟩ := I.tuple hqx
    obtain ⟨its2, rv2, p2, _⟩ := I.tuple hqy
    have sz1 : its.toArray.size = n := by rw [List.size_toArray, ← rv.length]; exact ln
    have sz2 : its2.toArray.size = m := by rw [List.size_toArray, ← rv2.length]; exact lm
    subst sz1 sz2
    refine pull (I.ok.hd calm) D dl zr ti to v1 v2 p p2 (Nat.le_of_eq lt) (fun q => absurd lt (Nat.ne_of_lt q)) fun _ h' hk => ⟨rfl, I.turnedL (t' := s.toks) (ch := [z, TI, TO, j1, j2]) (fun c o hb q => ?_) hf⟩
    simp only [List.mem_cons, List.not_mem_nil, or_false, not_or] at hb
    exact hk c o hb.1 hb.2.1 hb.2.2.1 hb.2.2.2.1 hb.2.2.2.2 q
  self := by
    rintro A i s Q E ⟨zr, _⟩ h
    exact iter_zl zr h
section
variable {M : Model} {A : Around} {E : Value → Shared → Prop} {s : Shared} {env : Env}
theorem typeKw {pos : Pos} {T : String} {e : Expr} {es : List Expr} {kws : List Keyword} {Q : Value → Shared → Prop}
    (h : wpAny M A (spliced (backTo pos (starEach (e :: es) env))) (fun vs s₁ => wpAny M A (evalAll ((backToKw pos (keywordEach kws env)).map (·.2)))
      (fun zs s₂ => wpAny M A (call (.type T) vs (((backToKw pos (keywordEach kws env)).filterMap (·.1)).zip zs)) Q E s₂) E s₁) E s)
    (he : backTo pos (starEach (e :: es) env) = (false, eval e env) :: backTo pos (starEach es env)) (plain : (backTo pos (starEach (e :: es) env)).any (·.1) = false)
    (all : (backToKw pos (keywordEach kws env)).all (·.1.isSome) = true) (none_ : (backToKw pos (keywordEach kws env)).any (·.1.isNone) = false) :
    wpAny M A (callWith pos (.type T) [] (backTo pos (starEach (e :: es) env)) (backToKw pos (keywordEach kws env))) Q E s := by
  unfold callWith
  refine wpAny_bind (wpAny_holding (wpAny_mono (Q := fun a s₁ => wpAny M A (call (.type T) a.pos a.kw) Q E s₁) ?_ (fun a s₁ q => wpAny_bind (wpAny_standAt ?_)) fun _ _ x => x))
  · rw [he] at h ⊢
    exact evalArgs_kwB all h
  · simp only [plain, none_, Bool.or_false]
    refine wpAny_bind (wpAny_pure ?_)
    exact wpAny_bind (wpAny_mono q (fun r s₂ hr => wpAny_bind (wpAny_holding (wpAny_point (wpAny_pure hr)))) fun _ _ x => x)
end
def tZL (K : PySem.W.Frag) (ta : TA) : TI := fun σ H R => ta σ H fun vs H1 => ∃ a b xs ys, vs = [.ref a, .ref b] ∧ SqT K H1 a xs ∧ SqT K H1 b ys ∧ R (ItzL K a b xs.length ys.length 0) H1
theorem pi_zl {X : Cx} {e e2 : Expr} {ta : TA} {p pos tpos p1 p2 : Pos} {j : Nat} {elts : List Expr} {kk : Nat} (glob : Gl X "zip_longest") (is : X.mg "zip_longest" = some (.type TN)) (args : PA X [e, e2] ta)
    (he : backTo pos (starEach [e, e2] X.env) = (false, eval e X.env) :: backTo pos (starEach [e2] X.env) := by rfl) (plain : (backTo pos (starEach [e, e2] X.env)).any (·.1) = false := by rfl) :
    PI X (.Tuple elts kk tpos) (.Call (.Name "zip_longest" p) [e, e2] [⟨some "fillvalue", .Constant (.int 0) j p1, p2⟩] pos) (tZL X.K ta) := by
  constructor
  intro pins s σ H R I h
  apply wpAny_Call_Name_kw
  refine ld_glob I glob is ?_
  refine typeKw (thn (args.run pos pins s σ H _ I h) fun us s1 got => ?_) he plain rfl rfl
  obtain ⟨vs, H1, I1, r1, a, b, xs, ys, ex, hqx, hqy, q⟩ := got
  subst ex
  cases r1 with
  | cons r rr =>
    cases rr with
    | cons r' rr =>
      cases rr
      cases r
      cases r'
      refine kws_cons (wpAny_Constant_int (kws_nil ?_))
      obtain ⟨its, rv, p1, _⟩ := I1.tuple hqx
      obtain ⟨its2, rv2, p2, _⟩ := I1.tuple hqy
      have tp1 : s1.heap.IsTuple a its.toArray := p1
      have tp2 : s1.heap.IsTuple b its2.toArray := p2
      obtain ⟨o1, ho1, _⟩ := id tp1
      obtain ⟨o2, ho2, _⟩ := id tp2
      have la : a < s1.heap.objs.size := Heap.lt_size ho1
      have lb : b < s1.heap.objs.size := Heap.lt_size ho2
      refine call_zl tp1 tp2 fun h' zr ti to w1 w2 hk => iter_zl zr ?_
      have fresh5 : ∀ c, c ∈ [s1.heap.objs.size + 4, s1.heap.objs.size + 2, s1.heap.objs.size + 3, s1.heap.objs.size, s1.heap.objs.size + 1] → FpOk X pins H1 c := fun c hcm => by
        have le : s1.heap.objs.size ≤ c := by
          simp only [List.mem_cons, List.not_mem_nil, or_false] at hcm
          omega
        exact I1.fpOk le (I1.hok.fresh le)
      have I2 : Inv X pins σ H1 { s1 with heap := h', toks := s1.toks + 1 } := I1.kept hk
      have lx : its.toArray.size = xs.length := by rw [List.size_toArray, ← rv.length]
      refine ⟨s1.heap.objs.size + 4, [s1.heap.objs.size + 4, s1.heap.objs.size + 2, s1.heap.objs.size + 3, s1.heap.objs.size, s1.heap.objs.size + 1], _, _, H1, rfl, I2, turn_zl (tk := s1.toks) (PySem.W.ktu_apart s1.heap.objs.size a b la lb) (Nat.ne_of_lt (Nat.lt_of_lt_of_le lb (Nat.le_add_right _ 2))), ⟨?_, ?_, ⟨_, _, to⟩, ⟨fun _ => w1, ?_⟩, ⟨fun _ => w2, ?_⟩⟩, fresh5, q⟩
      · exact zr
      · exact ti
      · obtain ⟨o, e, _, d⟩ := w1
        exact ⟨o, e, fun v q => by rw [d] at q; cases q⟩
      · obtain ⟨o, e, _, d⟩ := w2
        exact ⟨o, e, fun v q => by rw [d] at q; cases q⟩
/-- the loop over them -/
theorem for_zl {K : PySem.W.Frag} {a b : Addr} {xs ys : List V} {z : Int} {g : TG} {tb : TS} {D : Ends} {σ : L2.St} {H : Hp} (Pv : Nat → L2.St → Hp → Prop) (h0 : Pv 0 σ H) (hl : ∀ i σ H, Pv i σ H → SqT K H a xs ∧ SqT K H b ys)
    (turn : ∀ i σ H T, i < max xs.length ys.length → Pv i σ H → H T = none → g (.ref T) σ (upd H T (.tup [(xs[i]?).getD (.int z), (ys[i]?).getD (.int z)])) fun σ2 H2 => tb { D with nx := Pv (i + 1), ct := Pv (i + 1), bk := D.nx } σ2 H2)
    (done : ∀ σ H, Pv (max xs.length ys.length) σ H → D.nx σ H) :
    ∃ W : Nat → Nat → L2.St → Hp → Prop, (∃ m, W 0 m σ H) ∧ ∀ i m σ H, W i m σ H →
      ((ItzL K a b xs.length ys.length z).stop i H ∧ D.nx σ H) ∨ ((ItzL K a b xs.length ys.length z).go i H ∧ ∃ N : L2.St → Hp → Prop, (∀ σ' H', N σ' H' → ∃ m', m' < m ∧ W (i + 1) m' σ' H') ∧
        ∀ v H', (ItzL K a b xs.length ys.length z).yld i H v H' → g v σ H' fun σ2 H2 => tb { D with nx := N, ct := N, bk := D.nx } σ2 H2) := by
  refine ⟨fun i m σ H => m = max xs.length ys.length - i ∧ i ≤ max xs.length ys.length ∧ Pv i σ H, ⟨_, rfl, Nat.zero_le _, h0⟩, ?_⟩
  rintro i m σ H ⟨rfl, le, pv⟩
  obtain ⟨qx, qy⟩ := hl i σ H pv
  rcases Nat.lt_or_ge i (max xs.length ys.length) with lt | ge
  · refine .inr ⟨⟨xs, ys, qx, qy, rfl, rfl, lt⟩, Pv (i + 1), fun σ' H' n => ⟨max xs.length ys.length - (i + 1), by omega, rfl, lt, n⟩, ?_⟩
    rintro v H' ⟨T, x, y, rfl, nT, rfl, hx, hy⟩
    rw [hx xs qx, hy ys qy]
    exact turn i σ H T lt pv nT
  · have e : i = max xs.length ys.length := by omega
    subst e
    exact .inl ⟨⟨xs, ys, qx, qy, rfl, rfl, rfl⟩, done σ H pv⟩
end ZL

set_option Elab.async false
set_option linter.all false
set_option maxRecDepth 100000
set_option maxHeartbeats 4000000
/-! t * k, k 0 or more -/
namespace TR
open PySem PySem.Spec PyProof.Rows L2
theorem mul_one_ (l : Addr) (items : Array Value) (n : Nat) (dd : Option Addr) (sl : Array (Option Value)) (x : Int) (u : Tok) (h1 : x = 1) :
    Meets (Builtin.«tuple.__mul__» ⟨[.ref l, .int x u], []⟩) (fun _ R s => s.heap.get? l = some { cls := .type "tuple", dict := dd, data := .seq items n, slots := sl } ∧ R (.ok (.ret (.ref l))) s) := by
  refine .of_wp fun prog w A R s h => ?_
  obtain ⟨hp, g, d, tk, os⟩ := s
  obtain ⟨hl, h⟩ := h
  subst h1
  have ix := AutoSeq1.idx_int
  have c0 : ¬ ((decide ((1 : Int) < -(2 ^ 63)) || decide ((1 : Int) ≥ 2 ^ 63)) = true) := by decide
  have c1 : (items.isEmpty || (1 : Int) == 1) = true := by simp
  wp_walk using wpAny_loadPart' hl
  repeat (first
    | (refine wpAny_ite_false (decide_eq_false c0) ?_; wp_walk using wpAny_loadPart' hl)
    | (refine wpAny_ite_true (decide_eq_true c1) ?_; wp_walk using wpAny_loadPart' hl))
  exact ⟨_, rfl, h⟩
theorem mul_none_ (l : Addr) (items : Array Value) (n : Nat) (dd : Option Addr) (sl : Array (Option Value)) (x : Int) (u : Tok) (h1 : x = 0) (ne : items.isEmpty = false) :
    Meets (Builtin.«tuple.__mul__» ⟨[.ref l, .int x u], []⟩) (fun _ R s => s.heap.get? l = some { cls := .type "tuple", dict := dd, data := .seq items n, slots := sl } ∧
      R (.ok (.ret (.ref s.heap.objs.size))) { s with heap := s.heap.push { cls := .type "tuple", data := .seq #[] }, toks := s.toks }) := by
  refine .of_wp fun prog w A R s h => ?_
  obtain ⟨hp, g, d, tk, os⟩ := s
  obtain ⟨hl, h⟩ := h
  subst h1
  have ix := AutoSeq1.idx_int
  have c0 : ¬ ((decide ((0 : Int) < -(2 ^ 63)) || decide ((0 : Int) ≥ 2 ^ 63)) = true) := by decide
  have c1 : ¬ ((items.isEmpty || (0 : Int) == 1) = true) := by rw [ne]; decide
  have c2 : (decide ((0 : Int) ≤ 0) || items.isEmpty) = true := by simp
  wp_walk using wpAny_loadPart' hl
  repeat (first
    | (refine wpAny_ite_false (decide_eq_false c0) ?_; wp_walk using wpAny_loadPart' hl)
    | (refine wpAny_ite_false (decide_eq_false c1) ?_; wp_walk using wpAny_loadPart' hl)
    | (refine wpAny_ite_true (decide_eq_true c2) ?_; wp_walk using wpAny_loadPart' hl))
  exact ⟨_, rfl, h⟩
section
variable {X : Cx}
def rRepA (K : PySem.W.Frag) : R2 := fun x y H Q => ∃ (l : Addr) (k : Int) (xs : List V), x = .ref l ∧ y = .int k ∧ SqT K H l xs ∧ xs ≠ [] ∧ 0 ≤ k ∧ k ≤ 1000 ∧ xs.length ≤ 1000 ∧ (k = 1 → Q (.ref l) H) ∧ (k ≠ 1 → ∀ p, H p = none → Q (.ref p) (upd H p (.tup (List.replicate k.toNat xs).flatten)))
theorem op_repA : OpR X (binaryOp .Mult) (rRepA X.K) := by
  intro pins s σ H x y v u Q I rx ry h
  obtain ⟨l, k, xs, rfl, rfl, hT, hne, h1, h2, hz, q1, q2⟩ := h
  by_cases two : 2 ≤ k
  · exact op_repT pins s σ H _ _ v u Q I rx ry ⟨l, k, xs, rfl, rfl, hT, hne, two, h2, hz, q2 (by omega)⟩
  · cases rx
    obtain ⟨t, rfl⟩ := ry
    obtain ⟨its, r, ⟨⟨cls, dd, data, sl⟩, ho, hc, n, hd⟩, hs⟩ := I.tuple hT
    simp only at hc hd
    subst hc hd
    by_cases one : k = 1
    · refine wpAny_binaryOp_repeat_ref (T := "tuple") (U := "int") (by decide) ⟨_, ho, rfl⟩ (fun s' => typeIs_int s' k t) noFill_tuple_mul F.fills_int_mul F.slot_int_rmul repeat_tuple F.slot_int_index.lookup ?_
      refine call_meets F.slot_int_rmul (typeIs_int s k t) F.entry_int_rmul (F.args_int_rmul_2 _ _) (int_rmul_tuple k t l its.toArray n dd sl) ⟨ho, rfl, ⟨_, ho, rfl⟩, ?_⟩
      exact call_meets F.slot_tuple_mul ⟨_, ho, rfl⟩ F.entry_tuple_mul (F.args_tuple_mul_2 _ _) (mul_one_ l its.toArray n dd sl k t one) ⟨ho, ⟨.ref l, H, I, rfl, q1 one⟩⟩
    · have ne : its.toArray.isEmpty = false := by
        have len := r.length
        cases its with
        | nil => exact absurd (List.eq_nil_of_length_eq_zero len) hne
        | cons a b => rfl
      have zero : k = 0 := by omega
      refine wpAny_binaryOp_repeat_ref (T := "tuple") (U := "int") (by decide) ⟨_, ho, rfl⟩ (fun s' => typeIs_int s' k t) noFill_tuple_mul F.fills_int_mul F.slot_int_rmul repeat_tuple F.slot_int_index.lookup ?_
      refine call_meets F.slot_int_rmul (typeIs_int s k t) F.entry_int_rmul (F.args_int_rmul_2 _ _) (int_rmul_tuple k t l its.toArray n dd sl) ⟨ho, rfl, ⟨_, ho, rfl⟩, ?_⟩
      refine call_meets F.slot_tuple_mul ⟨_, ho, rfl⟩ F.entry_tuple_mul (F.args_tuple_mul_2 _ _) (mul_none_ l its.toArray n dd sl k t zero ne) ⟨ho, ?_⟩
      have q := q2 one
      rw [zero] at q
      refine ⟨.ref s.heap.objs.size, _, I.laid (t' := s.toks) (o := .tup []) (fun b ob q => Heap.get?_push_of_some _ q) (Nat.le_refl _) ?_, rfl, q _ (I.hok.fresh (Nat.le_refl _))⟩
      exact ⟨Nat.zero_le _, _, .nil, IsTup.new _ _⟩
end
end TR

set_option Elab.async false
set_option linter.all false
set_option maxRecDepth 100000
set_option maxHeartbeats 4000000
namespace Z
open PySem PySem.Spec PyProof.Rows L2 GG
def top (i : Nat) : Stmt := PySem.Challenge.pw_bentcoin_k01_rows_reckoned.main.body.getD i (.Pass ⟨0, 0, 0, 0⟩)
abbrev sPen : Stmt := top 14
abbrev sFresh : Stmt := top 15
abbrev sDraw : Stmt := top 16
abbrev sStrip : Stmt := top 17
abbrev sCoef : Stmt := top 18
abbrev sPoly : Stmt := top 19
/-- what follows an if, once for all ways to it -/
theorem if_tail {c : TT} {a b : TS} {D : Ends} {σ : L2.St} {H : Hp} (W : L2.St → Hp → Prop) (tail : ∀ σ H, W σ H → D.nx σ H) (go : (∀ σ H, W σ H → D.nx σ H) → tIfS c a b D σ H) : tIfS c a b D σ H := go tail
theorem on {t u : TS} {D : Ends} {σ : L2.St} {H : Hp} (h : t { D with nx := u D } σ H) : tSeq t u D σ H := h
theorem put_c {v : V} {i : Nat} {D : Ends} {σ : L2.St} {H : Hp} (h : D.nx (σ.set i (some v)) H) : tAsg (tC v) (gName i) D σ H := h
/-! heaps -/
theorem Same.upd {H : Hp} {p : Addr} {o : HO} (h : H p = none) : Same H (L2.upd H p o) := fun b x e => by
  rw [upd_ne (ne_of_none e h)]
  exact e
/-- all that was told of stands, but what is at a -/
def But (a : Addr) (H H' : Hp) : Prop := ∀ b o, H b = some o → b ≠ a → H' b = some o
theorem But.refl (a : Addr) (H : Hp) : But a H H := fun _ _ e _ => e
theorem But.trans {a : Addr} {H H1 H2 : Hp} (x : But a H H1) (y : But a H1 H2) : But a H H2 := fun b o e n => y b o (x b o e n) n
theorem But.of {a : Addr} {H H1 : Hp} (x : Same H H1) : But a H H1 := fun b o e _ => x b o e
theorem But.put {a : Addr} {H : Hp} {o : HO} : But a H (L2.upd H a o) := fun b u e n => by
  rw [upd_ne n]
  exact e
theorem But.free {a : Addr} {H H' : Hp} {l : Addr} (e : But a H H') (n : l ≠ a) (h : H' l = none) : H l = none := by
  cases q : H l with
  | none => rfl
  | some o =>
    rw [e l o q n] at h
    cases h
theorem But.same {a : Addr} {H H0 H' : Hp} (s : Same H0 H) (n : H0 a = none) (b : But a H H') : Same H0 H' := fun c o e => b c o (s c o e) (ne_of_none e n)
theorem But.seq {a c : Addr} {K : PySem.W.Frag} {H H' : Hp} {xs : List V} (e : But a H H') (n : c ≠ a) (h : SqL K H c xs) : SqL K H' c xs := by
  rcases h with (h | ⟨o, h⟩) | h
  · exact .inl (.inl (e _ _ h n))
  · exact .inl (.inr ⟨o, e _ _ h n⟩)
  · exact .inr h
/-- a pen stands at a -/
def Pen (H : Hp) (a l : Addr) : Prop := ∃ (cs : List Int) (pos val : Int), H a = some (.lst [.ref l, .int pos, .int val]) ∧ H l = some (.lst (cs.map V.int)) ∧ 0 ≤ pos
theorem Pen.ne {H : Hp} {a l : Addr} {cs : List Int} {p v : Int} (h : H a = some (.lst [.ref l, .int p, .int v])) (e : H l = some (.lst (cs.map V.int))) : l ≠ a := by
  intro z
  subst z
  rw [h] at e
  cases cs with
  | nil => cases e
  | cons x r => cases e
theorem Pen.put {H : Hp} {a l : Addr} {cs : List Int} {p v q u : Int} (h : H a = some (.lst [.ref l, .int p, .int v])) (e : H l = some (.lst (cs.map V.int))) (hq : 0 ≤ q) : Pen (upd H a (.lst [.ref l, .int q, .int u])) a l :=
  ⟨cs, q, u, upd_same, by rw [upd_ne (Pen.ne h e)]; exact e, hq⟩
theorem Pen.same {H H' : Hp} {a l : Addr} (p : Pen H a l) (s : Same H H') : Pen H' a l := by
  obtain ⟨cs, q, v, h1, h2, h3⟩ := p
  exact ⟨cs, q, v, s _ _ h1, s _ _ h2, h3⟩
theorem dpInts {K : PySem.W.Frag} {H : Hp} : ∀ ns : List Int, DpAll K H (ns.map V.int) (ns.map PyData.int)
  | [] => .nil
  | n :: r => .cons (.int n) (dpInts r)
theorem cut_to {α : Type} (xs : List V) (n : Nat) : ∃ m, cutV xs none (some (n : Int)) = xs.take m := ⟨_, by unfold cutV; rw [HT.sIx_none]; rfl⟩
/-- a row without the zeros at its end -/
def strip (l : List Int) : List Int := (l.reverse.dropWhile (· == 0)).reverse
theorem strip_nil : strip [] = [] := rfl
theorem strip_zero (l : List Int) : strip (l ++ [0]) = strip l := by
  unfold strip
  rw [List.reverse_append]
  rfl
theorem strip_last {l : List Int} {z : Int} (h : z ≠ 0) : strip (l ++ [z]) = l ++ [z] := by
  unfold strip
  rw [List.reverse_append]
  show (List.dropWhile (· == 0) (z :: l.reverse)).reverse = _
  rw [List.dropWhile_cons_of_neg (by simpa using h), List.reverse_cons, List.reverse_reverse]
theorem strip_mem {l : List Int} {c : Int} (h : c ∈ strip l) : c ∈ l := by
  unfold strip at h
  rw [List.mem_reverse] at h
  exact List.mem_reverse.mp ((List.dropWhile_sublist _).subset h)
theorem strip_len (l : List Int) : (strip l).length ≤ l.length := by
  unfold strip
  rw [List.length_reverse]
  have := (List.dropWhile_sublist (· == 0) (l := l.reverse)).length_le
  rwa [List.length_reverse] at this
theorem strip_strip (l : List Int) : strip (strip l) = strip l := by
  rcases List.eq_nil_or_concat (strip l) with e | ⟨r, z, e⟩
  · rw [e]; rfl
  · rw [List.concat_eq_append] at e
    by_cases h : z = 0
    · exfalso
      have e2 : l.reverse.dropWhile (· == 0) = z :: r.reverse := by
        have := congrArg List.reverse e
        unfold strip at this
        rw [List.reverse_reverse, List.reverse_append] at this
        exact this
      have := List.head?_dropWhile_not (p := fun x : Int => x == 0) (l := l.reverse)
      rw [e2] at this
      simp [h] at this
    · rw [e, strip_last h]
theorem eqv_nil : ∀ {xs : List Int}, xs ≠ [] → (!PyData.eqv (.list (xs.map PyData.int)) (.list [])) = true
  | [], h => absurd rfl h
  | _ :: _, _ => rfl
structure Names (mg : Str → Option Value) : Prop where
  list : mg "list" = none
  tuple : mg "tuple" = none
  len : mg "len" = none
  range : mg "range" = none
section
variable {P : Program} {w : World} {K : PySem.W.Frag} {mg : Str → Option Value} {base : Heap}
/-! ### the pen -/
def spPen (K : PySem.W.Frag) : Sp := fun vs H Q _ => ∃ (s : Addr) (ns : List Int), vs = [.ref s] ∧ SqL K H s (ns.map V.int) ∧ ns.length ≤ 63 ∧ ∀ p l H', Same H H' → H p = none → H l = none → Pen H' p l → Q (.ref p) H'
theorem scPen : FnScope ["script"] ["script"] (defScope sPen) := ⟨rfl, rfl, rfl, by decide +kernel, rfl, by decide +kernel, by decide +kernel⟩
theorem ok_pen {f : Addr} {fd : FuncData} (F : Fun K "_law_pen" "_law_pen" sPen f fd) (T : Names mg) : FnOk P w K mg base CX0 1 f fd ["script"] (spPen K) := by
  refine F.ok scPen (fun vs H Q E h => ?_) (fun cdv A outer s H vs Q E hr h => ?_)
  · obtain ⟨a, ns, rfl, _⟩ := h
    rfl
  · obtain ⟨a, ns, rfl, hS, hlen, q⟩ := h
    refine ⟨_, pss_one (ps_ret (pe_lst (pa_cons (pe_callTy call_list_of (by rfl) T.list (by decide +kernel) (pa_cons (pe_slice sl_list (pv 0) po_none (po_some pe_int)) pa_nil)) (pa_cons pe_int (pa_cons pe_int pa_nil))))), ?_⟩
    refine ⟨.ref a, rfl, 63, rfl, a, _, rfl, hS, fun c nc => ?_⟩
    refine ⟨c, _, rfl, .inl (.inl (.inl upd_same)), fun l nl => ?_⟩
    refine ⟨by show 3 ≤ sizeLine; decide, fun p np => ?_⟩
    obtain ⟨m, em⟩ := cut_to (α := Int) (ns.map V.int) 63
    have em : cutV (ns.map V.int) none (some 63) = (ns.map V.int).take m := em
    have lp : l ≠ p := ne_of_none upd_same np
    have h1 := (Same.trans (Same.upd (o := .lst (cutV (ns.map V.int) none (some 63))) nc) (Same.trans (Same.upd (o := .lst (cutV (ns.map V.int) none (some 63))) nl) (Same.upd (o := .lst [.ref l, .int 0, .int 0]) np)))
    refine q p l _ h1 (Same.free (Same.trans (Same.upd nc) (Same.upd nl)) np) (Same.free (Same.upd nc) nl) ⟨ns.take m, 0, 0, upd_same, ?_, by decide⟩
    rw [upd_ne lp, upd_same, em, List.map_take]
/-! ### a fresh number -/
def spFresh : Sp := fun vs H Q _ => ∃ (a l : Addr), vs = [.ref a] ∧ Pen H a l ∧ ∀ (v : Int) H', But a H H' → Pen H' a l → Q (.int v) H'
theorem scFresh : FnScope ["pen", "position", "cell", "modulus", "state", "mixed", "step"] ["pen"] (defScope sFresh) := ⟨rfl, rfl, rfl, by decide +kernel, rfl, by decide +kernel, by decide +kernel⟩
theorem ok_fresh {f : Addr} {fd : FuncData} (F : Fun K "_law_fresh" "_law_fresh" sFresh f fd) (T : Names mg) : FnOk P w K mg base CX0 1 f fd ["pen"] spFresh := by
  refine F.ok scFresh (fun vs H Q E h => ?_) (fun cdv A outer s H vs Q E hr h => ?_)
  · obtain ⟨a, l, rfl, _⟩ := h
    rfl
  · obtain ⟨a, l, rfl, ⟨cs, pos, val, ha, hl, hp⟩, q⟩ := h
    have hu : A.units + 3 + 64 < cLine := hr.units
    refine ⟨_, pss_cons (ps_set (i := 1) scFresh.nd rfl (.inl rfl) (pe_ix ix_list (pv 0) pe_int (fun _ _ => rfl)))
      (pss_cons (ps_asg (pe_op op_add (pv 1) pe_int) (pg_sub (pv 0) pe_int set_list))
      (pss_cons (ps_set (i := 2) scFresh.nd rfl (.inl rfl) pe_int)
      (pss_cons (ps_if (pt_cmpR (op_neD hu) (pe_ix ix_list (pv 0) pe_int (fun _ _ => rfl)) (pe_lst pa_nil) (nomark _))
        (pss_one (ps_set (i := 2) scFresh.nd rfl (.inl rfl) (pe_ix ix_list (pe_ix ix_list (pv 0) pe_int (fun _ _ => rfl)) (pe_op op_mod (pv 1) (pe_callB call_len_seq (by rfl) T.len PySem.boot_len (pa_cons (pe_ix ix_list (pv 0) pe_int (fun _ _ => rfl)) pa_nil))) (fun _ _ => rfl)))) pss_nil)
      (pss_cons (ps_if (PW.pt (pw_and (pt_cmpR op_lt (pv 1) (pe_callB call_len_seq (by rfl) T.len PySem.boot_len (pa_cons (pe_ix ix_list (pv 0) pe_int (fun _ _ => rfl)) pa_nil)) (nomark _)) (pw_and1 (pt_cmpR op_ge (pv 2) (pe_op op_pow pe_int pe_int) (nomark _)))))
        (pss_one (ps_ret (pe_op op_sub (pv 2) (pe_op op_pow pe_int pe_int)))) pss_nil)
      (pss_cons (ps_set (i := 3) scFresh.nd rfl (.inl rfl) pe_int)
      (pss_cons (ps_set (i := 4) scFresh.nd rfl (.inl rfl) (pe_op op_mod (pe_op op_add (pe_op op_add (pe_op op_mul (pv 2) pe_int) (pe_op op_mul pe_int (pv 1))) pe_int) (pv 3)))
      (pss_cons (ps_set (i := 5) scFresh.nd rfl (.inl rfl) (pv 4))
      (pss_cons (ps_for PassesOwn.never rfl (pi_range1 rfl T.range (pa_cons pe_int pa_nil)) (pg_name (i := 6) scFresh.nd rfl (.inl rfl))
        (pss_cons (ps_set (i := 4) scFresh.nd rfl (.inl rfl) (pe_op op_add (pe_op op_mul (pv 4) (pv 4)) (pe_op op_mul (pe_op op_mul pe_int (pe_op op_add (pv 6) pe_int)) (pe_op op_add (pv 1) pe_int))))
        (pss_cons (ps_set (i := 4) scFresh.nd rfl (.inl rfl) (pe_op op_mod (pe_op op_add (pv 4) (pv 2)) (pv 3)))
        (pss_one (ps_set (i := 5) scFresh.nd rfl (.inl rfl) (pe_op op_add (pe_op op_mul (pv 5) (pv 3)) (pv 4)))))))
      (pss_one (ps_ret (pv 5))))))))))), ?_⟩
    -- position = pen[1]; pen[1] = position + 1; cell = 0
    refine ⟨.ref a, rfl, a, _, 1, .int pos, rfl, rfl, SqL.of ha, atI_nat (j := 1) rfl, ?_⟩
    refine ⟨_, rfl, _, _, rfl, rfl, .ref a, rfl, a, _, 1, 1, rfl, rfl, ha, rfl, ?_⟩
    have ha1 : upd H a (.lst [.ref l, .int (pos + 1), .int val]) a = some (.lst [.ref l, .int (pos + 1), .int val]) := upd_same
    have hl1 : upd H a (.lst [.ref l, .int (pos + 1), .int val]) l = some (.lst (cs.map V.int)) := by
      rw [upd_ne (Pen.ne ha hl)]
      exact hl
    have b1 : But a H (upd H a (.lst [.ref l, .int (pos + 1), .int val])) := But.put
    change (_ : Hp → Prop) (upd H a (.lst [.ref l, .int (pos + 1), .int val]))
    generalize upd H a (.lst [.ref l, .int (pos + 1), .int val]) = H1 at ha1 hl1 b1 ⊢
    -- if pen[0] != []
    have ec : cs = [] ∨ ∃ x r, cs = x :: r := by
      cases cs with
      | nil => exact .inl rfl
      | cons x r => exact .inr ⟨x, r, rfl⟩
    dsimp only
    refine on (put_c ?_)
    dsimp only
    refine on (if_tail (fun σ H' => ∃ cell : Int, σ = [some (V.ref a), some (V.int pos), some (V.int cell), none, none, none, none] ∧ Same H1 H') ?_ (fun t => ?_))
    rotate_left
    · refine ⟨.ref a, rfl, a, _, 0, .ref l, rfl, rfl, SqL.of ha1, atI_nat (j := 0) rfl, Nat.zero_le _, fun e0 ne0 => ?_⟩
      have s2 : Same H1 (upd H1 e0 (.lst [])) := Same.upd ne0
      have ha2 := s2 _ _ ha1
      have hl2 := s2 _ _ hl1
      have d0 : Dp K (upd H1 e0 (.lst [])) (.ref e0) (.list []) := .lst (SqL.of upd_same) .nil
      generalize upd H1 e0 (.lst []) = H2 at s2 ha2 hl2 d0 ⊢
      refine ⟨.list (cs.map PyData.int), .list [], .lst (SqL.of hl2) (dpInts cs), d0, PySem.W.ke_shaped_ints cs, rfl, _, rfl, ?_⟩
      rcases ec with rfl | ⟨x, r, rfl⟩
      · exact iteF (t _ _ ⟨0, rfl, s2⟩)
      · refine iteT ?_
        have hpos : pos % (((x :: r).length : Nat) : Int) < ((x :: r).length : Nat) ∧ 0 ≤ pos % (((x :: r).length : Nat) : Int) := by
          have : (0 : Int) < ((x :: r).length : Nat) := by rw [List.length_cons]; omega
          exact ⟨Int.emod_lt_of_pos _ this, Int.emod_nonneg _ (by omega)⟩
        obtain ⟨j, ej⟩ : ∃ j : Nat, pos % (((x :: r).length : Nat) : Int) = (j : Int) := ⟨(pos % (((x :: r).length : Nat) : Int)).toNat, by omega⟩
        have hj : j < (x :: r).length := by omega
        refine ⟨.ref a, rfl, a, _, 0, .ref l, rfl, rfl, SqL.of ha2, atI_nat (j := 0) rfl, .int pos, rfl, .ref a, rfl, a, _, 0, .ref l, rfl, rfl, SqL.of ha2, atI_nat (j := 0) rfl, l, _, rfl, .inl (SqL.of hl2), _, _, rfl, rfl, ?_, ?_⟩
        · show (0 : Int) < _
          rw [List.length_map, List.length_cons]
          omega
        · refine ⟨l, _, _, .int (x :: r)[j], rfl, rfl, SqL.of hl2, ?_, t _ _ ⟨_, rfl, s2⟩⟩
          rw [List.length_map, ej]
          exact atI_nat (by rw [List.getElem?_map, List.getElem?_eq_getElem hj]; rfl)
    · rintro σ H' ⟨cell, rfl, s2⟩
      have ha2 := s2 _ _ ha1
      have hl2 := s2 _ _ hl1
      have b2 : But a H H' := b1.trans (But.of s2)
      have p2 : Pen H' a l := ⟨cs, pos + 1, val, ha2, hl2, by omega⟩
      -- if position < len(pen[0]) and cell >= 10 ** 18: return cell - 10 ** 18
      dsimp only
      refine on (if_tail (fun σ H3 => σ = [some (V.ref a), some (V.int pos), some (V.int cell), none, none, none, none] ∧ H3 = H') ?_ (fun t => ?_))
      rotate_left
      · refine ⟨_, rfl, .ref a, rfl, a, _, 0, .ref l, rfl, rfl, SqL.of ha2, atI_nat (j := 0) rfl, l, _, rfl, .inl (SqL.of hl2), _, _, rfl, rfl, _, rfl, ite2 (fun _ => ?_) (fun _ => iteF (t _ _ ⟨rfl, rfl⟩))⟩
        refine ⟨_, rfl, _, _, rfl, rfl, ⟨by decide, by decide, by decide⟩, _, _, rfl, rfl, _, rfl, ite2 (fun _ => ?_) (fun _ => t _ _ ⟨rfl, rfl⟩)⟩
        exact ⟨_, rfl, _, _, rfl, rfl, ⟨by decide, by decide, by decide⟩, _, _, rfl, rfl, q _ _ b2 p2⟩
      · rintro σ H3 ⟨rfl, rfl⟩
        -- state, mixed, the six turns
        refine ⟨_, rfl, _, _, rfl, rfl, .inr ⟨by decide, by decide⟩, _, rfl, _, _, rfl, rfl, .inl ⟨by decide, by decide⟩, _, _, rfl, rfl, _, _, rfl, rfl, _, rfl, _, _, rfl, rfl, (by show (0 : Int) < 2305843009213693951; decide), _, rfl,
          6, rfl, by decide, by decide, for_range (lo := 0) (n := 6) (fun i σ H4 => ∃ (st mx : Int) (v : Option V), σ = [some (V.ref a), some (V.int pos), some (V.int cell), some (V.int 2305843009213693951), some (V.int st), some (V.int mx), v] ∧ H4 = H3 ∧ 0 ≤ st ∧ st < 2305843009213693951)
            ⟨_, _, none, rfl, rfl, Int.emod_nonneg _ (by decide), Int.emod_lt_of_pos _ (by decide)⟩ ?_ ?_⟩
        · rintro i σ H4 hi ⟨st, mx, v, rfl, rfl, h0, h1⟩
          refine ⟨_, rfl, _, rfl, _, _, rfl, rfl, .inl ⟨by omega, by omega⟩, _, rfl, _, _, rfl, rfl, _, _, rfl, rfl, .inl ⟨by decide, by decide⟩, _, rfl, _, _, rfl, rfl, _, _, rfl, rfl, .inl ⟨by show -(2 ^ 64) < (69621 : Int) * (0 + (i : Int) + 1); omega, by show (69621 : Int) * (0 + (i : Int) + 1) < 2 ^ 64; omega⟩, _, _, rfl, rfl,
            _, rfl, _, rfl, _, _, rfl, rfl, _, rfl, _, _, rfl, rfl, (by show (0 : Int) < 2305843009213693951; decide), _, rfl, _, rfl, _, _, rfl, rfl, .inr ⟨by decide, by decide⟩, _, rfl, _, _, rfl, rfl, ?_⟩
          exact ⟨_, _, _, rfl, rfl, Int.emod_nonneg _ (by decide), Int.emod_lt_of_pos _ (by decide)⟩
        · rintro σ H4 ⟨st, mx, v, rfl, rfl, h0, h1⟩
          exact ⟨_, rfl, q _ _ b2 p2⟩
/-! ### a number below a bound -/
def spDraw : Sp := fun vs H Q _ => ∃ (a l : Addr) (b : Int), vs = [.ref a, .int b] ∧ Pen H a l ∧ 0 < b ∧ b.natAbs.log2 < 9000 ∧ ∀ (d : Int) H', 0 ≤ d → d < b → But a H H' → Pen H' a l → Q (.int d) H'
theorem scDraw : FnScope ["pen", "bound", "digit"] ["pen", "bound"] (defScope sDraw) := ⟨rfl, rfl, rfl, by decide +kernel, rfl, by decide +kernel, by decide +kernel⟩
theorem ok_draw {f g : Addr} {fd gd : FuncData} (F : Fun K "_law_draw" "_law_draw" sDraw f fd) (GF : FnOk P w K mg base CX0 1 g gd ["pen"] spFresh) (mF : mg "_law_fresh" = some (.ref g)) (kF : PySem.W.keepIn K (.ref g) = true) (bF : Binds K gd ["pen"] []) :
    FnOk P w K mg base CX0 2 f fd ["pen", "bound"] spDraw := by
  refine F.ok scDraw (fun vs H Q E h => ?_) (fun cdv A outer s H vs Q E hr h => ?_)
  · obtain ⟨a, l, b, rfl, _⟩ := h
    rfl
  · obtain ⟨a, l, b, rfl, pn, hb, hb2, q⟩ := h
    refine ⟨_, pss_cons (ps_if (pt_cmpR op_lt (pe_ix ix_list (pv 0) pe_int (fun _ _ => rfl)) (pv 1) (nomark _))
        (pss_one (ps_asg (pe_call GF hr (by rfl) mF kF bF .nil pass0 (pa_cons (pv 0) pa_nil)) (pg_sub (pv 0) pe_int set_list))) pss_nil)
      (pss_cons (ps_set (i := 2) scDraw.nd rfl (.inl rfl) (pe_op op_mod (pe_ix ix_list (pv 0) pe_int (fun _ _ => rfl)) (pv 1)))
      (pss_cons (ps_asg (pe_op op_fdivW (pe_ix ix_list (pv 0) pe_int (fun _ _ => rfl)) (pv 1)) (pg_sub (pv 0) pe_int set_list))
      (pss_one (ps_ret (pv 2))))), ?_⟩
    refine on (if_tail (fun σ H' => σ = [some (V.ref a), some (V.int b), none] ∧ Pen H' a l ∧ But a H H') ?_ (fun t => ?_))
    rotate_left
    · obtain ⟨cs, pos, val, ha, hl, hp⟩ := id pn
      refine ⟨.ref a, rfl, a, _, 2, .int val, rfl, rfl, SqL.of ha, atI_nat (j := 2) rfl, _, rfl, _, _, rfl, rfl, _, rfl, ite2 (fun _ => ?_) (fun _ => t _ _ ⟨rfl, pn, But.refl _ _⟩)⟩
      refine ⟨.ref a, rfl, a, l, rfl, pn, fun v H1 b1 p1 => ?_⟩
      obtain ⟨cs, pos, val, ha, hl, hp⟩ := p1
      exact ⟨.ref a, rfl, a, _, 2, 2, rfl, rfl, ha, rfl, t _ _ ⟨rfl, Pen.put ha hl hp, b1.trans But.put⟩⟩
    · rintro σ H1 ⟨rfl, ⟨cs, pos, val, ha, hl, hp⟩, b1⟩
      refine ⟨.ref a, rfl, a, _, 2, .int val, rfl, rfl, SqL.of ha, atI_nat (j := 2) rfl, _, rfl, _, _, rfl, rfl, hb, .ref a, rfl, a, _, 2, .int val, rfl, rfl, SqL.of ha, atI_nat (j := 2) rfl, _, rfl, _, _, rfl, rfl, ⟨hb, hb2⟩, .ref a, rfl, a, _, 2, 2, rfl, rfl, ha, rfl, _, rfl, ?_⟩
      exact q _ _ (Int.emod_nonneg _ (by omega)) (Int.emod_lt_of_pos _ hb) (b1.trans But.put) (Pen.put ha hl hp)
/-! ### zeros at the end -/
def spStrip (K : PySem.W.Frag) : Sp := fun vs H Q _ => ∃ (a : Addr) (ns : List Int), vs = [.ref a] ∧ (SqL K H a (ns.map V.int) ∨ SqT K H a (ns.map V.int)) ∧ ∀ p H', Same H H' → H p = none → H' p = some (.tup ((strip ns).map V.int)) → Q (.ref p) H'
theorem scStrip : FnScope ["numbers", "result"] ["numbers"] (defScope sStrip) := ⟨rfl, rfl, rfl, by decide +kernel, rfl, by decide +kernel, by decide +kernel⟩
theorem ok_strip {f : Addr} {fd : FuncData} (F : Fun K "_law_strip" "_law_strip" sStrip f fd) (T : Names mg) : FnOk P w K mg base CX0 1 f fd ["numbers"] (spStrip K) := by
  refine F.ok scStrip (fun vs H Q E h => ?_) (fun cdv A outer s H vs Q E hr h => ?_)
  · obtain ⟨a, ns, rfl, _⟩ := h
    rfl
  · obtain ⟨a, ns, rfl, hS, q⟩ := h
    have hu : A.units + 3 + 64 < cLine := hr.units
    refine ⟨_, pss_cons (ps_set (i := 1) scStrip.nd rfl (.inl rfl) (pe_callTy call_list_of (by rfl) T.list (by decide +kernel) (pa_cons (pv 0) pa_nil)))
      (pss_cons (ps_while PassesOwn.never (PW.pt (pw_and (pt_cmpR (op_neD hu) (pv 1) (pe_lst pa_nil) (nomark _)) (pw_and1 (pt_cmpR op_eq (pe_ix ix_list (pv 1) (pe_un un_neg pe_int) (fun _ _ => rfl)) pe_int (nomark _)))))
        (pss_one (ps_expr (pe_bm0 PySem.F.plainAttrs_list PySem.F.slot_list_pop PySem.F.type_list_pop mt_pop (pv 1)))))
      (pss_one (ps_ret (pe_callTy call_tuple_of (by rfl) T.tuple (by decide +kernel) (pa_cons (pv 1) pa_nil))))), ?_⟩
    refine ⟨.ref a, rfl, a, _, rfl, hS, fun l nl => ?_⟩
    have s1 : Same H (upd H l (.lst (ns.map V.int))) := Same.upd nl
    refine ⟨fun n σ H' => ∃ xs : List Int, n = xs.length ∧ σ = [some (V.ref a), some (V.ref l)] ∧ Same H H' ∧ H' l = some (.lst (xs.map V.int)) ∧ strip xs = strip ns, ⟨ns.length, ns, rfl, rfl, s1, upd_same, rfl⟩, ?_⟩
    rintro n σ H' ⟨xs, rfl, rfl, s2, hl, ex⟩
    refine ⟨.ref l, rfl, Nat.zero_le _, fun e ne => ?_⟩
    have s3 : Same H' (upd H' e (.lst [])) := Same.upd ne
    have hl3 := s3 _ _ hl
    have de : Dp K (upd H' e (.lst [])) (.ref e) (.list []) := .lst (SqL.of upd_same) .nil
    generalize upd H' e (.lst []) = H3 at s3 hl3 de ⊢
    refine ⟨.list (xs.map PyData.int), .list [], .lst (SqL.of hl3) (dpInts xs), de, PySem.W.ke_shaped_ints xs, rfl, _, rfl, ?_⟩
    have fin : ∀ ys : List Int, H3 l = some (.lst (ys.map V.int)) → strip ns = ys → ∀ p, H3 p = none → Q (.ref p) (upd H3 p (.tup (ys.map V.int))) := fun ys hy e1 p np =>
      q p _ ((s2.trans s3).trans (Same.upd np)) ((s2.trans s3).free np) (by rw [upd_same, e1])
    rcases List.eq_nil_or_concat xs with rfl | ⟨ys, z, rfl⟩
    · exact iteF (iteF ⟨.ref l, rfl, l, _, rfl, .inl ⟨SqL.of hl3, fin [] hl3 (by rw [← ex]; rfl)⟩⟩)
    · rw [List.concat_eq_append] at *
      rw [eqv_nil (by simp)]
      refine iteT ?_
      have em : ((ys ++ [z]).map V.int) = ys.map V.int ++ [V.int z] := by rw [List.map_append]; rfl
      refine ⟨.ref l, rfl, 1, rfl, l, _, -1, .int z, rfl, rfl, SqL.of hl3, by rw [em]; exact atI_last _ _, rfl, _, rfl, ?_⟩
      by_cases hz : z = 0
      · subst hz
        rw [decide_eq_true rfl]
        refine iteT ⟨fun σ H4 => ∃ xs : List Int, xs.length < (ys ++ [(0 : Int)]).length ∧ σ = [some (V.ref a), some (V.ref l)] ∧ Same H H4 ∧ H4 l = some (.lst (xs.map V.int)) ∧ strip xs = strip ns, ?_, ?_⟩
        · rintro σ H4 ⟨xs, lt, e1, e2, e3, e4⟩
          exact ⟨xs.length, lt, xs, rfl, e1, e2, e3, e4⟩
        · refine ⟨.ref l, rfl, .inl ⟨rfl, _, SqL.of hl3⟩, l, _, .int 0, rfl, rfl, hl3, ?_, ys, by simp, rfl, ?_, ?_, by rw [← ex, strip_zero]⟩
          · rw [em]
            simp
          · exact fun b o e => by rw [upd_ne (ne_of_none e nl)]; exact s3 _ _ (s2 _ _ e)
          · rw [upd_same, em, List.dropLast_concat]
      · rw [decide_eq_false (by intro e; exact hz (V.int.inj e))]
        exact iteF ⟨.ref l, rfl, l, _, rfl, .inl ⟨SqL.of hl3, fin _ hl3 (by rw [← ex, strip_last hz])⟩⟩
/-! ### a coefficient, a row of them -/
theorem But.mem {a p : Addr} {H H' : Hp} {o : HO} (b : But a H H') (n : p ≠ a) (e : H p = some o) : H' p = some o := b p o e n
/-- picking one of some ints by a number that is drawn -/
theorem pick {M : Nat} {zs : List Int} (h : ∀ z ∈ zs, z.natAbs < M) {d : Int} (h0 : 0 ≤ d) (h1 : d < zs.length) : ∃ z : Int, atI (zs.map V.int) d = some (.int z) ∧ z ∈ zs ∧ z.natAbs < M := by
  obtain ⟨j, rfl⟩ : ∃ j : Nat, d = (j : Int) := ⟨d.toNat, by omega⟩
  have hj : j < zs.length := by omega
  refine ⟨zs[j], atI_nat (by rw [List.getElem?_map, List.getElem?_eq_getElem hj]; rfl), List.getElem_mem hj, h _ (List.getElem_mem hj)⟩
def spCoef : Sp := fun vs H Q _ => ∃ (a l : Addr), vs = [.ref a] ∧ Pen H a l ∧ ∀ (c : Int) H', c.natAbs < 200 → But a H H' → Pen H' a l → Q (.int c) H'
theorem scCoef : FnScope ["pen", "size"] ["pen"] (defScope sCoef) := ⟨rfl, rfl, rfl, by decide +kernel, rfl, by decide +kernel, by decide +kernel⟩
theorem ok_coef {f g : Addr} {fd gd : FuncData} (F : Fun K "_law_coefficient" "_law_coefficient" sCoef f fd) (GD : FnOk P w K mg base CX0 2 g gd ["pen", "bound"] spDraw) (mD : mg "_law_draw" = some (.ref g)) (kD : PySem.W.keepIn K (.ref g) = true) (bD : Binds K gd ["pen", "bound"] []) :
    FnOk P w K mg base CX0 3 f fd ["pen"] spCoef := by
  refine F.ok scCoef (fun vs H Q E h => ?_) (fun cdv A outer s H vs Q E hr h => ?_)
  · obtain ⟨a, l, rfl, _⟩ := h
    rfl
  · obtain ⟨a, l, rfl, pn, q⟩ := h
    refine ⟨_, pss_cons (ps_set (i := 1) scCoef.nd rfl (.inl rfl) (pe_ix ix_list (pe_lst
        (pa_cons (pe_call GD hr (by rfl) mD kD bD .nil pass0 (pa_cons (pv 0) (pa_cons pe_int pa_nil)))
        (pa_cons (pe_call GD hr (by rfl) mD kD bD .nil pass0 (pa_cons (pv 0) (pa_cons pe_int pa_nil)))
        (pa_cons (pe_call GD hr (by rfl) mD kD bD .nil pass0 (pa_cons (pv 0) (pa_cons pe_int pa_nil)))
        (pa_cons (pe_call GD hr (by rfl) mD kD bD .nil pass0 (pa_cons (pv 0) (pa_cons pe_int pa_nil)))
        (pa_cons pe_int pa_nil)))))) (pe_call GD hr (by rfl) mD kD bD .nil pass0 (pa_cons (pv 0) (pa_cons pe_int pa_nil))) (fun _ _ => rfl)))
      (pss_one (ps_ret (pe_op op_mul (pv 1) (pe_ix ix_list (pe_lst (pa_cons pe_int (pa_cons (pe_un un_neg pe_int) pa_nil))) (pe_call GD hr (by rfl) mD kD bD .nil pass0 (pa_cons (pv 0) (pa_cons pe_int pa_nil))) (fun _ _ => rfl))))), ?_⟩
    refine ⟨.ref a, rfl, a, l, 4, rfl, pn, by decide, by decide +kernel, fun d1 H1 l1 u1 b1 p1 => ?_⟩
    refine ⟨.ref a, rfl, a, l, 3, rfl, p1, by decide, by decide +kernel, fun d2 H2 l2 u2 b2 p2 => ?_⟩
    refine ⟨.ref a, rfl, a, l, 12, rfl, p2, by decide, by decide +kernel, fun d3 H3 l3 u3 b3 p3 => ?_⟩
    refine ⟨.ref a, rfl, a, l, 200, rfl, p3, by decide, by decide +kernel, fun d4 H4 l4 u4 b4 p4 => ?_⟩
    refine ⟨by show 5 ≤ sizeLine; decide, fun e ne => ?_⟩
    have s5 : Same H4 (upd H4 e (.lst [.int d1, .int d2, .int d3, .int d4, .int 0])) := Same.upd ne
    have b5 : But a H (upd H4 e (.lst [.int d1, .int d2, .int d3, .int d4, .int 0])) := (((b1.trans b2).trans b3).trans b4).trans (But.of s5)
    have p5 := p4.same s5
    have nea : e ≠ a := by
      obtain ⟨cs, pos, val, ha, _⟩ := p4
      exact (ne_of_none ha ne).symm
    have he : upd H4 e (.lst [.int d1, .int d2, .int d3, .int d4, .int 0]) e = some (.lst ([d1, d2, d3, d4, 0].map V.int)) := upd_same
    generalize upd H4 e (.lst [.int d1, .int d2, .int d3, .int d4, .int 0]) = H5 at b5 p5 he ⊢
    refine ⟨.ref a, rfl, a, l, 5, rfl, p5, by decide, by decide +kernel, fun d5 H6 l5 u5 b6 p6 => ?_⟩
    obtain ⟨z, hz, _, hz2⟩ := pick (M := 200) (zs := [d1, d2, d3, d4, 0]) (d := d5) (by
      intro z hz
      simp only [List.mem_cons, List.not_mem_nil, or_false] at hz
      omega) l5 (by show d5 < 5; omega)
    refine ⟨e, _, _, .int z, rfl, rfl, SqL.of (b6.mem nea he), hz, ?_⟩
    refine ⟨_, rfl, 1, rfl, by show 2 ≤ sizeLine; decide, fun e2 ne2 => ?_⟩
    have s7 : Same H6 (upd H6 e2 (.lst [.int 1, .int (-1)])) := Same.upd ne2
    have p7 := p6.same s7
    have nea2 : e2 ≠ a := by
      obtain ⟨cs, pos, val, ha, _⟩ := p6
      exact (ne_of_none ha ne2).symm
    have he2 : upd H6 e2 (.lst [.int 1, .int (-1)]) e2 = some (.lst ([1, -1].map V.int)) := upd_same
    generalize hH7 : upd H6 e2 (.lst [.int 1, .int (-1)]) = H7 at s7 p7 he2 ⊢
    refine ⟨.ref a, rfl, a, l, 2, rfl, p7, by decide, by decide +kernel, fun d6 H8 l6 u6 b8 p8 => ?_⟩
    obtain ⟨y, hy, hy1, _⟩ := pick (M := 2) (zs := [1, -1]) (d := d6) (by decide) l6 (by show d6 < 2; omega)
    refine ⟨e2, _, _, .int y, rfl, rfl, SqL.of (b8.mem nea2 he2), hy, _, _, rfl, rfl, .inl ⟨by omega, by omega⟩, ?_⟩
    refine q _ _ ?_ (((b5.trans b6).trans (But.of s7)).trans b8) p8
    simp only [List.mem_cons, List.not_mem_nil, or_false] at hy1
    rcases hy1 with rfl | rfl <;> omega
def spPoly : Sp := fun vs H Q _ => ∃ (a l : Addr) (m : Int), vs = [.ref a, .int m] ∧ Pen H a l ∧ 0 ≤ m ∧ m ≤ 100 ∧
  ∀ (p : Addr) (ns : List Int) H', (ns.length : Int) ≤ m → (∀ c ∈ ns, c.natAbs < 200) → strip ns = ns → But a H H' → H p = none → H' p = some (.tup (ns.map V.int)) → Pen H' a l → Q (.ref p) H'
theorem scPoly : FnScope ["pen", "most", "k"] ["pen", "most"] (defScope sPoly) := ⟨rfl, rfl, rfl, by decide +kernel, rfl, by decide +kernel, by decide +kernel⟩
theorem ok_poly {f g c t : Addr} {fd gd cd td : FuncData} (F : Fun K "_law_polynomial" "_law_polynomial" sPoly f fd) (T : Names mg) (GD : FnOk P w K mg base CX0 2 g gd ["pen", "bound"] spDraw) (mD : mg "_law_draw" = some (.ref g)) (kD : PySem.W.keepIn K (.ref g) = true) (bD : Binds K gd ["pen", "bound"] [])
    (GC : FnOk P w K mg base CX0 3 c cd ["pen"] spCoef) (mC : mg "_law_coefficient" = some (.ref c)) (kC : PySem.W.keepIn K (.ref c) = true) (bC : Binds K cd ["pen"] [])
    (GS : FnOk P w K mg base CX0 1 t td ["numbers"] (spStrip K)) (mS : mg "_law_strip" = some (.ref t)) (kS : PySem.W.keepIn K (.ref t) = true) (bS : Binds K td ["numbers"] []) :
    FnOk P w K mg base CX0 4 f fd ["pen", "most"] spPoly := by
  refine F.ok scPoly (fun vs H Q E h => ?_) (fun cdv A outer s H vs Q E hr h => ?_)
  · obtain ⟨a, l, m, rfl, _⟩ := h
    rfl
  · obtain ⟨a, l, m, rfl, pn, hm0, hm1, q⟩ := h
    refine ⟨_, pss_one (ps_ret (pe_call GS (hr.mono (by decide)) (by rfl) mS kS bS .nil pass0 (pa_cons (pe_lc (own := [("k", 2)]) (g := gName 2) (tt := tYes) rfl scPoly.nd
        (pi_range1 rfl T.range (pa_cons (pe_call GD (hr.mono (by decide)) (by rfl) mD kD bD .nil pass0 (pa_cons (pv 0) (pa_cons (pe_op op_add (pv 1) pe_int) pa_nil))) pa_nil))
        (blkOk_by (N := ["pen", "most", "k"]) (sc := defScope sPoly) (own := [("k", 2)]) (by decide +kernel)) (fun _ _ _ _ _ => pg_name (i := 2) scPoly.nd rfl (Or.inl rfl)) (fun _ _ _ _ _ => pts_nil)
        (fun _ _ _ _ _ => pe_call GC (hr.mono (by decide)) (by rfl) mC kC bC .nil pass0 (pa_cons (pv 0) pa_nil))) pa_nil))), ?_⟩
    refine ⟨.ref a, rfl, _, rfl, _, _, rfl, rfl, a, l, m + 1, rfl, pn, by omega, ?_, fun d H1 h0 h1 b1 p1 => ?_⟩
    · have : (m + 1).natAbs.log2 < 7 ∨ (m + 1).natAbs = 0 := by
        by_cases z : (m + 1).natAbs = 0
        · exact .inr z
        · exact .inl ((Nat.log2_lt z).mpr (by omega))
      rcases this with h | h
      · omega
      · omega
    · refine ⟨d, rfl, by omega, by omega, fun D nD => ?_⟩
      have nDa : D ≠ a := by
        obtain ⟨cs, pos, val, ha, _⟩ := p1
        exact (ne_of_none ha nD).symm
      have lD : l ≠ D := by
        obtain ⟨_, _, _, _, hl, _⟩ := p1
        exact ne_of_none hl nD
      refine lc_range (lo := 0) (n := d.toNat) (fun i H' => ∃ ns : List Int, H' D = some (.lst (ns.map V.int)) ∧ ns.length = i ∧ (∀ c ∈ ns, c.natAbs < 200) ∧ But a H H' ∧ Pen H' a l)
        ⟨[], upd_same, rfl, by simp, b1.trans (But.of (Same.upd nD)), p1.same (Same.upd nD)⟩ ?_ ?_
      · rintro i H2 hi ⟨ns, hD, hn, hc, b2, p2⟩
        refine ⟨rfl, ?_⟩
        dsimp only [tYes]
        refine iteT ?_
        refine ⟨.ref a, rfl, a, l, rfl, p2, fun c H3 hc3 b3 p3 => ⟨ns.map V.int, b3.mem nDa hD, by rw [List.length_map]; exact small1000 (by omega), ns ++ [c], ?_, by simp [hn], ?_, ?_, ?_⟩⟩
        · rw [upd_same, List.map_append]
          rfl
        · intro x hx
          rcases List.mem_append.mp hx with hx | hx
          · exact hc x hx
          · rw [List.mem_singleton.mp hx]
            exact hc3
        · intro b o e n
          have nb : b ≠ D := ne_of_none e (by
            cases q : H D with
            | none => rfl
            | some u => rw [b1 D u q nDa] at nD; cases nD)
          rw [upd_ne nb]
          exact b3 _ _ (b2 _ _ e n) n
        · obtain ⟨cs, pos, val, h1, h2, h3⟩ := p3
          exact ⟨cs, pos, val, by rw [upd_ne (Ne.symm nDa)]; exact h1, by rw [upd_ne lD]; exact h2, h3⟩
      · rintro H2 ⟨ns, hD, hn, hc, b2, p2⟩
        refine ⟨D, ns, rfl, .inl (SqL.of hD), fun p H3 s3 np e3 => ?_⟩
        exact q p (strip ns) H3 (by have := strip_len ns; omega) (fun c hx => hc c (strip_mem hx)) (strip_strip ns) (b2.trans (But.of s3)) (b2.free ((show a ≠ p from by obtain ⟨_, _, _, ha, _⟩ := p2; exact ne_of_none ha np).symm) np) e3 (p2.same s3)
end
end Z

set_option Elab.async false
set_option maxRecDepth 100000
set_option maxHeartbeats 4000000
/-! rows as the digits of one number -/
namespace M4
open M3
def val (B : Int) : List Int → Int
  | [] => 0
  | c :: r => c + B * val B r
theorem val_snoc (B z : Int) : ∀ l : List Int, val B (l ++ [z]) = val B l + B ^ l.length * z
  | [] => by simp [val]
  | c :: r => by
    show c + B * val B (r ++ [z]) = c + B * val B r + B ^ (r.length + 1) * z
    rw [val_snoc B z r, Int.pow_succ]
    grind
theorem val_neg (B : Int) : ∀ l : List Int, val B (l.map (-·)) = -val B l
  | [] => rfl
  | c :: r => by
    show -c + B * val B (r.map (-·)) = -(c + B * val B r)
    rw [val_neg B r]
    grind
/-- digits around 0 -/
def Small (B : Int) (l : List Int) : Prop := ∀ c ∈ l, 2 * c < B ∧ -B < 2 * c
theorem Small.tail {B c : Int} {r : List Int} (h : Small B (c :: r)) : Small B r := fun x hx => h x (List.mem_cons_of_mem _ hx)
theorem Small.drop {B : Int} {l : List Int} (h : Small B l) (k : Nat) : Small B (l.drop k) := fun x hx => h x (List.mem_of_mem_drop hx)
theorem Small.neg {B : Int} {l : List Int} (h : Small B l) : Small B (l.map (-·)) := fun x hx => by
  obtain ⟨c, hc, rfl⟩ := List.mem_map.mp hx
  have := h c hc
  constructor <;> omega
theorem val_pos {B : Int} (hB : 2 ≤ B) : ∀ (r : List Int) (z : Int), Small B (r ++ [z]) → 0 < z → 0 < val B (r ++ [z])
  | [], z, _, hz => by
    show 0 < z + B * 0
    omega
  | c :: r, z, h, hz => by
    have ih := val_pos hB r z h.tail hz
    have hc := h c (by simp)
    show 0 < c + B * val B (r ++ [z])
    have : B * 1 ≤ B * val B (r ++ [z]) := Int.mul_le_mul_of_nonneg_left (by omega) (by omega)
    omega
/-- how a digit is read -/
theorem digit {B c v : Int} (hB : 2 ≤ B) (h : 2 * c < B ∧ -B < 2 * c) : (if 2 * ((c + B * v) % B) ≥ B then (c + B * v) % B - B else (c + B * v) % B) = c := by
  rw [Int.add_mul_emod_self_left]
  by_cases h0 : 0 ≤ c
  · rw [Int.emod_eq_of_lt h0 (by omega), if_neg (by omega)]
  · have e : c % B = c + B := by
      rw [← Int.add_emod_right, Int.emod_eq_of_lt (by omega) (by omega)]
    rw [e, if_pos (by omega)]
    omega
theorem rest_is {B c v : Int} (hB : 2 ≤ B) : (c + B * v - c) / B = v := by
  rw [show c + B * v - c = B * v by omega]
  exact Int.mul_ediv_cancel_left _ (by omega)
theorem val_lt {B : Nat} (hB : 1 ≤ B) : ∀ l : List Int, (∀ c ∈ l, c.natAbs < B) → (val (B : Int) l).natAbs < B ^ l.length
  | [], _ => by simp [val]
  | c :: r, h => by
    have ih := val_lt hB r fun x hx => h x (List.mem_cons_of_mem _ hx)
    have hc := h c List.mem_cons_self
    show (c + (B : Int) * val (B : Int) r).natAbs < B ^ (r.length + 1)
    have h1 := Int.natAbs_add_le c ((B : Int) * val (B : Int) r)
    rw [Int.natAbs_mul, Int.natAbs_natCast] at h1
    have h2 : B * ((val (B : Int) r).natAbs + 1) ≤ B * B ^ r.length := Nat.mul_le_mul_left _ (by omega)
    rw [Nat.mul_add, Nat.mul_one] at h2
    rw [Nat.pow_succ, Nat.mul_comm (B ^ r.length) B]
    omega
/-! products -/
def vs (B : Int) (F : Nat → Int) : Nat → Int
  | 0 => 0
  | n + 1 => vs B F n + B ^ n * F n
theorem vs_map (B : Int) (F : Nat → Int) : ∀ n, val B ((List.range n).map F) = vs B F n
  | 0 => rfl
  | n + 1 => by
    rw [List.range_succ, List.map_append]
    show val B ((List.range n).map F ++ [F n]) = _
    rw [val_snoc, vs_map B F n]
    simp [vs]
theorem vs_add (B : Int) (F G : Nat → Int) : ∀ n, vs B (fun t => F t + G t) n = vs B F n + vs B G n
  | 0 => rfl
  | n + 1 => by
    show vs B _ n + B ^ n * (F n + G n) = _
    rw [vs_add B F G n]
    show _ = vs B F n + B ^ n * F n + (vs B G n + B ^ n * G n)
    grind
theorem vs_mul (B c : Int) (F : Nat → Int) : ∀ n, vs B (fun t => c * F t) n = c * vs B F n
  | 0 => by simp [vs]
  | n + 1 => by
    show vs B _ n + B ^ n * (c * F n) = c * (vs B F n + B ^ n * F n)
    rw [vs_mul B c F n]
    grind
def sh (F : Nat → Int) : Nat → Int := fun t => match t with
  | 0 => 0
  | t + 1 => F t
theorem vs_sh (B : Int) (F : Nat → Int) : ∀ n, vs B (sh F) (n + 1) = B * vs B F n
  | 0 => by simp [vs, sh]
  | n + 1 => by
    show vs B (sh F) (n + 1) + B ^ (n + 1) * F n = B * (vs B F n + B ^ n * F n)
    rw [vs_sh B F n, Int.pow_succ]
    grind
theorem vs_getD (B : Int) : ∀ (l : List Int) (n : Nat), l.length ≤ n → vs B (fun t => l.getD t 0) n = val B l
  | [], n, _ => by
    have : ∀ n, vs B (fun t => ([] : List Int).getD t 0) n = 0 := by
      intro n
      induction n with
      | zero => rfl
      | succ n ih =>
        show vs B _ n + B ^ n * 0 = 0
        rw [ih]
        simp
    exact this n
  | c :: r, 0, h => by simp at h
  | c :: r, n + 1, h => by
    have e : (fun t => (c :: r).getD t 0) = fun t => (fun t => if t = 0 then c else 0) t + sh (fun t => r.getD t 0) t := by
      funext t
      cases t with
      | zero => simp [sh]
      | succ t => simp [sh]
    rw [e, vs_add, vs_sh, vs_getD B r n (by simpa using h)]
    have z : ∀ n, vs B (fun t => if t = 0 then c else 0) (n + 1) = c := by
      intro n
      induction n with
      | zero => simp [vs]
      | succ n ih =>
        show vs B _ (n + 1) + B ^ (n + 1) * (if n + 1 = 0 then c else 0) = c
        rw [ih, if_neg (by omega)]
        simp
    rw [z]
    rfl
theorem vs_pf (B : Int) (g : List Int) : ∀ (f : List Int) (n : Nat), f.length + g.length ≤ n → vs B (pf f g) n = val B f * val B g
  | [], n, _ => by
    have : ∀ n, vs B (pf [] g) n = 0 := by
      intro n
      induction n with
      | zero => rfl
      | succ n ih =>
        show vs B (pf [] g) n + B ^ n * 0 = 0
        rw [ih]
        simp
    rw [this n]
    simp [val]
  | x :: f, 0, h => by simp at h
  | x :: f, n + 1, h => by
    rw [List.length_cons] at h
    have e : pf (x :: f) g = fun t => (fun t => x * g.getD t 0) t + sh (pf f g) t := by
      funext t
      cases t <;> rfl
    rw [e, vs_add, vs_mul, vs_sh, vs_pf B g f n (by omega), vs_getD B g (n + 1) (by omega)]
    show x * val B g + B * (val B f * val B g) = (x + B * val B f) * val B g
    grind
theorem pf_bd2 {F G : Nat} {f : List Int} (hf : Bd F f) : ∀ (g : List Int), Bd G g → ∀ t, (pf f g t).natAbs ≤ g.length * (F * G) := by
  suffices ∀ (k : Nat) (g : List Int), g.length = k → Bd G g → ∀ t, (pf f g t).natAbs ≤ g.length * (F * G) from fun g => this _ g rfl
  intro k
  induction k with
  | zero =>
    intro g h _ t
    obtain rfl := List.eq_nil_of_length_eq_zero h
    have : ∀ (f : List Int) (t : Nat), pf f [] t = 0 := by
      intro f
      induction f with
      | nil => intro t; rfl
      | cons z f ih =>
        intro t
        cases t with
        | zero => simp [pf]
        | succ t => simp [pf, ih t]
    rw [this]
    simp
  | succ k ih =>
    intro g h hg t
    rcases List.eq_nil_or_concat g with rfl | ⟨r, y, rfl⟩
    · simp at h
    · rw [List.concat_eq_append] at *
      have hr : Bd G r := bd_of fun x hx => hg.mem (List.mem_append_left _ hx)
      have hy : y.natAbs ≤ G := hg.mem (List.mem_append_right _ List.mem_cons_self)
      have i1 := ih r (by simpa using h) hr t
      rw [pf_snoc_g, List.length_append, Nat.add_mul]
      show _ ≤ r.length * (F * G) + 1 * (F * G)
      rw [Nat.one_mul]
      split
      · have h1 := Int.natAbs_add_le (pf f r t) (f.getD (t - r.length) 0 * y)
        have h2 : (f.getD (t - r.length) 0 * y).natAbs ≤ F * G := by
          rw [Int.natAbs_mul]
          exact Nat.mul_le_mul (hf _) hy
        omega
      · rw [Int.add_zero]
        omega
end M4

set_option Elab.async false
set_option linter.all false
set_option maxRecDepth 100000
set_option maxHeartbeats 4000000
set_option exponentiation.threshold 20000
namespace Z
open PySem PySem.Spec PyProof.Rows L2 GG M3
abbrev sTrim : Stmt := top 6
abbrev sAdd : Stmt := top 7
abbrev sSub : Stmt := top 8
abbrev sMul : Stmt := top 10
abbrev sProd : Stmt := top 20
abbrev sSum : Stmt := top 21
abbrev sLarge : Stmt := top 22
abbrev sCor : Stmt := top 23
abbrev sLaw : Stmt := top 24
theorem Same.tup {K : PySem.W.Frag} {H H' : Hp} {a : Addr} {xs : List V} (e : Same H H') (h : SqT K H a xs) : SqT K H' a xs := by
  rcases h with (h | ⟨o, h⟩) | h
  · exact .inl (.inl (e _ _ h))
  · exact .inl (.inr ⟨o, e _ _ h⟩)
  · exact .inr h
theorem tup_of {K : PySem.W.Frag} {H : Hp} {a : Addr} {xs : List V} (h : H a = some (.tup xs)) : SqT K H a xs := .inl (.inl h)
theorem ixN_of {n j : Nat} {z : Int} (e : z = (j : Int)) (h : j < n) : ixN n z = some j := by
  subst e
  unfold ixN
  rw [if_pos (by omega), if_pos (by omega)]
  simp
theorem get_int {ns : List Int} {k : Nat} (h : k < ns.length) : (ns.map V.int)[k]? = some (.int (ns.getD k 0)) := by
  rw [List.getElem?_map, List.getElem?_eq_getElem h, List.getD_eq_getElem?_getD, List.getElem?_eq_getElem h]
  rfl
theorem cut_len {xs : List V} (j : Nat) : cutV xs none (some (j : Int)) = xs.take (min j xs.length) := by
  unfold cutV
  rw [HT.sIx_none, HT.sIx_nat]
  rfl
theorem many_zeros (n : Nat) : (List.replicate n [V.int 0]).flatten = (List.replicate n (0 : Int)).map V.int := by
  induction n with
  | zero => rfl
  | succ n ih => rw [List.replicate_succ, List.flatten_cons, ih, List.replicate_succ]; rfl
structure Names3 (mg : Str → Option Value) : Prop extends Names mg where
  max : mg "max" = none
  min : mg "min" = none
  enumerate : mg "enumerate" = none
  repr : mg "repr" = none
  zip : mg "zip" = none
  zipL : mg "zip_longest" = some (.type ZL.TN)
structure Def (K : PySem.W.Frag) (mg : Str → Option Value) (x : Str) (f : Addr) (fd : FuncData) (ps : List Str) : Prop where
  is : mg x = some (.ref f)
  kp : PySem.W.keepIn K (.ref f) = true
  bi : Binds K fd ps []
section
variable {P : Program} {w : World} {K : PySem.W.Frag} {mg : Str → Option Value} {base : Heap}
/-! ### the program -/
def spTrim (K : PySem.W.Frag) : Sp := fun vs H Q _ => ∃ (a : Addr) (ns : List Int), vs = [.ref a] ∧ SqL K H a (ns.map V.int) ∧ ∀ p H', Same H H' → H p = none → H' p = some (.tup ((strip ns).map V.int)) → Q (.ref p) H'
theorem scTrim : FnScope ["coefficients", "size"] ["coefficients"] (defScope sTrim) := ⟨rfl, rfl, rfl, by decide +kernel, rfl, by decide +kernel, by decide +kernel⟩
theorem ok_trim {f : Addr} {fd : FuncData} (F : Fun K "trim_zeros" "trim_zeros" sTrim f fd) (T : Names mg) : FnOk P w K mg base CX0 1 f fd ["coefficients"] (spTrim K) := by
  refine F.ok scTrim (fun vs H Q E h => ?_) (fun cdv A outer s H vs Q E hr h => ?_)
  · obtain ⟨a, ns, rfl, _⟩ := h
    rfl
  · obtain ⟨a, ns, rfl, hS, q⟩ := h
    refine ⟨_, (pss_cons (ps_set (i := 1) scTrim.nd rfl (.inl rfl) (pe_callB call_len_seq (by rfl) T.len PySem.boot_len (pa_cons (pv 0) pa_nil)))
      (pss_cons (ps_while PassesOwn.never (PW.pt (pw_and (pt_cmpR op_gt (pv 1) pe_int (nomark _)) (pw_and1 (pt_cmpR op_eq (pe_ix ix_list (pv 0) (pe_op op_sub (pv 1) pe_int) (fun _ _ => rfl)) pe_int (nomark _))))) (pss_one (ps_aug (i := 1) scTrim.nd rfl (.inl rfl) pe_int ip_sub)))
      (pss_one (ps_ret (pe_callTy call_tuple_of (by rfl) T.tuple (by decide +kernel) (pa_cons (pe_slice sl_list (pv 0) po_none (po_some (pv 1))) pa_nil)))))), ?_⟩
    refine ⟨.ref a, rfl, a, _, rfl, .inl hS, ?_⟩
    refine ⟨fun n σ H' => ∃ j : Nat, n = j ∧ j ≤ ns.length ∧ σ = [some (V.ref a), some (V.int (j : Int))] ∧ H' = H ∧ strip (ns.take j) = strip ns, ⟨ns.length, ns.length, rfl, Nat.le_refl _, by rw [List.length_map]; rfl, rfl, by rw [List.take_length]⟩, ?_⟩
    rintro j σ H' ⟨_, rfl, hj, rfl, rfl, ej⟩
    have fin : ∀ j : Nat, j ≤ ns.length → strip ns = ns.take j → ∀ c, H' c = none → ∀ p, upd H' c (.lst (cutV (ns.map V.int) none (some (j : Int)))) p = none → Q (.ref p) (upd (upd H' c (.lst (cutV (ns.map V.int) none (some (j : Int))))) p (.tup (cutV (ns.map V.int) none (some (j : Int))))) := fun j hj e c nc p np => by
      have s2 := (Same.upd (o := .lst (cutV (ns.map V.int) none (some (j : Int)))) nc).trans (Same.upd (o := .tup (cutV (ns.map V.int) none (some (j : Int)))) np)
      refine q p _ s2 ((Same.upd nc).free np) ?_
      rw [upd_same, cut_len, e, List.length_map, Nat.min_eq_left hj, List.map_take]
    refine ⟨_, rfl, _, _, rfl, rfl, _, rfl, ?_⟩
    cases j with
    | zero =>
      rw [decide_eq_false (by omega)]
      refine iteF (iteF ⟨.ref a, rfl, _, rfl, ((0 : Nat) : Int), rfl, a, _, rfl, hS, fun c nc => ⟨c, _, rfl, .inl ⟨SqL.of upd_same, fin 0 (Nat.zero_le _) (by rw [← ej]; rfl) c nc⟩⟩⟩)
    | succ j =>
      rw [decide_eq_true (by omega)]
      refine iteT ⟨.ref a, rfl, _, rfl, _, _, rfl, rfl, a, _, _, .int (ns.getD j 0), rfl, rfl, hS, at_of (j := j) (by omega) (get_int (by omega)), rfl, _, rfl, ?_⟩
      have et : ns.take (j + 1) = ns.take j ++ [ns.getD j 0] := by
        rw [List.take_succ_eq_append_getElem (by omega), List.getD_eq_getElem?_getD, List.getElem?_eq_getElem (by omega)]
        rfl
      by_cases hz : ns.getD j 0 = 0
      · rw [hz, decide_eq_true rfl]
        refine iteT ⟨fun σ H4 => ∃ j' : Nat, j' < j + 1 ∧ j' ≤ ns.length ∧ σ = [some (V.ref a), some (V.int (j' : Int))] ∧ H4 = H' ∧ strip (ns.take j') = strip ns, ?_, ?_⟩
        · rintro σ H4 ⟨j', lt, h1, h2, h3, h4⟩
          exact ⟨j', lt, j', rfl, h1, h2, h3, h4⟩
        · refine ⟨_, rfl, _, _, rfl, rfl, j, by omega, by omega, ?_, rfl, by rw [← ej, et, hz, strip_zero]⟩
          show [some (V.ref a), some (V.int (((j + 1 : Nat) : Int) - 1))] = _
          rw [show ((j + 1 : Nat) : Int) - 1 = (j : Int) by omega]
      · rw [decide_eq_false (by intro e; exact hz (V.int.inj e))]
        exact iteF ⟨.ref a, rfl, _, rfl, ((j + 1 : Nat) : Int), rfl, a, _, rfl, hS, fun c nc => ⟨c, _, rfl, .inl ⟨SqL.of upd_same, fin (j + 1) hj (by rw [← ej, et, strip_last hz]) c nc⟩⟩⟩
theorem wide_le2 {x y : Int} {a b : Nat} (hx : x.natAbs ≤ 2 ^ a) (hy : y.natAbs ≤ 2 ^ b) (h : a + b + 2 ≤ 1000000) : CMulW x y :=
  wide_mul (a := a + 1) (b := b + 1) (Nat.lt_of_le_of_lt hx (Nat.pow_lt_pow_right (by decide) (by omega))) (Nat.lt_of_le_of_lt hy (Nat.pow_lt_pow_right (by decide) (by omega))) (by omega) (by omega) (by omega)
/-! ### products by a dict -/
def prod (f g : List Int) : List Int := (List.range (f.length + g.length)).map (pf f g)
def Ag (kvs : List (Key × V)) (S : Nat → Int) : Prop := ∀ t : Nat, match valV kvs (Sum.inl ((t : Nat) : Int)) with
  | some v => v = .int (S t)
  | none => S t = 0
theorem Ag.get {kvs : List (Key × V)} {S : Nat → Int} (h : Ag kvs S) (t : Nat) {z : Int} (e : z = (t : Int)) : (valV kvs (Sum.inl z)).getD (.int 0) = .int (S t) := by
  subst e
  have q := h t
  cases hv : valV kvs (Sum.inl ((t : Nat) : Int)) with
  | none =>
    rw [hv] at q
    have q' : S t = 0 := q
    rw [q']
    rfl
  | some v =>
    rw [hv] at q
    have q' : v = .int (S t) := q
    rw [q']
    rfl
theorem Ag.put {kvs : List (Key × V)} {S S' : Nat → Int} (h : Ag kvs S) (k : Nat) {z : Int} (e : z = (k : Int)) (hk : ∀ t, t ≠ k → S' t = S t) : Ag (putK kvs (Sum.inl z) (.int (S' k))) S' := by
  subst e
  intro t
  rw [valV_put]
  by_cases ht : t = k
  · subst ht
    rw [if_pos rfl]
  · rw [if_neg (by intro e; injection e with e2; exact ht (by omega)), hk t ht]
    exact h t
theorem Ag.congr {kvs : List (Key × V)} {S S' : Nat → Int} (h : Ag kvs S) (e : ∀ t, S' t = S t) : Ag kvs S' := by
  have : S' = S := funext e
  rw [this]
  exact h
def spProd (K : PySem.W.Frag) : Sp := fun vs H Q _ => ∃ (x y : Addr) (f g : List Int), vs = [.ref x, .ref y] ∧ SqT K H x (f.map V.int) ∧ SqT K H y (g.map V.int) ∧ f.length ≤ 60 ∧ g.length ≤ 60 ∧ Bd (2 ^ 200) f ∧ Bd (2 ^ 200) g ∧
  ∀ p H', Same H H' → H p = none → H' p = some (.tup ((strip (prod f g)).map V.int)) → Q (.ref p) H'
theorem scProd : FnScope ["first", "second", "powers", "i", "a", "j", "b", "k"] ["first", "second"] (defScope sProd) := ⟨rfl, rfl, rfl, by decide +kernel, rfl, by decide +kernel, by decide +kernel⟩
theorem ok_prod {f0 t : Addr} {fd td : FuncData} (F : Fun K "_law_product" "_law_product" sProd f0 fd) (T : Names3 mg) (GS : FnOk P w K mg base CX0 1 t td ["numbers"] (spStrip K)) (PS_ : Def K mg "_law_strip" t td ["numbers"]) :
    FnOk P w K mg base CX0 2 f0 fd ["first", "second"] (spProd K) := by
  refine F.ok scProd (fun vs H Q E h => ?_) (fun cdv A outer s H vs Q E hr h => ?_)
  · obtain ⟨x, y, f, g, rfl, _⟩ := h
    rfl
  · obtain ⟨x, y, f, g, rfl, hX, hY, hlf, hlg, bf, bg, q⟩ := h
    have hu : A.units + 3 + 1 < cLine := by have := hr.units; exact Nat.lt_of_le_of_lt (Nat.add_le_add_left (by decide : 1 ≤ 64) _) this
    refine ⟨_, (pss_cons (ps_set (i := 2) scProd.nd rfl (.inr rfl) pe_dnewK)
      (pss_cons (ps_for PassesOwn.never rfl (EN.pi_pairs (by rfl) T.enumerate (pa_cons (pv 0) pa_nil)) (pg_tup rfl (pgs_cons (pg_name (i := 3) scProd.nd rfl (.inl rfl)) (pgs_cons (pg_name (i := 4) scProd.nd rfl (.inl rfl)) pgs_nil))) (pss_one (ps_for PassesOwn.never rfl (EN.pi_pairs (by rfl) T.enumerate (pa_cons (pv 1) pa_nil)) (pg_tup rfl (pgs_cons (pg_name (i := 5) scProd.nd rfl (.inl rfl)) (pgs_cons (pg_name (i := 6) scProd.nd rfl (.inl rfl)) pgs_nil))) (pss_one (ps_dput hu (pv 2) (pe_op op_add (pv 3) (pv 5)) (pe_op op_add (pe_dget2 hu (pv 2) (pe_op op_add (pv 3) (pv 5)) pe_int ⟨rfl, rfl, rfl, rfl⟩) (pe_op op_mulW (pv 4) (pv 6))) rfl)))))
      (pss_one (ps_ret (pe_call GS (hr.mono (by decide)) (by rfl) PS_.is PS_.kp PS_.bi .nil pass0 (pa_cons (pe_lc (own := [("k", 7)]) (g := gName 7) (tt := tYes) rfl scProd.nd (pi_range1 rfl T.range (pa_cons (pe_op op_add (pe_callB call_len_seq (by rfl) T.len PySem.boot_len (pa_cons (pv 0) pa_nil)) (pe_callB call_len_seq (by rfl) T.len PySem.boot_len (pa_cons (pv 1) pa_nil))) pa_nil)) (blkOk_by (N := ["first", "second", "powers", "i", "a", "j", "b", "k"]) (sc := defScope sProd) (own := [("k", 7)]) (by decide +kernel)) (fun _ _ _ _ _ => (pg_name (i := 7) scProd.nd rfl (.inl rfl))) (fun _ _ _ _ _ => pts_nil) (fun _ _ _ _ _ => (pe_dget2 hu (pv 2) (pv 7) pe_int ⟨rfl, rfl, rfl, rfl⟩))) pa_nil)))))), ?_⟩
    intro d nd
    have s1 : Same H (upd H d (.dK [])) := Same.upd nd
    refine ⟨.ref x, rfl, x, _, rfl, Same.tup s1 hX, ?_⟩
    refine EN.for_pairs (K := K) (xs := f.map V.int) (fun i σ H' => ∃ (kvs : List (Key × V)) (v3 v4 v5 v6 : Option V), σ = [some (V.ref x), some (V.ref y), some (V.ref d), v3, v4, v5, v6, none] ∧ Same H H' ∧ H' d = some (.dK kvs) ∧
        Ag kvs (pf (f.take i) g) ∧ kvs.length ≤ i * 60)
      ⟨[], _, _, _, _, rfl, s1, upd_same, fun t => rfl, by simp⟩ (fun i σ H' _ ⟨_, _, _, _, _, _, s, _⟩ => Same.tup s hX) ?_ ?_
    · rintro i v σ H' T hv ⟨kvs, v3, v4, v5, v6, rfl, s2, ed, ag, hk⟩ nT
      have hi : i < f.length := by
        have := (List.getElem?_eq_some_iff.mp hv).1
        rwa [List.length_map] at this
      have ev : v = .int (f.getD i 0) := by
        rw [get_int hi] at hv
        exact (Option.some.inj hv).symm
      subst ev
      have s3 := Same.upd (o := .tup [.int (i : Nat), .int (f.getD i 0)]) nT
      refine ⟨T, _, rfl, tup_of upd_same, rfl, _, _, rfl, _, _, rfl, rfl, ?_⟩
      refine ⟨.ref y, rfl, y, _, rfl, Same.tup (s2.trans s3) hY, ?_⟩
      refine EN.for_pairs (K := K) (xs := g.map V.int) (fun j σ H' => ∃ (kvs : List (Key × V)) (v5 v6 : Option V), σ = [some (V.ref x), some (V.ref y), some (V.ref d), some (V.int (i : Int)), some (V.int (f.getD i 0)), v5, v6, none] ∧ Same H H' ∧ H' d = some (.dK kvs) ∧
          Ag kvs (fun t => pf (f.take i) g t + if i ≤ t then f.getD i 0 * (g.take j).getD (t - i) 0 else 0) ∧ kvs.length ≤ i * 60 + j)
        ⟨kvs, _, _, rfl, s2.trans s3, s3 _ _ ed, ag.congr (by intro t; simp), by omega⟩ (fun i σ H' _ ⟨_, _, _, _, s, _⟩ => Same.tup s hY) ?_ ?_
      · rintro j v σ H1 T1 hv ⟨kvs, v5, v6, rfl, s4, ed4, ag4, hk4⟩ nT1
        have hj : j < g.length := by
          have := (List.getElem?_eq_some_iff.mp hv).1
          rwa [List.length_map] at this
        have ev : v = .int (g.getD j 0) := by
          rw [get_int hj] at hv
          exact (Option.some.inj hv).symm
        subst ev
        have s5 := Same.upd (o := .tup [.int (j : Nat), .int (g.getD j 0)]) nT1
        have ed5 := s5 _ _ ed4
        have s6 := s4.trans s5
        refine ⟨T1, _, rfl, tup_of upd_same, rfl, _, _, rfl, _, _, rfl, rfl, ?_⟩
        generalize upd H1 T1 (.tup [.int (j : Nat), .int (g.getD j 0)]) = H2 at ed5 s6 ⊢
        have hget := ag4.get (i + j) (z := (i : Int) + (j : Int)) (by omega)
        refine ⟨.ref d, rfl, d, rfl, .inl ⟨kvs, .inl ed5⟩, _, rfl, _, rfl, _, _, rfl, rfl, _, DGet.k (k := Sum.inl ((i : Int) + (j : Int))) ed5, _, rfl, _, rfl, _, _, rfl, rfl, wide_le2 (bf i) (bg j) (by decide), _, _, hget, rfl, .ref d, rfl, _, rfl, _, rfl, _, _, rfl, rfl, d, _, rfl, DPut.k (k := Sum.inl ((i : Int) + (j : Int))) ed5 (Nat.lt_of_le_of_lt hk4 (by have : i * 60 + j ≤ 60 * 60 + 60 := by { have := Nat.mul_le_mul_right 60 (Nat.le_of_lt (Nat.lt_of_lt_of_le hi hlf)); omega }; exact Nat.lt_of_le_of_lt this (by decide))), ?_⟩
        have hS : ∀ t, t ≠ i + j → (fun t => pf (f.take i) g t + if i ≤ t then f.getD i 0 * (g.take (j + 1)).getD (t - i) 0 else 0) t = (fun t => pf (f.take i) g t + if i ≤ t then f.getD i 0 * (g.take j).getD (t - i) 0 else 0) t := by
          intro t ht
          have : (g.take (j + 1)).getD (t - i) 0 = (g.take j).getD (t - i) 0 ∨ ¬ i ≤ t := by
            by_cases h : i ≤ t
            · left
              rw [List.take_succ_eq_append_getElem hj, getD_snoc, List.length_take, Nat.min_eq_left (by omega), if_neg (by omega)]
              simp
            · exact .inr h
          rcases this with e | e
          · simp only [e]
          · simp only [if_neg e]
        have hnew := ag4.put (i + j) (z := (i : Int) + (j : Int)) (by omega) hS
        have hval : (fun t => pf (f.take i) g t + if i ≤ t then f.getD i 0 * (g.take (j + 1)).getD (t - i) 0 else 0) (i + j) = (fun t => pf (f.take i) g t + if i ≤ t then f.getD i 0 * (g.take j).getD (t - i) 0 else 0) (i + j) + f.getD i 0 * g.getD j 0 := by
          simp only [Nat.le_add_right, if_true, Nat.add_sub_cancel_left]
          rw [List.take_succ_eq_append_getElem hj, getD_snoc, List.length_take, Nat.min_eq_left (by omega), if_pos rfl, getD_out (g := g.take j) (t := j) (by rw [List.length_take]; omega)]
          have e : g.getD j 0 = g[j] := by
            rw [List.getD_eq_getElem?_getD, List.getElem?_eq_getElem hj]
            rfl
          rw [e]
          simp
        dsimp only at hval hnew
        rw [hval] at hnew
        refine ⟨_, _, _, rfl, ?_, upd_same, hnew, Nat.le_trans (length_putK _ _ _) (by omega)⟩
        intro b o e
        rw [upd_ne (ne_of_none e nd)]
        exact s6 _ _ e
      · rintro σ H1 ⟨kvs, v5, v6, rfl, s4, ed4, ag4, hk4⟩
        rw [List.length_map] at hk4
        refine ⟨kvs, _, _, _, _, rfl, s4, ed4, ag4.congr (fun t => ?_), by omega⟩
        rw [List.take_succ_eq_append_getElem hi, pf_snoc_f, List.length_take, Nat.min_eq_left (by omega), List.length_map, List.take_length]
        have e : f.getD i 0 = f[i] := by
          rw [List.getD_eq_getElem?_getD, List.getElem?_eq_getElem hi]
          rfl
        rw [e]
    · rintro σ H' ⟨kvs, v3, v4, v5, v6, rfl, s2, ed, ag, hk⟩
      rw [List.length_map, List.take_length] at ag
      refine ⟨.ref x, rfl, x, _, rfl, .inr (Same.tup s2 hX), .ref y, rfl, y, _, rfl, .inr (Same.tup s2 hY), _, _, rfl, rfl, _, rfl, by rw [List.length_map, List.length_map]; omega, by rw [List.length_map, List.length_map]; omega, fun D nD => ?_⟩
      have nDH : H D = none := s2.free nD
      refine lc_range (lo := 0) (n := (((f.map V.int).length : Int) + ((g.map V.int).length : Int)).toNat) (fun i H' => H' D = some (.lst (((List.range i).map (pf f g)).map V.int)) ∧ Same H H' ∧ H' d = some (.dK kvs)) ⟨upd_same, s2.trans (Same.upd nD), Same.upd nD _ _ ed⟩ ?_ ?_
      · rintro i H3 hi ⟨e3, s3, ed3⟩
        refine ⟨rfl, ?_⟩
        dsimp only [tYes]
        refine iteT ?_
        have hi2 : i < f.length + g.length := by
          rw [List.length_map, List.length_map] at hi
          omega
        have hget := ag.get i (z := (0 : Int) + (i : Int)) (by omega)
        refine ⟨.ref d, rfl, d, rfl, .inl ⟨kvs, .inl ed3⟩, _, rfl, _, DGet.k (k := Sum.inl ((0 : Int) + (i : Int))) ed3, _, e3, by rw [List.length_map, List.length_map, List.length_range]; exact small1000 (by omega), ?_, ?_, ?_⟩
        · rw [upd_same, hget, List.range_succ, List.map_append, List.map_append]
          rfl
        · intro b o e
          rw [upd_ne (ne_of_none e nDH)]
          exact s3 _ _ e
        · rw [upd_ne (ne_of_none ed nD)]
          exact ed3
      · rintro H3 ⟨e3, s3, ed3⟩
        have en : (((f.map V.int).length : Int) + ((g.map V.int).length : Int)).toNat = f.length + g.length := by
          rw [List.length_map, List.length_map]
          omega
        rw [en] at e3
        exact ⟨D, prod f g, rfl, .inl (SqL.of e3), fun p H4 s4 np e4 => q p H4 (s3.trans s4) (s3.free np) e4⟩
/-! ### comprehensions over pairs -/
theorem lc_zl {K : PySem.W.Frag} {a b : Addr} {xs ys : List V} {z : Int} {g : TG} {tt : TT} {te : TE} {vs : List Nat} {σ : L2.St} {H1 : Hp} {D : Addr} {Qd : Hp → Prop} (Pv : Nat → Hp → Prop) (h0 : Pv 0 (upd H1 D (.lst []))) (hl : ∀ i H, Pv i H → SqT K H a xs ∧ SqT K H b ys)
    (turn : ∀ i H T, i < max xs.length ys.length → Pv i H → H T = none → g (.ref T) (wipe σ vs) (upd H T (.tup [(xs[i]?).getD (.int z), (ys[i]?).getD (.int z)])) fun σ2 H2 => wipe σ2 vs = wipe σ vs ∧ tt σ2 H2 fun c H3 =>
      if c = true then te σ2 H3 fun y H4 => ∃ acc, H4 D = some (.lst acc) ∧ acc.length < sizeLine ∧ Pv (i + 1) (upd H4 D (.lst (acc ++ [y]))) else Pv (i + 1) H3) (done : ∀ H, Pv (max xs.length ys.length) H → Qd H) :
    ∃ W : Nat → Nat → Hp → Prop, (∃ m, W 0 m (upd H1 D (.lst []))) ∧ ∀ i m H, W i m H →
      ((ZL.ItzL K a b xs.length ys.length z).stop i H ∧ Qd H) ∨ ((ZL.ItzL K a b xs.length ys.length z).go i H ∧ ∃ Nx : Hp → Prop, (∀ H', Nx H' → ∃ m', m' < m ∧ W (i + 1) m' H') ∧
        ∀ x H', (ZL.ItzL K a b xs.length ys.length z).yld i H x H' → g x (wipe σ vs) H' fun σ2 H2 => wipe σ2 vs = wipe σ vs ∧ tt σ2 H2 fun c H3 =>
          if c = true then te σ2 H3 fun y H4 => ∃ acc, H4 D = some (.lst acc) ∧ acc.length < sizeLine ∧ Nx (upd H4 D (.lst (acc ++ [y]))) else Nx H3) := by
  refine ⟨fun i m H => m = max xs.length ys.length - i ∧ i ≤ max xs.length ys.length ∧ Pv i H, ⟨_, rfl, Nat.zero_le _, h0⟩, ?_⟩
  rintro i m H ⟨rfl, le, pv⟩
  obtain ⟨qx, qy⟩ := hl i H pv
  rcases Nat.lt_or_ge i (max xs.length ys.length) with lt | ge
  · refine .inr ⟨⟨xs, ys, qx, qy, rfl, rfl, lt⟩, Pv (i + 1), fun H' n => ⟨max xs.length ys.length - (i + 1), by omega, rfl, lt, n⟩, ?_⟩
    rintro v H' ⟨T, x, y, rfl, nT, rfl, hx, hy⟩
    rw [hx xs qx, hy ys qy]
    exact turn i H T lt pv nT
  · have e : i = max xs.length ys.length := by omega
    subst e
    exact .inl ⟨⟨xs, ys, qx, qy, rfl, rfl, rfl⟩, done H pv⟩
theorem lc_zT {K : PySem.W.Frag} {a b : Addr} {xs ys : List V} {g : TG} {tt : TT} {te : TE} {vs : List Nat} {σ : L2.St} {H1 : Hp} {D : Addr} {Qd : Hp → Prop} (len : xs.length = ys.length) (Pv : Nat → Hp → Prop) (h0 : Pv 0 (upd H1 D (.lst []))) (hl : ∀ i H, Pv i H → SqT K H a xs ∧ SqT K H b ys)
    (turn : ∀ i x y H T, xs[i]? = some x → ys[i]? = some y → Pv i H → H T = none → g (.ref T) (wipe σ vs) (upd H T (.tup [x, y])) fun σ2 H2 => wipe σ2 vs = wipe σ vs ∧ tt σ2 H2 fun c H3 =>
      if c = true then te σ2 H3 fun y H4 => ∃ acc, H4 D = some (.lst acc) ∧ acc.length < sizeLine ∧ Pv (i + 1) (upd H4 D (.lst (acc ++ [y]))) else Pv (i + 1) H3) (done : ∀ H, Pv xs.length H → Qd H) :
    ∃ W : Nat → Nat → Hp → Prop, (∃ m, W 0 m (upd H1 D (.lst []))) ∧ ∀ i m H, W i m H →
      ((RZ.ItzT K a b).stop i H ∧ Qd H) ∨ ((RZ.ItzT K a b).go i H ∧ ∃ Nx : Hp → Prop, (∀ H', Nx H' → ∃ m', m' < m ∧ W (i + 1) m' H') ∧
        ∀ x H', (RZ.ItzT K a b).yld i H x H' → g x (wipe σ vs) H' fun σ2 H2 => wipe σ2 vs = wipe σ vs ∧ tt σ2 H2 fun c H3 =>
          if c = true then te σ2 H3 fun y H4 => ∃ acc, H4 D = some (.lst acc) ∧ acc.length < sizeLine ∧ Nx (upd H4 D (.lst (acc ++ [y]))) else Nx H3) := by
  refine ⟨fun i m H => m = xs.length - i ∧ i ≤ xs.length ∧ Pv i H, ⟨_, rfl, Nat.zero_le _, h0⟩, ?_⟩
  rintro i m H ⟨rfl, le, pv⟩
  obtain ⟨qx, qy⟩ := hl i H pv
  rcases Nat.lt_or_ge i xs.length with lt | ge
  · have hx : xs[i]? = some xs[i] := List.getElem?_eq_getElem lt
    have lt2 : i < ys.length := by omega
    have hy : ys[i]? = some ys[i] := List.getElem?_eq_getElem lt2
    refine .inr ⟨⟨xs, ys, _, _, qx, qy, hx, hy⟩, Pv (i + 1), fun H' n => ⟨xs.length - (i + 1), by omega, rfl, lt, n⟩, ?_⟩
    rintro v H' ⟨T, x, y, rfl, nT, rfl, f1, f2⟩
    exact turn i x y H T (f1 xs qx) (f2 ys qy) pv nT
  · have e : i = xs.length := by omega
    subst e
    exact .inl ⟨⟨xs, ys, qx, qy, .inl (Nat.le_refl _)⟩, done H pv⟩
/-! ### sums -/
def sumF (k : Int) (f g : List Int) : List Int := (List.range (max f.length g.length)).map fun i => f.getD i 0 + k * g.getD i 0
theorem fill_int (ns : List Int) (i : Nat) : ((ns.map V.int)[i]?).getD (.int 0) = .int (ns.getD i 0) := by
  rw [List.getElem?_map, List.getD_eq_getElem?_getD]
  cases ns[i]? <;> rfl
def spAdd (K : PySem.W.Frag) (k : Int) : Sp := fun vs H Q _ => ∃ (x y : Addr) (f g : List Int), vs = [.ref x, .ref y] ∧ SqT K H x (f.map V.int) ∧ SqT K H y (g.map V.int) ∧ f.length ≤ 60 ∧ g.length ≤ 60 ∧
  ∀ p H', Same H H' → H p = none → H' p = some (.tup ((strip (sumF k f g)).map V.int)) → Q (.ref p) H'
theorem scAdd : FnScope ["one", "other", "a", "b"] ["one", "other"] (defScope sAdd) := ⟨rfl, rfl, rfl, by decide +kernel, rfl, by decide +kernel, by decide +kernel⟩
theorem ok_add {f0 t : Addr} {fd td : FuncData} (F : Fun K "add_polynomials" "add_polynomials" sAdd f0 fd) (T : Names3 mg) (GT : FnOk P w K mg base CX0 1 t td ["coefficients"] (spTrim K)) (PT_ : Def K mg "trim_zeros" t td ["coefficients"]) :
    FnOk P w K mg base CX0 2 f0 fd ["one", "other"] (spAdd K (1)) := by
  refine F.ok scAdd (fun vs H Q E h => ?_) (fun cdv A outer s H vs Q E hr h => ?_)
  · obtain ⟨x, y, f, g, rfl, _⟩ := h
    rfl
  · obtain ⟨x, y, f, g, rfl, hX, hY, hlf, hlg, q⟩ := h
    refine ⟨_, (pss_one (ps_ret (pe_call GT (hr.mono (by decide)) (by rfl) PT_.is PT_.kp PT_.bi .nil pass0 (pa_cons (pe_lc (own := [("a", 2), ("b", 3)]) (g := gTup K 2 (gCons (gName 2) (gCons (gName 3) gNil))) (tt := tYes) rfl scAdd.nd (ZL.pi_zl (by rfl) T.zipL (pa_cons (pv 0) (pa_cons (pv 1) pa_nil))) (blkOk_by (N := ["one", "other", "a", "b"]) (sc := defScope sAdd) (own := [("a", 2), ("b", 3)]) (by decide +kernel)) (fun _ _ _ _ _ => (pg_tup rfl (pgs_cons (pg_name (i := 2) scAdd.nd rfl (.inl rfl) (Or.inr rfl)) (pgs_cons (pg_name (i := 3) scAdd.nd rfl (.inl rfl) (Or.inr rfl)) pgs_nil)))) (fun _ _ _ _ _ => pts_nil) (fun _ _ _ _ _ => (pe_op op_add (pv 2) (pv 3)))) pa_nil)))), ?_⟩
    refine ⟨.ref x, rfl, .ref y, rfl, x, y, _, _, rfl, hX, hY, fun D nD => ?_⟩
    refine lc_zl (K := K) (xs := f.map V.int) (ys := g.map V.int) (fun i H' => H' D = some (.lst (((List.range i).map fun i => f.getD i 0 + (1) * g.getD i 0).map V.int)) ∧ Same H H') ⟨upd_same, Same.upd nD⟩ (fun i H' h => ⟨Same.tup h.2 hX, Same.tup h.2 hY⟩) ?_ ?_
    · rintro i H3 T hi ⟨e3, s3⟩ nT
      rw [fill_int, fill_int]
      have s4 := Same.upd (o := .tup [.int (f.getD i 0), .int (g.getD i 0)]) nT
      refine ⟨T, _, rfl, tup_of upd_same, rfl, _, _, rfl, _, _, rfl, rfl, rfl, ?_⟩
      dsimp only [tYes]
      refine iteT ?_
      rw [List.length_map, List.length_map] at hi
      refine ⟨_, rfl, _, rfl, _, _, rfl, rfl, _, s4 _ _ e3, by rw [List.length_map, List.length_map, List.length_range]; exact small1000 (by omega), ?_, ?_⟩
      · rw [upd_same, List.range_succ, List.map_append, List.map_append]
        show _ = some (HO.lst (_ ++ [V.int (f.getD i 0 + (1) * g.getD i 0)]))
        rw [show f.getD i 0 + (1) * g.getD i 0 = f.getD i 0 + g.getD i 0 by omega]
      · intro b o e
        rw [upd_ne (ne_of_none e nD)]
        exact s4 _ _ (s3 _ _ e)
    · rintro H3 ⟨e3, s3⟩
      rw [List.length_map, List.length_map] at e3
      exact ⟨D, sumF (1) f g, rfl, SqL.of e3, fun p H4 s4 np e4 => q p H4 (s3.trans s4) (s3.free np) e4⟩
theorem scSub : FnScope ["one", "other", "a", "b"] ["one", "other"] (defScope sSub) := ⟨rfl, rfl, rfl, by decide +kernel, rfl, by decide +kernel, by decide +kernel⟩
theorem ok_sub {f0 t : Addr} {fd td : FuncData} (F : Fun K "subtract_polynomials" "subtract_polynomials" sSub f0 fd) (T : Names3 mg) (GT : FnOk P w K mg base CX0 1 t td ["coefficients"] (spTrim K)) (PT_ : Def K mg "trim_zeros" t td ["coefficients"]) :
    FnOk P w K mg base CX0 2 f0 fd ["one", "other"] (spAdd K (-1)) := by
  refine F.ok scSub (fun vs H Q E h => ?_) (fun cdv A outer s H vs Q E hr h => ?_)
  · obtain ⟨x, y, f, g, rfl, _⟩ := h
    rfl
  · obtain ⟨x, y, f, g, rfl, hX, hY, hlf, hlg, q⟩ := h
    refine ⟨_, (pss_one (ps_ret (pe_call GT (hr.mono (by decide)) (by rfl) PT_.is PT_.kp PT_.bi .nil pass0 (pa_cons (pe_lc (own := [("a", 2), ("b", 3)]) (g := gTup K 2 (gCons (gName 2) (gCons (gName 3) gNil))) (tt := tYes) rfl scSub.nd (ZL.pi_zl (by rfl) T.zipL (pa_cons (pv 0) (pa_cons (pv 1) pa_nil))) (blkOk_by (N := ["one", "other", "a", "b"]) (sc := defScope sSub) (own := [("a", 2), ("b", 3)]) (by decide +kernel)) (fun _ _ _ _ _ => (pg_tup rfl (pgs_cons (pg_name (i := 2) scSub.nd rfl (.inl rfl) (Or.inr rfl)) (pgs_cons (pg_name (i := 3) scSub.nd rfl (.inl rfl) (Or.inr rfl)) pgs_nil)))) (fun _ _ _ _ _ => pts_nil) (fun _ _ _ _ _ => (pe_op op_sub (pv 2) (pv 3)))) pa_nil)))), ?_⟩
    refine ⟨.ref x, rfl, .ref y, rfl, x, y, _, _, rfl, hX, hY, fun D nD => ?_⟩
    refine lc_zl (K := K) (xs := f.map V.int) (ys := g.map V.int) (fun i H' => H' D = some (.lst (((List.range i).map fun i => f.getD i 0 + (-1) * g.getD i 0).map V.int)) ∧ Same H H') ⟨upd_same, Same.upd nD⟩ (fun i H' h => ⟨Same.tup h.2 hX, Same.tup h.2 hY⟩) ?_ ?_
    · rintro i H3 T hi ⟨e3, s3⟩ nT
      rw [fill_int, fill_int]
      have s4 := Same.upd (o := .tup [.int (f.getD i 0), .int (g.getD i 0)]) nT
      refine ⟨T, _, rfl, tup_of upd_same, rfl, _, _, rfl, _, _, rfl, rfl, rfl, ?_⟩
      dsimp only [tYes]
      refine iteT ?_
      rw [List.length_map, List.length_map] at hi
      refine ⟨_, rfl, _, rfl, _, _, rfl, rfl, _, s4 _ _ e3, by rw [List.length_map, List.length_map, List.length_range]; exact small1000 (by omega), ?_, ?_⟩
      · rw [upd_same, List.range_succ, List.map_append, List.map_append]
        show _ = some (HO.lst (_ ++ [V.int (f.getD i 0 + (-1) * g.getD i 0)]))
        rw [show f.getD i 0 + (-1) * g.getD i 0 = f.getD i 0 - g.getD i 0 by omega]
      · intro b o e
        rw [upd_ne (ne_of_none e nD)]
        exact s4 _ _ (s3 _ _ e)
    · rintro H3 ⟨e3, s3⟩
      rw [List.length_map, List.length_map] at e3
      exact ⟨D, sumF (-1) f g, rfl, SqL.of e3, fun p H4 s4 np e4 => q p H4 (s3.trans s4) (s3.free np) e4⟩
end
end Z

set_option Elab.async false
set_option linter.all false
set_option maxRecDepth 100000
set_option maxHeartbeats 4000000
set_option exponentiation.threshold 20000
namespace Z
open PySem PySem.Spec PyProof.Rows L2 GG M3 M4
abbrev sVap : Stmt := top 2
abbrev sRead : Stmt := top 3
abbrev sScale : Stmt := top 9
abbrev sPack : Stmt := top 11
abbrev sCnt : Stmt := top 12
section
variable {P : Program} {w : World} {K : PySem.W.Frag} {mg : Str → Option Value} {base : Heap}
def spVap (K : PySem.W.Frag) : Sp := fun vs H Q _ => ∃ (r : Addr) (ns : List Int) (b : Nat), vs = [.ref r, .int (b : Nat)] ∧ SqT K H r (ns.map V.int) ∧ (∀ c ∈ ns, c.natAbs < 2 ^ b) ∧ b * (ns.length + 1) ≤ 100000000 ∧ Q (.int (val (2 ^ b) ns)) H
theorem scVap : FnScope ["polynomial", "bits", "value", "c"] ["polynomial", "bits"] (defScope sVap) := ⟨rfl, rfl, rfl, by decide +kernel, rfl, by decide +kernel, by decide +kernel⟩
theorem pow_cast (b : Nat) : ((2 ^ b : Nat) : Int) = 2 ^ b := by simp
theorem val_fit {b : Nat} {l : List Int} (h : ∀ c ∈ l, c.natAbs < 2 ^ b) : (val (2 ^ b) l).natAbs < 2 ^ (b * l.length) := by
  have := val_lt (B := 2 ^ b) (Nat.one_le_pow _ _ (by decide)) l h
  rwa [pow_cast, ← Nat.pow_mul] at this
theorem ok_vap {f : Addr} {fd : FuncData} (F : Fun K "value_at_power" "value_at_power" sVap f fd) (mR : mg "reversed" = none) : FnOk P w K mg base CX0 1 f fd ["polynomial", "bits"] (spVap K) := by
  refine F.ok scVap (fun vs H Q E h => ?_) (fun cdv A outer s H vs Q E hr h => ?_)
  · obtain ⟨r, ns, b, rfl, _⟩ := h
    rfl
  · obtain ⟨r, ns, b, rfl, hS, hc, hb, q⟩ := h
    refine ⟨_, (pss_cons (ps_set (i := 2) scVap.nd rfl (.inl rfl) pe_int)
      (pss_cons (ps_for PassesOwn.never rfl (RT.pi_revA (by rfl) mR (pv 0)) (pg_name (i := 3) scVap.nd rfl (.inl rfl)) (pss_one (ps_set (i := 2) scVap.nd rfl (.inl rfl) (pe_op op_add (pe_op op_shlN (pv 2) (pv 1)) (pv 3)))))
      (pss_one (ps_ret (pv 2))))), ?_⟩
    refine ⟨.ref r, rfl, r, ns.map V.int, rfl, .inr ⟨hS, ?_⟩⟩
    rw [List.length_map]
    refine ⟨fun i m σ H' => ∃ v : Option V, m = ns.length - i ∧ i ≤ ns.length ∧ H' = H ∧ σ = [some (V.ref r), some (V.int (b : Nat)), some (V.int (val (2 ^ b) (ns.drop (ns.length - i)))), v],
      ⟨ns.length, none, by simp, Nat.zero_le _, rfl, by simp [val]; rfl⟩, ?_⟩
    rintro i m σ H' ⟨v, rfl, hi, rfl, rfl⟩
    by_cases lt : i < ns.length
    · have hk : ns.length - 1 - i < ns.length := by omega
      have gx : (ns.map V.int)[ns.length - 1 - i]? = some (.int ns[ns.length - 1 - i]) := by
        rw [List.getElem?_map, List.getElem?_eq_getElem hk]
        rfl
      have ed : ns.drop (ns.length - (i + 1)) = ns[ns.length - 1 - i] :: ns.drop (ns.length - i) := by
        rw [show ns.length - (i + 1) = ns.length - 1 - i by omega, List.drop_eq_getElem_cons hk, show ns.length - 1 - i + 1 = ns.length - i by omega]
      refine .inr ⟨⟨lt, _, _, hS, gx⟩, fun σ H2 => ∃ v : Option V, H2 = H' ∧ σ = [some (V.ref r), some (V.int (b : Nat)), some (V.int (val (2 ^ b) (ns.drop (ns.length - (i + 1))))), v], ?_, ?_⟩
      · rintro σ H2 ⟨v, rfl, rfl⟩
        exact ⟨ns.length - (i + 1), by omega, v, rfl, by omega, rfl, rfl⟩
      · rintro x H2 ⟨rfl, hx⟩
        have ex : x = .int ns[ns.length - 1 - i] := Option.some.inj ((hx _ hS).symm.trans gx)
        subst ex
        have fit := val_fit (b := b) (l := ns.drop (ns.length - i)) fun c h => hc c (List.mem_of_mem_drop h)
        have ll : (ns.drop (ns.length - i)).length = i := by rw [List.length_drop]; omega
        rw [ll] at fit
        have hbi : b * i + b ≤ 100000000 := by
          have : b * (i + 1) ≤ b * (ns.length + 1) := Nat.mul_le_mul_left _ (by omega)
          rw [Nat.mul_add, Nat.mul_one] at this
          omega
        refine ⟨_, rfl, _, rfl, _, b, rfl, rfl, shl_ok fit (by omega), _, rfl, _, _, rfl, rfl, ?_⟩
        refine ⟨some (.int ns[ns.length - 1 - i]), rfl, ?_⟩
        have ev : val (2 ^ b) (ns.drop (ns.length - (i + 1))) = val (2 ^ b) (ns.drop (ns.length - i)) * 2 ^ b + ns[ns.length - 1 - i] := by
          rw [ed]
          show ns[ns.length - 1 - i] + 2 ^ b * val (2 ^ b) (ns.drop (ns.length - i)) = _
          rw [Int.mul_comm (2 ^ b : Int), Int.add_comm]
        rw [ev]
        rfl
    · have ei : i = ns.length := by omega
      subst ei
      rw [Nat.sub_self, List.drop_zero]
      exact .inl ⟨Nat.le_refl _, _, rfl, q⟩
/-! digits read -/
def spRead (K : PySem.W.Frag) : Sp := fun vs H Q _ => ∃ (l : List Int) (b : Nat), vs = [.int (val (2 ^ b) l), .int (b : Nat)] ∧ Small (2 ^ b) l ∧ strip l = l ∧ 0 ≤ val (2 ^ b) l ∧ 1 ≤ b ∧ b ≤ 1000000 ∧ l.length ≤ 1000 ∧
  ∀ p H', Same H H' → H p = none → H' p = some (.lst (l.map V.int)) → Q (.ref p) H'
theorem scRead : FnScope ["value", "bits", "base", "coefficients", "c"] ["value", "bits"] (defScope sRead) := ⟨rfl, rfl, rfl, by decide +kernel, rfl, by decide +kernel, by decide +kernel⟩
/-- the sign of a row's number is that of its last digit -/
theorem val_drop {B : Int} {l : List Int} (hB : 2 ≤ B) (h : Small B l) (hs : strip l = l) (h0 : 0 ≤ val B l) {i : Nat} (hi : i < l.length) : 0 < val B (l.drop i) := by
  rcases List.eq_nil_or_concat l with rfl | ⟨r, z, e⟩
  · simp at hi
  · rw [List.concat_eq_append] at e
    subst e
    have hz : z ≠ 0 := by
      rintro rfl
      rw [strip_zero] at hs
      have := strip_len r
      rw [hs] at this
      simp at this
      omega
    have zp : 0 < z := by
      by_cases hn : 0 < z
      · exact hn
      · exfalso
        have e2 : (r ++ [z]).map (-·) = r.map (-·) ++ [-z] := by simp
        have := val_pos hB (r.map (-·)) (-z) (by rw [← e2]; exact h.neg) (by omega)
        rw [← e2, val_neg] at this
        omega
    rw [List.drop_append_of_le_length (by simp at hi; omega)]
    refine val_pos hB _ z ?_ zp
    rw [← List.drop_append_of_le_length (by simp at hi; omega)]
    exact h.drop i
theorem ok_read {f : Addr} {fd : FuncData} (F : Fun K "read_coefficients" "read_coefficients" sRead f fd) : FnOk P w K mg base CX0 1 f fd ["value", "bits"] (spRead K) := by
  refine F.ok scRead (fun vs H Q E h => ?_) (fun cdv A outer s H vs Q E hr h => ?_)
  · obtain ⟨l, b, rfl, _⟩ := h
    rfl
  · obtain ⟨l, b, rfl, hs, hst, h0, b1, b2, hl, q⟩ := h
    refine ⟨_, (pss_cons (ps_set (i := 2) scRead.nd rfl (.inl rfl) (pe_op op_oneShl pe_int (pv 1)))
      (pss_cons (ps_set (i := 3) scRead.nd rfl (.inl rfl) (pe_lst pa_nil))
      (pss_cons (ps_while PassesOwn.never (pt_cmpR op_gt (pv 0) pe_int (nomark _)) (pss_cons (ps_set (i := 4) scRead.nd rfl (.inl rfl) (pe_op op_andM (pv 0) (pe_op op_sub (pv 2) pe_int)))
      (pss_cons (ps_if (pt_cmpR op_ge (pe_op op_mul pe_int (pv 4)) (pv 2) (nomark _)) (pss_one (ps_aug (i := 4) scRead.nd rfl (.inl rfl) (pv 2) ip_sub)) pss_nil)
      (pss_cons (ps_expr (pe_bm PySem.F.plainAttrs_list PySem.F.slot_list_append PySem.F.type_list_append mt_append (pv 3) (pa_cons (pv 4) pa_nil)))
      (pss_one (ps_set (i := 0) scRead.nd rfl (.inl rfl) (pe_op op_shrN (pe_op op_sub (pv 0) (pv 4)) (pv 1))))))))
      (pss_one (ps_ret (pv 3)))))), ?_⟩
    have hB : (2 : Int) ≤ 2 ^ b := by
      have : (2 ^ 1 : Nat) ≤ 2 ^ b := Nat.pow_le_pow_right (by decide) b1
      have e := pow_cast b
      omega
    refine ⟨_, rfl, b, rfl, rfl, by omega, Nat.zero_le _, fun R nR => ?_⟩
    have s1 := Same.upd (o := .lst []) nR
    refine ⟨fun n σ H' => ∃ (i : Nat) (v4 : Option V), n = l.length - i ∧ i ≤ l.length ∧ σ = [some (V.int (val (2 ^ b) (l.drop i))), some (V.int (b : Nat)), some (V.int (2 ^ b)), some (V.ref R), v4] ∧ Same H H' ∧ H' R = some (.lst ((l.take i).map V.int)),
      ⟨l.length, 0, none, by simp, Nat.zero_le _, rfl, s1, upd_same⟩, ?_⟩
    rintro n σ H' ⟨i, v4, rfl, hi, rfl, s2, eR⟩
    refine ⟨_, rfl, _, _, rfl, rfl, _, rfl, ?_⟩
    by_cases lt : i < l.length
    · rw [decide_eq_true (val_drop hB hs hst h0 lt)]
      have ed : l.drop i = l[i] :: l.drop (i + 1) := List.drop_eq_getElem_cons lt
      have dg := digit (v := val (2 ^ b) (l.drop (i + 1))) hB (hs _ (List.getElem_mem lt))
      have ev : val (2 ^ b) (l.drop i) = l[i] + 2 ^ b * val (2 ^ b) (l.drop (i + 1)) := by rw [ed]; rfl
      rw [← ev] at dg
      refine iteT ⟨fun σ H2 => ∃ (v4 : Option V), σ = [some (V.int (val (2 ^ b) (l.drop (i + 1)))), some (V.int (b : Nat)), some (V.int (2 ^ b)), some (V.ref R), v4] ∧ Same H H2 ∧ H2 R = some (.lst ((l.take (i + 1)).map V.int)), ?_, ?_⟩
      · rintro σ H2 ⟨v4, e1, e2, e3⟩
        exact ⟨l.length - (i + 1), by omega, i + 1, v4, rfl, lt, e1, e2, e3⟩
      · refine ⟨_, rfl, _, rfl, _, _, rfl, rfl, _, b, rfl, rfl, ?_⟩
        dsimp only
        refine on (if_tail (fun σ H3 => σ = [some (V.int (val (2 ^ b) (l.drop i))), some (V.int (b : Nat)), some (V.int (2 ^ b)), some (V.ref R), some (V.int l[i])] ∧ H3 = H') ?_ (fun t => ?_))
        rotate_left
        · refine ⟨_, rfl, _, _, rfl, rfl, .inl ⟨by decide, by decide⟩, _, rfl, _, _, rfl, rfl, _, rfl, ite2 (fun e => ?_) (fun e => ?_)⟩
          · rw [if_pos (of_decide_eq_true e)] at dg
            refine ⟨_, rfl, _, rfl, _, _, rfl, rfl, t _ _ ⟨?_, rfl⟩⟩
            show [_, _, _, _, some (V.int (val (2 ^ b) (l.drop i) % 2 ^ b - 2 ^ b))] = _
            rw [dg]
          · rw [if_neg (fun h => e (decide_eq_true h))] at dg
            refine t _ _ ⟨?_, rfl⟩
            show [_, _, _, _, some (V.int (val (2 ^ b) (l.drop i) % 2 ^ b))] = _
            rw [dg]
        · rintro σ H3 ⟨rfl, rfl⟩
          have et : l.take (i + 1) = l.take i ++ [l[i]] := List.take_succ_eq_append_getElem lt
          refine ⟨.ref R, rfl, .inl ⟨rfl, _, SqL.of eR⟩, _, rfl, R, _, _, rfl, rfl, eR, by rw [List.length_map, List.length_take]; exact small1000 (by omega), ?_⟩
          refine ⟨_, rfl, _, rfl, _, _, rfl, rfl, _, rfl, _, b, rfl, rfl, some (.int l[i]), ?_, ?_, ?_⟩
          · rw [ev, rest_is hB]
            rfl
          · intro c o e
            rw [upd_ne (ne_of_none e nR)]
            exact s2 _ _ e
          · rw [upd_same, et, List.map_append]
            rfl
    · have ei : i = l.length := by omega
      subst ei
      rw [List.drop_length, decide_eq_false (by show ¬ (0 : Int) > 0; omega)]
      rw [List.take_length] at eR
      exact iteF ⟨.ref R, rfl, q R H' s2 nR eR⟩
/-! a list of ints times an int -/
def spScale (K : PySem.W.Frag) : Sp := fun vs H Q _ => ∃ (a : Addr) (ns : List Int), vs = [.ref a, .int (-1)] ∧ SqL K H a (ns.map V.int) ∧ ns.length ≤ 1000 ∧ ∀ p H', Same H H' → H p = none → H' p = some (.tup ((strip (ns.map (-·))).map V.int)) → Q (.ref p) H'
theorem scScale : FnScope ["polynomial", "factor", "c"] ["polynomial", "factor"] (defScope sScale) := ⟨rfl, rfl, rfl, by decide +kernel, rfl, by decide +kernel, by decide +kernel⟩
theorem ok_scale {f t : Addr} {fd td : FuncData} (F : Fun K "scale_polynomial" "scale_polynomial" sScale f fd) (GT : FnOk P w K mg base CX0 1 t td ["coefficients"] (spTrim K)) (PT_ : Def K mg "trim_zeros" t td ["coefficients"]) : FnOk P w K mg base CX0 2 f fd ["polynomial", "factor"] (spScale K) := by
  refine F.ok scScale (fun vs H Q E h => ?_) (fun cdv A outer s H vs Q E hr h => ?_)
  · obtain ⟨a, ns, rfl, _⟩ := h
    rfl
  · obtain ⟨a, ns, rfl, hS, hl, q⟩ := h
    refine ⟨_, (pss_one (ps_ret (pe_call GT (hr.mono (by decide)) (by rfl) PT_.is PT_.kp PT_.bi .nil pass0 (pa_cons (pe_lc (own := [("c", 2)]) (g := gName 2) (tt := tYes) rfl scScale.nd (pi_list (pv 0)) (blkOk_by (N := ["polynomial", "factor", "c"]) (sc := defScope sScale) (own := [("c", 2)]) (by decide +kernel)) (fun _ _ _ _ _ => (pg_name (i := 2) scScale.nd rfl (.inl rfl))) (fun _ _ _ _ _ => pts_nil) (fun _ _ _ _ _ => (pe_op op_mul (pv 1) (pv 2)))) pa_nil)))), ?_⟩
    refine ⟨.ref a, rfl, a, rfl, ⟨_, hS⟩, fun D nD => ?_⟩
    refine lc_list (K := K) (a := a) (xs := ns.map V.int) (fun i H' => Same H H' ∧ H' D = some (.lst (((ns.take i).map (-·)).map V.int))) ⟨Same.upd nD, upd_same⟩ (fun i H' _ h => h.1.seq hS) ?_ ?_
    · rintro i v H1 hv ⟨s1, e1⟩
      have hi : i < ns.length := by
        have := (List.getElem?_eq_some_iff.mp hv).1
        rwa [List.length_map] at this
      have ev : v = .int ns[i] := by
        rw [List.getElem?_map, List.getElem?_eq_getElem hi] at hv
        exact (Option.some.inj hv).symm
      subst ev
      refine ⟨rfl, ?_⟩
      dsimp only [tYes]
      refine iteT ?_
      refine ⟨_, rfl, _, rfl, _, _, rfl, rfl, .inl ⟨by decide, by decide⟩, _, e1, by rw [List.length_map, List.length_map, List.length_take]; exact small1000 (by omega), ?_, ?_⟩
      · intro b o e
        rw [upd_ne (ne_of_none e nD)]
        exact s1 _ _ e
      · rw [upd_same, List.take_succ_eq_append_getElem hi, List.map_append, List.map_append]
        show _ = some (HO.lst (_ ++ [V.int (-ns[i])]))
        rw [show -ns[i] = -1 * ns[i] by omega]
    · rintro H1 ⟨s1, e1⟩
      rw [List.length_map, List.take_length] at e1
      exact ⟨D, _, rfl, SqL.of e1, fun p H2 s2 np e2 => q p H2 (s1.trans s2) (s1.free np) e2⟩
/-! the bits of the largest -/
def spCnt (K : PySem.W.Frag) : Sp := fun vs H Q _ => ∃ (x : Addr) (ns : List Int), vs = [.ref x] ∧ SqT K H x (ns.map V.int) ∧ ns ≠ [] ∧ ns.length ≤ 1000 ∧ (∀ c ∈ ns, c.natAbs < 2 ^ 300) ∧ ∀ (a : Nat) H', Same H H' → (∀ c ∈ ns, c.natAbs < 2 ^ a) → a ≤ 300 → Q (.int (a : Nat)) H'
theorem scCnt : FnScope ["polynomial", "c"] ["polynomial"] (defScope sCnt) := ⟨rfl, rfl, rfl, by decide +kernel, rfl, by decide +kernel, by decide +kernel⟩
theorem bits_lt (c : Int) : c.natAbs < 2 ^ Builtin.Int.intBits c := by
  unfold Builtin.Int.intBits
  split
  · rename_i h
    have : c = 0 := by simpa using h
    subst this
    decide
  · exact Nat.lt_log2_self
theorem ok_cnt {f : Addr} {fd : FuncData} (F : Fun K "count_bits" "count_bits" sCnt f fd) (mM : mg "max" = none) : FnOk P w K mg base CX0 1 f fd ["polynomial"] (spCnt K) := by
  refine F.ok scCnt (fun vs H Q E h => ?_) (fun cdv A outer s H vs Q E hr h => ?_)
  · obtain ⟨x, ns, rfl, _⟩ := h
    rfl
  · obtain ⟨x, ns, rfl, hS, hne, hl, hc, q⟩ := h
    refine ⟨_, (pss_one (ps_ret (pe_callB (cr_max rfl) (by rfl) mM (by decide +kernel) (pa_cons (pe_lc (own := [("c", 1)]) (g := gName 1) (tt := tYes) rfl scCnt.nd (pi_tup (pv 0)) (blkOk_by (N := ["polynomial", "c"]) (sc := defScope sCnt) (own := [("c", 1)]) (by decide +kernel)) (fun _ _ _ _ _ => pg_name (i := 1) scCnt.nd rfl (Or.inl rfl)) (fun _ _ _ _ _ => pts_nil) (fun _ _ _ _ _ => pe_bits (pv 1))) pa_nil)))), ?_⟩
    refine ⟨.ref x, rfl, x, rfl, ⟨_, hS⟩, fun D nD => ?_⟩
    refine lc_tup (K := K) (a := x) (xs := ns.map V.int) (fun i H' => Same H H' ∧ H' D = some (.lst (((ns.take i).map fun c => ((Builtin.Int.intBits c : Nat) : Int)).map V.int))) ⟨Same.upd nD, upd_same⟩ (fun i H' _ h => Same.tup h.1 hS) ?_ ?_
    · rintro i v H1 hv ⟨s1, e1⟩
      have hi : i < ns.length := by
        have := (List.getElem?_eq_some_iff.mp hv).1
        rwa [List.length_map] at this
      have ev : v = .int ns[i] := by
        rw [List.getElem?_map, List.getElem?_eq_getElem hi] at hv
        exact (Option.some.inj hv).symm
      subst ev
      refine ⟨rfl, ?_⟩
      dsimp only [tYes]
      refine iteT ?_
      refine ⟨_, rfl, _, rfl, _, e1, by rw [List.length_map, List.length_map, List.length_take]; exact small1000 (by omega), ?_, ?_⟩
      · intro b o e
        rw [upd_ne (ne_of_none e nD)]
        exact s1 _ _ e
      · rw [upd_same, List.take_succ_eq_append_getElem hi, List.map_append, List.map_append]
        rfl
    · rintro H1 ⟨s1, e1⟩
      rw [List.length_map, List.take_length] at e1
      refine ⟨D, _, rfl, SqL.of e1, by rw [List.length_map]; exact List.length_pos_iff.mpr hne, fun m hm hle => ?_⟩
      obtain ⟨c, hcm, ec⟩ := List.mem_map.mp hm
      subst ec
      refine q _ H1 s1 (fun d hd => ?_) (PyProof.Rows.intBits_le (hc c hcm))
      have le := hle _ (List.mem_map.mpr ⟨d, hd, rfl⟩)
      exact Nat.lt_of_lt_of_le (bits_lt d) (Nat.pow_le_pow_right (by decide) (by omega))
/-! the product of long rows -/
theorem strip_neg (l : List Int) : strip (l.map (-·)) = (strip l).map (-·) := by
  unfold strip
  rw [← List.map_reverse, List.dropWhile_map, ← List.map_reverse]
  congr 2
  have : ((fun x : Int => x == 0) ∘ fun x => -x) = fun x => x == 0 := by
    funext x
    show (-x == 0) = (x == 0)
    by_cases h : x = 0
    · subst h; rfl
    · have h2 : -x ≠ 0 := by omega
      rw [beq_eq_false_iff_ne.mpr h, beq_eq_false_iff_ne.mpr h2]
  rw [this]
theorem val_strip (B : Int) (l : List Int) : val B (strip l) = val B l := by
  suffices ∀ (k : Nat) (l : List Int), l.length = k → val B (strip l) = val B l from this _ l rfl
  intro k
  induction k with
  | zero =>
    intro l h
    obtain rfl := List.eq_nil_of_length_eq_zero h
    rfl
  | succ k ih =>
    intro l h
    rcases List.eq_nil_or_concat l with rfl | ⟨r, z, rfl⟩
    · rfl
    · rw [List.concat_eq_append] at *
      by_cases hz : z = 0
      · subst hz
        rw [strip_zero, ih r (by simpa using h), val_snoc]
        simp
      · rw [strip_last hz]
theorem val_prod (B : Int) (f g : List Int) : val B (prod f g) = val B f * val B g := by
  unfold prod
  rw [vs_map, vs_pf B g f _ (Nat.le_refl _)]
/-- no digit of the product is too large -/
theorem prod_small {f g : List Int} {a b m : Nat} (hf : ∀ c ∈ f, c.natAbs < 2 ^ a) (hg : ∀ c ∈ g, c.natAbs < 2 ^ b) (hm : f.length ≤ m ∨ g.length ≤ m) {k : Nat} (hk : m < 2 ^ k) : Small (2 ^ (a + b + k + 1)) (prod f g) := by
  intro c hc
  unfold prod at hc
  obtain ⟨t, _, rfl⟩ := List.mem_map.mp hc
  have bf : Bd (2 ^ a) f := bd_of fun x hx => Nat.le_of_lt (hf x hx)
  have bg : Bd (2 ^ b) g := bd_of fun x hx => Nat.le_of_lt (hg x hx)
  have key : (pf f g t).natAbs ≤ m * (2 ^ a * 2 ^ b) := by
    rcases hm with h | h
    · exact Nat.le_trans (pf_bd bg f t bf) (Nat.mul_le_mul_right _ h)
    · exact Nat.le_trans (pf_bd2 bf g bg t) (Nat.mul_le_mul_right _ h)
  have h2 : (m + 1) * (2 ^ a * 2 ^ b) ≤ 2 ^ k * (2 ^ a * 2 ^ b) := Nat.mul_le_mul_right _ hk
  have pos : 0 < 2 ^ a * 2 ^ b := Nat.mul_pos (Nat.pow_pos (by decide)) (Nat.pow_pos (by decide))
  have e : 2 ^ (a + b + k + 1) = 2 * (2 ^ k * (2 ^ a * 2 ^ b)) := by
    rw [Nat.pow_succ, Nat.pow_add, Nat.pow_add]
    grind
  rw [Nat.add_mul, Nat.one_mul] at h2
  have e3 : ((2 : Int) ^ (a + b + k + 1)) = ((2 ^ (a + b + k + 1) : Nat) : Int) := by simp
  rw [e3, e]
  omega
theorem scPack : FnScope ["one", "other", "bits", "value"] ["one", "other"] (defScope sPack) := ⟨rfl, rfl, rfl, by decide +kernel, rfl, by decide +kernel, by decide +kernel⟩
theorem ok_pack {f0 fc fv fr fs ft : Addr} {fd dc dv dr ds dt : FuncData} (F : Fun K "multiply_packed" "multiply_packed" sPack f0 fd) (T : Names3 mg)
    (GC : FnOk P w K mg base CX0 1 fc dc ["polynomial"] (spCnt K)) (PC : Def K mg "count_bits" fc dc ["polynomial"]) (GV : FnOk P w K mg base CX0 1 fv dv ["polynomial", "bits"] (spVap K)) (PV : Def K mg "value_at_power" fv dv ["polynomial", "bits"])
    (GR : FnOk P w K mg base CX0 1 fr dr ["value", "bits"] (spRead K)) (PR : Def K mg "read_coefficients" fr dr ["value", "bits"]) (GS : FnOk P w K mg base CX0 2 fs ds ["polynomial", "factor"] (spScale K)) (PS_ : Def K mg "scale_polynomial" fs ds ["polynomial", "factor"])
    (GT : FnOk P w K mg base CX0 1 ft dt ["coefficients"] (spTrim K)) (PT_ : Def K mg "trim_zeros" ft dt ["coefficients"]) : FnOk P w K mg base CX0 3 f0 fd ["one", "other"]
      (fun vs H Q E => ∃ (x y : Addr) (f g : List Int), vs = [.ref x, .ref y] ∧ SqT K H x (f.map V.int) ∧ SqT K H y (g.map V.int) ∧ f ≠ [] ∧ g ≠ [] ∧ f.length ≤ 60 ∧ g.length ≤ 60 ∧ Bd (2 ^ 200) f ∧ Bd (2 ^ 200) g ∧
        ∀ p H', Same H H' → H p = none → H' p = some (.tup ((strip (prod f g)).map V.int)) → Q (.ref p) H') := by
  refine F.ok scPack (fun vs H Q E h => ?_) (fun cdv A outer s H vs Q E hr h => ?_)
  · obtain ⟨x, y, f, g, rfl, _⟩ := h
    rfl
  · obtain ⟨x, y, f, g, rfl, hX, hY, nf, ng, lf, lg, bf, bg, q⟩ := h
    refine ⟨_, (pss_cons (ps_set (i := 2) scPack.nd rfl (.inl rfl) (pe_op op_add (pe_op op_add (pe_op op_add (pe_call GC (hr.mono (by decide)) (by rfl) PC.is PC.kp PC.bi .nil pass0 (pa_cons (pv 0) pa_nil)) (pe_call GC (hr.mono (by decide)) (by rfl) PC.is PC.kp PC.bi .nil pass0 (pa_cons (pv 1) pa_nil))) (pe_bits (pe_callB (call_min2 rfl) (by rfl) T.min (by decide +kernel) (pa_cons (pe_callB call_len_seq (by rfl) T.len PySem.boot_len (pa_cons (pv 0) pa_nil)) (pa_cons (pe_callB call_len_seq (by rfl) T.len PySem.boot_len (pa_cons (pv 1) pa_nil)) pa_nil))))) pe_int))
      (pss_cons (ps_set (i := 3) scPack.nd rfl (.inl rfl) (pe_op op_mulX (pe_call GV (hr.mono (by decide)) (by rfl) PV.is PV.kp PV.bi .nil pass0 (pa_cons (pv 0) (pa_cons (pv 2) pa_nil))) (pe_call GV (hr.mono (by decide)) (by rfl) PV.is PV.kp PV.bi .nil pass0 (pa_cons (pv 1) (pa_cons (pv 2) pa_nil)))))
      (pss_cons (ps_if (pt_cmpR op_lt (pv 3) pe_int (nomark _)) (pss_one (ps_ret (pe_call GS (hr.mono (by decide)) (by rfl) PS_.is PS_.kp PS_.bi .nil pass0 (pa_cons (pe_call GR (hr.mono (by decide)) (by rfl) PR.is PR.kp PR.bi .nil pass0 (pa_cons (pe_un un_neg (pv 3)) (pa_cons (pv 2) pa_nil))) (pa_cons (pe_un un_neg pe_int) pa_nil))))) pss_nil)
      (pss_one (ps_ret (pe_call GT (hr.mono (by decide)) (by rfl) PT_.is PT_.kp PT_.bi .nil pass0 (pa_cons (pe_call GR (hr.mono (by decide)) (by rfl) PR.is PR.kp PR.bi .nil pass0 (pa_cons (pv 3) (pa_cons (pv 2) pa_nil))) pa_nil))))))), ?_⟩
    have wide : ∀ {l : List Int}, Bd (2 ^ 200) l → ∀ c ∈ l, c.natAbs < 2 ^ 300 := fun hb c hc => Nat.lt_of_le_of_lt (hb.mem hc) (Nat.pow_lt_pow_right (by decide) (by decide))
    refine ⟨.ref x, rfl, x, f, rfl, hX, nf, by omega, wide bf, fun a H1 s1 ha la => ?_⟩
    have hX1 := Same.tup s1 hX
    have hY1 := Same.tup s1 hY
    refine ⟨.ref y, rfl, y, g, rfl, hY1, ng, by omega, wide bg, fun b H2 s2 hb lb => ?_⟩
    have hX2 := Same.tup s2 hX1
    have hY2 := Same.tup s2 hY1
    have s12 := s1.trans s2
    refine ⟨_, _, rfl, rfl, .ref x, rfl, x, _, rfl, .inr hX2, .ref y, rfl, y, _, rfl, .inr hY2, _, _, rfl, _, rfl, _, _, rfl, rfl, _, _, rfl, rfl, ?_⟩
    obtain ⟨m, hm, hm60, em⟩ : ∃ m : Nat, (f.length ≤ m ∨ g.length ≤ m) ∧ m ≤ 60 ∧ (if ((g.map V.int).length : Int) < ((f.map V.int).length : Nat) then ((g.map V.int).length : Int) else ((f.map V.int).length : Nat)) = (m : Int) := by
      rw [List.length_map, List.length_map]
      split
      · exact ⟨g.length, .inr (Nat.le_refl _), lg, rfl⟩
      · exact ⟨f.length, .inl (Nat.le_refl _), lf, rfl⟩
    dsimp only
    rw [em]
    obtain ⟨k, ek⟩ : ∃ k, Builtin.Int.intBits (m : Int) = k := ⟨_, rfl⟩
    have mk : m < 2 ^ k := by
      have := bits_lt (m : Int)
      rwa [Int.natAbs_natCast, ek] at this
    have k6 : k ≤ 6 := by
      rw [← ek]
      exact PyProof.Rows.intBits_le (by rw [Int.natAbs_natCast]; exact Nat.lt_of_le_of_lt hm60 (by decide))
    rw [ek]
    obtain ⟨bb, hbb⟩ : ∃ bb : Nat, a + b + k + 1 = bb := ⟨_, rfl⟩
    have ebb : (a : Int) + (b : Int) + (k : Nat) + 1 = (bb : Nat) := by omega
    rw [ebb]
    have bb1 : bb ≤ 700 := by omega
    have fa : ∀ c ∈ f, c.natAbs < 2 ^ bb := fun c hc => Nat.lt_of_lt_of_le (ha c hc) (Nat.pow_le_pow_right (by decide) (by omega))
    have ga : ∀ c ∈ g, c.natAbs < 2 ^ bb := fun c hc => Nat.lt_of_lt_of_le (hb c hc) (Nat.pow_le_pow_right (by decide) (by omega))
    have small := prod_small ha hb hm mk
    rw [hbb] at small
    have lim : ∀ n, n ≤ 60 → bb * (n + 1) ≤ 100000000 := fun n hn => Nat.le_trans (Nat.mul_le_mul bb1 (show n + 1 ≤ 61 by omega)) (by decide)
    refine ⟨.ref x, rfl, _, rfl, x, f, bb, rfl, hX2, fa, lim _ lf, .ref y, rfl, _, rfl, y, g, bb, rfl, hY2, ga, lim _ lg, _, _, rfl, rfl, ?_, ?_⟩
    · refine mulx_ok (val_fit fa) (val_fit ga) ?_
      have h1 : bb * f.length ≤ 700 * 60 := Nat.mul_le_mul bb1 lf
      have h2 : bb * g.length ≤ 700 * 60 := Nat.mul_le_mul bb1 lg
      omega
    dsimp only
    rw [← val_prod, ← val_strip]
    have sst := strip_strip (prod f g)
    have ssm : Small (2 ^ bb) (strip (prod f g)) := fun c hc => small c (strip_mem hc)
    have sl : (strip (prod f g)).length ≤ 1000 := by
      have h1 := strip_len (prod f g)
      have h2 : (prod f g).length = f.length + g.length := by simp [prod]
      omega
    generalize strip (prod f g) = l at q sst ssm sl ⊢
    refine ⟨_, rfl, _, _, rfl, rfl, _, rfl, ite2 (fun e => ?_) (fun e => ?_)⟩
    · have neg := of_decide_eq_true e
      have nst : strip (l.map (-·)) = l.map (-·) := by rw [strip_neg, sst]
      refine ⟨_, rfl, _, rfl, _, rfl, l.map (-·), bb, by rw [val_neg]; rfl, ssm.neg, nst, by rw [val_neg]; omega, by omega, by omega, by rw [List.length_map]; exact sl, fun p H3 s3 np ep => ?_⟩
      refine ⟨1, rfl, p, l.map (-·), rfl, SqL.of ep, by rw [List.length_map]; exact sl, fun p2 H4 s4 np2 ep2 => ?_⟩
      refine q p2 H4 ((s12.trans s3).trans s4) ((s12.trans s3).free np2) ?_
      rw [ep2]
      have e3 : (l.map (-·)).map (-·) = l := by
        rw [List.map_map]
        conv => rhs; rw [← List.map_id l]
        exact List.map_congr_left fun z _ => by show - -z = z; omega
      rw [e3, sst]
    · have pos : ¬ val (2 ^ bb) l < 0 := fun h => e (decide_eq_true h)
      refine ⟨_, rfl, _, rfl, l, bb, rfl, ssm, sst, by omega, by omega, by omega, sl, fun p H3 s3 np ep => ?_⟩
      refine ⟨p, l, rfl, SqL.of ep, fun p2 H4 s4 np2 ep2 => ?_⟩
      refine q p2 H4 ((s12.trans s3).trans s4) ((s12.trans s3).free np2) ?_
      rw [ep2, sst]
end
end Z

set_option Elab.async false
set_option linter.all false
set_option maxRecDepth 100000
set_option maxHeartbeats 4000000
set_option exponentiation.threshold 20000
namespace Z
open PySem PySem.Spec PyProof.Rows L2 GG M3
theorem getD_set {l : List Int} {k : Nat} {v : Int} (h : k < l.length) (t : Nat) : (l.set k v).getD t 0 = if t = k then v else l.getD t 0 := by
  rw [List.getD_eq_getElem?_getD, List.getElem?_set]
  by_cases e : k = t
  · subst e
    rw [if_pos rfl, if_pos h, if_pos rfl]
    rfl
  · rw [if_neg e, if_neg (Ne.symm e), List.getD_eq_getElem?_getD]
theorem prod_of {f g tot : List Int} (len : tot.length = f.length + g.length) (h : ∀ t, t < f.length + g.length → tot.getD t 0 = pf f g t) : tot = prod f g := by
  apply List.ext_getElem?
  intro i
  unfold prod
  rw [List.getElem?_map]
  by_cases lt : i < f.length + g.length
  · have q := h i lt
    rw [List.getD_eq_getElem?_getD, List.getElem?_eq_getElem (by omega)] at q
    rw [List.getElem?_range lt, List.getElem?_eq_getElem (by omega)]
    exact congrArg some q
  · rw [List.getElem?_eq_none (by omega), List.getElem?_eq_none (by rw [List.length_range]; omega)]
    rfl
section
variable {P : Program} {w : World} {K : PySem.W.Frag} {mg : Str → Option Value} {base : Heap}
theorem call_tupK {X : Cx} {K : PySem.W.Frag} (hK : X.K = K) : CallR X (.type "tuple") (fun vs H Q => ∃ p ys, vs = [.ref p] ∧ ((SqL K H p ys ∧ ∀ l, H l = none → Q (.ref l) (upd H l (.tup ys))) ∨ (SqT K H p ys ∧ Q (.ref p) H))) := by
  subst hK
  exact call_tuple_of
theorem op_repK {X : Cx} {K : PySem.W.Frag} (hK : X.K = K) : OpR X (binaryOp .Mult) (TR.rRepA K) := by
  subst hK
  exact TR.op_repA
theorem op_catK {X : Cx} {K : PySem.W.Frag} (hK : X.K = K) : OpR X (binaryOp .Add) (rCatA K) := by
  subst hK
  exact op_catA
theorem len_seqK {X : Cx} {K : PySem.W.Frag} (hK : X.K = K) : CallR X (.builtin "len") (fun xs H Q => ∃ l ys, xs = [.ref l] ∧ (SqL K H l ys ∨ SqT K H l ys) ∧ Q (.int (ys.length : Nat)) H) := by
  subst hK
  exact call_len_seq
/-! ### the program's product -/
theorem scMul : FnScope ["one", "other", "total", "at", "a", "k", "b"] ["one", "other"] (defScope sMul) := ⟨rfl, rfl, rfl, by decide +kernel, rfl, by decide +kernel, by decide +kernel⟩
theorem ok_mul {f0 t k : Addr} {fd td kd : FuncData} {tP : Tok} (F : Fun K "multiply_polynomials" "multiply_polynomials" sMul f0 fd) (T : Names3 mg) (GT : FnOk P w K mg base CX0 1 t td ["coefficients"] (spTrim K)) (PT_ : Def K mg "trim_zeros" t td ["coefficients"])
    (GK : FnOk P w K mg base CX0 3 k kd ["one", "other"] (fun vs H Q E => ∃ (x y : Addr) (f g : List Int), vs = [.ref x, .ref y] ∧ SqT K H x (f.map V.int) ∧ SqT K H y (g.map V.int) ∧ f ≠ [] ∧ g ≠ [] ∧ f.length ≤ 60 ∧ g.length ≤ 60 ∧ Bd (2 ^ 200) f ∧ Bd (2 ^ 200) g ∧
        ∀ p H', Same H H' → H p = none → H' p = some (.tup ((strip (prod f g)).map V.int)) → Q (.ref p) H')) (PK_ : Def K mg "multiply_packed" k kd ["one", "other"]) (mP : mg "PACKED_TERMS" = some (.int 1000 tP)) :
    FnOk P w K mg base CX0 4 f0 fd ["one", "other"] (spProd K) := by
  refine F.ok scMul (fun vs H Q E h => ?_) (fun cdv A outer s H vs Q E hr h => ?_)
  · obtain ⟨x, y, f, g, rfl, _⟩ := h
    rfl
  · obtain ⟨x, y, f, g, rfl, hX, hY, hlf, hlg, bf, bg, q⟩ := h
    refine ⟨_, (pss_cons (ps_if (pt_cmpR op_gt (pe_op op_mul (pe_callB call_len_seq (by rfl) T.len PySem.boot_len (pa_cons (pv 0) pa_nil)) (pe_callB call_len_seq (by rfl) T.len PySem.boot_len (pa_cons (pv 1) pa_nil))) (pe_glob (v := .int 1000) rfl mP ⟨_, rfl⟩) (nomark _)) (pss_one (ps_ret (pe_call GK (hr.mono (by decide)) (by rfl) PK_.is PK_.kp PK_.bi .nil pass0 (pa_cons (pv 0) (pa_cons (pv 1) pa_nil))))) pss_nil)
      (pss_cons (ps_set (i := 2) scMul.nd rfl (.inl rfl) (pe_op op_rep (pe_lst (pa_cons pe_int pa_nil)) (pe_op op_add (pe_callB call_len_seq (by rfl) T.len PySem.boot_len (pa_cons (pv 0) pa_nil)) (pe_callB call_len_seq (by rfl) T.len PySem.boot_len (pa_cons (pv 1) pa_nil)))))
      (pss_cons (ps_for PassesOwn.never rfl (EN.pi_pairs (by rfl) T.enumerate (pa_cons (pv 0) pa_nil)) (pg_tup rfl (pgs_cons (pg_name (i := 3) scMul.nd rfl (.inl rfl)) (pgs_cons (pg_name (i := 4) scMul.nd rfl (.inl rfl)) pgs_nil))) (pss_one (ps_for PassesOwn.never rfl (EN.pi_pairs (by rfl) T.enumerate (pa_cons (pv 1) pa_nil)) (pg_tup rfl (pgs_cons (pg_name (i := 5) scMul.nd rfl (.inl rfl)) (pgs_cons (pg_name (i := 6) scMul.nd rfl (.inl rfl)) pgs_nil))) (pss_one (ps_augS (pv 2) (pe_op op_add (pv 3) (pv 5)) OPS.get_list (pe_op op_mulW (pv 4) (pv 6)) ip_add set_list)))))
      (pss_one (ps_ret (pe_call GT (hr.mono (by decide)) (by rfl) PT_.is PT_.kp PT_.bi .nil pass0 (pa_cons (pv 2) pa_nil))))))), ?_⟩
    refine ⟨.ref x, rfl, x, _, rfl, .inr hX, .ref y, rfl, y, _, rfl, .inr hY, _, _, rfl, rfl, .inl ⟨?_, ?_⟩, _, _, rfl, rfl, _, rfl, ite2 (fun e => ?_) (fun _ => ?_)⟩
    · rw [List.length_map]
      omega
    · rw [List.length_map]
      omega
    · have many := of_decide_eq_true e
      rw [List.length_map, List.length_map] at many
      refine ⟨.ref x, rfl, .ref y, rfl, x, y, f, g, rfl, hX, hY, ?_, ?_, hlf, hlg, bf, bg, q⟩
      · rintro rfl
        simp at many
      · rintro rfl
        simp at many
    obtain ⟨n, hn⟩ : ∃ n : Nat, n = f.length + g.length := ⟨_, rfl⟩
    refine ⟨by show 1 ≤ sizeLine; decide, fun z nz => ?_⟩
    have s1 := Same.upd (o := .lst [.int 0]) nz
    refine ⟨.ref x, rfl, x, _, rfl, .inr (Same.tup s1 hX), .ref y, rfl, y, _, rfl, .inr (Same.tup s1 hY), _, _, rfl, rfl, z, (n : Int), _, rfl, ?_, upd_same, by omega, by omega, ?_, fun R nR => ?_⟩
    · rw [List.length_map, List.length_map, hn]
      rfl
    · show 1 * (n : Int).toNat ≤ sizeLine
      rw [Int.toNat_natCast, Nat.one_mul]
      exact Nat.le_of_lt (small1000 (by omega))
    have s2 := Same.upd (o := .lst (List.replicate (n : Int).toNat [V.int 0]).flatten) nR
    have nRH : H R = none := s1.free nR
    have eR : upd (upd H z (.lst [.int 0])) R (.lst (List.replicate (n : Int).toNat [V.int 0]).flatten) R = some (.lst ((List.replicate n (0 : Int)).map V.int)) := by
      rw [upd_same, Int.toNat_natCast, many_zeros]
    have sH : Same H (upd (upd H z (.lst [.int 0])) R (.lst (List.replicate (n : Int).toNat [V.int 0]).flatten)) := s1.trans s2
    change (_ : Hp → Prop) (upd (upd H z (.lst [.int 0])) R (.lst (List.replicate (n : Int).toNat [V.int 0]).flatten))
    generalize upd (upd H z (.lst [.int 0])) R (.lst (List.replicate (n : Int).toNat [V.int 0]).flatten) = H0 at eR sH ⊢
    clear s1 s2
    refine ⟨.ref x, rfl, x, _, rfl, Same.tup sH hX, ?_⟩
    refine EN.for_pairs (K := K) (xs := f.map V.int) (fun i σ H' => ∃ (tot : List Int) (v3 v4 v5 v6 : Option V), σ = [some (V.ref x), some (V.ref y), some (V.ref R), v3, v4, v5, v6] ∧ Same H H' ∧ H' R = some (.lst (tot.map V.int)) ∧
        tot.length = n ∧ ∀ t, t < n → tot.getD t 0 = pf (f.take i) g t)
      ⟨List.replicate n 0, _, _, _, _, rfl, sH, eR, by simp, fun t ht => ?_⟩ (fun i σ H' _ ⟨_, _, _, _, _, _, s, _⟩ => Same.tup s hX) ?_ ?_
    · rw [List.getD_eq_getElem?_getD, List.getElem?_replicate, if_pos ht]
      rfl
    · rintro i v σ H' T hv ⟨tot, v3, v4, v5, v6, rfl, s2, ed, hlen, ag⟩ nT
      have hi : i < f.length := by
        have := (List.getElem?_eq_some_iff.mp hv).1
        rwa [List.length_map] at this
      have ev : v = .int (f.getD i 0) := by
        rw [get_int hi] at hv
        exact (Option.some.inj hv).symm
      subst ev
      have s3 := Same.upd (o := .tup [.int (i : Nat), .int (f.getD i 0)]) nT
      refine ⟨T, _, rfl, tup_of upd_same, rfl, _, _, rfl, _, _, rfl, rfl, ?_⟩
      refine ⟨.ref y, rfl, y, _, rfl, Same.tup (s2.trans s3) hY, ?_⟩
      refine EN.for_pairs (K := K) (xs := g.map V.int) (fun j σ H' => ∃ (tot : List Int) (v5 v6 : Option V), σ = [some (V.ref x), some (V.ref y), some (V.ref R), some (V.int (i : Int)), some (V.int (f.getD i 0)), v5, v6] ∧ Same H H' ∧ H' R = some (.lst (tot.map V.int)) ∧
          tot.length = n ∧ ∀ t, t < n → tot.getD t 0 = pf (f.take i) g t + if i ≤ t then f.getD i 0 * (g.take j).getD (t - i) 0 else 0)
        ⟨tot, _, _, rfl, s2.trans s3, s3 _ _ ed, hlen, fun t ht => by rw [ag t ht]; simp⟩ (fun i σ H' _ ⟨_, _, _, _, s, _⟩ => Same.tup s hY) ?_ ?_
      · rintro j v σ H1 T1 hv ⟨tot, v5, v6, rfl, s4, ed4, hlen4, ag4⟩ nT1
        have hj : j < g.length := by
          have := (List.getElem?_eq_some_iff.mp hv).1
          rwa [List.length_map] at this
        have ev : v = .int (g.getD j 0) := by
          rw [get_int hj] at hv
          exact (Option.some.inj hv).symm
        subst ev
        have s5 := Same.upd (o := .tup [.int (j : Nat), .int (g.getD j 0)]) nT1
        have ed5 := s5 _ _ ed4
        have s6 := s4.trans s5
        refine ⟨T1, _, rfl, tup_of upd_same, rfl, _, _, rfl, _, _, rfl, rfl, ?_⟩
        generalize upd H1 T1 (.tup [.int (j : Nat), .int (g.getD j 0)]) = H2 at ed5 s6 ⊢
        refine ⟨.ref R, rfl, _, rfl, _, rfl, _, _, rfl, rfl, R, _, i + j, _, rfl, congrArg V.int (by omega), SqL.of ed5, get_int (by omega), _, rfl, _, rfl, _, _, rfl, rfl, wide_le2 (bf i) (bg j) (by decide), _, _, rfl, rfl, R, _, _, i + j, rfl, rfl, ed5, ixN_of (by omega) (by rw [List.length_map]; omega), ?_⟩
        refine ⟨tot.set (i + j) (tot.getD (i + j) 0 + f.getD i 0 * g.getD j 0), _, _, rfl, ?_, ?_, by rw [List.length_set]; exact hlen4, fun t ht => ?_⟩
        · intro b o e
          rw [upd_ne (ne_of_none e nRH)]
          exact s6 _ _ e
        · rw [upd_same, List.map_set]
        · rw [getD_set (by omega)]
          have et : (g.take (j + 1)) = g.take j ++ [g.getD j 0] := by
            rw [List.take_succ_eq_append_getElem hj, List.getD_eq_getElem?_getD, List.getElem?_eq_getElem hj]
            rfl
          by_cases e : t = i + j
          · subst e
            rw [if_pos rfl, ag4 _ ht, if_pos (Nat.le_add_right _ _), if_pos (Nat.le_add_right _ _), Nat.add_sub_cancel_left, et, getD_snoc, List.length_take, Nat.min_eq_left (by omega), if_pos rfl, getD_out (g := g.take j) (t := j) (by rw [List.length_take]; omega), Int.mul_zero, Int.zero_add, Int.add_zero]
          · rw [if_neg e, ag4 t ht]
            by_cases le : i ≤ t
            · rw [if_pos le, if_pos le, et, getD_snoc, List.length_take, Nat.min_eq_left (by omega), if_neg (by omega), Int.add_zero]
            · rw [if_neg le, if_neg le]
      · rintro σ H1 ⟨tot, v5, v6, rfl, s4, ed4, hlen4, ag4⟩
        refine ⟨tot, _, _, _, _, rfl, s4, ed4, hlen4, fun t ht => ?_⟩
        rw [ag4 t ht, List.length_map, List.take_length, List.take_succ_eq_append_getElem hi, pf_snoc_f, List.length_take, Nat.min_eq_left (by omega)]
        have e : f.getD i 0 = f[i] := by
          rw [List.getD_eq_getElem?_getD, List.getElem?_eq_getElem hi]
          rfl
        rw [e]
    · rintro σ H' ⟨tot, v3, v4, v5, v6, rfl, s2, ed, hlen, ag⟩
      rw [List.length_map, List.take_length] at ag
      have et : tot = prod f g := prod_of (by omega) fun t ht => ag t (by omega)
      rw [et] at ed
      exact ⟨.ref R, rfl, R, prod f g, rfl, SqL.of ed, fun p H4 s4 np e4 => q p H4 (s2.trans s4) (s2.free np) e4⟩
/-! ### the law's sum -/
def pad (n : Nat) (f : List Int) : List Int := f ++ List.replicate (n - f.length) 0
theorem pad_len {n : Nat} {f : List Int} (h : f.length ≤ n) : (pad n f).length = n := by
  unfold pad
  rw [List.length_append, List.length_replicate]
  omega
theorem pad_getD (n : Nat) (f : List Int) (t : Nat) : (pad n f).getD t 0 = f.getD t 0 := by
  unfold pad
  rw [List.getD_eq_getElem?_getD, List.getD_eq_getElem?_getD, List.getElem?_append]
  by_cases h : t < f.length
  · rw [if_pos h]
  · rw [if_neg h, List.getElem?_replicate, List.getElem?_eq_none (by omega)]
    split <;> rfl
def spSum (K : PySem.W.Frag) : Sp := fun vs H Q _ => ∃ (x y : Addr) (f g : List Int) (k : Int), vs = [.ref x, .ref y, .int k] ∧ SqT K H x (f.map V.int) ∧ SqT K H y (g.map V.int) ∧ f.length ≤ 60 ∧ g.length ≤ 60 ∧ Bd (2 ^ 200) g ∧ k.natAbs ≤ 2 ^ 200 ∧
  ∀ p H', Same H H' → H p = none → H' p = some (.tup ((strip (sumF k f g)).map V.int)) → Q (.ref p) H'
theorem scSum : FnScope ["first", "second", "factor", "length", "padded", "row", "a", "b"] ["first", "second", "factor"] (defScope sSum) := ⟨rfl, rfl, rfl, by decide +kernel, rfl, by decide +kernel, by decide +kernel⟩
theorem tup_lst {K : PySem.W.Frag} {H : Hp} {D p : Addr} {xs l : List V} {o : HO} (hD : H D = some (.lst l)) (h : SqT K H p xs) : SqT K (upd H D o) p xs := by
  rcases h with (h | ⟨u, h⟩) | h
  · exact .inl (.inl (by rw [upd_ne (fun e => by rw [e, hD] at h; cases h)]; exact h))
  · exact .inl (.inr ⟨u, by rw [upd_ne (fun e => by rw [e, hD] at h; cases h)]; exact h⟩)
  · exact .inr h
theorem pad_elt {a : Addr} {n : Nat} {ns : List Int} {σ : L2.St} {H2 : Hp} {R : V → Hp → Prop} (h5 : σ[5]? = some (some (V.ref a))) (h3 : σ[3]? = some (some (V.int (n : Int)))) (hA : SqT K H2 a (ns.map V.int)) (hn : ns.length ≤ n) (hn2 : n ≤ 100)
    (h : ∀ p H4, Same H2 H4 → SqT K H4 p ((pad n ns).map V.int) → R (.ref p) H4) :
    (tOp (rCatA K)
            (tCB
              (fun vs H Q =>
                ∃ p ys,
                  vs = [V.ref p] ∧
                    ((SqL K H p ys ∧ ∀ (l : Addr), H l = none → Q (V.ref l) (upd H l (HO.tup ys))) ∨
                      SqT K H p ys ∧ Q (V.ref p) H))
              (tCons (tVar 5) tNil))
            (tOp (TR.rRepA K) (tTup (tCons (tC (V.int 0)) tNil))
              (tOp (rI0 fun i j => V.int (i - j)) (tVar 3)
                (tCB (fun xs H Q => ∃ l ys, xs = [V.ref l] ∧ (SqL K H l ys ∨ SqT K H l ys) ∧ Q (V.int ↑ys.length) H)
                  (tCons (tVar 5) tNil))))) σ H2 R := by
  refine ⟨.ref a, h5, a, _, rfl, .inr ⟨hA, ?_⟩⟩
  refine ⟨by show 1 ≤ sizeLine; decide, fun e ne => ?_⟩
  have s1 := Same.upd (o := .tup [.int 0]) ne
  refine ⟨_, h3, .ref a, h5, a, _, rfl, .inr (Same.tup s1 hA), _, _, rfl, rfl, ?_⟩
  have tail : ∀ (z : Addr) (H3 : Hp), Same (upd H2 e (.tup [.int 0])) H3 → SqT K H3 z ((List.replicate (n - ns.length) (0 : Int)).map V.int) → rCatA K (.ref a) (.ref z) H3 R := by
    intro z H3 s3 hz
    have hA3 := Same.tup (s1.trans s3) hA
    refine ⟨a, z, _, _, rfl, rfl, hA3, hz, ?_, fun e0 => h z H3 (s1.trans s3) ?_, fun _ e0 => h a H3 (s1.trans s3) ?_, fun _ _ p np => h p _ ((s1.trans s3).trans (Same.upd np)) (tup_of ?_)⟩
    · rw [List.length_map, List.length_map, List.length_replicate]
      exact Nat.le_of_lt (small1000 (by omega))
    · have : ns = [] := List.map_eq_nil_iff.mp e0
      subst this
      exact hz
    · have e1 := List.map_eq_nil_iff.mp e0
      unfold pad
      rw [e1, List.append_nil]
      exact hA3
    · rw [upd_same]
      unfold pad
      rw [List.map_append]
  refine ⟨e, ((n - ns.length : Nat) : Int), [.int 0], rfl, congrArg V.int (by rw [List.length_map]; omega), tup_of upd_same, by simp, by omega, by omega, (by show 1 ≤ 1000; decide), fun k1 => tail e _ (Same.refl _) (tup_of ?_), fun _ p np => tail p _ (Same.upd np) (tup_of ?_)⟩
  · have e1 : n - ns.length = 1 := by omega
    rw [upd_same, e1]
    rfl
  · rw [upd_same, Int.toNat_natCast, many_zeros]
theorem ok_sum {f0 t : Addr} {fd td : FuncData} (F : Fun K "_law_sum" "_law_sum" sSum f0 fd) (T : Names3 mg) (GS : FnOk P w K mg base CX0 1 t td ["numbers"] (spStrip K)) (PS_ : Def K mg "_law_strip" t td ["numbers"]) :
    FnOk P w K mg base CX0 2 f0 fd ["first", "second", "factor"] (spSum K) := by
  refine F.ok scSum (fun vs H Q E h => ?_) (fun cdv A outer s H vs Q E hr h => ?_)
  · obtain ⟨x, y, f, g, k, rfl, _⟩ := h
    rfl
  · obtain ⟨x, y, f, g, k, rfl, hX, hY, hlf, hlg, bg, bk, q⟩ := h
    refine ⟨_, (pss_cons (ps_set (i := 3) scSum.nd rfl (.inr rfl) (pe_callB (max_is rfl) (by rfl) T.max (by decide +kernel) (pa_cons (pe_callB call_len_seq (by rfl) T.len PySem.boot_len (pa_cons (pv 0) pa_nil)) (pa_cons (pe_callB call_len_seq (by rfl) T.len PySem.boot_len (pa_cons (pv 1) pa_nil)) pa_nil))))
      (pss_cons (ps_setLc (i := 4) (own := [("row", 5)]) (g := gName 5) (tt := tYes) rfl scSum.nd rfl rfl (sw_true rfl rfl rfl (by decide +kernel)) (pi_tup (pe_tup (pa_cons (pv 0) (pa_cons (pv 1) pa_nil)))) (blkOk_by (N := ["first", "second", "factor", "length", "padded", "row", "a", "b"]) (sc := defScope sSum) (own := [("row", 5)]) (by decide +kernel)) (fun _ _ _ _ _ => (pg_name (i := 5) scSum.nd rfl (.inl rfl))) (fun _ _ _ _ _ => pts_nil) (fun _ _ _ _ _ => (pe_op (op_catK (K := K) rfl) (pe_callTy (call_tupK (K := K) rfl) (by rfl) T.tuple (by decide +kernel) (pa_cons (pv 5) pa_nil)) (pe_op (op_repK (K := K) rfl) (pe_tup (pa_cons pe_int pa_nil)) (pe_op op_sub (pv 3) (pe_callB (len_seqK (K := K) rfl) (by rfl) T.len PySem.boot_len (pa_cons (pv 5) pa_nil)))))))
      (pss_one (ps_ret (pe_call GS (hr.mono (by decide)) (by rfl) PS_.is PS_.kp PS_.bi .nil pass0 (pa_cons (pe_lc (own := [("a", 6), ("b", 7)]) (g := gTup K 2 (gCons (gName 6) (gCons (gName 7) gNil))) (tt := tYes) rfl scSum.nd (RZ.pi_zipA (by rfl) T.zip (pa_cons (pe_ix ix_list (pv 4) pe_int (fun _ _ => rfl)) (pa_cons (pe_ix ix_list (pv 4) pe_int (fun _ _ => rfl)) pa_nil))) (blkOk_by (N := ["first", "second", "factor", "length", "padded", "row", "a", "b"]) (sc := defScope sSum) (own := [("a", 6), ("b", 7)]) (by decide +kernel)) (fun _ _ _ _ _ => (pg_tup rfl (pgs_cons (pg_name (i := 6) scSum.nd rfl (.inl rfl) (Or.inr rfl)) (pgs_cons (pg_name (i := 7) scSum.nd rfl (.inl rfl) (Or.inr rfl)) pgs_nil)))) (fun _ _ _ _ _ => pts_nil) (fun _ _ _ _ _ => (pe_op op_add (pv 6) (pe_op op_mulW (pv 2) (pv 7))))) pa_nil)))))), ?_⟩
    obtain ⟨n, hn⟩ : ∃ n : Nat, n = max f.length g.length := ⟨_, rfl⟩
    refine ⟨.ref x, rfl, x, _, rfl, .inr hX, .ref y, rfl, y, _, rfl, .inr hY, _, _, (n : Int), rfl, ?_, ?_⟩
    · rw [List.length_map, List.length_map]
      split <;> omega
    refine ⟨.ref x, rfl, .ref y, rfl, by show 2 ≤ sizeLine; decide, fun t nt => ⟨t, rfl, ⟨_, tup_of upd_same⟩, fun D nD => ?_⟩⟩
    have s1 := Same.upd (o := .tup [.ref x, .ref y]) nt
    have et : upd H t (.tup [.ref x, .ref y]) t = some (.tup [.ref x, .ref y]) := upd_same
    generalize upd H t (.tup [.ref x, .ref y]) = H1 at s1 et nD ⊢
    refine lc_tup (K := K) (a := t) (xs := [.ref x, .ref y]) (fun i H' => Same H1 H' ∧ ∃ ps : List Addr, H' D = some (.lst (ps.map V.ref)) ∧ ps.length = i ∧ (∀ p, ps[0]? = some p → SqT K H' p ((pad n f).map V.int)) ∧ ∀ p, ps[1]? = some p → SqT K H' p ((pad n g).map V.int))
      ⟨Same.upd nD, [], upd_same, rfl, (by intro p e; cases e), (by intro p e; cases e)⟩ (fun i H' _ h => Same.tup h.1 (tup_of et)) ?_ ?_
    · rintro i v H2 hv ⟨s2, ps, eD, hl, h0, h1⟩
      refine ⟨rfl, ?_⟩
      dsimp only [tYes]
      refine iteT ?_
      have hi : i < 2 := (List.getElem?_eq_some_iff.mp hv).1
      have sX := Same.tup (s1.trans s2) hX
      have sY := Same.tup (s1.trans s2) hY
      obtain ⟨a, ns, rfl, hA, hns, hwhich⟩ : ∃ (a : Addr) (ns : List Int), v = .ref a ∧ SqT K H2 a (ns.map V.int) ∧ ns.length ≤ n ∧ ((i = 0 ∧ ns = f) ∨ (i = 1 ∧ ns = g)) := by
        rcases (by omega : i = 0 ∨ i = 1) with rfl | rfl
        · cases hv
          exact ⟨x, f, rfl, sX, by omega, .inl ⟨rfl, rfl⟩⟩
        · cases hv
          exact ⟨y, g, rfl, sY, by omega, .inr ⟨rfl, rfl⟩⟩
      refine pad_elt (a := a) (n := n) (ns := ns) rfl rfl hA hns (by omega) fun p H4 s4 hp => ⟨_, s4 _ _ eD, by rw [List.length_map]; exact small1000 (by omega), ?_, ps ++ [p], ?_, by simp [hl], fun u e => ?_, fun u e => ?_⟩
      · intro b o e
        rw [upd_ne (ne_of_none e nD)]
        exact s4 _ _ (s2 _ _ e)
      · rw [upd_same, List.map_append]
        rfl
      · refine tup_lst (s4 _ _ eD) ?_
        rcases hwhich with ⟨rfl, rfl⟩ | ⟨rfl, rfl⟩
        · obtain rfl := List.eq_nil_of_length_eq_zero hl
          cases e
          exact hp
        · rw [List.getElem?_append_left (by omega)] at e
          exact Same.tup s4 (h0 u e)
      · refine tup_lst (s4 _ _ eD) ?_
        rcases hwhich with ⟨rfl, rfl⟩ | ⟨rfl, rfl⟩
        · obtain rfl := List.eq_nil_of_length_eq_zero hl
          cases e
        · rw [List.getElem?_append_right (by omega), hl] at e
          cases e
          exact hp
    · rintro H2 ⟨s2, ps, eD, hl, h0, h1⟩
      obtain ⟨p0, p1, rfl⟩ : ∃ p0 p1, ps = [p0, p1] := by
        match ps, hl with
        | [a, b], _ => exact ⟨a, b, rfl⟩
      have t0 := h0 p0 rfl
      have t1 := h1 p1 rfl
      have l0 : (pad n f).length = n := pad_len (by omega)
      have l1 : (pad n g).length = n := pad_len (by omega)
      refine ⟨.ref D, rfl, D, _, 0, .ref p0, rfl, rfl, SqL.of eD, atI_nat (j := 0) rfl, .ref D, rfl, D, _, 1, .ref p1, rfl, rfl, SqL.of eD, atI_nat (j := 1) rfl, p0, p1, _, _, rfl, .inr ⟨t0, t1, fun D2 nD2 => ?_⟩⟩
      refine lc_zT (K := K) (xs := (pad n f).map V.int) (ys := (pad n g).map V.int) (by rw [List.length_map, List.length_map, l0, l1]) (fun i H' => H' D2 = some (.lst (((List.range i).map fun t => f.getD t 0 + k * g.getD t 0).map V.int)) ∧ Same H2 H') ⟨upd_same, Same.upd nD2⟩ (fun i H' h => ⟨Same.tup h.2 t0, Same.tup h.2 t1⟩) ?_ ?_
      · rintro i a b H3 T0 ha hb ⟨e3, s3⟩ nT
        have hi : i < n := by
          have := (List.getElem?_eq_some_iff.mp ha).1
          rwa [List.length_map, l0] at this
        have ea : a = .int (f.getD i 0) := by
          rw [get_int (by omega), pad_getD] at ha
          exact (Option.some.inj ha).symm
        have eb : b = .int (g.getD i 0) := by
          rw [get_int (by omega), pad_getD] at hb
          exact (Option.some.inj hb).symm
        subst ea eb
        have s4 := Same.upd (o := .tup [.int (f.getD i 0), .int (g.getD i 0)]) nT
        refine ⟨T0, _, rfl, tup_of upd_same, rfl, _, _, rfl, _, _, rfl, rfl, rfl, ?_⟩
        dsimp only [tYes]
        refine iteT ?_
        refine ⟨_, rfl, _, rfl, _, rfl, _, _, rfl, rfl, wide_le2 bk (bg i) (by decide), _, _, rfl, rfl, _, s4 _ _ e3, by rw [List.length_map, List.length_map, List.length_range]; exact small1000 (by omega), ?_, ?_⟩
        · rw [upd_same, List.range_succ, List.map_append, List.map_append]
          rfl
        · intro b o e
          rw [upd_ne (ne_of_none e nD2)]
          exact s4 _ _ (s3 _ _ e)
      · rintro H3 ⟨e3, s3⟩
        rw [List.length_map, l0, hn] at e3
        exact ⟨D2, sumF k f g, rfl, .inl (SqL.of e3), fun p H4 s4 np e4 => q p H4 (((s1.trans s2).trans s3).trans s4) (((s1.trans s2).trans s3).free np) e4⟩
end
end Z

set_option Elab.async false
set_option linter.all false
set_option maxRecDepth 100000
set_option maxHeartbeats 4000000
set_option exponentiation.threshold 20000
namespace Z
open PySem PySem.Spec PyProof.Rows L2 GG M3
/-! ### rows: their texts -/
theorem rows_show : ∀ {rs : List (List Int)}, (∀ r ∈ rs, (∀ n ∈ r, n.natAbs.log2 < 1920) ∧ r.length ≤ 200) → PyData.showableAll (rs.map fun r => PyData.tuple (r.map PyData.int)) = true ∧ PyData.leavesShortAll 1922 (rs.map fun r => PyData.tuple (r.map PyData.int)) = true ∧
    PyData.hasDictAll (rs.map fun r => PyData.tuple (r.map PyData.int)) = false ∧ PyData.depthAll (rs.map fun r => PyData.tuple (r.map PyData.int)) ≤ 1 ∧ PyData.bulkAll (rs.map fun r => PyData.tuple (r.map PyData.int)) ≤ rs.length * 201
  | [], _ => ⟨rfl, rfl, rfl, Nat.zero_le _, Nat.zero_le _⟩
  | r :: t, h => by
    obtain ⟨h1, h2, h3, h4, h5⟩ := rows_show (rs := t) fun x hx => h x (List.mem_cons_of_mem _ hx)
    obtain ⟨a, b⟩ := h r List.mem_cons_self
    have S := shows_ints a
    have hp := S.p
    have hb := S.b
    refine ⟨?_, ?_, ?_, ?_, ?_⟩
    · simp only [List.map_cons, PyData.showableAll, S.s, h1, Bool.and_self]
    · simp only [List.map_cons, PyData.leavesShortAll, S.l, h2, Bool.and_self]
    · simp only [List.map_cons, PyData.hasDictAll, S.h, h3, Bool.or_self]
    · simp only [List.map_cons, PyData.depthAll]
      omega
    · simp only [List.map_cons, PyData.bulkAll, List.length_cons]
      omega
theorem shows_rows {rs : List (List Int)} (h : ∀ r ∈ rs, (∀ n ∈ r, n.natAbs.log2 < 1920) ∧ r.length ≤ 200) (few : rs.length ≤ 3) : Shows (.list (rs.map fun r => PyData.tuple (r.map PyData.int))) 50 8000 := by
  obtain ⟨h1, h2, h3, h4, h5⟩ := rows_show h
  refine ⟨by simp only [PyData.showable, h1], by simp only [PyData.leavesShort, h2], by simp only [PyData.hasDict, h3], ?_, ?_⟩
  · simp only [PyData.depth]
    omega
  · simp only [PyData.bulk]
    omega
theorem log_small {n : Int} {k : Nat} (h : n.natAbs ≤ 2 ^ k) (hk : k < 1900) : n.natAbs.log2 < 1920 :=
  PySem.Flt.log2_lt_of (k := 1920) (by decide) (Nat.lt_of_le_of_lt h (Nat.pow_lt_pow_right (by decide) (by omega)))
theorem sum_sz {f g : List Int} {k : Int} (bf : Bd (2 ^ 200) f) (bg : Bd (2 ^ 200) g) (hf : f.length ≤ 60) (hg : g.length ≤ 60) (hk : k.natAbs ≤ 1) : (∀ n ∈ strip (sumF k f g), n.natAbs.log2 < 1920) ∧ (strip (sumF k f g)).length ≤ 200 := by
  refine ⟨fun n hn => ?_, ?_⟩
  · have := strip_mem hn
    unfold sumF at this
    obtain ⟨i, _, rfl⟩ := List.mem_map.mp this
    refine log_small (k := 201) ?_ (by decide)
    have a := bf i
    have b := bg i
    have c : (k * g.getD i 0).natAbs ≤ 2 ^ 200 := by
      rw [Int.natAbs_mul]
      calc _ ≤ 1 * 2 ^ 200 := Nat.mul_le_mul hk b
        _ = _ := Nat.one_mul _
    have e : (2 : Nat) ^ 201 = 2 ^ 200 + 2 ^ 200 := by decide
    rw [e]
    exact Nat.le_trans (Int.natAbs_add_le _ _) (Nat.add_le_add a c)
  · have := strip_len (sumF k f g)
    unfold sumF at this ⊢
    rw [List.length_map, List.length_range] at this
    omega
theorem prod_sz {f g : List Int} (bf : Bd (2 ^ 200) f) (bg : Bd (2 ^ 200) g) (hf : f.length ≤ 60) (hg : g.length ≤ 60) : (∀ n ∈ strip (prod f g), n.natAbs.log2 < 1920) ∧ (strip (prod f g)).length ≤ 200 := by
  refine ⟨fun n hn => ?_, ?_⟩
  · have := strip_mem hn
    unfold prod at this
    obtain ⟨t, _, rfl⟩ := List.mem_map.mp this
    refine log_small (k := 406) ?_ (by decide)
    have a := pf_bd bg f t bf
    refine Nat.le_trans a (Nat.le_trans (Nat.mul_le_mul_right _ (Nat.le_trans hf (show 60 ≤ 2 ^ 6 by decide))) ?_)
    rw [← Nat.pow_add, ← Nat.pow_add]
    exact Nat.pow_le_pow_right (by decide) (by decide)
  · have := strip_len (prod f g)
    unfold prod at this ⊢
    rw [List.length_map, List.length_range] at this
    omega
theorem row_sz {f : List Int} (bf : Bd (2 ^ 200) f) (hf : f.length ≤ 60) : (∀ n ∈ f, n.natAbs.log2 < 1920) ∧ f.length ≤ 200 := ⟨fun n hn => log_small (bf.mem hn) (by decide), by omega⟩
section
variable {P : Program} {w : World} {K : PySem.W.Frag} {mg : Str → Option Value} {base : Heap}
/-! ### a large row -/
def spLarge : Sp := fun vs H Q _ => ∃ (a l : Addr), vs = [.ref a] ∧ Pen H a l ∧
  ∀ (p : Addr) (ns : List Int) H', ns.length ≤ 41 → Bd (2 ^ 200) ns → But a H H' → H p = none → H' p = some (.tup (ns.map V.int)) → Pen H' a l → Q (.ref p) H'
theorem scLarge : FnScope ["pen", "k"] ["pen"] (defScope sLarge) := ⟨rfl, rfl, rfl, by decide +kernel, rfl, by decide +kernel, by decide +kernel⟩
theorem ok_large {f g c t : Addr} {fd gd cd td : FuncData} (F : Fun K "_law_large" "_law_large" sLarge f fd) (T : Names mg) (GD : FnOk P w K mg base CX0 2 g gd ["pen", "bound"] spDraw) (PD : Def K mg "_law_draw" g gd ["pen", "bound"])
    (GP : FnOk P w K mg base CX0 4 c cd ["pen", "most"] spPoly) (PP : Def K mg "_law_polynomial" c cd ["pen", "most"]) (GS : FnOk P w K mg base CX0 1 t td ["numbers"] (spStrip K)) (PS_ : Def K mg "_law_strip" t td ["numbers"]) :
    FnOk P w K mg base CX0 5 f fd ["pen"] spLarge := by
  refine F.ok scLarge (fun vs H Q E h => ?_) (fun cdv A outer s H vs Q E hr h => ?_)
  · obtain ⟨a, l, rfl, _⟩ := h
    rfl
  · obtain ⟨a, l, rfl, pn, q⟩ := h
    refine ⟨_, (pss_cons (ps_if (pt_cmpR op_eq (pe_call GD (hr.mono (by decide)) (by rfl) PD.is PD.kp PD.bi .nil pass0 (pa_cons (pv 0) (pa_cons pe_int pa_nil))) pe_int (nomark _)) (pss_one (ps_ret (pe_call GP (hr.mono (by decide)) (by rfl) PP.is PP.kp PP.bi .nil pass0 (pa_cons (pv 0) (pa_cons pe_int pa_nil))))) pss_nil)
      (pss_one (ps_ret (pe_call GS (hr.mono (by decide)) (by rfl) PS_.is PS_.kp PS_.bi .nil pass0 (pa_cons (pe_lc (own := [("k", 1)]) (g := gName 1) (tt := tYes) rfl scLarge.nd (pi_range1 rfl T.range (pa_cons (pe_call GD (hr.mono (by decide)) (by rfl) PD.is PD.kp PD.bi .nil pass0 (pa_cons (pv 0) (pa_cons pe_int pa_nil))) pa_nil)) (blkOk_by (N := ["pen", "k"]) (sc := defScope sLarge) (own := [("k", 1)]) (by decide +kernel)) (fun _ _ _ _ _ => (pg_name (i := 1) scLarge.nd rfl (.inl rfl))) (fun _ _ _ _ _ => pts_nil) (fun _ _ _ _ _ => (pe_op op_sub (pe_call GD (hr.mono (by decide)) (by rfl) PD.is PD.kp PD.bi .nil pass0 (pa_cons (pv 0) (pa_cons (pe_op op_pow pe_int pe_int) pa_nil))) (pe_call GD (hr.mono (by decide)) (by rfl) PD.is PD.kp PD.bi .nil pass0 (pa_cons (pv 0) (pa_cons (pe_op op_pow pe_int pe_int) pa_nil)))))) pa_nil))))), ?_⟩
    refine ⟨.ref a, rfl, a, l, 2, rfl, pn, by decide, by decide +kernel, fun d H1 l1 u1 b1 p1 => ⟨rfl, _, rfl, ?_⟩⟩
    have nfree : ∀ {H2 : Hp} {p : Addr}, But a H H2 → Pen H2 a l → H2 p = none → H p = none := fun b2 p2 np => b2.free ((show a ≠ _ from by obtain ⟨_, _, _, ha, _⟩ := p2; exact ne_of_none ha np).symm) np
    refine ite2 (fun _ => ?_) (fun _ => ?_)
    · refine ⟨.ref a, rfl, a, l, 41, rfl, p1, by decide, by decide, fun p ns H2 hl hc hs b2 np e2 p2 => q p ns H2 (by omega) (bd_of fun c hx => Nat.le_trans (Nat.le_of_lt (hc c hx)) (by decide)) (b1.trans b2) (nfree b1 p1 np) e2 p2⟩
    · refine ⟨.ref a, rfl, a, l, 6, rfl, p1, by decide, by decide +kernel, fun n H2 n0 n1 b2 p2 => ⟨n, rfl, by omega, by omega, fun D nD => ?_⟩⟩
      have b12 := b1.trans b2
      have nDa : D ≠ a := by
        obtain ⟨cs, pos, val, ha, _⟩ := p2
        exact (ne_of_none ha nD).symm
      have lD : l ≠ D := by
        obtain ⟨_, _, _, _, hl, _⟩ := p2
        exact ne_of_none hl nD
      have nDH : H D = none := nfree b12 p2 nD
      refine lc_range (lo := 0) (n := n.toNat) (fun i H' => ∃ ns : List Int, H' D = some (.lst (ns.map V.int)) ∧ ns.length = i ∧ (∀ c ∈ ns, c.natAbs ≤ 2 ^ 200) ∧ But a H H' ∧ Pen H' a l)
        ⟨[], upd_same, rfl, by simp, b12.trans (But.of (Same.upd nD)), p2.same (Same.upd nD)⟩ ?_ ?_
      · rintro i H3 hi ⟨ns, hD, hn, hc, b3, p3⟩
        refine ⟨rfl, ?_⟩
        dsimp only [tYes]
        refine iteT ?_
        refine ⟨.ref a, rfl, _, _, rfl, rfl, ⟨by decide, by decide, by decide⟩, a, l, _, rfl, p3, by decide, by decide +kernel, fun c1 H4 lo1 up1 b4 p4 => ?_⟩
        refine ⟨.ref a, rfl, _, _, rfl, rfl, ⟨by decide, by decide, by decide⟩, a, l, _, rfl, p4, by decide, by decide +kernel, fun c2 H5 lo2 up2 b5 p5 => ?_⟩
        have hM : (10 : Int) ^ (60 : Int).toNat ≤ ((2 ^ 200 : Nat) : Int) := by decide +kernel
        have up1' : c1 < (10 : Int) ^ (60 : Int).toNat := up1
        have up2' : c2 < (10 : Int) ^ (60 : Int).toNat := up2
        have hc12 : (c1 - c2).natAbs ≤ 2 ^ 200 := by
          generalize (10 : Int) ^ (60 : Int).toNat = M at hM up1' up2'
          generalize (2 : Nat) ^ 200 = N at hM ⊢
          omega
        have b34 := (b4.mem nDa hD)
        have b35 := (b5.mem nDa b34)
        refine ⟨_, _, rfl, rfl, _, b35, by rw [List.length_map]; exact small1000 (by omega), ns ++ [c1 - c2], ?_, by simp [hn], ?_, ?_, ?_⟩
        · rw [upd_same, List.map_append]
          rfl
        · intro x hx
          rcases List.mem_append.mp hx with hx | hx
          · exact hc x hx
          · rw [List.mem_singleton.mp hx]
            exact hc12
        · intro b o e n
          rw [upd_ne (ne_of_none e nDH)]
          exact b5 _ _ (b4 _ _ (b3 _ _ e n) n) n
        · obtain ⟨cs, pos, val, h1, h2, h3⟩ := p5
          exact ⟨cs, pos, val, by rw [upd_ne (Ne.symm nDa)]; exact h1, by rw [upd_ne lD]; exact h2, h3⟩
      · rintro H3 ⟨ns, hD, hn, hc, b3, p3⟩
        exact ⟨D, ns, rfl, .inl (SqL.of hD), fun p H4 s4 np e4 => q p (strip ns) H4 (by have := strip_len ns; omega) (bd_of fun c hx => hc c (strip_mem hx)) (b3.trans (But.of s4)) (nfree b3 p3 np) e4 (p3.same s4)⟩
/-! ### both at once -/
def spCor (K : PySem.W.Frag) : Sp := fun vs H Q _ => ∃ (x y : Addr) (f g : List Int), vs = [.ref x, .ref y] ∧ SqT K H x (f.map V.int) ∧ SqT K H y (g.map V.int) ∧ f.length ≤ 60 ∧ g.length ≤ 60 ∧ Bd (2 ^ 200) f ∧ Bd (2 ^ 200) g ∧ ∀ H', Same H H' → Q (.bl true) H'
theorem scCor : FnScope ["left", "right", "before", "expected", "results"] ["left", "right"] (defScope sCor) := ⟨rfl, rfl, rfl, by decide +kernel, rfl, by decide +kernel, by decide +kernel⟩
theorem three_dp {H : Hp} {r p1 p2 p3 : Addr} {a b c : List Int} (er : H r = some (.lst [.ref p1, .ref p2, .ref p3])) (e1 : H p1 = some (.tup (a.map V.int))) (e2 : H p2 = some (.tup (b.map V.int))) (e3 : H p3 = some (.tup (c.map V.int))) :
    Dp K H (.ref r) (.list [.tuple (a.map PyData.int), .tuple (b.map PyData.int), .tuple (c.map PyData.int)]) :=
  .lst (SqL.of er) (.cons (.tup (tup_of e1) (dpInts _)) (.cons (.tup (tup_of e2) (dpInts _)) (.cons (.tup (tup_of e3) (dpInts _)) .nil)))
theorem ok_cor {f0 fs fp fa fb fm : Addr} {fd ds dp da db dm : FuncData} (F : Fun K "_law_correct" "_law_correct" sCor f0 fd) (T : Names3 mg)
    (GS : FnOk P w K mg base CX0 2 fs ds ["first", "second", "factor"] (spSum K)) (PS_ : Def K mg "_law_sum" fs ds ["first", "second", "factor"]) (GP : FnOk P w K mg base CX0 2 fp dp ["first", "second"] (spProd K)) (PP : Def K mg "_law_product" fp dp ["first", "second"])
    (GA : FnOk P w K mg base CX0 2 fa da ["one", "other"] (spAdd K 1)) (PA_ : Def K mg "add_polynomials" fa da ["one", "other"]) (kA : KBn K da ["one", "other"] 0 ["other", "one"] (fun _ ws => turned ws) (fun _ zs => turned zs))
    (GB : FnOk P w K mg base CX0 2 fb db ["one", "other"] (spAdd K (-1))) (PB : Def K mg "subtract_polynomials" fb db ["one", "other"]) (kB : KBn K db ["one", "other"] 0 ["other", "one"] (fun _ ws => turned ws) (fun _ zs => turned zs))
    (GM : FnOk P w K mg base CX0 4 fm dm ["one", "other"] (spProd K)) (PM : Def K mg "multiply_polynomials" fm dm ["one", "other"]) (kM : KBn K dm ["one", "other"] 0 ["other", "one"] (fun _ ws => turned ws) (fun _ zs => turned zs)) :
    FnG P w K mg base 5 f0 fd ["left", "right"] (spCor K) := by
  refine fnG_of F scCor (fun vs H Q E h => ?_) (fun cdv A outer s H vs Q E hg hr h => ?_)
  · obtain ⟨x, y, f, g, rfl, _⟩ := h
    rfl
  · obtain ⟨x, y, f, g, rfl, hX, hY, hlf, hlg, bf, bg, q⟩ := h
    have cr := call_repr (X := (cxOf CX0 P w K mg base ["left", "right", "before", "expected", "results"] "_law_correct" (defScope sCor) f0 cdv A outer s H E).nox) hg hr
    refine ⟨_, (pss_cons (ps_set (i := 2) scCor.nd rfl (.inl rfl) (pe_callB cr (by rfl) T.repr (by decide +kernel) (pa_cons (pe_lst (pa_cons (pv 0) (pa_cons (pv 1) pa_nil))) pa_nil)))
      (pss_cons (ps_set (i := 3) scCor.nd rfl (.inl rfl) (pe_lst (pa_cons (pe_call GS (hr.mono (by decide)) (by rfl) PS_.is PS_.kp PS_.bi .nil pass0 (pa_cons (pv 0) (pa_cons (pv 1) (pa_cons pe_int pa_nil)))) (pa_cons (pe_call GS (hr.mono (by decide)) (by rfl) PS_.is PS_.kp PS_.bi .nil pass0 (pa_cons (pv 0) (pa_cons (pv 1) (pa_cons (pe_op op_sub pe_int pe_int) pa_nil)))) (pa_cons (pe_call GP (hr.mono (by decide)) (by rfl) PP.is PP.kp PP.bi .nil pass0 (pa_cons (pv 0) (pa_cons (pv 1) pa_nil))) pa_nil)))))
      (pss_cons (ps_set (i := 4) scCor.nd rfl (.inl rfl) (pe_lst (pa_cons (pe_call GA (hr.mono (by decide)) (by rfl) PA_.is PA_.kp PA_.bi .nil pass0 (pa_cons (pv 0) (pa_cons (pv 1) pa_nil))) (pa_cons (pe_call GB (hr.mono (by decide)) (by rfl) PB.is PB.kp PB.bi .nil pass0 (pa_cons (pv 0) (pa_cons (pv 1) pa_nil))) pa_nil))))
      (pss_cons (ps_expr (pe_bm PySem.F.plainAttrs_list PySem.F.slot_list_append PySem.F.type_list_append mt_append (pv 4) (pa_cons (pe_call GM (hr.mono (by decide)) (by rfl) PM.is PM.kp PM.bi .nil pass0 (pa_cons (pv 0) (pa_cons (pv 1) pa_nil))) pa_nil)))
      (pss_cons (ps_if (pt_cmpR op_ne (pe_callB cr (by rfl) T.repr (by decide +kernel) (pa_cons (pv 4) pa_nil)) (pe_callB cr (by rfl) T.repr (by decide +kernel) (pa_cons (pv 3) pa_nil)) (nomark _)) (pss_one (ps_ret pe_bl)) pss_nil)
      (pss_cons (ps_set (i := 4) scCor.nd rfl (.inl rfl) (pe_lst (pa_cons (pe_named GA (hr.mono (by decide)) (by rfl) PA_.is PA_.kp kA pass0 (pk_cons (pv 1) (pk_cons (pv 0) pk_nil))) (pa_cons (pe_named GB (hr.mono (by decide)) (by rfl) PB.is PB.kp kB pass0 (pk_cons (pv 1) (pk_cons (pv 0) pk_nil))) pa_nil))))
      (pss_cons (ps_expr (pe_bm PySem.F.plainAttrs_list PySem.F.slot_list_append PySem.F.type_list_append mt_append (pv 4) (pa_cons (pe_named GM (hr.mono (by decide)) (by rfl) PM.is PM.kp kM pass0 (pk_cons (pv 1) (pk_cons (pv 0) pk_nil))) pa_nil)))
      (pss_one (ps_ret (pe_and (pe_cmpR op_eq (pe_callB cr (by rfl) T.repr (by decide +kernel) (pa_cons (pv 4) pa_nil)) (pe_callB cr (by rfl) T.repr (by decide +kernel) (pa_cons (pv 3) pa_nil)) (nomark _)) (pe_one (pe_cmpR op_eq (pe_callB cr (by rfl) T.repr (by decide +kernel) (pa_cons (pe_lst (pa_cons (pv 0) (pa_cons (pv 1) pa_nil))) pa_nil)) (pv 2) (nomark _))))))))))))), ?_⟩
    have szf := row_sz bf hlf
    have szg := row_sz bg hlg
    have rows1 : Shows (.list [.tuple (f.map PyData.int), .tuple (g.map PyData.int)]) 50 8000 := shows_rows (rs := [f, g]) (by
      intro r hr
      simp only [List.mem_cons, List.not_mem_nil, or_false] at hr
      rcases hr with rfl | rfl
      · exact szf
      · exact szg) (by show 2 ≤ 3; decide)
    have rows2 : Shows (.list [.tuple ((strip (sumF 1 f g)).map PyData.int), .tuple ((strip (sumF (-1) f g)).map PyData.int), .tuple ((strip (prod f g)).map PyData.int)]) 50 8000 := shows_rows (rs := [strip (sumF 1 f g), strip (sumF (-1) f g), strip (prod f g)]) (by
      intro r hr
      simp only [List.mem_cons, List.not_mem_nil, or_false] at hr
      rcases hr with rfl | rfl | rfl
      · exact sum_sz bf bg hlf hlg (by decide)
      · exact sum_sz bf bg hlf hlg (by decide)
      · exact prod_sz bf bg hlf hlg) (by show 3 ≤ 3; decide)
    refine ⟨.ref x, rfl, .ref y, rfl, by show 2 ≤ sizeLine; decide, fun e ne => ?_⟩
    have s1 := Same.upd (o := .lst [.ref x, .ref y]) ne
    have d1 : Dp K (upd H e (.lst [.ref x, .ref y])) (.ref e) (.list [.tuple (f.map PyData.int), .tuple (g.map PyData.int)]) := .lst (SqL.of upd_same) (.cons (.tup (Same.tup s1 hX) (dpInts _)) (.cons (.tup (Same.tup s1 hY) (dpInts _)) .nil))
    generalize upd H e (.lst [.ref x, .ref y]) = H1 at s1 d1 ⊢
    refine ⟨e, _, rfl, d1, rows1, ?_⟩
    -- expected
    have X1 := Same.tup s1 hX
    have Y1 := Same.tup s1 hY
    refine ⟨.ref x, rfl, .ref y, rfl, x, y, f, g, 1, rfl, X1, Y1, hlf, hlg, bg, by decide, fun p1 H2 s2 n2 e2 => ?_⟩
    refine ⟨.ref x, rfl, .ref y, rfl, _, _, rfl, rfl, x, y, f, g, -1, rfl, Same.tup s2 X1, Same.tup s2 Y1, hlf, hlg, bg, by decide, fun p2 H3 s3 n3 e3 => ?_⟩
    refine ⟨.ref x, rfl, .ref y, rfl, x, y, f, g, rfl, Same.tup s3 (Same.tup s2 X1), Same.tup s3 (Same.tup s2 Y1), hlf, hlg, bf, bg, fun p3 H4 s4 n4 e4 => ?_⟩
    refine ⟨by show 3 ≤ sizeLine; decide, fun L nL => ?_⟩
    have s5 := Same.upd (o := .lst [.ref p1, .ref p2, .ref p3]) nL
    have eL : upd H4 L (.lst [.ref p1, .ref p2, .ref p3]) L = some (.lst [.ref p1, .ref p2, .ref p3]) := upd_same
    have t1 := s5 _ _ (s4 _ _ (s3 _ _ e2))
    have t2 := s5 _ _ (s4 _ _ e3)
    have t3 := s5 _ _ e4
    have s15 := ((s2.trans s3).trans s4).trans s5
    have sH := s1.trans s15
    change (_ : Hp → Prop) (upd H4 L (.lst [.ref p1, .ref p2, .ref p3]))
    generalize upd H4 L (.lst [.ref p1, .ref p2, .ref p3]) = H5 at s5 eL t1 t2 t3 s15 sH ⊢
    clear s5
    have eD : ∀ {H'}, Same H5 H' → Dp K H' (.ref L) (.list [.tuple ((strip (sumF 1 f g)).map PyData.int), .tuple ((strip (sumF (-1) f g)).map PyData.int), .tuple ((strip (prod f g)).map PyData.int)]) := fun s => three_dp (s _ _ eL) (s _ _ t1) (s _ _ t2) (s _ _ t3)
    have X5 := Same.tup sH hX
    have Y5 := Same.tup sH hY
    -- results
    refine ⟨.ref x, rfl, .ref y, rfl, x, y, f, g, rfl, X5, Y5, hlf, hlg, fun a1 H6 s6 n6 e6 => ?_⟩
    refine ⟨.ref x, rfl, .ref y, rfl, x, y, f, g, rfl, Same.tup s6 X5, Same.tup s6 Y5, hlf, hlg, fun a2 H7 s7 n7 e7 => ?_⟩
    refine ⟨by show 2 ≤ sizeLine; decide, fun R nR => ?_⟩
    have s8 := Same.upd (o := .lst [.ref a1, .ref a2]) nR
    have s58 := (s6.trans s7).trans s8
    have nR5 : H5 R = none := (s6.trans s7).free nR
    have eR : upd H7 R (.lst [.ref a1, .ref a2]) R = some (.lst [.ref a1, .ref a2]) := upd_same
    have u1 := s8 _ _ (s7 _ _ e6)
    have u2 := s8 _ _ e7
    change (_ : Hp → Prop) (upd H7 R (.lst [.ref a1, .ref a2]))
    generalize upd H7 R (.lst [.ref a1, .ref a2]) = H8 at s8 s58 eR u1 u2 ⊢
    refine ⟨.ref R, rfl, .inl ⟨rfl, _, SqL.of eR⟩, .ref x, rfl, .ref y, rfl, x, y, f, g, rfl, Same.tup s58 X5, Same.tup s58 Y5, hlf, hlg, bf, bg, fun a3 H9 s9 n9 e9 => ?_⟩
    refine ⟨R, _, .ref a3, rfl, rfl, s9 _ _ eR, by show 2 < sizeLine; decide, ?_⟩
    have sA : Same H5 (upd H9 R (.lst [.ref a1, .ref a2, .ref a3])) := fun b o e => by
      rw [upd_ne (ne_of_none e nR5)]
      exact s9 _ _ (s58 _ _ e)
    have off : ∀ {p : Addr} {l : List V}, H9 p = some (.tup l) → upd H9 R (.lst [.ref a1, .ref a2, .ref a3]) p = some (.tup l) := fun {p l} e => by
      rw [upd_ne (fun z => by rw [z, s9 _ _ eR] at e; cases e)]
      exact e
    have dR : Dp K (upd H9 R (.lst [.ref a1, .ref a2, .ref a3])) (.ref R) (.list [.tuple ((strip (sumF 1 f g)).map PyData.int), .tuple ((strip (sumF (-1) f g)).map PyData.int), .tuple ((strip (prod f g)).map PyData.int)]) :=
      three_dp upd_same (off (s9 _ _ u1)) (off (s9 _ _ u2)) (off e9)
    change (_ : Hp → Prop) (upd H9 R (.lst [.ref a1, .ref a2, .ref a3]))
    generalize upd H9 R (.lst [.ref a1, .ref a2, .ref a3]) = HA at sA dR ⊢
    refine ⟨.ref R, rfl, R, _, rfl, dR, rows2, .ref L, rfl, L, _, rfl, eD sA, rows2, rfl, _, rfl, iteNS rfl ?_⟩
    have XA := Same.tup sA X5
    have YA := Same.tup sA Y5
    -- by their names
    refine ⟨.ref y, rfl, .ref x, rfl, rfl, x, y, f, g, rfl, XA, YA, hlf, hlg, fun b1 HB sB nB eB => ?_⟩
    refine ⟨.ref y, rfl, .ref x, rfl, rfl, x, y, f, g, rfl, Same.tup sB XA, Same.tup sB YA, hlf, hlg, fun b2 HC sC nC eC => ?_⟩
    refine ⟨by show 2 ≤ sizeLine; decide, fun R2 nR2 => ?_⟩
    have sD := Same.upd (o := .lst [.ref b1, .ref b2]) nR2
    have sAD := (sB.trans sC).trans sD
    have nRA : HA R2 = none := (sB.trans sC).free nR2
    have eR2 : upd HC R2 (.lst [.ref b1, .ref b2]) R2 = some (.lst [.ref b1, .ref b2]) := upd_same
    have w1 := sD _ _ (sC _ _ eB)
    have w2 := sD _ _ eC
    change (_ : Hp → Prop) (upd HC R2 (.lst [.ref b1, .ref b2]))
    generalize upd HC R2 (.lst [.ref b1, .ref b2]) = HD at sD sAD eR2 w1 w2 ⊢
    refine ⟨.ref R2, rfl, .inl ⟨rfl, _, SqL.of eR2⟩, .ref y, rfl, .ref x, rfl, rfl, x, y, f, g, rfl, Same.tup sAD XA, Same.tup sAD YA, hlf, hlg, bf, bg, fun b3 HE sE nE eE => ?_⟩
    refine ⟨R2, _, .ref b3, rfl, rfl, sE _ _ eR2, by show 2 < sizeLine; decide, ?_⟩
    have sF : Same HA (upd HE R2 (.lst [.ref b1, .ref b2, .ref b3])) := fun b o e => by
      rw [upd_ne (ne_of_none e nRA)]
      exact sE _ _ (sAD _ _ e)
    have off2 : ∀ {p : Addr} {l : List V}, HE p = some (.tup l) → upd HE R2 (.lst [.ref b1, .ref b2, .ref b3]) p = some (.tup l) := fun {p l} e => by
      rw [upd_ne (fun z => by rw [z, sE _ _ eR2] at e; cases e)]
      exact e
    have dR2 : Dp K (upd HE R2 (.lst [.ref b1, .ref b2, .ref b3])) (.ref R2) (.list [.tuple ((strip (sumF 1 f g)).map PyData.int), .tuple ((strip (sumF (-1) f g)).map PyData.int), .tuple ((strip (prod f g)).map PyData.int)]) :=
      three_dp upd_same (off2 (sE _ _ w1)) (off2 (sE _ _ w2)) (off2 eE)
    change (_ : Hp → Prop) (upd HE R2 (.lst [.ref b1, .ref b2, .ref b3]))
    generalize upd HE R2 (.lst [.ref b1, .ref b2, .ref b3]) = HF at sF dR2 ⊢
    refine ⟨.ref R2, rfl, R2, _, rfl, dR2, rows2, .ref L, rfl, L, _, rfl, eD (sA.trans sF), rows2, ?_⟩
    refine ⟨rfl, _, rfl, ?_⟩
    rw [decide_eq_true rfl, if_pos rfl]
    have XF := Same.tup sF XA
    have YF := Same.tup sF YA
    refine ⟨.ref x, rfl, .ref y, rfl, by show 2 ≤ sizeLine; decide, fun z nz => ?_⟩
    have sG := Same.upd (o := .lst [.ref x, .ref y]) nz
    refine ⟨z, _, rfl, .lst (SqL.of upd_same) (.cons (.tup (Same.tup sG XF) (dpInts _)) (.cons (.tup (Same.tup sG YF) (dpInts _)) .nil)), rows1, _, rfl, rfl, ?_⟩
    rw [decide_eq_true rfl]
    exact q _ (((sH.trans sA).trans sF).trans sG)
end
end Z

set_option Elab.async false
set_option linter.all false
set_option maxRecDepth 100000
set_option maxHeartbeats 4000000
set_option exponentiation.threshold 20000
namespace Z
open PySem PySem.Spec PyProof.Rows L2 GG M3
theorem Pen.apart {H : Hp} {a l e : Addr} (p : Pen H a l) (h : H e = none) : e ≠ a ∧ e ≠ l := by
  obtain ⟨cs, pos, val, ha, hl, _⟩ := p
  exact ⟨(ne_of_none ha h).symm, (ne_of_none hl h).symm⟩
theorem cut_from {xs : List V} {j : Nat} (h : j ≤ xs.length) : cutV xs (some (j : Int)) none = xs.drop j := by
  unfold cutV
  rw [HT.sIx_none, HT.sIx_nat, Nat.min_eq_left h, List.take_of_length_le (by rw [List.length_drop]; omega)]
theorem slA {K : PySem.W.Frag} {x : Addr} {xs : List V} {lo hi : Option Int} {H : Hp} {Q : VK} (hx : SqT K H x xs) (go : ∀ t H', Same H H' → SqT K H' t (cutV xs lo hi) → Q (.ref t) H') : rSlA K (.ref x) lo hi H Q := by
  refine ⟨x, xs, rfl, hx, fun w => go x H (Same.refl _) ?_, fun _ p np => go p _ (Same.upd np) (tup_of upd_same)⟩
  unfold cutV
  rw [w.1, w.2, List.drop_zero, Nat.sub_zero, List.take_length]
  exact hx
theorem catA {K : PySem.W.Frag} {a b : Addr} {xs ys : List V} {H : Hp} {Q : VK} (ha : SqT K H a xs) (hb : SqT K H b ys) (size : xs.length + ys.length ≤ sizeLine) (go : ∀ t H', Same H H' → SqT K H' t (xs ++ ys) → Q (.ref t) H') : rCatA K (.ref a) (.ref b) H Q := by
  refine ⟨a, b, xs, ys, rfl, rfl, ha, hb, size, fun e => go b H (Same.refl _) ?_, fun _ e => go a H (Same.refl _) ?_, fun _ _ p np => go p _ (Same.upd np) (tup_of upd_same)⟩
  · rw [e]
    exact hb
  · rw [e, List.append_nil]
    exact ha
section
variable {P : Program} {w : World} {K : PySem.W.Frag} {mg : Str → Option Value} {base : Heap}
/-- two rows to be reckoned with -/
def CaseP (K : PySem.W.Frag) (H : Hp) (v : V) : Prop := ∃ (t x y : Addr) (f g : List Int), v = .ref t ∧ H t = some (.tup [.ref x, .ref y]) ∧ SqT K H x (f.map V.int) ∧ SqT K H y (g.map V.int) ∧ f.length ≤ 60 ∧ g.length ≤ 60 ∧ Bd (2 ^ 200) f ∧ Bd (2 ^ 200) g
theorem CaseP.same {H H' : Hp} {v : V} (c : CaseP K H v) (s : Same H H') : CaseP K H' v := by
  obtain ⟨t, x, y, f, g, e, ht, hx, hy, r⟩ := c
  exact ⟨t, x, y, f, g, e, s _ _ ht, Same.tup s hx, Same.tup s hy, r⟩
structure RowAt (K : PySem.W.Frag) (H : Hp) (x : Addr) (f : List Int) : Prop where
  at_ : SqT K H x (f.map V.int)
  len : f.length ≤ 60
  bd : Bd (2 ^ 200) f
theorem RowAt.same {H H' : Hp} {x : Addr} {f : List Int} (r : RowAt K H x f) (s : Same H H') : RowAt K H' x f := ⟨Same.tup s r.at_, r.len, r.bd⟩
theorem RowAt.case {H : Hp} {t x y : Addr} {f g : List Int} (a : RowAt K H x f) (b : RowAt K H y g) (nt : H t = none) : CaseP K (upd H t (.tup [.ref x, .ref y])) (.ref t) :=
  ⟨t, x, y, f, g, rfl, upd_same, Same.tup (Same.upd nt) a.at_, Same.tup (Same.upd nt) b.at_, a.len, b.len, a.bd, b.bd⟩
def spLaw (K : PySem.W.Frag) : Sp := fun vs H Q _ => ∃ (a : Addr) (ns : List Int), vs = [.ref a] ∧ SqL K H a (ns.map V.int) ∧ ns.length ≤ 63 ∧ ∀ H', Q (.bl true) H'
theorem scLaw : FnScope ["script", "pen", "turn", "left", "right", "cut", "near", "first", "second", "a"] ["script"] (defScope sLaw) := ⟨rfl, rfl, rfl, by decide +kernel, rfl, by decide +kernel, by decide +kernel⟩
theorem ok_law {f fP fD fL fS fK : Addr} {fd dP dD dL dS dK : FuncData} (F : Fun K "law" "law" sLaw f fd) (T : Names3 mg)
    (GP : FnOk P w K mg base CX0 1 fP dP ["script"] (spPen K)) (P1 : Def K mg "_law_pen" fP dP ["script"])
    (GD : FnOk P w K mg base CX0 2 fD dD ["pen", "bound"] spDraw) (P2 : Def K mg "_law_draw" fD dD ["pen", "bound"])
    (GL : FnOk P w K mg base CX0 5 fL dL ["pen"] spLarge) (P3 : Def K mg "_law_large" fL dL ["pen"])
    (GS : FnOk P w K mg base CX0 1 fS dS ["numbers"] (spStrip K)) (P4 : Def K mg "_law_strip" fS dS ["numbers"])
    (GK : FnG P w K mg base 5 fK dK ["left", "right"] (spCor K)) (P7 : Def K mg "_law_correct" fK dK ["left", "right"]) :
    FnG P w K mg base 6 f fd ["script"] (spLaw K) := by
  refine fnG_of F scLaw (fun vs H Q E h => ?_) (fun cdv A outer s H vs Q E hg hr h => ?_)
  · obtain ⟨a, ns, rfl, _⟩ := h
    rfl
  · obtain ⟨a, ns, rfl, hS, hlen, q⟩ := h
    refine ⟨_, (pss_cons (ps_set (i := 1) scLaw.nd rfl (.inl rfl) (pe_call GP (hr.mono (by decide)) (by rfl) P1.is P1.kp P1.bi .nil pass0 (pa_cons (pv 0) pa_nil)))
      (pss_cons (ps_for PassesOwn.never rfl (pi_range1 rfl T.range (pa_cons (pe_callB (call_max2 rfl) (by rfl) T.max (by decide +kernel) (pa_cons pe_int (pa_cons (pe_callB (call_min2 rfl) (by rfl) T.min (by decide +kernel) (pa_cons pe_int (pa_cons (pe_callB call_len_seq (by rfl) T.len PySem.boot_len (pa_cons (pv 0) pa_nil)) pa_nil))) pa_nil))) pa_nil)) (pg_name (i := 2) scLaw.nd rfl (.inl rfl)) (pss_cons (ps_par (i := 3) (j := 4) (by rfl) scLaw.nd rfl rfl (by decide) rfl rfl (pa_cons (pe_call GL (hr.mono (by decide)) (by rfl) P3.is P3.kp P3.bi .nil pass0 (pa_cons (pv 1) pa_nil)) (pa_cons (pe_call GL (hr.mono (by decide)) (by rfl) P3.is P3.kp P3.bi .nil pass0 (pa_cons (pv 1) pa_nil)) pa_nil)) (by rfl))
      (pss_cons (ps_set (i := 5) scLaw.nd rfl (.inl rfl) (pe_call GD (hr.mono (by decide)) (by rfl) P2.is P2.kp P2.bi .nil pass0 (pa_cons (pv 1) (pa_cons (pe_op op_add (pe_callB call_len_seq (by rfl) T.len PySem.boot_len (pa_cons (pv 3) pa_nil)) pe_int) pa_nil))))
      (pss_cons (ps_set (i := 6) scLaw.nd rfl (.inl rfl) (pe_call GS (hr.mono (by decide)) (by rfl) P4.is P4.kp P4.bi .nil pass0 (pa_cons (pe_op op_catA (pe_callTy call_tuple_of (by rfl) T.tuple (by decide +kernel) (pa_cons (pe_lc (own := [("a", 9)]) (g := gName 9) (tt := tYes) rfl scLaw.nd (pi_tup (pe_slice sl_tupA (pv 3) po_none (po_some (pv 5)))) (blkOk_by (N := ["script", "pen", "turn", "left", "right", "cut", "near", "first", "second", "a"]) (sc := defScope sLaw) (own := [("a", 9)]) (by decide +kernel)) (fun _ _ _ _ _ => (pg_name (i := 9) scLaw.nd rfl (.inl rfl))) (fun _ _ _ _ _ => pts_nil) (fun _ _ _ _ _ => (pe_op op_sub pe_int (pv 9)))) pa_nil)) (pe_callTy call_tuple_of (by rfl) T.tuple (by decide +kernel) (pa_cons (pe_slice sl_tupA (pv 3) (po_some (pv 5)) po_none) pa_nil))) pa_nil)))
      (pss_one (ps_for PassesOwn.never rfl (pi_list (pe_lst (pa_cons (pe_tup (pa_cons (pv 3) (pa_cons (pv 4) pa_nil))) (pa_cons (pe_tup (pa_cons (pv 4) (pa_cons (pv 3) pa_nil))) (pa_cons (pe_tup (pa_cons (pv 3) (pa_cons (pv 3) pa_nil))) (pa_cons (pe_tup (pa_cons (pv 3) (pa_cons (pv 6) pa_nil))) (pa_cons (pe_tup (pa_cons (pv 6) (pa_cons (pv 3) pa_nil))) (pa_cons (pe_tup (pa_cons (pv 3) (pa_cons (pe_tup pa_nil) pa_nil))) pa_nil)))))))) (pg_tup rfl (pgs_cons (pg_name (i := 7) scLaw.nd rfl (.inl rfl)) (pgs_cons (pg_name (i := 8) scLaw.nd rfl (.inl rfl)) pgs_nil))) (pss_one (ps_if (pt_not (pt_val (pe_callG GK hg (hr.mono (by decide)) (by rfl) P7.is P7.kp P7.bi (pa_cons (pv 7) (pa_cons (pv 8) pa_nil))))) (pss_one (ps_ret pe_bl)) pss_nil))))))))
      (pss_one (ps_ret (pe_callG GK hg (hr.mono (by decide)) (by rfl) P7.is P7.kp P7.bi (pa_cons (pe_tup pa_nil) (pa_cons (pe_tup pa_nil) pa_nil))))))), ?_⟩
    -- pen = _law_pen(script)
    refine ⟨.ref a, rfl, a, ns, rfl, hS, hlen, fun p l H1 s1 np nl p1 => ?_⟩
    have hS1 := s1.seq hS
    refine ⟨.ref a, rfl, a, _, rfl, .inl hS1, _, _, rfl, _, _, rfl, _, rfl, ?_, ?_, for_range (lo := 0) (fun i σ H' => ∃ v2 v3 v4 v5 v6 v7 v8 : Option V, σ = [some (V.ref a), some (V.ref p), v2, v3, v4, v5, v6, v7, v8, none] ∧ Pen H' p l) ⟨none, none, none, none, none, none, none, rfl, p1⟩ ?_ ?_⟩
    · show -(2 ^ 62) ≤ _
      repeat' split
      all_goals omega
    · show _ < (2 : Int) ^ 62
      repeat' split
      all_goals omega
    · rintro i σ H' hi ⟨v2, v3, v4, v5, v6, v7, v8, rfl, pn⟩
      refine ⟨.ref p, rfl, p, l, rfl, pn, fun L fs H2 hlL bdL b1 nL eL p2 => ?_⟩
      refine ⟨.ref p, rfl, p, l, rfl, p2, fun R gs H3 hlR bdR b2 nR eR p3 => ?_⟩
      have nLp : L ≠ p := by
        obtain ⟨_, _, _, ha, _⟩ := p2
        exact ne_of eL ha (by intro z; cases z)
      have nRp : R ≠ p := by
        obtain ⟨_, _, _, ha, _⟩ := p3
        exact ne_of eR ha (by intro z; cases z)
      have eL3 := b2.mem nLp eL
      refine ⟨_, _, rfl, ?_⟩
      refine ⟨.ref p, rfl, .ref L, rfl, L, _, rfl, .inr (tup_of eL3), _, _, rfl, rfl, p, l, ((fs.length + 1 : Nat) : Int), ?_, p3, by omega, ?_, fun ci H4 c0 c1 b3 p4 => ?_⟩
      · rw [List.length_map]
        rfl
      · have e64 : (2 : Nat) ^ 6 = 64 := by decide
        have small : (((fs.length + 1 : Nat) : Int)).natAbs ≤ 2 ^ 6 := by
          rw [Int.natAbs_natCast, e64]
          omega
        exact Nat.lt_trans (log_small small (by decide)) (by decide)
      obtain ⟨c, rfl⟩ : ∃ n : Nat, ci = (n : Int) := ⟨ci.toNat, by omega⟩
      have hc : c ≤ fs.length := by omega
      have eL4 := b3.mem nLp eL3
      have eR4 := b3.mem nRp eR
      -- near
      refine ⟨.ref L, rfl, _, rfl, (c : Int), rfl, slA (tup_of eL4) fun t H5 s5 et => ?_⟩
      rw [cut_len, List.length_map, Nat.min_eq_left hc, ← List.map_take] at et
      refine ⟨t, rfl, ⟨_, et⟩, fun D nD => ?_⟩
      refine lc_tup (K := K) (a := t) (xs := (fs.take c).map V.int) (fun k H' => Same H5 H' ∧ H' D = some (.lst ((((fs.take c).take k).map fun z => 0 - z).map V.int))) ⟨Same.upd nD, upd_same⟩ (fun i H _ h => Same.tup h.1 et) ?_ ?_
      · rintro k x H6 hx ⟨s6, e6⟩
        have hk : k < (fs.take c).length := by
          have := (List.getElem?_eq_some_iff.mp hx).1
          rwa [List.length_map] at this
        have ex : x = .int (fs.take c)[k] := by
          rw [List.getElem?_map, List.getElem?_eq_getElem hk] at hx
          exact (Option.some.inj hx).symm
        subst ex
        refine ⟨rfl, ?_⟩
        dsimp only [tYes]
        refine iteT ⟨_, rfl, _, _, rfl, rfl, _, e6, ?_, ?_, ?_⟩
        · simp only [List.length_map, List.length_take]
          exact small1000 (by omega)
        · intro b o e
          rw [upd_ne (ne_of_none e nD)]
          exact s6 _ _ e
        · rw [upd_same, List.take_succ_eq_append_getElem hk, List.map_append, List.map_append]
          rfl
      · rintro H6 ⟨s6, e6⟩
        rw [List.length_map, List.take_length] at e6
        refine ⟨D, _, rfl, .inl ⟨SqL.of e6, fun e1 ne1 => ?_⟩⟩
        have s7 := Same.upd (o := .tup (((fs.take c).map fun z => 0 - z).map V.int)) ne1
        have ee : upd H6 e1 (.tup (((fs.take c).map fun z => 0 - z).map V.int)) e1 = some (.tup (((fs.take c).map fun z => 0 - z).map V.int)) := upd_same
        have s47 := (s5.trans s6).trans s7
        generalize upd H6 e1 (.tup (((fs.take c).map fun z => 0 - z).map V.int)) = H7 at s7 ee s47 ⊢
        clear s7
        refine ⟨.ref L, rfl, _, rfl, (c : Int), rfl, ?_⟩
        dsimp only [tNoPart]
        refine slA (tup_of (s47 _ _ eL4)) fun t2 H8 s8 et2 => ⟨t2, _, rfl, .inr ⟨et2, ?_⟩⟩
        rw [cut_from (by rw [List.length_map]; exact hc), ← List.map_drop] at et2
        refine catA (Same.tup s8 (tup_of ee)) et2 ?_ fun t3 H9 s9 et3 => ?_
        · simp only [List.length_map, List.length_take, List.length_drop]
          exact Nat.le_of_lt (small1000 (by omega))
        rw [← List.map_append] at et3
        obtain ⟨ws, hws⟩ : ∃ ws, ws = ((fs.take c).map fun z => 0 - z) ++ fs.drop c := ⟨_, rfl⟩
        have wl : ws.length ≤ 60 := by
          rw [hws]
          simp only [List.length_append, List.length_map, List.length_take, List.length_drop]
          omega
        have wb : Bd (2 ^ 200) ws := by
          rw [hws]
          refine bd_of fun z hz => ?_
          rcases List.mem_append.mp hz with hz | hz
          · obtain ⟨y, hy, rfl⟩ := List.mem_map.mp hz
            have := bdL.mem (List.mem_of_mem_take hy)
            rwa [Int.zero_sub, Int.natAbs_neg]
          · exact bdL.mem (List.mem_of_mem_drop hz)
        rw [← hws] at et3
        refine ⟨t3, ws, rfl, .inr et3, fun N HA sA nN eN => ?_⟩
        have s4A := (((s47.trans s8).trans s9).trans sA)
        have rowL : RowAt K HA L fs := ⟨tup_of (s4A _ _ eL4), by omega, bdL⟩
        have rowR : RowAt K HA R gs := ⟨tup_of (s4A _ _ eR4), by omega, bdR⟩
        have rowN : RowAt K HA N (strip ws) := ⟨tup_of eN, Nat.le_trans (strip_len ws) wl, bd_of fun z hz => wb.mem (strip_mem hz)⟩
        have pA := p4.same s4A
        clear s47 s4A s9 s8 et2 et3 eN sA nN ee e6 s6 s5 et
        -- the six pairs
        refine ⟨.ref L, rfl, .ref R, rfl, by show 2 ≤ sizeLine; decide, fun t1 m1 => ?_⟩
        have u1 := Same.upd (o := .tup [.ref L, .ref R]) m1
        have c1 := rowL.case rowR m1
        replace rowL := rowL.same u1
        replace rowR := rowR.same u1
        replace rowN := rowN.same u1
        replace pA := pA.same u1
        generalize upd HA t1 (.tup [.ref L, .ref R]) = HB at u1 c1 rowL rowR rowN pA ⊢
        refine ⟨.ref R, rfl, .ref L, rfl, by show 2 ≤ sizeLine; decide, fun t2 m2 => ?_⟩
        have u2 := Same.upd (o := .tup [.ref R, .ref L]) m2
        have c2 := rowR.case rowL m2
        replace c1 := c1.same u2
        replace rowL := rowL.same u2
        replace rowR := rowR.same u2
        replace rowN := rowN.same u2
        replace pA := pA.same u2
        generalize upd HB t2 (.tup [.ref R, .ref L]) = HC at u2 c1 c2 rowL rowR rowN pA ⊢
        refine ⟨.ref L, rfl, .ref L, rfl, by show 2 ≤ sizeLine; decide, fun t3 m3 => ?_⟩
        have u3 := Same.upd (o := .tup [.ref L, .ref L]) m3
        have c3 := rowL.case rowL m3
        replace c1 := c1.same u3
        replace c2 := c2.same u3
        replace rowL := rowL.same u3
        replace rowR := rowR.same u3
        replace rowN := rowN.same u3
        replace pA := pA.same u3
        generalize upd HC t3 (.tup [.ref L, .ref L]) = HD at u3 c1 c2 c3 rowL rowR rowN pA ⊢
        refine ⟨.ref L, rfl, .ref N, rfl, by show 2 ≤ sizeLine; decide, fun t4 m4 => ?_⟩
        have u4 := Same.upd (o := .tup [.ref L, .ref N]) m4
        have c4 := rowL.case rowN m4
        replace c1 := c1.same u4
        replace c2 := c2.same u4
        replace c3 := c3.same u4
        replace rowL := rowL.same u4
        replace rowN := rowN.same u4
        replace pA := pA.same u4
        generalize upd HD t4 (.tup [.ref L, .ref N]) = HE at u4 c1 c2 c3 c4 rowL rowN pA ⊢
        refine ⟨.ref N, rfl, .ref L, rfl, by show 2 ≤ sizeLine; decide, fun t5 m5 => ?_⟩
        have u5 := Same.upd (o := .tup [.ref N, .ref L]) m5
        have c5 := rowN.case rowL m5
        replace c1 := c1.same u5
        replace c2 := c2.same u5
        replace c3 := c3.same u5
        replace c4 := c4.same u5
        replace rowL := rowL.same u5
        replace pA := pA.same u5
        generalize upd HE t5 (.tup [.ref N, .ref L]) = HF at u5 c1 c2 c3 c4 c5 rowL pA ⊢
        refine ⟨.ref L, rfl, Nat.zero_le _, fun z mz => ⟨by show 2 ≤ sizeLine; decide, fun t6 m6 => ?_⟩⟩
        have uz := Same.upd (o := .tup []) mz
        have rowZ : RowAt K (upd HF z (.tup [])) z [] := ⟨tup_of upd_same, Nat.zero_le _, bd_of fun y hy => nomatch hy⟩
        have u6 := Same.upd (o := .tup [.ref L, .ref z]) m6
        have c6 := (rowL.same uz).case rowZ m6
        have uz6 := uz.trans u6
        replace c1 := c1.same uz6
        replace c2 := c2.same uz6
        replace c3 := c3.same uz6
        replace c4 := c4.same uz6
        replace c5 := c5.same uz6
        replace pA := pA.same uz6
        clear rowZ
        generalize upd (upd HF z (.tup [])) t6 (.tup [.ref L, .ref z]) = HG at u6 uz6 c1 c2 c3 c4 c5 c6 pA ⊢
        refine ⟨by show 6 ≤ sizeLine; decide, fun B nB => ?_⟩
        have uB := Same.upd (o := .lst [.ref t1, .ref t2, .ref t3, .ref t4, .ref t5, .ref t6]) nB
        have all : ∀ v ∈ ([.ref t1, .ref t2, .ref t3, .ref t4, .ref t5, .ref t6] : List V), CaseP K (upd HG B (.lst [.ref t1, .ref t2, .ref t3, .ref t4, .ref t5, .ref t6])) v := by
          intro v hv
          simp only [List.mem_cons, List.not_mem_nil, or_false] at hv
          rcases hv with rfl | rfl | rfl | rfl | rfl | rfl
          · exact c1.same uB
          · exact c2.same uB
          · exact c3.same uB
          · exact c4.same uB
          · exact c5.same uB
          · exact c6.same uB
        have eB : upd HG B (.lst [.ref t1, .ref t2, .ref t3, .ref t4, .ref t5, .ref t6]) B = some (.lst [.ref t1, .ref t2, .ref t3, .ref t4, .ref t5, .ref t6]) := upd_same
        replace pA := pA.same uB
        generalize upd HG B (.lst [.ref t1, .ref t2, .ref t3, .ref t4, .ref t5, .ref t6]) = HH at all eB pA ⊢
        refine ⟨B, rfl, ⟨_, SqL.of eB⟩, for_list (K := K) (a := B) (xs := [.ref t1, .ref t2, .ref t3, .ref t4, .ref t5, .ref t6]) (fun k σ H' => ∃ v7 v8 : Option V, σ = [some (V.ref a), some (V.ref p), some (V.int ((0 : Int) + (i : Nat))), some (V.ref L), some (V.ref R), some (V.int (c : Int)), some (V.ref N), v7, v8, none] ∧ Same HH H')
          ⟨_, _, rfl, Same.refl _⟩ (fun i σ H' _ ⟨_, _, _, s⟩ => SqL.of (s _ _ eB)) ?_ ?_⟩
        · rintro k x σ H' hx ⟨v7, v8, rfl, sH⟩
          obtain ⟨t, x', y', f', g', rfl, ht, hx', hy', lf, lg, bf, bg⟩ := (all x (List.mem_of_getElem? hx)).same sH
          refine ⟨t, _, rfl, tup_of ht, rfl, _, _, rfl, _, _, rfl, rfl, ?_⟩
          refine ⟨_, rfl, _, rfl, x', y', f', g', rfl, hx', hy', lf, lg, bf, bg, fun H2 s2 => ?_⟩
          exact ⟨_, rfl, iteF ⟨_, _, rfl, sH.trans s2⟩⟩
        · rintro σ H' ⟨v7, v8, rfl, sH⟩
          exact ⟨_, _, _, _, _, _, _, rfl, pA.same sH⟩
    · rintro σ H' ⟨v2, v3, v4, v5, v6, v7, v8, rfl, pn⟩
      refine ⟨Nat.zero_le _, fun e ne => ⟨Nat.zero_le _, fun e2 ne2 => ⟨e, e2, [], [], rfl, Same.tup (Same.upd ne2) (tup_of upd_same), tup_of upd_same, Nat.zero_le _, Nat.zero_le _, bd_of (fun y hy => nomatch hy), bd_of (fun y hy => nomatch hy), fun H2 s2 => q _⟩⟩⟩
end
theorem all_mk {w : World} {K : PySem.W.Frag} {h : Heap} {mg : Str → Option Value} {fa f0 f1 f2 f3 f4 f5 f6 f7 f8 f9 f10 f11 f12 f13 f14 f15 f16 f17 f18 f19 : Addr} (X : K.In h) (G : h.Ns mainGlobals mg) (hfa : mg "law" = some (.ref fa))
    {od0 an0 od1 an1 od2 an2 od3 an3 od4 an4 od5 an5 od6 an6 od7 an7 od8 an8 od9 an9 od10 an10 od11 an11 od12 an12 od13 an13 od14 an14 od15 an15 od16 an16 od17 an17 od18 an18 od19 an19 : Option Addr} {sl0 sl1 sl2 sl3 sl4 sl5 sl6 sl7 sl8 sl9 sl10 sl11 sl12 sl13 sl14 sl15 sl16 sl17 sl18 sl19 : Array (Option Value)} {oc0 kV0 dc0 pm0 cd0 ct0 oc1 kV1 dc1 pm1 cd1 ct1 oc2 kV2 dc2 pm2 cd2 ct2 oc3 kV3 dc3 pm3 cd3 ct3 oc4 kV4 dc4 pm4 cd4 ct4 oc5 kV5 dc5 pm5 cd5 ct5 oc6 kV6 dc6 pm6 cd6 ct6 oc7 kV7 dc7 pm7 cd7 ct7 oc8 kV8 dc8 pm8 cd8 ct8 oc9 kV9 dc9 pm9 cd9 ct9 oc10 kV10 dc10 pm10 cd10 ct10 oc11 kV11 dc11 pm11 cd11 ct11 oc12 kV12 dc12 pm12 cd12 ct12 oc13 kV13 dc13 pm13 cd13 ct13 oc14 kV14 dc14 pm14 cd14 ct14 oc15 kV15 dc15 pm15 cd15 ct15 oc16 kV16 dc16 pm16 cd16 ct16 oc17 kV17 dc17 pm17 cd17 ct17 oc18 kV18 dc18 pm18 cd18 ct18 oc19 kV19 dc19 pm19 cd19 ct19 : Value}
    {tP : Tok}
    (a0 : PySem.W.nsIn K mainGlobals "_law_pen" = some (some (.ref f0))) (l0 : K.lookup f0 = some ⟨oc0, od0, .func (PySem.W.fnOf "_law_pen" "_law_pen" (defArgs sPen) (defBody sPen) (defScope sPen) .none kV0 dc0 pm0 an0 cd0 ct0), sl0⟩) (c0 : PySem.W.codeIn K cd0 "_law_pen" = true) (k0 : PySem.W.keepIn K (.ref f0) = true)
    (a1 : PySem.W.nsIn K mainGlobals "_law_fresh" = some (some (.ref f1))) (l1 : K.lookup f1 = some ⟨oc1, od1, .func (PySem.W.fnOf "_law_fresh" "_law_fresh" (defArgs sFresh) (defBody sFresh) (defScope sFresh) .none kV1 dc1 pm1 an1 cd1 ct1), sl1⟩) (c1 : PySem.W.codeIn K cd1 "_law_fresh" = true) (k1 : PySem.W.keepIn K (.ref f1) = true)
    (a2 : PySem.W.nsIn K mainGlobals "_law_draw" = some (some (.ref f2))) (l2 : K.lookup f2 = some ⟨oc2, od2, .func (PySem.W.fnOf "_law_draw" "_law_draw" (defArgs sDraw) (defBody sDraw) (defScope sDraw) .none kV2 dc2 pm2 an2 cd2 ct2), sl2⟩) (c2 : PySem.W.codeIn K cd2 "_law_draw" = true) (k2 : PySem.W.keepIn K (.ref f2) = true)
    (a3 : PySem.W.nsIn K mainGlobals "_law_strip" = some (some (.ref f3))) (l3 : K.lookup f3 = some ⟨oc3, od3, .func (PySem.W.fnOf "_law_strip" "_law_strip" (defArgs sStrip) (defBody sStrip) (defScope sStrip) .none kV3 dc3 pm3 an3 cd3 ct3), sl3⟩) (c3 : PySem.W.codeIn K cd3 "_law_strip" = true) (k3 : PySem.W.keepIn K (.ref f3) = true)
    (a4 : PySem.W.nsIn K mainGlobals "_law_coefficient" = some (some (.ref f4))) (l4 : K.lookup f4 = some ⟨oc4, od4, .func (PySem.W.fnOf "_law_coefficient" "_law_coefficient" (defArgs sCoef) (defBody sCoef) (defScope sCoef) .none kV4 dc4 pm4 an4 cd4 ct4), sl4⟩) (c4 : PySem.W.codeIn K cd4 "_law_coefficient" = true) (k4 : PySem.W.keepIn K (.ref f4) = true)
    (a5 : PySem.W.nsIn K mainGlobals "_law_polynomial" = some (some (.ref f5))) (l5 : K.lookup f5 = some ⟨oc5, od5, .func (PySem.W.fnOf "_law_polynomial" "_law_polynomial" (defArgs sPoly) (defBody sPoly) (defScope sPoly) .none kV5 dc5 pm5 an5 cd5 ct5), sl5⟩) (c5 : PySem.W.codeIn K cd5 "_law_polynomial" = true) (k5 : PySem.W.keepIn K (.ref f5) = true)
    (a6 : PySem.W.nsIn K mainGlobals "trim_zeros" = some (some (.ref f6))) (l6 : K.lookup f6 = some ⟨oc6, od6, .func (PySem.W.fnOf "trim_zeros" "trim_zeros" (defArgs sTrim) (defBody sTrim) (defScope sTrim) .none kV6 dc6 pm6 an6 cd6 ct6), sl6⟩) (c6 : PySem.W.codeIn K cd6 "trim_zeros" = true) (k6 : PySem.W.keepIn K (.ref f6) = true)
    (a7 : PySem.W.nsIn K mainGlobals "add_polynomials" = some (some (.ref f7))) (l7 : K.lookup f7 = some ⟨oc7, od7, .func (PySem.W.fnOf "add_polynomials" "add_polynomials" (defArgs sAdd) (defBody sAdd) (defScope sAdd) .none kV7 dc7 pm7 an7 cd7 ct7), sl7⟩) (c7 : PySem.W.codeIn K cd7 "add_polynomials" = true) (k7 : PySem.W.keepIn K (.ref f7) = true)
    (a8 : PySem.W.nsIn K mainGlobals "subtract_polynomials" = some (some (.ref f8))) (l8 : K.lookup f8 = some ⟨oc8, od8, .func (PySem.W.fnOf "subtract_polynomials" "subtract_polynomials" (defArgs sSub) (defBody sSub) (defScope sSub) .none kV8 dc8 pm8 an8 cd8 ct8), sl8⟩) (c8 : PySem.W.codeIn K cd8 "subtract_polynomials" = true) (k8 : PySem.W.keepIn K (.ref f8) = true)
    (a9 : PySem.W.nsIn K mainGlobals "multiply_polynomials" = some (some (.ref f9))) (l9 : K.lookup f9 = some ⟨oc9, od9, .func (PySem.W.fnOf "multiply_polynomials" "multiply_polynomials" (defArgs sMul) (defBody sMul) (defScope sMul) .none kV9 dc9 pm9 an9 cd9 ct9), sl9⟩) (c9 : PySem.W.codeIn K cd9 "multiply_polynomials" = true) (k9 : PySem.W.keepIn K (.ref f9) = true)
    (a10 : PySem.W.nsIn K mainGlobals "_law_product" = some (some (.ref f10))) (l10 : K.lookup f10 = some ⟨oc10, od10, .func (PySem.W.fnOf "_law_product" "_law_product" (defArgs sProd) (defBody sProd) (defScope sProd) .none kV10 dc10 pm10 an10 cd10 ct10), sl10⟩) (c10 : PySem.W.codeIn K cd10 "_law_product" = true) (k10 : PySem.W.keepIn K (.ref f10) = true)
    (a11 : PySem.W.nsIn K mainGlobals "_law_sum" = some (some (.ref f11))) (l11 : K.lookup f11 = some ⟨oc11, od11, .func (PySem.W.fnOf "_law_sum" "_law_sum" (defArgs sSum) (defBody sSum) (defScope sSum) .none kV11 dc11 pm11 an11 cd11 ct11), sl11⟩) (c11 : PySem.W.codeIn K cd11 "_law_sum" = true) (k11 : PySem.W.keepIn K (.ref f11) = true)
    (a12 : PySem.W.nsIn K mainGlobals "_law_large" = some (some (.ref f12))) (l12 : K.lookup f12 = some ⟨oc12, od12, .func (PySem.W.fnOf "_law_large" "_law_large" (defArgs sLarge) (defBody sLarge) (defScope sLarge) .none kV12 dc12 pm12 an12 cd12 ct12), sl12⟩) (c12 : PySem.W.codeIn K cd12 "_law_large" = true) (k12 : PySem.W.keepIn K (.ref f12) = true)
    (a13 : PySem.W.nsIn K mainGlobals "_law_correct" = some (some (.ref f13))) (l13 : K.lookup f13 = some ⟨oc13, od13, .func (PySem.W.fnOf "_law_correct" "_law_correct" (defArgs sCor) (defBody sCor) (defScope sCor) .none kV13 dc13 pm13 an13 cd13 ct13), sl13⟩) (c13 : PySem.W.codeIn K cd13 "_law_correct" = true) (k13 : PySem.W.keepIn K (.ref f13) = true)
    (a14 : PySem.W.nsIn K mainGlobals "value_at_power" = some (some (.ref f14))) (l14 : K.lookup f14 = some ⟨oc14, od14, .func (PySem.W.fnOf "value_at_power" "value_at_power" (defArgs sVap) (defBody sVap) (defScope sVap) .none kV14 dc14 pm14 an14 cd14 ct14), sl14⟩) (c14 : PySem.W.codeIn K cd14 "value_at_power" = true) (k14 : PySem.W.keepIn K (.ref f14) = true)
    (a15 : PySem.W.nsIn K mainGlobals "read_coefficients" = some (some (.ref f15))) (l15 : K.lookup f15 = some ⟨oc15, od15, .func (PySem.W.fnOf "read_coefficients" "read_coefficients" (defArgs sRead) (defBody sRead) (defScope sRead) .none kV15 dc15 pm15 an15 cd15 ct15), sl15⟩) (c15 : PySem.W.codeIn K cd15 "read_coefficients" = true) (k15 : PySem.W.keepIn K (.ref f15) = true)
    (a16 : PySem.W.nsIn K mainGlobals "scale_polynomial" = some (some (.ref f16))) (l16 : K.lookup f16 = some ⟨oc16, od16, .func (PySem.W.fnOf "scale_polynomial" "scale_polynomial" (defArgs sScale) (defBody sScale) (defScope sScale) .none kV16 dc16 pm16 an16 cd16 ct16), sl16⟩) (c16 : PySem.W.codeIn K cd16 "scale_polynomial" = true) (k16 : PySem.W.keepIn K (.ref f16) = true)
    (a17 : PySem.W.nsIn K mainGlobals "count_bits" = some (some (.ref f17))) (l17 : K.lookup f17 = some ⟨oc17, od17, .func (PySem.W.fnOf "count_bits" "count_bits" (defArgs sCnt) (defBody sCnt) (defScope sCnt) .none kV17 dc17 pm17 an17 cd17 ct17), sl17⟩) (c17 : PySem.W.codeIn K cd17 "count_bits" = true) (k17 : PySem.W.keepIn K (.ref f17) = true)
    (a18 : PySem.W.nsIn K mainGlobals "multiply_packed" = some (some (.ref f18))) (l18 : K.lookup f18 = some ⟨oc18, od18, .func (PySem.W.fnOf "multiply_packed" "multiply_packed" (defArgs sPack) (defBody sPack) (defScope sPack) .none kV18 dc18 pm18 an18 cd18 ct18), sl18⟩) (c18 : PySem.W.codeIn K cd18 "multiply_packed" = true) (k18 : PySem.W.keepIn K (.ref f18) = true)
    (a19 : PySem.W.nsIn K mainGlobals "law" = some (some (.ref f19))) (l19 : K.lookup f19 = some ⟨oc19, od19, .func (PySem.W.fnOf "law" "law" (defArgs sLaw) (defBody sLaw) (defScope sLaw) .none kV19 dc19 pm19 an19 cd19 ct19), sl19⟩) (c19 : PySem.W.codeIn K cd19 "law" = true) (k19 : PySem.W.keepIn K (.ref f19) = true)
    (z_list : PySem.W.nsIn K mainGlobals "list" = some none)
    (z_tuple : PySem.W.nsIn K mainGlobals "tuple" = some none)
    (z_len : PySem.W.nsIn K mainGlobals "len" = some none)
    (z_range : PySem.W.nsIn K mainGlobals "range" = some none)
    (z_max : PySem.W.nsIn K mainGlobals "max" = some none)
    (z_min : PySem.W.nsIn K mainGlobals "min" = some none)
    (z_enumerate : PySem.W.nsIn K mainGlobals "enumerate" = some none)
    (z_repr : PySem.W.nsIn K mainGlobals "repr" = some none)
    (z_zip : PySem.W.nsIn K mainGlobals "zip" = some none)
    (z_reversed : PySem.W.nsIn K mainGlobals "reversed" = some none)
    (x_zip_longest : PySem.W.nsIn K mainGlobals "zip_longest" = some (some (.type "itertools.zip_longest")))
    (x_PACKED_TERMS : PySem.W.nsIn K mainGlobals "PACKED_TERMS" = some (some (.int 1000 tP)))
    : ∃ fd : FuncData, (∀ (s : Shared) (v : Value), BindsTo s fd ⟨[v], []⟩ [("script", v)]) ∧ ∀ base : Heap, K.In base → base.Ns mainGlobals mg → FnG (PySem.Challenge.rw_bentcoin_k01_rows_reckoned).prog w K mg base 6 fa fd ["script"] (spLaw K) := by
  have e := hfa.symm.trans (PySem.W.mg_of X G a19)
  cases e
  have F0 := fun_mk (st := sPen) l0 c0 k0
  have b0 := F0.binds (ps := ["script"]) fun _ _ _ _ _ _ us hl => match us, hl with | [_], _ => rfl
  have F1 := fun_mk (st := sFresh) l1 c1 k1
  have b1 := F1.binds (ps := ["pen"]) fun _ _ _ _ _ _ us hl => match us, hl with | [_], _ => rfl
  have F2 := fun_mk (st := sDraw) l2 c2 k2
  have b2 := F2.binds (ps := ["pen", "bound"]) fun _ _ _ _ _ _ us hl => match us, hl with | [_, _], _ => rfl
  have F3 := fun_mk (st := sStrip) l3 c3 k3
  have b3 := F3.binds (ps := ["numbers"]) fun _ _ _ _ _ _ us hl => match us, hl with | [_], _ => rfl
  have F4 := fun_mk (st := sCoef) l4 c4 k4
  have b4 := F4.binds (ps := ["pen"]) fun _ _ _ _ _ _ us hl => match us, hl with | [_], _ => rfl
  have F5 := fun_mk (st := sPoly) l5 c5 k5
  have b5 := F5.binds (ps := ["pen", "most"]) fun _ _ _ _ _ _ us hl => match us, hl with | [_, _], _ => rfl
  have F6 := fun_mk (st := sTrim) l6 c6 k6
  have b6 := F6.binds (ps := ["coefficients"]) fun _ _ _ _ _ _ us hl => match us, hl with | [_], _ => rfl
  have F7 := fun_mk (st := sAdd) l7 c7 k7
  have b7 := F7.binds (ps := ["one", "other"]) fun _ _ _ _ _ _ us hl => match us, hl with | [_, _], _ => rfl
  have F8 := fun_mk (st := sSub) l8 c8 k8
  have b8 := F8.binds (ps := ["one", "other"]) fun _ _ _ _ _ _ us hl => match us, hl with | [_, _], _ => rfl
  have F9 := fun_mk (st := sMul) l9 c9 k9
  have b9 := F9.binds (ps := ["one", "other"]) fun _ _ _ _ _ _ us hl => match us, hl with | [_, _], _ => rfl
  have F10 := fun_mk (st := sProd) l10 c10 k10
  have b10 := F10.binds (ps := ["first", "second"]) fun _ _ _ _ _ _ us hl => match us, hl with | [_, _], _ => rfl
  have F11 := fun_mk (st := sSum) l11 c11 k11
  have b11 := F11.binds (ps := ["first", "second", "factor"]) fun _ _ _ _ _ _ us hl => match us, hl with | [_, _, _], _ => rfl
  have F12 := fun_mk (st := sLarge) l12 c12 k12
  have b12 := F12.binds (ps := ["pen"]) fun _ _ _ _ _ _ us hl => match us, hl with | [_], _ => rfl
  have F13 := fun_mk (st := sCor) l13 c13 k13
  have b13 := F13.binds (ps := ["left", "right"]) fun _ _ _ _ _ _ us hl => match us, hl with | [_, _], _ => rfl
  have F14 := fun_mk (st := sVap) l14 c14 k14
  have b14 := F14.binds (ps := ["polynomial", "bits"]) fun _ _ _ _ _ _ us hl => match us, hl with | [_, _], _ => rfl
  have F15 := fun_mk (st := sRead) l15 c15 k15
  have b15 := F15.binds (ps := ["value", "bits"]) fun _ _ _ _ _ _ us hl => match us, hl with | [_, _], _ => rfl
  have F16 := fun_mk (st := sScale) l16 c16 k16
  have b16 := F16.binds (ps := ["polynomial", "factor"]) fun _ _ _ _ _ _ us hl => match us, hl with | [_, _], _ => rfl
  have F17 := fun_mk (st := sCnt) l17 c17 k17
  have b17 := F17.binds (ps := ["polynomial"]) fun _ _ _ _ _ _ us hl => match us, hl with | [_], _ => rfl
  have F18 := fun_mk (st := sPack) l18 c18 k18
  have b18 := F18.binds (ps := ["one", "other"]) fun _ _ _ _ _ _ us hl => match us, hl with | [_, _], _ => rfl
  have F19 := fun_mk (st := sLaw) l19 c19 k19
  refine ⟨PySem.W.fnOf "law" "law" (defArgs sLaw) (defBody sLaw) (defScope sLaw) .none kV19 dc19 pm19 an19 cd19 ct19, fun s v => .of_eq rfl, fun base _ _ => ?_⟩
  have m : ∀ {x : Str} {u : Value}, PySem.W.nsIn K mainGlobals x = some (some u) → mg x = some u := fun e => PySem.W.mg_of X G e
  have T : Names3 mg := ⟨⟨PySem.W.mg_none_of X G z_list, PySem.W.mg_none_of X G z_tuple, PySem.W.mg_none_of X G z_len, PySem.W.mg_none_of X G z_range⟩, PySem.W.mg_none_of X G z_max, PySem.W.mg_none_of X G z_min, PySem.W.mg_none_of X G z_enumerate, PySem.W.mg_none_of X G z_repr, PySem.W.mg_none_of X G z_zip, m x_zip_longest⟩
  have G0 := ok_pen (P := PySem.Challenge.pw_bentcoin_k01_rows_reckoned) (w := w) (mg := mg) (base := base) F0 T.toNames
  have G1 := ok_fresh (P := PySem.Challenge.pw_bentcoin_k01_rows_reckoned) (w := w) (mg := mg) (base := base) F1 T.toNames
  have G2 := ok_draw F2 G1 (m a1) k1 b1
  have G3 := ok_strip (P := PySem.Challenge.pw_bentcoin_k01_rows_reckoned) (w := w) (mg := mg) (base := base) F3 T.toNames
  have G4 := ok_coef F4 G2 (m a2) k2 b2
  have G5 := ok_poly F5 T.toNames G2 (m a2) k2 b2 G4 (m a4) k4 b4 G3 (m a3) k3 b3
  have G6 := ok_trim (P := PySem.Challenge.pw_bentcoin_k01_rows_reckoned) (w := w) (mg := mg) (base := base) F6 T.toNames
  have G7 := ok_add F7 T G6 ⟨m a6, k6, b6⟩
  have G8 := ok_sub F8 T G6 ⟨m a6, k6, b6⟩
  have G14 := ok_vap (P := PySem.Challenge.pw_bentcoin_k01_rows_reckoned) (w := w) (mg := mg) (base := base) F14 (PySem.W.mg_none_of X G z_reversed)
  have G15 := ok_read (P := PySem.Challenge.pw_bentcoin_k01_rows_reckoned) (w := w) (mg := mg) (base := base) F15
  have G16 := ok_scale F16 G6 ⟨m a6, k6, b6⟩
  have G17 := ok_cnt (P := PySem.Challenge.pw_bentcoin_k01_rows_reckoned) (w := w) (mg := mg) (base := base) F17 T.max
  have G18 := ok_pack F18 T G17 ⟨m a17, k17, b17⟩ G14 ⟨m a14, k14, b14⟩ G15 ⟨m a15, k15, b15⟩ G16 ⟨m a16, k16, b16⟩ G6 ⟨m a6, k6, b6⟩
  have G9 := ok_mul F9 T G6 ⟨m a6, k6, b6⟩ G18 ⟨m a18, k18, b18⟩ (m x_PACKED_TERMS)
  have G10 := ok_prod F10 T G3 ⟨m a3, k3, b3⟩
  have G11 := ok_sum F11 T G3 ⟨m a3, k3, b3⟩
  have G12 := ok_large F12 T.toNames G2 ⟨m a2, k2, b2⟩ G5 ⟨m a5, k5, b5⟩ G3 ⟨m a3, k3, b3⟩
  have G13 := ok_cor F13 T G11 ⟨m a11, k11, b11⟩ G10 ⟨m a10, k10, b10⟩ G7 ⟨m a7, k7, b7⟩ (named2 F7 fun _ _ _ _ _ _ _ _ => rfl) G8 ⟨m a8, k8, b8⟩ (named2 F8 fun _ _ _ _ _ _ _ _ => rfl) G9 ⟨m a9, k9, b9⟩ (named2 F9 fun _ _ _ _ _ _ _ _ => rfl)
  exact ok_law F19 T G0 ⟨m a0, k0, b0⟩ G2 ⟨m a2, k2, b2⟩ G12 ⟨m a12, k12, b12⟩ G3 ⟨m a3, k3, b3⟩ G13 ⟨m a13, k13, b13⟩
end Z
open PySem PySem.W PyProof.Rows
set_option maxRecDepth 100000 in
set_option maxHeartbeats 0 in
theorem PySem.Challenge.cw_bentcoin_k01_rows_reckoned_holds : PySem.Challenge.rw_bentcoin_k01_rows_reckoned.Holds := by
  w_on; o_law; k_head; (case hw => w_witness2)
  k_fill
  refine GG.walkG (l := PySem.Challenge.rw_bentcoin_k01_rows_reckoned) (n := 63) (k := 6) (x := "script") (sp := Z.spLaw) rfl (by decide) rfl ⟨rfl, by decide, by decide⟩ (fun w h Y => PySem.W.kIn_of Y) ?F (fun _ _ a ns hl hS => ⟨a, ns, rfl, hS, hl, fun _ => rfl⟩)
  case F =>
    intro w mg fa h KX G hmg
    refine' Z.all_mk KX G hmg ?a0 ?l0 ?c0 ?k0 ?a1 ?l1 ?c1 ?k1 ?a2 ?l2 ?c2 ?k2 ?a3 ?l3 ?c3 ?k3 ?a4 ?l4 ?c4 ?k4 ?a5 ?l5 ?c5 ?k5 ?a6 ?l6 ?c6 ?k6 ?a7 ?l7 ?c7 ?k7 ?a8 ?l8 ?c8 ?k8 ?a9 ?l9 ?c9 ?k9 ?a10 ?l10 ?c10 ?k10 ?a11 ?l11 ?c11 ?k11 ?a12 ?l12 ?c12 ?k12 ?a13 ?l13 ?c13 ?k13 ?a14 ?l14 ?c14 ?k14 ?a15 ?l15 ?c15 ?k15 ?a16 ?l16 ?c16 ?k16 ?a17 ?l17 ?c17 ?k17 ?a18 ?l18 ?c18 ?k18 ?a19 ?l19 ?c19 ?k19 ?z_list ?z_tuple ?z_len ?z_range ?z_max ?z_min ?z_enumerate ?z_repr ?z_zip ?z_reversed ?x_zip_longest ?x_PACKED_TERMS
    (case a0 => k_is)
    (case l0 => k_is)
    (case c0 => k_is)
    (case k0 => k_is)
    (case a1 => k_is)
    (case l1 => k_is)
    (case c1 => k_is)
    (case k1 => k_is)
    (case a2 => k_is)
    (case l2 => k_is)
    (case c2 => k_is)
    (case k2 => k_is)
    (case a3 => k_is)
    (case l3 => k_is)
    (case c3 => k_is)
    (case k3 => k_is)
    (case a4 => k_is)
    (case l4 => k_is)
    (case c4 => k_is)
    (case k4 => k_is)
    (case a5 => k_is)
    (case l5 => k_is)
    (case c5 => k_is)
    (case k5 => k_is)
    (case a6 => k_is)
    (case l6 => k_is)
    (case c6 => k_is)
    (case k6 => k_is)
    (case a7 => k_is)
    (case l7 => k_is)
    (case c7 => k_is)
    (case k7 => k_is)
    (case a8 => k_is)
    (case l8 => k_is)
    (case c8 => k_is)
    (case k8 => k_is)
    (case a9 => k_is)
    (case l9 => k_is)
    (case c9 => k_is)
    (case k9 => k_is)
    (case a10 => k_is)
    (case l10 => k_is)
    (case c10 => k_is)
    (case k10 => k_is)
    (case a11 => k_is)
    (case l11 => k_is)
    (case c11 => k_is)
    (case k11 => k_is)
    (case a12 => k_is)
    (case l12 => k_is)
    (case c12 => k_is)
    (case k12 => k_is)
    (case a13 => k_is)
    (case l13 => k_is)
    (case c13 => k_is)
    (case k13 => k_is)
    (case a14 => k_is)
    (case l14 => k_is)
    (case c14 => k_is)
    (case k14 => k_is)
    (case a15 => k_is)
    (case l15 => k_is)
    (case c15 => k_is)
    (case k15 => k_is)
    (case a16 => k_is)
    (case l16 => k_is)
    (case c16 => k_is)
    (case k16 => k_is)
    (case a17 => k_is)
    (case l17 => k_is)
    (case c17 => k_is)
    (case k17 => k_is)
    (case a18 => k_is)
    (case l18 => k_is)
    (case c18 => k_is)
    (case k18 => k_is)
    (case a19 => k_is)
    (case l19 => k_is)
    (case c19 => k_is)
    (case k19 => k_is)
    (case z_list => k_is)
    (case z_tuple => k_is)
    (case z_len => k_is)
    (case z_range => k_is)
    (case z_max => k_is)
    (case z_min => k_is)
    (case z_enumerate => k_is)
    (case z_repr => k_is)
    (case z_zip => k_is)
    (case z_reversed => k_is)
    (case x_zip_longest => k_is)
    (case x_PACKED_TERMS => k_is)
