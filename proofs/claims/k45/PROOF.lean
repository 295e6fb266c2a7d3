import PyProof.Rows.All
import Wide.All
import OpenK.AllK
import Wide.FinOn
import HandS.ForMost
import HandS.Defaults
import HandS.Wide
import HandS.Rev
import HandS.Flow
import HandS.Zip
import HandS.StrMore
import HandS.Conv
import KE.GoesEnum
import PyProof.StrLawsIn
import HandS.Gcd
import KE.KMathGC
import HandS.Iter
import PyProof.StrOps2
import HandS.Text
import HandS.RaiseMore
import PySem.Challenge.RW_bentcoin_k45_recipes_run
set_option Elab.async false
set_option maxRecDepth 100000
set_option maxHeartbeats 4000000
/-! Defs that are run where no text of an object is being made: so that repr gives the whole text. -/
namespace GG
open PySem PySem.Spec PyProof.Rows L2
section
variable {P : Program} {w : World} {K : PySem.W.Frag} {mg : Str → Option Value} {base : Heap}
structure FnG (P : Program) (w : World) (K : PySem.W.Frag) (mg : Str → Option Value) (base : Heap) (k : Nat) (f : Addr) (fd : FuncData) (ps : List Str) (sp : Sp) : Prop where
  size : ∀ vs H Q E, sp vs H Q E → vs.length = ps.length
  goes : ∀ (A : Around) (o : List Env) (s : Shared) (H : Hp) (ar : Args) (us : List Value) (vs : List V) (Q : VK) (E : XK),
    A.guards = some [] → Room k A → Env0 P w K mg base A o s H → BindsTo s fd ar (ps.zip us) → Vals vs us → sp vs H Q E →
    codeAny (model P w) A (.call (.ref f) ar) (CR CX0 o P w H s Q E) s

theorem fnG_of {x qual : Str} {st : Stmt} {f : Addr} {fd : FuncData} {N ps : List Str} {k : Nat} {sp : Sp}
    (F : Fun K x qual st f fd) (S : FnScope N ps (defScope st)) (size : ∀ vs H Q E, sp vs H Q E → vs.length = ps.length)
    (body : ∀ (cd : Value) (A : Around) (o : List Env) (s : Shared) (H : Hp) (vs : List V) (Q : VK) (E : XK),
      A.guards = some [] → Room k (A.deeper (envOfC qual (defScope st) s.heap.objs.size f cd)) → sp vs H Q E →
      ∃ t, PSs (cxOf CX0 P w K mg base N qual (defScope st) f cd A o s H E).nox (defBody st) t ∧
        t { nx := fun _ H' => Q .non H', rt := Q } (start N vs) H) :
    FnG P w K mg base (k + 1) f fd ps sp := by
  obtain ⟨oc, od, kV, doc, pm, an, cd, ct, slots, rfl, found, code⟩ := F.ex
  refine ⟨size, ?_⟩
  intro A o s H ar us vs Q E gA room e0 hbind given asked
  have inK : K.In s.heap := e0.mod.kin.keeps fun b u e => (e0.bs b u e).1
  have free : s.heap.NoLimit := e0.mod.nolimit.keeps fun b u e => (e0.bs b u e).1
  have many := size vs H Q E asked
  have kinds : ∀ y ∈ ps.zip us, (defScope st).names.lookup y.1 = some .local ∨ ((defScope st).names.lookup y.1 = some .cell ∧
      ((cellsFrom (s.heap.objs.size + 1) (defScope st).names []).lookup y.1).isSome = true) := by
    rintro ⟨n, v⟩ hy
    cases S.par n (List.of_mem_zip hy).1 with
    | inl q => exact Or.inl q
    | inr q => exact Or.inr ⟨q, PySem.W.cellsFrom_some _ _ _ (Or.inl q)⟩
  apply codeAny_call_function room.depth (inK _ _ found) rfl S.co S.gen rfl (PySem.W.codeRec_of inK code)
  apply hbind
  apply wpAny_newFunctionEnv_cells S.kind kinds
  intro env he s1 ready
  subst he
  refine ⟨free.keeps ready.toInCall.keep, ?_⟩
  apply codeAny_func
  obtain ⟨t, ht, hq⟩ := body cd A o s H vs Q E gA (room.deeper _) asked
  have first := inv_start (E := E) (CX := CX0) S room.hd e0 many given ready
  refine wpAny_mono (ht.nox.run [] s1 (start N vs) H _ first hq) (fun fl s' hs => ?_) (fun e s' hs => hs)
  cases fl with
  | next =>
    obtain ⟨σ', H', J, q⟩ := hs
    exact ⟨V.non, H', J.os, J.bare, J.base, J.hok, rfl, q⟩
  | ret u =>
    obtain ⟨v, σ', H', J, rv, q⟩ := hs
    exact ⟨v, H', J.os, J.bare, J.base, J.hok, rv, q⟩
  | brk => exact hs.elim fun _ z => z.elim fun _ z => z.elim fun _ z => z.elim
  | cont => exact hs.elim fun _ z => z.elim fun _ z => z.elim fun _ z => z.elim

/-- what is left of the heap when the script stands alone in it -/
def one (a : Addr) (o : HO) : Hp := fun b => if b = a then some o else none
theorem one_at {a : Addr} {o : HO} : one a o a = some o := if_pos rfl
theorem one_no {a b : Addr} {o : HO} (h : b ≠ a) : one a o b = none := if_neg h

section
variable {mb : Str → Option Value} {k : Nat} {fa a : Addr} {fd : FuncData} {x : Str} {sp : Sp} {s₁ : Shared} {vs : List Value} {ns : List Int}
abbrev Fine (s₁ : Shared) (r : Result) (s' : Shared) : Prop := r = .ok (.ret (.bool true)) ∧ OldK s₁.heap s'.heap ∧ s'.os = s₁.os ∧ AllBare s'.gens

/-- from a heap in which at most the script is told of -/
theorem from_heap {H : Hp} (inK : K.In (hidT s₁.heap H)) (names : (hidT s₁.heap H).Ns mainGlobals mg) (blt : (hidT s₁.heap H).Ns builtinsNs mb)
    (known : ∀ y : Str, y ≠ "__name__" → mb y = bootBuiltins y) (free : (hidT s₁.heap H).NoLimit) (none_ : s₁.gens = #[])
    (alone : ∀ b, H b = none ∨ ∃ o xs, H b = some (.frz o (.lst xs))) (hok : HOk P w H s₁.heap) (room : Room k callerA)
    (F : FnG P w K mg (hidT s₁.heap H) k fa fd [x] sp) (binds : ∀ (s : Shared) (u : Value), BindsTo s fd ⟨[u], []⟩ [(x, u)])
    (asked : sp [.ref a] H (fun v _ => v = .bl true) fun _ _ _ => False) :
    codeAny (model P w) callerA (.call (.ref fa) ⟨[.ref a], []⟩) (Fine s₁) s₁ := by
  have entry : Env0 P w K mg (hidT s₁.heap H) callerA [] s₁ H :=
    { frames := rfl, mod := ⟨inK, names, ⟨mb, blt, known⟩, free⟩, bs := fun b u e => of_hidT e, bsz := Nat.le_of_eq (hidT_size _ _), funs := trivial,
      frf := fun b hb => absurd (show b ∈ ([] : List Addr) from hb) (by simp), hok := hok, bare := .of_eq none_ }
  have run := F.goes callerA [] s₁ H ⟨[.ref a], []⟩ [.ref a] [.ref a] _ _ rfl room entry (binds s₁ (.ref a)) (.cons rfl .nil) asked
  refine codeAny_mono run fun r s' got => ?_
  cases r with
  | error e => exact False.elim got
  | ok fl =>
    cases fl with
    | ret u =>
      obtain ⟨v, H', os, bare, un, hok', ru, yes⟩ := got
      have yes' : v = .bl true := yes
      subst yes'
      have eu : u = Value.bool true := ru
      subst eu
      refine ⟨rfl, OldK.of_keep ?_, os, bare⟩
      intro b u e
      rcases alone b with q | ⟨ob, xs, q⟩
      · exact un.keep b u e q (fun z => absurd (show b ∈ ([] : List Addr) from z) (by simp)) (by simp)
      · have e1 := (hok b _ q).1
        have e2 := (hok' b _ (un.frzs b ob _ q)).1
        rw [e] at e1
        cases e1
        exact e2
    | next => exact False.elim got
    | brk => exact False.elim got
    | cont => exact False.elim got
/-- the law's call, its promise once -/
theorem lawG (inK : K.In s₁.heap) (names : s₁.heap.Ns mainGlobals mg) (blt : s₁.heap.Ns builtinsNs mb) (known : ∀ y : Str, y ≠ "__name__" → mb y = bootBuiltins y)
    (free : s₁.heap.NoLimit) (none_ : s₁.gens = #[]) (script : s₁.heap.get? a = some { cls := .type "list", data := .seq vs.toArray }) (nums : IntsAre vs ns)
    (few : ns.length ≤ sizeLine) (room : Room k callerA) (F : ∀ base : Heap, K.In base → base.Ns mainGlobals mg → FnG P w K mg base k fa fd [x] sp)
    (binds : ∀ (s : Shared) (u : Value), BindsTo s fd ⟨[u], []⟩ [(x, u)]) (asked : ∀ H : Hp, SqL K H a (ns.map V.int) → sp [.ref a] H (fun v _ => v = .bl true) fun _ _ _ => False) :
    codeAny (model P w) callerA (.call (.ref fa) ⟨[.ref a], []⟩) (Fine s₁) s₁ := by
  have rel := vals_ints nums
  have len := nums.length
  cases look : K.lookup a with
  | some o =>
    have e := inK a o look
    rw [script] at e
    cases e
    have keep : ∀ {b : Addr} {u : Obj}, s₁.heap.get? b = some u → (hidT s₁.heap fun _ => none).get? b = some u := fun e => hidT_get e rfl
    have ns' : ∀ {b : Addr} {m : Str → Option Value}, s₁.heap.Ns b m → (hidT s₁.heap fun _ => none).Ns b m := fun ⟨o, es, ep, e, d, r⟩ => ⟨o, es, ep, keep e, d, r⟩
    have inK' : K.In (hidT s₁.heap fun _ => none) := fun b u e => keep (inK b u e)
    refine from_heap inK' (ns' names) (ns' blt) known (let ⟨mc, h1, h2⟩ := free; ⟨mc, ns' h1, h2⟩) none_ (fun _ => .inl rfl) (fun b u z => nomatch z) room (F _ inK' (ns' names)) binds ?_
    exact asked _ (.inr ⟨_, vs.toArray, _, look, rfl, rfl, rfl, by rw [List.size_toArray, len]; exact few, by simpa using rel⟩)
  | none =>
    have keep : ∀ {b : Addr} {u : Obj}, b ≠ a → s₁.heap.get? b = some u → (hidT s₁.heap (one a (.frz { cls := .type "list", data := .seq vs.toArray } (.lst (ns.map V.int))))).get? b = some u := fun n e => hidT_get e (one_no n)
    have ns' : ∀ {b : Addr} {m : Str → Option Value}, s₁.heap.Ns b m → (hidT s₁.heap (one a (.frz { cls := .type "list", data := .seq vs.toArray } (.lst (ns.map V.int))))).Ns b m := by
      rintro b m ⟨o, es, ep, e, d, r⟩
      refine ⟨o, es, ep, keep (fun z => ?_) e, d, r⟩
      rw [z, script] at e
      cases e
      cases d
    have inK' : K.In (hidT s₁.heap (one a (.frz { cls := .type "list", data := .seq vs.toArray } (.lst (ns.map V.int))))) := fun b u e => keep (fun z => by rw [z, look] at e; cases e) (inK b u e)
    refine from_heap inK' (ns' names) (ns' blt) known (let ⟨mc, h1, h2⟩ := free; ⟨mc, ns' h1, h2⟩) none_ (fun b => ?_) (fun b u z => ?_) room (F _ inK' (ns' names)) binds (asked _ (.inl (.inr ⟨_, one_at⟩)))
    · by_cases e : b = a
      · exact .inr ⟨_, _, by rw [e]; exact one_at⟩
      · exact .inl (one_no e)
    · by_cases e : b = a
      · subst e
        have z' := one_at.symm.trans z
        cases z'
        exact ⟨script, by rw [List.length_map]; exact few, vs, _, rel, script⟩
      · have z' := (one_no e).symm.trans z
        cases z'
end
end
/-- the end of a proof: as the layer's own, for such a promise -/
theorem walkG {l : PySem.W.OpenLaw} {n k : Nat} {q : Program} {loose : List Str} {XP : (Str → Option Value) → Heap → Prop} {YP : World → Heap → Prop} {d : DefRec} {K : Params → PySem.W.Frag}
    {sp : PySem.W.Frag → Sp} {x : Str} (most : l.most = some n) (few : n ≤ sizeLine) (plain : d.params.defaults = []) (room : Room k callerA) (inY : ∀ (w : World) (h : Heap), YP w h → (K w.params).In h)
    (F : ∀ (w : World) (mg : Str → Option Value) (fa : Addr) (h : Heap), (K w.params).In h → h.Ns mainGlobals mg → mg d.name = some (.ref fa) →
      ∃ fd : FuncData, (∀ (s : Shared) (u : Value), BindsTo s fd ⟨[u], []⟩ [(x, u)]) ∧
        ∀ base : Heap, (K w.params).In base → base.Ns mainGlobals mg → FnG l.prog w (K w.params) mg base k fa fd [x] (sp (K w.params)))
    (asked : ∀ (K : PySem.W.Frag) (H : Hp) (a : Addr) (ns : List Int), ns.length ≤ n → SqL K H a (ns.map V.int) → sp K [.ref a] H (fun v _ => v = .bl true) fun _ _ _ => False) :
    PySem.W.WalkO q loose XP YP l.row.toRowW d [] (fun f vs => PySem.call f vs) := by
  apply Att.attach_call most plain
  intro w s₀ s₁ mg mb fa o pm cd doc a vs ns G Y _ _ _ named script nums size none_
  have inK := inY w _ Y
  obtain ⟨fd, binds, hF⟩ := F w mg fa _ inK G.T.g named
  exact lawG inK G.T.g G.T.b G.T.builtins G.T.nolimit none_ script nums (Nat.le_trans size few) room hF binds fun H hs => asked _ H a ns size hs

/-! the text of data -/
/-- data whose text is made: no dict, no int too long, not too deep, not too many -/
structure Shows (d : PyData) (deep many : Nat) : Prop where
  s : d.showable = true
  l : d.leavesShort 1922 = true
  h : d.hasDict = false
  p : d.depth ≤ deep
  b : d.bulk ≤ many
theorem Shows.mono {d : PyData} {a b a' b' : Nat} (x : Shows d a b) (h1 : a ≤ a') (h2 : b ≤ b') : Shows d a' b' := ⟨x.s, x.l, x.h, Nat.le_trans x.p h1, Nat.le_trans x.b h2⟩
theorem Shows.room {d : PyData} (x : Shows d 50 8000) : d.shown.length ≤ sizeLine := by
  have h := PyData.shown_le_bulk 1922 (by decide) d x.l
  have hb := x.b
  have e : sizeLine = 16777216 := by decide
  have := Nat.mul_le_mul_left 1924 hb
  omega
theorem short_int {i : Int} (h : i.natAbs.log2 < 1920) : (PyData.int i).leavesShort 1922 = true := by
  simp only [PyData.leavesShort, decide_eq_true_eq]
  have e := int_text_length_le (k := 1920) (by decide) h
  rw [PyData.shown_int, PySem.ofString_length]
  omega
theorem ints_show : ∀ {ns : List Int}, (∀ n ∈ ns, n.natAbs.log2 < 1920) → PyData.showableAll (ns.map PyData.int) = true ∧ PyData.leavesShortAll 1922 (ns.map PyData.int) = true ∧ PyData.hasDictAll (ns.map PyData.int) = false ∧ PyData.depthAll (ns.map PyData.int) = 0 ∧ PyData.bulkAll (ns.map PyData.int) = ns.length
  | [], _ => ⟨rfl, rfl, rfl, rfl, rfl⟩
  | n :: r, h => by
    obtain ⟨h1, h2, h3, h4, h5⟩ := ints_show (ns := r) fun m hm => h m (List.mem_cons_of_mem _ hm)
    have hn := h n List.mem_cons_self
    have hs := short_int hn
    refine ⟨?_, ?_, ?_, ?_, ?_⟩
    · simp [PyData.showableAll, PyData.showable, h1, hn]
    · simp [PyData.leavesShortAll, h2, hs]
    · simp [PyData.hasDictAll, PyData.hasDict, h3]
    · simp [PyData.depthAll, PyData.depth, h4]
    · simp [PyData.bulkAll, PyData.bulk, h5]; omega
theorem shows_ints {ns : List Int} (h : ∀ n ∈ ns, n.natAbs.log2 < 1920) : Shows (.tuple (ns.map PyData.int)) 1 ns.length := by
  obtain ⟨h1, h2, h3, h4, h5⟩ := ints_show h
  exact ⟨by simp [PyData.showable, h1], by simp [PyData.leavesShort, h2], by simp [PyData.hasDict, h3], by simp [PyData.depth, h4], by simp [PyData.bulk, h5]⟩
section
variable {X : Cx}
def rRepr (K : PySem.W.Frag) : List V → Hp → VK → Prop := fun vs H Q => ∃ (a : Addr) (d : PyData), vs = [.ref a] ∧ Dp K H (.ref a) d ∧ Shows d 50 8000 ∧ Q (.str d.shown) H
theorem call_repr {k : Nat} (hg : X.A.guards = some []) (room : Room k X.A) : CallR X (.builtin "repr") (rRepr X.K) := by
  intro pins s σ H vs us Q I r h
  obtain ⟨a, d, rfl, hd, hs, q⟩ := h
  obtain ⟨u, rfl, ru⟩ := vals1 r
  have eu : u = Value.ref a := ru
  subst eu
  obtain ⟨as, reads⟩ := Dp.reads I d (.ref a) (.ref a) hd rfl
  have hu := room.un
  have hp := hs.p
  refine repr_of_reads' reads hs.s (fun e => by rw [hs.h] at e; cases e) hg (by omega) (fun _ _ e => e) (fun h' u tk hk => ?_) hs.room
  exact ⟨.str d.shown, H, I.kept hk, ⟨u, rfl⟩, q⟩
/-! x *= e of ints -/
theorem ip_mulW : PIp X .Mult (fun x y H Q => ∃ i j : Int, x = .int i ∧ y = .int j ∧ IntMulOk i j ∧ Q (.int (i * j)) H) := by
  intro pins s σ H x y v u Q I rx ry h
  obtain ⟨i, j, ex, ey, ok, q⟩ := h
  subst ex ey
  obtain ⟨t, et⟩ := rx
  obtain ⟨t', et'⟩ := ry
  subst et et'
  exact imul_int ⟨V.int (i * j), H, I.tok _, ⟨_, rfl⟩, q⟩ ok
/-! f(k = v, ..): all by their names -/
variable {CX : CXT} {k : Nat} {f : Addr} {fd : FuncData} {ps ks : List Str} {sp : Sp} {E : XK} {x : Str} {p pos : Pos} {kws : List Keyword} {t tk : TA}
  {g : List Value → List Value → List Value} {gV : List V → List V → List V}
def tNamed (sp : Sp) (gV : List V → List V → List V) (E : XK) (m : Nat) (tk : TA) : TE := fun σ H Q => tk σ H fun zs H1 => zs.length = m ∧ sp (gV [] zs) H1 Q E
theorem pe_named (F : FnOk X.prog X.w X.K X.mg X.base CX k f fd ps sp) (room : Room k X.A) (glob : Gl X x) (is : X.mg x = some (.ref f)) (keep : PySem.W.keepIn X.K (.ref f) = true)
    (bound : KBn X.K fd ps 0 ks g gV) (pass : Passes CX X E) (args : PK X kws tk) (all : (backToKw pos (keywordEach kws X.env)).all (·.1.isSome) = true := by rfl)
    (names : (backToKw pos (keywordEach kws X.env)).filterMap (·.1) = ks := by rfl) (nodebug : (x == ("__debug__" : Str)) = false := by decide)
    (plain : ((backTo pos (starEach [] X.env)).any (·.1) || (backToKw pos (keywordEach kws X.env)).any (·.1.isNone)) = false := by rfl) :
    PE X (.Call (.Name x p) [] kws pos) (tNamed sp gV E ks.length tk) := by
  constructor
  intro pins s σ H Q I h
  apply wpAny_Call_Name_kw
  refine ld_glob I glob is ?_ nodebug
  apply PySem.W.callWith_KW0 I.ok.mod.kin keep all _ plain
  have run := args.run pos pins s σ H _ I h
  refine thn run fun ws s2 done => ?_
  obtain ⟨zs, H2, I2, rz, many, q⟩ := done
  refine ⟨I2.kIn, ?_⟩
  rw [names]
  have few : ws.length = ks.length := by rw [← rz.length]; exact many
  first
  | exact run_fnN (us := []) (vs := []) F room bound pass I2 .nil rz rfl few q
  | exact run_fnN (us := []) (vs := []) F room bound pass I2 .nil rz rfl many q
def turned {α : Type} : List α → List α
  | [u, v] => [v, u]
  | l => l
theorem turned_vals : ∀ {zs : List V} {ws : List Value}, Vals zs ws → Vals (turned zs) (turned ws)
  | _, _, .nil => .nil
  | _, _, .cons a .nil => .cons a .nil
  | _, _, .cons a (.cons b .nil) => .cons b (.cons a .nil)
  | _, _, .cons a (.cons b (.cons c r)) => .cons a (.cons b (.cons c r))
/-- two parameters, both by name, the second ahead -/
theorem named2 {K : PySem.W.Frag} {x qual : Str} {st : Stmt} {a b : Str} (F : Fun K x qual st f fd)
    (h : ∀ (kV doc pm : Value) (an : Option Addr) (cd ct u v : Value), bindArgs (PySem.W.fnOf x qual (defArgs st) (defBody st) (defScope st) .none kV doc pm an cd ct) ⟨[], [(b, u), (a, v)]⟩ = pure [(a, v), (b, u)]) :
    KBn K fd [a, b] 0 [b, a] (fun _ ws => turned ws) (fun _ zs => turned zs) := by
  obtain ⟨oc, od, kV, doc, pm, an, cd, ct, slots, rfl, found, code⟩ := F.ex
  refine ⟨fun s us ws _ l0 l2 => ?_, fun _ r => turned_vals r⟩
  match us, ws, l0, l2 with
  | [], [u, v], _, _ => exact .of_eq (h kV doc pm an cd ct u v)
theorem max_is (calm : X.calm = true) : CallR X (.builtin "max") (fun vs H Q => ∃ i j k : Int, vs = [.int i, .int j] ∧ k = (if j > i then j else i) ∧ Q (.int k) H) := by
  intro pins s σ H vs us Q I r h
  obtain ⟨i, j, k, e, ek, q⟩ := h
  subst ek
  exact call_max2 calm pins s σ H vs us Q I r ⟨i, j, e, q⟩
/-! a def that wants that no text is being made, called -/
theorem pe_callG {F : FuncData} {es : List Expr} {e : Expr} (G : FnG X.prog X.w X.K X.mg X.base k f F ps sp) (quiet : X.A.guards = some []) (room : Room k X.A) (glob : Gl X x) (is : X.mg x = some (.ref f)) (keep : PySem.W.keepIn X.K (.ref f) = true)
    (bound : Binds X.K F ps []) (args : PA X (e :: es) t) (nodebug : (x == ("__debug__" : Str)) = false := by decide) (star : starEach (e :: es) X.env = (false, eval e X.env) :: starEach es X.env := by rfl)
    (plain : (backTo pos (starEach es X.env)).any (·.1) = false := by rfl) : PE X (.Call (.Name x p) (e :: es) [] pos) (tCall sp [] E0 t) := by
  constructor
  intro pins s σ H Q I h
  apply wpAny_Call_Name_kw
  refine ld_glob I glob is ?_ nodebug
  refine PySem.W.callWith_K (h₀ := X.base) I.ok.mod.kin keep (thn (args.run pos pins s σ H _ I h) fun us s1 got => ?_) star plain
  obtain ⟨vs, H1, I1, r, asked⟩ := got
  refine ⟨I1.kIn, ?_⟩
  have asked' : sp vs H1 Q E0 := by simpa using asked
  have many : (us ++ []).length = ps.length := by rw [List.append_nil, ← r.length]; exact G.size _ _ _ _ asked'
  have bind := bound s1 us I1.kIn many
  rw [List.append_nil] at bind
  apply wpAny_call
  refine codeAny_mono (G.goes X.A X.stack s1 H1 ⟨us, []⟩ us vs Q E0 quiet room I1.env0 bind r asked') fun res s' hq => ?_
  cases res with
  | error e => exact False.elim hq
  | ok fl =>
    cases fl with
    | ret u => exact I1.after hq
    | next => exact False.elim hq
    | brk => exact False.elim hq
    | cont => exact False.elim hq
/-! repr of None, or of data -/
def rRepr2 (K : PySem.W.Frag) : List V → Hp → VK → Prop := fun vs H Q => (vs = [.non] ∧ Q (.str "None") H) ∨ rRepr K vs H Q
theorem call_repr2 {k : Nat} (hg : X.A.guards = some []) (room : Room k X.A) : CallR X (.builtin "repr") (rRepr2 X.K) := by
  intro pins s σ H vs us Q I r h
  rcases h with ⟨ev, q⟩ | h
  · subst ev
    obtain ⟨u, eu, ru⟩ := vals1 r
    subst eu
    have e : u = Value.none := ru
    subst e
    exact PySem.P.repr_of_none ⟨.str _, H, I.tok _, ⟨_, rfl⟩, q⟩
  · exact call_repr hg room pins s σ H vs us Q I r h
end
end GG

set_option Elab.async false
set_option linter.all false
set_option maxRecDepth 100000
set_option maxHeartbeats 4000000
namespace Z
open PySem PySem.Spec PyProof.Rows L2 GG
def top (i : Nat) : Stmt := PySem.Challenge.pw_bentcoin_k45_recipes_run.main.body.getD i (.Pass ⟨0, 0, 0, 0⟩)
abbrev sPen : Stmt := top 6
abbrev sFresh : Stmt := top 7
abbrev sDraw : Stmt := top 8
/-- what follows an if, once for all ways to it -/
theorem if_tail {c : TT} {a b : TS} {D : Ends} {σ : L2.St} {H : Hp} (W : L2.St → Hp → Prop) (tail : ∀ σ H, W σ H → D.nx σ H) (go : (∀ σ H, W σ H → D.nx σ H) → tIfS c a b D σ H) : tIfS c a b D σ H := go tail
theorem on {t u : TS} {D : Ends} {σ : L2.St} {H : Hp} (h : t { D with nx := u D } σ H) : tSeq t u D σ H := h
theorem put_c {v : V} {i : Nat} {D : Ends} {σ : L2.St} {H : Hp} (h : D.nx (σ.set i (some v)) H) : tAsg (tC v) (gName i) D σ H := h
/-! heaps -/
theorem Same.upd {H : Hp} {p : Addr} {o : HO} (h : H p = none) : Same H (L2.upd H p o) := fun b x e => by
  rw [upd_ne (ne_of_none e h)]
  exact e
/-- all that was told of stands, but what is at a -/
def But (a : Addr) (H H' : Hp) : Prop := ∀ b o, H b = some o → b ≠ a → H' b = some o
theorem But.refl (a : Addr) (H : Hp) : But a H H := fun _ _ e _ => e
theorem But.trans {a : Addr} {H H1 H2 : Hp} (x : But a H H1) (y : But a H1 H2) : But a H H2 := fun b o e n => y b o (x b o e n) n
theorem But.of {a : Addr} {H H1 : Hp} (x : Same H H1) : But a H H1 := fun b o e _ => x b o e
theorem But.put {a : Addr} {H : Hp} {o : HO} : But a H (L2.upd H a o) := fun b u e n => by
  rw [upd_ne n]
  exact e
theorem But.free {a : Addr} {H H' : Hp} {l : Addr} (e : But a H H') (n : l ≠ a) (h : H' l = none) : H l = none := by
  cases q : H l with
  | none => rfl
  | some o =>
    rw [e l o q n] at h
    cases h
theorem But.same {a : Addr} {H H0 H' : Hp} (s : Same H0 H) (n : H0 a = none) (b : But a H H') : Same H0 H' := fun c o e => b c o (s c o e) (ne_of_none e n)
theorem But.seq {a c : Addr} {K : PySem.W.Frag} {H H' : Hp} {xs : List V} (e : But a H H') (n : c ≠ a) (h : SqL K H c xs) : SqL K H' c xs := by
  rcases h with (h | ⟨o, h⟩) | h
  · exact .inl (.inl (e _ _ h n))
  · exact .inl (.inr ⟨o, e _ _ h n⟩)
  · exact .inr h
/-- a pen stands at a -/
def Pen (H : Hp) (a l : Addr) : Prop := ∃ (cs : List Int) (pos val : Int), H a = some (.lst [.ref l, .int pos, .int val]) ∧ H l = some (.lst (cs.map V.int)) ∧ 0 ≤ pos
theorem Pen.ne {H : Hp} {a l : Addr} {cs : List Int} {p v : Int} (h : H a = some (.lst [.ref l, .int p, .int v])) (e : H l = some (.lst (cs.map V.int))) : l ≠ a := by
  intro z
  subst z
  rw [h] at e
  cases cs with
  | nil => cases e
  | cons x r => cases e
theorem Pen.put {H : Hp} {a l : Addr} {cs : List Int} {p v q u : Int} (h : H a = some (.lst [.ref l, .int p, .int v])) (e : H l = some (.lst (cs.map V.int))) (hq : 0 ≤ q) : Pen (upd H a (.lst [.ref l, .int q, .int u])) a l :=
  ⟨cs, q, u, upd_same, by rw [upd_ne (Pen.ne h e)]; exact e, hq⟩
theorem Pen.same {H H' : Hp} {a l : Addr} (p : Pen H a l) (s : Same H H') : Pen H' a l := by
  obtain ⟨cs, q, v, h1, h2, h3⟩ := p
  exact ⟨cs, q, v, s _ _ h1, s _ _ h2, h3⟩
theorem dpInts {K : PySem.W.Frag} {H : Hp} : ∀ ns : List Int, DpAll K H (ns.map V.int) (ns.map PyData.int)
  | [] => .nil
  | n :: r => .cons (.int n) (dpInts r)
theorem cut_to {α : Type} (xs : List V) (n : Nat) : ∃ m, cutV xs none (some (n : Int)) = xs.take m := ⟨_, by unfold cutV; rw [HT.sIx_none]; rfl⟩
/-- a row without the zeros at its end -/
def strip (l : List Int) : List Int := (l.reverse.dropWhile (· == 0)).reverse
theorem strip_nil : strip [] = [] := rfl
theorem strip_zero (l : List Int) : strip (l ++ [0]) = strip l := by
  unfold strip
  rw [List.reverse_append]
  rfl
theorem strip_last {l : List Int} {z : Int} (h : z ≠ 0) : strip (l ++ [z]) = l ++ [z] := by
  unfold strip
  rw [List.reverse_append]
  show (List.dropWhile (· == 0) (z :: l.reverse)).reverse = _
  rw [List.dropWhile_cons_of_neg (by simpa using h), List.reverse_cons, List.reverse_reverse]
theorem strip_mem {l : List Int} {c : Int} (h : c ∈ strip l) : c ∈ l := by
  unfold strip at h
  rw [List.mem_reverse] at h
  exact List.mem_reverse.mp ((List.dropWhile_sublist _).subset h)
theorem strip_len (l : List Int) : (strip l).length ≤ l.length := by
  unfold strip
  rw [List.length_reverse]
  have := (List.dropWhile_sublist (· == 0) (l := l.reverse)).length_le
  rwa [List.length_reverse] at this
theorem strip_strip (l : List Int) : strip (strip l) = strip l := by
  rcases List.eq_nil_or_concat (strip l) with e | ⟨r, z, e⟩
  · rw [e]; rfl
  · rw [List.concat_eq_append] at e
    by_cases h : z = 0
    · exfalso
      have e2 : l.reverse.dropWhile (· == 0) = z :: r.reverse := by
        have := congrArg List.reverse e
        unfold strip at this
        rw [List.reverse_reverse, List.reverse_append] at this
        exact this
      have := List.head?_dropWhile_not (p := fun x : Int => x == 0) (l := l.reverse)
      rw [e2] at this
      simp [h] at this
    · rw [e, strip_last h]
theorem eqv_nil : ∀ {xs : List Int}, xs ≠ [] → (!PyData.eqv (.list (xs.map PyData.int)) (.list [])) = true
  | [], h => absurd rfl h
  | _ :: _, _ => rfl
structure Names (mg : Str → Option Value) : Prop where
  list : mg "list" = none
  tuple : mg "tuple" = none
  len : mg "len" = none
  range : mg "range" = none
structure Def (K : PySem.W.Frag) (mg : Str → Option Value) (x : Str) (f : Addr) (fd : FuncData) (ps : List Str) : Prop where
  is : mg x = some (.ref f)
  kp : PySem.W.keepIn K (.ref f) = true
  bi : Binds K fd ps []
theorem Pen.apart {H : Hp} {a l e : Addr} (p : Pen H a l) (h : H e = none) : e ≠ a ∧ e ≠ l := by
  obtain ⟨cs, pos, val, ha, hl, _⟩ := p
  exact ⟨(ne_of_none ha h).symm, (ne_of_none hl h).symm⟩
theorem Pen.notTup {H : Hp} {a l e : Addr} {xs : List V} (p : Pen H a l) (h : H e = some (.tup xs)) : e ≠ a := by
  obtain ⟨cs, pos, val, ha, hl, _⟩ := p
  rintro rfl
  rw [ha] at h
  cases h
theorem But.mem {a p : Addr} {H H' : Hp} {o : HO} (b : But a H H') (n : p ≠ a) (e : H p = some o) : H' p = some o := b p o e n
/-- what follows a value, once for all ways to it -/
theorem asg_tail {te : TE} {g : TG} {D : Ends} {σ : L2.St} {H : Hp} (W : V → Hp → Prop) (tail : ∀ v H', W v H' → g v σ H' D.nx) (go : (∀ v H', W v H' → g v σ H' D.nx) → te σ H fun x H1 => g x σ H1 D.nx) : tAsg te g D σ H := go tail
theorem log_le {b : Int} (h : b.natAbs < 2 ^ 100) : b.natAbs.log2 < 9000 := Nat.lt_of_lt_of_le (PySem.Flt.log2_lt_of (k := 100) (by decide) h) (by decide)
section
variable {P : Program} {w : World} {K : PySem.W.Frag} {mg : Str → Option Value} {base : Heap}
/-! ### the pen -/
def spPen (K : PySem.W.Frag) : Sp := fun vs H Q _ => ∃ (s : Addr) (ns : List Int), vs = [.ref s] ∧ SqL K H s (ns.map V.int) ∧ ns.length ≤ 63 ∧ ∀ p l H', Same H H' → H p = none → H l = none → Pen H' p l → Q (.ref p) H'
theorem scPen : FnScope ["script"] ["script"] (defScope sPen) := ⟨rfl, rfl, rfl, by decide +kernel, rfl, by decide +kernel, by decide +kernel⟩
theorem ok_pen {f : Addr} {fd : FuncData} (F : Fun K "_law_pen" "_law_pen" sPen f fd) (T : Names mg) : FnOk P w K mg base CX0 1 f fd ["script"] (spPen K) := by
  refine F.ok scPen (fun vs H Q E h => ?_) (fun cdv A outer s H vs Q E hr h => ?_)
  · obtain ⟨a, ns, rfl, _⟩ := h
    rfl
  · obtain ⟨a, ns, rfl, hS, hlen, q⟩ := h
    refine ⟨_, pss_one (ps_ret (pe_lst (pa_cons (pe_callTy call_list_of (by rfl) T.list (by decide +kernel) (pa_cons (pe_slice sl_list (pv 0) po_none (po_some pe_int)) pa_nil)) (pa_cons pe_int (pa_cons pe_int pa_nil))))), ?_⟩
    refine ⟨.ref a, rfl, 63, rfl, a, _, rfl, hS, fun c nc => ?_⟩
    refine ⟨c, _, rfl, .inl (.inl (.inl upd_same)), fun l nl => ?_⟩
    refine ⟨by show 3 ≤ sizeLine; decide, fun p np => ?_⟩
    obtain ⟨m, em⟩ := cut_to (α := Int) (ns.map V.int) 63
    have em : cutV (ns.map V.int) none (some 63) = (ns.map V.int).take m := em
    have lp : l ≠ p := ne_of_none upd_same np
    have h1 := (Same.trans (Same.upd (o := .lst (cutV (ns.map V.int) none (some 63))) nc) (Same.trans (Same.upd (o := .lst (cutV (ns.map V.int) none (some 63))) nl) (Same.upd (o := .lst [.ref l, .int 0, .int 0]) np)))
    refine q p l _ h1 (Same.free (Same.trans (Same.upd nc) (Same.upd nl)) np) (Same.free (Same.upd nc) nl) ⟨ns.take m, 0, 0, upd_same, ?_, by decide⟩
    rw [upd_ne lp, upd_same, em, List.map_take]
/-! ### a fresh number -/
def spFresh : Sp := fun vs H Q _ => ∃ (a l : Addr), vs = [.ref a] ∧ Pen H a l ∧ ∀ (v : Int) H', But a H H' → Pen H' a l → Q (.int v) H'
theorem scFresh : FnScope ["pen", "at", "cell", "p", "one", "found", "turn"] ["pen"] (defScope sFresh) := ⟨rfl, rfl, rfl, by decide +kernel, rfl, by decide +kernel, by decide +kernel⟩
theorem ok_fresh {f : Addr} {fd : FuncData} (F : Fun K "_law_fresh" "_law_fresh" sFresh f fd) (T : Names mg) : FnOk P w K mg base CX0 1 f fd ["pen"] spFresh := by
  refine F.ok scFresh (fun vs H Q E h => ?_) (fun cdv A outer s H vs Q E hr h => ?_)
  · obtain ⟨a, l, rfl, _⟩ := h
    rfl
  · obtain ⟨a, l, rfl, ⟨cs, pos, val, ha, hl, hp⟩, q⟩ := h
    have hu : A.units + 3 + 64 < cLine := hr.units
    refine ⟨_, pss_cons (ps_set (i := 1) scFresh.nd rfl (.inl rfl) (pe_ix ix_list (pv 0) pe_int (fun _ _ => rfl)))
      (pss_cons (ps_asg (pe_op op_add (pv 1) pe_int) (pg_sub (pv 0) pe_int set_list))
      (pss_cons (ps_set (i := 2) scFresh.nd rfl (.inl rfl) pe_int)
      (pss_cons (ps_if (pt_cmpR (op_neD hu) (pe_ix ix_list (pv 0) pe_int (fun _ _ => rfl)) (pe_lst pa_nil) (nomark _))
        (pss_one (ps_set (i := 2) scFresh.nd rfl (.inl rfl) (pe_ix ix_list (pe_ix ix_list (pv 0) pe_int (fun _ _ => rfl)) (pe_op op_mod (pv 1) (pe_callB call_len_seq (by rfl) T.len PySem.boot_len (pa_cons (pe_ix ix_list (pv 0) pe_int (fun _ _ => rfl)) pa_nil))) (fun _ _ => rfl)))) pss_nil)
      (pss_cons (ps_if (PW.pt (pw_and (pt_cmpR op_lt (pv 1) (pe_callB call_len_seq (by rfl) T.len PySem.boot_len (pa_cons (pe_ix ix_list (pv 0) pe_int (fun _ _ => rfl)) pa_nil)) (nomark _)) (pw_and1 (pt_cmpR op_ge (pv 2) (pe_op op_pow pe_int pe_int) (nomark _)))))
        (pss_one (ps_ret (pe_op op_sub (pv 2) (pe_op op_pow pe_int pe_int)))) pss_nil)
      (pss_cons (ps_set (i := 3) scFresh.nd rfl (.inl rfl) pe_int)
      (pss_cons (ps_set (i := 4) scFresh.nd rfl (.inl rfl) (pe_op op_mod (pe_op op_add (pe_op op_add (pe_op op_mul (pv 2) pe_int) (pe_op op_mul pe_int (pv 1))) pe_int) (pv 3)))
      (pss_cons (ps_set (i := 5) scFresh.nd rfl (.inl rfl) (pv 4))
      (pss_cons (ps_for PassesOwn.never rfl (pi_range1 rfl T.range (pa_cons pe_int pa_nil)) (pg_name (i := 6) scFresh.nd rfl (.inl rfl))
        (pss_cons (ps_set (i := 4) scFresh.nd rfl (.inl rfl) (pe_op op_mod (pe_op op_add (pe_op op_add (pe_op op_mul (pv 4) (pv 4)) (pe_op op_mul (pe_op op_mul pe_int (pe_op op_add (pv 6) pe_int)) (pe_op op_add (pv 1) pe_int))) (pv 2)) (pv 3)))
        (pss_one (ps_set (i := 5) scFresh.nd rfl (.inl rfl) (pe_op op_add (pe_op op_mul (pv 5) (pv 3)) (pv 4))))))
      (pss_one (ps_ret (pv 5))))))))))), ?_⟩
    -- position = pen[1]; pen[1] = position + 1; cell = 0
    refine ⟨.ref a, rfl, a, _, 1, .int pos, rfl, rfl, SqL.of ha, atI_nat (j := 1) rfl, ?_⟩
    refine ⟨_, rfl, _, _, rfl, rfl, .ref a, rfl, a, _, 1, 1, rfl, rfl, ha, rfl, ?_⟩
    have ha1 : upd H a (.lst [.ref l, .int (pos + 1), .int val]) a = some (.lst [.ref l, .int (pos + 1), .int val]) := upd_same
    have hl1 : upd H a (.lst [.ref l, .int (pos + 1), .int val]) l = some (.lst (cs.map V.int)) := by
      rw [upd_ne (Pen.ne ha hl)]
      exact hl
    have b1 : But a H (upd H a (.lst [.ref l, .int (pos + 1), .int val])) := But.put
    change (_ : Hp → Prop) (upd H a (.lst [.ref l, .int (pos + 1), .int val]))
    generalize upd H a (.lst [.ref l, .int (pos + 1), .int val]) = H1 at ha1 hl1 b1 ⊢
    -- if pen[0] != []
    have ec : cs = [] ∨ ∃ x r, cs = x :: r := by
      cases cs with
      | nil => exact .inl rfl
      | cons x r => exact .inr ⟨x, r, rfl⟩
    dsimp only
    refine on (put_c ?_)
    dsimp only
    refine on (if_tail (fun σ H' => ∃ cell : Int, σ = [some (V.ref a), some (V.int pos), some (V.int cell), none, none, none, none] ∧ Same H1 H') ?_ (fun t => ?_))
    rotate_left
    · refine ⟨.ref a, rfl, a, _, 0, .ref l, rfl, rfl, SqL.of ha1, atI_nat (j := 0) rfl, Nat.zero_le _, fun e0 ne0 => ?_⟩
      have s2 : Same H1 (upd H1 e0 (.lst [])) := Same.upd ne0
      have ha2 := s2 _ _ ha1
      have hl2 := s2 _ _ hl1
      have d0 : Dp K (upd H1 e0 (.lst [])) (.ref e0) (.list []) := .lst (SqL.of upd_same) .nil
      generalize upd H1 e0 (.lst []) = H2 at s2 ha2 hl2 d0 ⊢
      refine ⟨.list (cs.map PyData.int), .list [], .lst (SqL.of hl2) (dpInts cs), d0, PySem.W.ke_shaped_ints cs, rfl, _, rfl, ?_⟩
      rcases ec with rfl | ⟨x, r, rfl⟩
      · exact iteF (t _ _ ⟨0, rfl, s2⟩)
      · refine iteT ?_
        have hpos : pos % (((x :: r).length : Nat) : Int) < ((x :: r).length : Nat) ∧ 0 ≤ pos % (((x :: r).length : Nat) : Int) := by
          have : (0 : Int) < ((x :: r).length : Nat) := by rw [List.length_cons]; omega
          exact ⟨Int.emod_lt_of_pos _ this, Int.emod_nonneg _ (by omega)⟩
        obtain ⟨j, ej⟩ : ∃ j : Nat, pos % (((x :: r).length : Nat) : Int) = (j : Int) := ⟨(pos % (((x :: r).length : Nat) : Int)).toNat, by omega⟩
        have hj : j < (x :: r).length := by omega
        refine ⟨.ref a, rfl, a, _, 0, .ref l, rfl, rfl, SqL.of ha2, atI_nat (j := 0) rfl, .int pos, rfl, .ref a, rfl, a, _, 0, .ref l, rfl, rfl, SqL.of ha2, atI_nat (j := 0) rfl, l, _, rfl, .inl (SqL.of hl2), _, _, rfl, rfl, ?_, ?_⟩
        · show (0 : Int) < _
          rw [List.length_map, List.length_cons]
          omega
        · refine ⟨l, _, _, .int (x :: r)[j], rfl, rfl, SqL.of hl2, ?_, t _ _ ⟨_, rfl, s2⟩⟩
          rw [List.length_map, ej]
          exact atI_nat (by rw [List.getElem?_map, List.getElem?_eq_getElem hj]; rfl)
    · rintro σ H' ⟨cell, rfl, s2⟩
      have ha2 := s2 _ _ ha1
      have hl2 := s2 _ _ hl1
      have b2 : But a H H' := b1.trans (But.of s2)
      have p2 : Pen H' a l := ⟨cs, pos + 1, val, ha2, hl2, by omega⟩
      -- if position < len(pen[0]) and cell >= 10 ** 18: return cell - 10 ** 18
      dsimp only
      refine on (if_tail (fun σ H3 => σ = [some (V.ref a), some (V.int pos), some (V.int cell), none, none, none, none] ∧ H3 = H') ?_ (fun t => ?_))
      rotate_left
      · refine ⟨_, rfl, .ref a, rfl, a, _, 0, .ref l, rfl, rfl, SqL.of ha2, atI_nat (j := 0) rfl, l, _, rfl, .inl (SqL.of hl2), _, _, rfl, rfl, _, rfl, ite2 (fun _ => ?_) (fun _ => iteF (t _ _ ⟨rfl, rfl⟩))⟩
        refine ⟨_, rfl, _, _, rfl, rfl, ⟨by decide, by decide, by decide⟩, _, _, rfl, rfl, _, rfl, ite2 (fun _ => ?_) (fun _ => t _ _ ⟨rfl, rfl⟩)⟩
        exact ⟨_, rfl, _, _, rfl, rfl, ⟨by decide, by decide, by decide⟩, _, _, rfl, rfl, q _ _ b2 p2⟩
      · rintro σ H3 ⟨rfl, rfl⟩
        -- state, mixed, the six turns
        refine ⟨_, rfl, _, _, rfl, rfl, .inr ⟨by decide, by decide⟩, _, rfl, _, _, rfl, rfl, .inl ⟨by decide, by decide⟩, _, _, rfl, rfl, _, _, rfl, rfl, _, rfl, _, _, rfl, rfl, (by show (0 : Int) < 2305843009213693951; decide), _, rfl,
          6, rfl, by decide, by decide, for_range (lo := 0) (n := 6) (fun i σ H4 => ∃ (st mx : Int) (v : Option V), σ = [some (V.ref a), some (V.int pos), some (V.int cell), some (V.int 2305843009213693951), some (V.int st), some (V.int mx), v] ∧ H4 = H3 ∧ 0 ≤ st ∧ st < 2305843009213693951)
            ⟨_, _, none, rfl, rfl, Int.emod_nonneg _ (by decide), Int.emod_lt_of_pos _ (by decide)⟩ ?_ ?_⟩
        · rintro i σ H4 hi ⟨st, mx, v, rfl, rfl, h0, h1⟩
          refine ⟨_, rfl, _, rfl, _, _, rfl, rfl, .inl ⟨by omega, by omega⟩, _, rfl, _, _, rfl, rfl, _, _, rfl, rfl, .inl ⟨by decide, by decide⟩, _, rfl, _, _, rfl, rfl, _, _, rfl, rfl, .inl ⟨by show -(2 ^ 64) < (69621 : Int) * (0 + (i : Int) + 1); omega, by show (69621 : Int) * (0 + (i : Int) + 1) < 2 ^ 64; omega⟩, _, _, rfl, rfl,
            _, rfl, _, _, rfl, rfl, _, rfl, _, _, rfl, rfl, (by show (0 : Int) < 2305843009213693951; decide), _, rfl, _, rfl, _, _, rfl, rfl, .inr ⟨by decide, by decide⟩, _, rfl, _, _, rfl, rfl, ?_⟩
          exact ⟨_, _, _, rfl, rfl, Int.emod_nonneg _ (by decide), Int.emod_lt_of_pos _ (by decide)⟩
        · rintro σ H4 ⟨st, mx, v, rfl, rfl, h0, h1⟩
          exact ⟨_, rfl, q _ _ b2 p2⟩
/-! ### a number below a bound -/
def spDraw : Sp := fun vs H Q _ => ∃ (a l : Addr) (b : Int), vs = [.ref a, .int b] ∧ Pen H a l ∧ 0 < b ∧ b.natAbs.log2 < 9000 ∧ ∀ (d : Int) H', 0 ≤ d → d < b → But a H H' → Pen H' a l → Q (.int d) H'
theorem scDraw : FnScope ["pen", "many", "digit"] ["pen", "many"] (defScope sDraw) := ⟨rfl, rfl, rfl, by decide +kernel, rfl, by decide +kernel, by decide +kernel⟩
theorem ok_draw {f g : Addr} {fd gd : FuncData} (F : Fun K "_law_draw" "_law_draw" sDraw f fd) (GF : FnOk P w K mg base CX0 1 g gd ["pen"] spFresh) (mF : mg "_law_fresh" = some (.ref g)) (kF : PySem.W.keepIn K (.ref g) = true) (bF : Binds K gd ["pen"] []) :
    FnOk P w K mg base CX0 2 f fd ["pen", "many"] spDraw := by
  refine F.ok scDraw (fun vs H Q E h => ?_) (fun cdv A outer s H vs Q E hr h => ?_)
  · obtain ⟨a, l, b, rfl, _⟩ := h
    rfl
  · obtain ⟨a, l, b, rfl, pn, hb, hb2, q⟩ := h
    refine ⟨_, pss_cons (ps_if (pt_cmpR op_lt (pe_ix ix_list (pv 0) pe_int (fun _ _ => rfl)) (pv 1) (nomark _))
        (pss_one (ps_asg (pe_call GF hr (by rfl) mF kF bF .nil pass0 (pa_cons (pv 0) pa_nil)) (pg_sub (pv 0) pe_int set_list))) pss_nil)
      (pss_cons (ps_set (i := 2) scDraw.nd rfl (.inl rfl) (pe_op op_mod (pe_ix ix_list (pv 0) pe_int (fun _ _ => rfl)) (pv 1)))
      (pss_cons (ps_asg (pe_op op_fdivW (pe_ix ix_list (pv 0) pe_int (fun _ _ => rfl)) (pv 1)) (pg_sub (pv 0) pe_int set_list))
      (pss_one (ps_ret (pv 2))))), ?_⟩
    refine on (if_tail (fun σ H' => σ = [some (V.ref a), some (V.int b), none] ∧ Pen H' a l ∧ But a H H') ?_ (fun t => ?_))
    rotate_left
    · obtain ⟨cs, pos, val, ha, hl, hp⟩ := id pn
      refine ⟨.ref a, rfl, a, _, 2, .int val, rfl, rfl, SqL.of ha, atI_nat (j := 2) rfl, _, rfl, _, _, rfl, rfl, _, rfl, ite2 (fun _ => ?_) (fun _ => t _ _ ⟨rfl, pn, But.refl _ _⟩)⟩
      refine ⟨.ref a, rfl, a, l, rfl, pn, fun v H1 b1 p1 => ?_⟩
      obtain ⟨cs, pos, val, ha, hl, hp⟩ := p1
      exact ⟨.ref a, rfl, a, _, 2, 2, rfl, rfl, ha, rfl, t _ _ ⟨rfl, Pen.put ha hl hp, b1.trans But.put⟩⟩
    · rintro σ H1 ⟨rfl, ⟨cs, pos, val, ha, hl, hp⟩, b1⟩
      refine ⟨.ref a, rfl, a, _, 2, .int val, rfl, rfl, SqL.of ha, atI_nat (j := 2) rfl, _, rfl, _, _, rfl, rfl, hb, .ref a, rfl, a, _, 2, .int val, rfl, rfl, SqL.of ha, atI_nat (j := 2) rfl, _, rfl, _, _, rfl, rfl, ⟨hb, hb2⟩, .ref a, rfl, a, _, 2, 2, rfl, rfl, ha, rfl, _, rfl, ?_⟩
      exact q _ _ (Int.emod_nonneg _ (by omega)) (Int.emod_lt_of_pos _ hb) (b1.trans But.put) (Pen.put ha hl hp)
end
end Z

set_option Elab.async false
set_option linter.all false
set_option maxRecDepth 100000
set_option maxHeartbeats 4000000
/-! a comprehension over zip of two lists; binomials -/
namespace ZC
open PySem PySem.Spec PyProof.Rows L2 GG
theorem lc_zL {K : PySem.W.Frag} {a b : Addr} {xs ys : List V} {g : TG} {tt : TT} {te : TE} {vs : List Nat} {σ : L2.St} {H1 : Hp} {D : Addr} {Qd : Hp → Prop} (len : xs.length = ys.length) (Pv : Nat → Hp → Prop) (h0 : Pv 0 (upd H1 D (.lst []))) (hl : ∀ i H, Pv i H → SqL K H a xs ∧ SqL K H b ys)
    (turn : ∀ i x y H T, xs[i]? = some x → ys[i]? = some y → Pv i H → H T = none → g (.ref T) (wipe σ vs) (upd H T (.tup [x, y])) fun σ2 H2 => wipe σ2 vs = wipe σ vs ∧ tt σ2 H2 fun c H3 =>
      if c = true then te σ2 H3 fun y H4 => ∃ acc, H4 D = some (.lst acc) ∧ acc.length < sizeLine ∧ Pv (i + 1) (upd H4 D (.lst (acc ++ [y]))) else Pv (i + 1) H3) (done : ∀ H, Pv xs.length H → Qd H) :
    ∃ W : Nat → Nat → Hp → Prop, (∃ m, W 0 m (upd H1 D (.lst []))) ∧ ∀ i m H, W i m H →
      ((Itz K a b).stop i H ∧ Qd H) ∨ ((Itz K a b).go i H ∧ ∃ Nx : Hp → Prop, (∀ H', Nx H' → ∃ m', m' < m ∧ W (i + 1) m' H') ∧
        ∀ x H', (Itz K a b).yld i H x H' → g x (wipe σ vs) H' fun σ2 H2 => wipe σ2 vs = wipe σ vs ∧ tt σ2 H2 fun c H3 =>
          if c = true then te σ2 H3 fun y H4 => ∃ acc, H4 D = some (.lst acc) ∧ acc.length < sizeLine ∧ Nx (upd H4 D (.lst (acc ++ [y]))) else Nx H3) := by
  refine ⟨fun i m H => m = xs.length - i ∧ i ≤ xs.length ∧ Pv i H, ⟨_, rfl, Nat.zero_le _, h0⟩, ?_⟩
  rintro i m H ⟨rfl, le, pv⟩
  obtain ⟨qx, qy⟩ := hl i H pv
  rcases Nat.lt_or_ge i xs.length with lt | ge
  · have hx : xs[i]? = some xs[i] := List.getElem?_eq_getElem lt
    have lt2 : i < ys.length := by omega
    have hy : ys[i]? = some ys[i] := List.getElem?_eq_getElem lt2
    refine .inr ⟨⟨xs, ys, _, _, qx, qy, hx, hy⟩, Pv (i + 1), fun H' n => ⟨xs.length - (i + 1), by omega, rfl, lt, n⟩, ?_⟩
    rintro v H' ⟨T, x, y, rfl, nT, rfl, f1, f2⟩
    exact turn i x y H T (f1 xs qx) (f2 ys qy) pv nT
  · have e : i = xs.length := by omega
    subst e
    exact .inl ⟨⟨xs, ys, qx, qy, .inl (Nat.le_refl _)⟩, done H pv⟩

/-- the binomial number -/
def ch : Nat → Nat → Nat
  | _, 0 => 1
  | 0, _ + 1 => 0
  | n + 1, k + 1 => ch n k + ch n (k + 1)
theorem ch_over : ∀ (n k : Nat), n < k → ch n k = 0
  | 0, k + 1, _ => rfl
  | n + 1, k + 1, h => by
    show ch n k + ch n (k + 1) = 0
    rw [ch_over n k (by omega), ch_over n (k + 1) (by omega)]
theorem ch_zero (n : Nat) : ch n 0 = 1 := by cases n <;> rfl
theorem ch_le : ∀ (n k : Nat), ch n k ≤ 2 ^ n
  | n, 0 => by
    rw [ch_zero]
    exact Nat.one_le_two_pow
  | 0, k + 1 => Nat.zero_le _
  | n + 1, k + 1 => by
    show ch n k + ch n (k + 1) ≤ 2 ^ (n + 1)
    have := ch_le n k
    have := ch_le n (k + 1)
    rw [Nat.pow_succ]
    omega
def bin (n : Nat) : List Int := (List.range (n + 1)).map fun k => (ch n k : Int)
theorem bin_len (n : Nat) : (bin n).length = n + 1 := by simp [bin]
theorem bin_get {n k : Nat} (h : k ≤ n) : (bin n)[k]? = some (ch n k : Int) := by
  unfold bin
  rw [List.getElem?_map, List.getElem?_range (by omega)]
  rfl
/-- the two summands at a place -/
theorem bin_left {n k : Nat} (h : k ≤ n + 1) : (bin n ++ [0])[k]? = some (ch n k : Int) := by
  rcases Nat.lt_or_ge k (n + 1) with lt | ge
  · rw [List.getElem?_append_left (by rw [bin_len]; exact lt), bin_get (by omega)]
  · have e : k = n + 1 := by omega
    subst e
    rw [List.getElem?_append_right (by rw [bin_len]; exact Nat.le_refl _), bin_len, Nat.sub_self, ch_over n (n + 1) (by omega)]
    rfl
def low (n : Nat) : Nat → Int
  | 0 => 0
  | j + 1 => (ch n j : Int)
theorem bin_right {n k : Nat} (h : k ≤ n + 1) : ((0 : Int) :: bin n)[k]? = some (low n k) := by
  cases k with
  | zero => rfl
  | succ j =>
    rw [List.getElem?_cons_succ, bin_get (by omega)]
    rfl
theorem bin_step (n k : Nat) : (ch (n + 1) k : Int) = (ch n k : Int) + low n k := by
  cases k with
  | zero => simp [ch_zero, low]
  | succ j =>
    show ((ch n j + ch n (j + 1) : Nat) : Int) = _
    rw [Int.natCast_add]
    exact Int.add_comm _ _
end ZC

set_option Elab.async false
set_option linter.all false
set_option maxRecDepth 100000
set_option maxHeartbeats 4000000
namespace Z
open PySem PySem.Spec PyProof.Rows L2 GG ZC
abbrev sBin : Stmt := top 9
structure NamesR (mg : Str → Option Value) : Prop extends Names mg where
  zip : mg "zip" = none
  enumerate : mg "enumerate" = none
  int : mg "int" = none
section
variable {P : Program} {w : World} {K : PySem.W.Frag} {mg : Str → Option Value} {base : Heap}
def spBin : Sp := fun vs H Q _ => ∃ n : Nat, vs = [.int (n : Nat)] ∧ n ≤ 60 ∧ ∀ p H', Same H H' → H p = none → H' p = some (.lst ((bin n).map V.int)) → Q (.ref p) H'
theorem scBin : FnScope ["many", "found", "k", "a", "b"] ["many"] (defScope sBin) := ⟨rfl, rfl, rfl, by decide +kernel, rfl, by decide +kernel, by decide +kernel⟩
theorem ok_bin {f : Addr} {fd : FuncData} (F : Fun K "_law_binomials" "_law_binomials" sBin f fd) (T : NamesR mg) : FnOk P w K mg base CX0 1 f fd ["many"] spBin := by
  refine F.ok scBin (fun vs H Q E h => ?_) (fun cdv A outer s H vs Q E hr h => ?_)
  · obtain ⟨n, rfl, _⟩ := h
    rfl
  · obtain ⟨n, rfl, hn, q⟩ := h
    refine ⟨_, (pss_cons (ps_set (i := 1) scBin.nd rfl (.inl rfl) (pe_lst (pa_cons pe_int pa_nil)))
      (pss_cons (ps_for PassesOwn.never rfl (pi_range1 rfl T.range (pa_cons (pv 0) pa_nil)) (pg_name (i := 2) scBin.nd rfl (.inl rfl)) (pss_one (ps_setLc (i := 1) (own := [("a", 3), ("b", 4)]) (g := gTup K 2 (gCons (gName 3) (gCons (gName 4) gNil))) (tt := tYes) rfl scBin.nd rfl rfl (sw_true rfl rfl rfl (by decide +kernel)) (pi_zip (by rfl) T.zip (pa_cons (pe_op op_cat (pv 1) (pe_lst (pa_cons pe_int pa_nil))) (pa_cons (pe_op op_cat (pe_lst (pa_cons pe_int pa_nil)) (pv 1)) pa_nil))) (blkOk_by (N := ["many", "found", "k", "a", "b"]) (sc := defScope sBin) (own := [("a", 3), ("b", 4)]) (by decide +kernel)) (fun _ _ _ _ _ => (pg_tup rfl (pgs_cons (pg_name (i := 3) scBin.nd rfl (.inl rfl) (Or.inr rfl)) (pgs_cons (pg_name (i := 4) scBin.nd rfl (.inl rfl) (Or.inr rfl)) pgs_nil)))) (fun _ _ _ _ _ => pts_nil) (fun _ _ _ _ _ => (pe_op op_add (pv 3) (pv 4))))))
      (pss_one (ps_ret (pv 1))))), ?_⟩
    refine ⟨by show 1 ≤ sizeLine; decide, fun D nD => ?_⟩
    have s1 : Same H (upd H D (.lst [.int 1])) := Same.upd nD
    have eD : upd H D (.lst [.int 1]) D = some (.lst ((bin 0).map V.int)) := upd_same
    change (_ : Hp → Prop) (upd H D (.lst [.int 1]))
    generalize upd H D (.lst [.int 1]) = H1 at s1 eD ⊢
    refine ⟨_, rfl, _, rfl, by omega, by omega, for_range (lo := 0) (n := n) (fun i σ H' => ∃ (p : Addr) (v2 : Option V), σ = [some (.int (n : Nat)), some (.ref p), v2, none, none] ∧ Same H H' ∧ H p = none ∧ H' p = some (.lst ((bin i).map V.int))) ⟨D, _, rfl, s1, nD, eD⟩ ?_ ?_⟩
    · rintro i σ H2 hi ⟨p, v2, rfl, s2, np, ep⟩
      have hb : (bin i).length ≤ 60 := by rw [bin_len]; omega
      have line : sizeLine = 16777216 := by decide
      refine ⟨_, rfl, by show 1 ≤ sizeLine; decide, fun z nz => ?_⟩
      have s3 := Same.upd (o := .lst [.int 0]) nz
      have ez : upd H2 z (.lst [.int 0]) z = some (.lst [.int 0]) := upd_same
      generalize upd H2 z (.lst [.int 0]) = H3 at s3 ez ⊢
      refine ⟨p, z, _, _, rfl, rfl, s3 _ _ ep, ez, by rw [List.length_map]; show (bin i).length + 1 ≤ sizeLine; omega, fun a na => ?_⟩
      have s4 := Same.upd (o := .lst ((bin i).map V.int ++ [.int 0])) na
      have ea : upd H3 a (.lst ((bin i).map V.int ++ [.int 0])) a = some (.lst ((bin i ++ [0]).map V.int)) := by rw [upd_same, List.map_append]; rfl
      change (_ : Hp → Prop) (upd H3 a (.lst ((bin i).map V.int ++ [.int 0])))
      generalize upd H3 a (.lst ((bin i).map V.int ++ [.int 0])) = H4 at s4 ea ⊢
      refine ⟨by show 1 ≤ sizeLine; decide, fun y ny => ?_⟩
      have s5 := Same.upd (o := .lst [.int 0]) ny
      have ey : upd H4 y (.lst [.int 0]) y = some (.lst [.int 0]) := upd_same
      generalize upd H4 y (.lst [.int 0]) = H5 at s5 ey ⊢
      refine ⟨_, rfl, y, p, _, _, rfl, rfl, ey, s5 _ _ (s4 _ _ (s3 _ _ ep)), by rw [List.length_map]; show 1 + (bin i).length ≤ sizeLine; omega, fun b nb => ?_⟩
      have s6 := Same.upd (o := .lst ([.int 0] ++ (bin i).map V.int)) nb
      have eb : upd H5 b (.lst ([.int 0] ++ (bin i).map V.int)) b = some (.lst (((0 : Int) :: bin i).map V.int)) := by rw [upd_same]; rfl
      change (_ : Hp → Prop) (upd H5 b (.lst ([.int 0] ++ (bin i).map V.int)))
      generalize upd H5 b (.lst ([.int 0] ++ (bin i).map V.int)) = H6 at s6 eb ⊢
      have ea6 := s6 _ _ (s5 _ _ ea)
      have s26 := ((s3.trans s4).trans s5).trans s6
      refine ⟨a, b, _, _, rfl, SqL.of ea6, SqL.of eb, fun D2 nD2 => ?_⟩
      refine lc_zL (K := K) (xs := (bin i ++ [0]).map V.int) (ys := ((0 : Int) :: bin i).map V.int) (by rw [List.length_map, List.length_map, List.length_append, List.length_cons]; rfl) (fun k H' => H' D2 = some (.lst (((List.range k).map fun t => (ch (i + 1) t : Int)).map V.int)) ∧ Same H6 H') ⟨upd_same, Same.upd nD2⟩ (fun k H' h => ⟨SqL.of (h.2 _ _ ea6), SqL.of (h.2 _ _ eb)⟩) ?_ ?_
      · rintro k x w H7 T0 hx hw ⟨e7, s7⟩ nT
        have hk : k ≤ i + 1 := by
          have := (List.getElem?_eq_some_iff.mp hx).1
          rw [List.length_map, List.length_append, bin_len] at this
          simp at this
          omega
        rw [List.getElem?_map, bin_left hk] at hx
        rw [List.getElem?_map, bin_right hk] at hw
        cases hx
        cases hw
        have s8 := Same.upd (o := .tup [.int (ch i k : Int), .int (low i k)]) nT
        refine ⟨T0, _, rfl, SqT.of upd_same, rfl, _, _, rfl, _, _, rfl, rfl, rfl, ?_⟩
        dsimp only [tYes]
        refine iteT ?_
        refine ⟨_, rfl, _, rfl, _, _, rfl, rfl, _, s8 _ _ e7, by rw [List.length_map, List.length_map, List.length_range]; exact small1000 (by omega), ?_, ?_⟩
        · rw [upd_same, List.range_succ, List.map_append, List.map_append]
          show some (HO.lst (_ ++ [V.int ((ch i k : Int) + low i k)])) = _
          rw [← bin_step]
          rfl
        · intro b o e
          rw [upd_ne (ne_of_none e nD2)]
          exact s8 _ _ (s7 _ _ e)
      · rintro H7 ⟨e7, s7⟩
        rw [List.length_map, List.length_append, bin_len] at e7
        exact ⟨D2, _, rfl, (s2.trans s26).trans s7, (s2.trans s26).free nD2, e7⟩
    · rintro σ H' ⟨p, v2, rfl, s2, np, ep⟩
      exact ⟨_, rfl, q p _ s2 np ep⟩
end
end Z

set_option Elab.async false
set_option linter.all false
set_option maxRecDepth 100000
set_option maxHeartbeats 4000000
namespace Z
open PySem PySem.Spec PyProof.Rows L2 GG ZC
abbrev sRecipe : Stmt := top 10
/-- a recipe's numbers -/
structure WR (m : Nat) (ds es : List Int) : Prop where
  dl : ds.length = m + 1
  el : es.length = m + 1
  ok : ∀ k, k ≤ m → 0 ≤ ds.getD k 0 ∧ ds.getD k 0 ≤ es.getD k 0 ∧ es.getD k 0 ≤ (ch m k : Nat)
  some : ∃ k, k ≤ m ∧ es.getD k 0 ≠ 0
/-- it stands at r -/
def Rec (H : Hp) (r : Addr) (m : Nat) (ds es : List Int) : Prop := ∃ a b, H r = some (.tup [.int (m : Nat), .ref a, .ref b]) ∧ H a = some (.tup (ds.map V.int)) ∧ H b = some (.tup (es.map V.int))
theorem Rec.same {H H' : Hp} {r : Addr} {m : Nat} {ds es : List Int} (h : Rec H r m ds es) (s : Same H H') : Rec H' r m ds es := by
  obtain ⟨a, b, h1, h2, h3⟩ := h
  exact ⟨a, b, s _ _ h1, s _ _ h2, s _ _ h3⟩
theorem Rec.but {H H' : Hp} {p l r : Addr} {m : Nat} {ds es : List Int} (h : Rec H r m ds es) (q : Pen H p l) (b : But p H H') : Rec H' r m ds es := by
  obtain ⟨x, y, h1, h2, h3⟩ := h
  exact ⟨x, y, b.mem (q.notTup h1) h1, b.mem (q.notTup h2) h2, b.mem (q.notTup h3) h3⟩
theorem ch_small {m k : Nat} (h : m ≤ 60) : ((ch m k : Nat) : Int).natAbs < 2 ^ 61 := by
  rw [Int.natAbs_natCast]
  exact Nat.lt_of_le_of_lt (ch_le m k) (Nat.lt_of_le_of_lt (Nat.pow_le_pow_right (by decide) h) (by decide))
theorem sum_some : ∀ {l : List Int}, l.sum ≠ 0 → ∃ x ∈ l, x ≠ 0
  | [], h => absurd rfl h
  | x :: r, h => by
    by_cases e : x = 0
    · have : r.sum ≠ 0 := fun z => h (by rw [List.sum_cons, z, e]; rfl)
      obtain ⟨y, hy, ny⟩ := sum_some this
      exact ⟨y, List.mem_cons_of_mem _ hy, ny⟩
    · exact ⟨x, List.mem_cons_self, e⟩
section
variable {P : Program} {w : World} {K : PySem.W.Frag} {mg : Str → Option Value} {base : Heap}
structure NamesS (mg : Str → Option Value) : Prop extends NamesR mg where
  sum : mg "sum" = none
def spRecipe : Sp := fun vs H Q _ => ∃ (p l : Addr) (most : Nat), vs = [.ref p, .int (most : Nat)] ∧ Pen H p l ∧ most ≤ 40 ∧ ∀ (r : Addr) (m : Nat) (ds es : List Int) H', But p H H' → Pen H' p l → m ≤ most → WR m ds es → H r = none → Rec H' r m ds es → Q (.ref r) H'
theorem scRecipe : FnScope ["pen", "most", "many", "caps", "ends", "cap", "end"] ["pen", "most"] (defScope sRecipe) := ⟨rfl, rfl, rfl, by decide +kernel, rfl, by decide +kernel, by decide +kernel⟩
theorem ok_recipe {f g b : Addr} {fd gd bd : FuncData} (F : Fun K "_law_recipe" "_law_recipe" sRecipe f fd) (T : NamesS mg) (GD : FnOk P w K mg base CX0 2 g gd ["pen", "many"] spDraw) (PD : Def K mg "_law_draw" g gd ["pen", "many"])
    (GB : FnOk P w K mg base CX0 1 b bd ["many"] spBin) (PB : Def K mg "_law_binomials" b bd ["many"]) :
    FnOk P w K mg base CX0 3 f fd ["pen", "most"] spRecipe := by
  refine F.ok scRecipe (fun vs H Q E h => ?_) (fun cdv A outer s H vs Q E hr h => ?_)
  · obtain ⟨p, l, m, rfl, _⟩ := h
    rfl
  · obtain ⟨p, l, most, rfl, pn, hm, q⟩ := h
    refine ⟨_, (pss_cons (ps_set (i := 2) scRecipe.nd rfl (.inl rfl) (pe_call GD (hr.mono (by decide)) (by rfl) PD.is PD.kp PD.bi .nil pass0 (pa_cons (pv 0) (pa_cons (pe_op op_add (pv 1) pe_int) pa_nil))))
      (pss_cons (ps_set (i := 3) scRecipe.nd rfl (.inl rfl) (pe_call GB (hr.mono (by decide)) (by rfl) PB.is PB.kp PB.bi .nil pass0 (pa_cons (pv 2) pa_nil)))
      (pss_cons (ps_setLc (i := 4) (own := [("cap", 5)]) (g := gName 5) (tt := tYes) rfl scRecipe.nd rfl rfl (sw_true rfl rfl rfl (by decide +kernel)) (pi_list (pv 3)) (blkOk_by (N := ["pen", "most", "many", "caps", "ends", "cap", "end"]) (sc := defScope sRecipe) (own := [("cap", 5)]) (by decide +kernel)) (fun _ _ _ _ _ => (pg_name (i := 5) scRecipe.nd rfl (.inl rfl))) (fun _ _ _ _ _ => pts_nil) (fun _ _ _ _ _ => (pe_call GD (hr.mono (by decide)) (by rfl) PD.is PD.kp PD.bi .nil pass0 (pa_cons (pv 0) (pa_cons (pe_op op_add (pv 5) pe_int) pa_nil)))))
      (pss_cons (ps_if (pt_cmpR op_eq (pe_callB (cr_sum rfl) (by rfl) T.sum (by decide +kernel) (pa_cons (pv 4) pa_nil)) pe_int (nomark _)) (pss_one (ps_set (i := 4) scRecipe.nd rfl (.inl rfl) (pv 3))) pss_nil)
      (pss_one (ps_ret (pe_tup (pa_cons (pv 2) (pa_cons (pe_callTy call_tuple_of (by rfl) T.tuple (by decide +kernel) (pa_cons (pe_lc (own := [("end", 6)]) (g := gName 6) (tt := tYes) rfl scRecipe.nd (pi_list (pv 4)) (blkOk_by (N := ["pen", "most", "many", "caps", "ends", "cap", "end"]) (sc := defScope sRecipe) (own := [("end", 6)]) (by decide +kernel)) (fun _ _ _ _ _ => (pg_name (i := 6) scRecipe.nd rfl (.inl rfl))) (fun _ _ _ _ _ => pts_nil) (fun _ _ _ _ _ => (pe_call GD (hr.mono (by decide)) (by rfl) PD.is PD.kp PD.bi .nil pass0 (pa_cons (pv 0) (pa_cons (pe_op op_add (pv 6) pe_int) pa_nil))))) pa_nil)) (pa_cons (pe_callTy call_tuple_of (by rfl) T.tuple (by decide +kernel) (pa_cons (pv 4) pa_nil)) pa_nil)))))))))), ?_⟩
    have line : sizeLine = 16777216 := by decide
    refine ⟨.ref p, rfl, _, rfl, _, _, rfl, rfl, p, l, (most : Int) + 1, rfl, pn, by omega, log_le (by omega), fun d H1 d0 d1 b1 p1 => ?_⟩
    obtain ⟨m, rfl⟩ : ∃ m : Nat, d = (m : Int) := ⟨d.toNat, by omega⟩
    refine ⟨_, rfl, m, rfl, by omega, fun c H2 s2 nc ec => ?_⟩
    have ac := p1.apart nc
    have p2 := p1.same s2
    -- ends
    refine ⟨_, rfl, c, rfl, ⟨_, SqL.of ec⟩, fun D nD => ?_⟩
    have aD := p2.apart nD
    have hb : (bin m).length = m + 1 := bin_len m
    refine lc_list (K := K) (a := c) (xs := (bin m).map V.int) (fun i Hx => ∃ es : List Int, Hx D = some (.lst (es.map V.int)) ∧ es.length = i ∧ (∀ k, k < i → 0 ≤ es.getD k 0 ∧ es.getD k 0 ≤ (ch m k : Nat)) ∧ But p H2 Hx ∧ Pen Hx p l) ⟨[], upd_same, rfl, fun k hk => absurd hk (Nat.not_lt_zero _), But.of (Same.upd nD), p2.same (Same.upd nD)⟩ (fun j Hx _ ⟨_, _, _, _, b, _⟩ => SqL.of (b.mem ac.1 ec)) ?_ ?_
    · rintro i x H3 hx ⟨es, e3, len, hes, b3, p3⟩
      have hi : i ≤ m := by
        have := (List.getElem?_eq_some_iff.mp hx).1
        rw [List.length_map, hb] at this
        omega
      rw [List.getElem?_map, bin_get hi] at hx
      cases hx
      refine ⟨rfl, ?_⟩
      dsimp only [tYes]
      have hc := ch_small (m := m) (k := i) (by omega)
      refine iteT ⟨.ref p, rfl, _, rfl, _, _, rfl, rfl, p, l, (ch m i : Int) + 1, rfl, p3, by omega, log_le (by omega), fun u H4 u0 u1 b4 p4 => ?_⟩
      refine ⟨_, b4.mem aD.1 e3, by rw [List.length_map]; omega, es ++ [u], ?_, by simp [len], ?_, ?_, ?_⟩
      · rw [upd_same, List.map_append]
        rfl
      · intro k hk
        rcases Nat.lt_or_ge k i with lt | ge
        · have := hes k lt
          rw [List.getD_eq_getElem?_getD, List.getElem?_append_left (by omega), ← List.getD_eq_getElem?_getD]
          exact this
        · have ek : k = i := by omega
          subst ek
          rw [List.getD_eq_getElem?_getD, List.getElem?_append_right (by omega), len, Nat.sub_self]
          show 0 ≤ u ∧ u ≤ _
          omega
      · intro b o e n
        rw [upd_ne (ne_of_none e nD)]
        exact b4 _ _ (b3 _ _ e n) n
      · obtain ⟨cs, pos, val, h1, h2, h3⟩ := p4
        exact ⟨cs, pos, val, by rw [upd_ne aD.1.symm]; exact h1, by rw [upd_ne aD.2.symm]; exact h2, h3⟩
    · rintro H3 ⟨es, e3, len, hes, b3, p3⟩
      rw [List.length_map, hb] at len hes
      have e3c := b3.mem ac.1 ec
      dsimp only
      refine on (if_tail (fun σ Hx => ∃ (e : Addr) (es : List Int), σ = [some (V.ref p), some (V.int (most : Nat)), some (V.int (m : Nat)), some (V.ref c), some (V.ref e), none, none] ∧ Hx = H3 ∧ H3 e = some (.lst (es.map V.int)) ∧ e ≠ p ∧ es.length = m + 1 ∧ (∀ k, k ≤ m → 0 ≤ es.getD k 0 ∧ es.getD k 0 ≤ (ch m k : Nat)) ∧ ∃ k, k ≤ m ∧ es.getD k 0 ≠ 0) ?_ (fun tl => ?_))
      rotate_left
      · refine ⟨_, rfl, D, es, rfl, SqL.of e3, rfl, _, rfl, ?_⟩
        by_cases h0 : es.sum = 0
        · rw [h0, decide_eq_true rfl]
          refine iteT ⟨_, rfl, tl _ _ ⟨c, bin m, rfl, rfl, e3c, ac.1, hb, ?_, 0, by omega, ?_⟩⟩
          · intro k hk
            rw [List.getD_eq_getElem?_getD, bin_get hk]
            show 0 ≤ (ch m k : Int) ∧ (ch m k : Int) ≤ (ch m k : Nat)
            omega
          · rw [List.getD_eq_getElem?_getD, bin_get (by omega), ch_zero]
            decide
        · rw [decide_eq_false (by intro h; exact h0 (V.int.inj h))]
          refine iteF (tl _ _ ⟨D, es, rfl, rfl, e3, aD.1, len, fun k hk => hes k (by omega), ?_⟩)
          obtain ⟨x, hx, nx⟩ := sum_some h0
          obtain ⟨k, hk, ek⟩ := List.getElem_of_mem hx
          exact ⟨k, by omega, by rw [List.getD_eq_getElem?_getD, List.getElem?_eq_getElem hk, ek]; exact nx⟩
      · rintro σ Hx ⟨e, es, rfl, eHx, ee, ep, len, hes, hsome⟩
        subst eHx
        refine ⟨_, rfl, _, rfl, e, rfl, ⟨_, SqL.of ee⟩, fun D2 nD2 => ?_⟩
        have aD2 := p3.apart nD2
        refine lc_list (K := K) (a := e) (xs := es.map V.int) (fun i Hy => ∃ ds : List Int, Hy D2 = some (.lst (ds.map V.int)) ∧ ds.length = i ∧ (∀ k, k < i → 0 ≤ ds.getD k 0 ∧ ds.getD k 0 ≤ es.getD k 0) ∧ But p Hx Hy ∧ Pen Hy p l) ⟨[], upd_same, rfl, fun k hk => absurd hk (Nat.not_lt_zero _), But.of (Same.upd nD2), p3.same (Same.upd nD2)⟩ (fun j Hx _ ⟨_, _, _, _, b, _⟩ => SqL.of (b.mem ep ee)) ?_ ?_
        · rintro i x H5 hx ⟨ds, e5, ld, hds, b5, p5⟩
          obtain ⟨hi, hx⟩ := List.getElem?_eq_some_iff.mp hx
          rw [List.length_map, len] at hi
          have hx : x = V.int (es.getD i 0) := by
            rw [← hx, List.getElem_map, List.getD_eq_getElem?_getD, List.getElem?_eq_getElem (by omega)]
            rfl
          subst hx
          have hei := hes i (by omega)
          have hc := ch_small (m := m) (k := i) (by omega)
          refine ⟨rfl, ?_⟩
          dsimp only [tYes]
          refine iteT ⟨.ref p, rfl, _, rfl, _, _, rfl, rfl, p, l, es.getD i 0 + 1, rfl, p5, by omega, log_le (by omega), fun u H6 u0 u1 b6 p6 => ?_⟩
          refine ⟨_, b6.mem aD2.1 e5, by rw [List.length_map]; omega, ds ++ [u], ?_, by simp [ld], ?_, ?_, ?_⟩
          · rw [upd_same, List.map_append]
            rfl
          · intro k hk
            rcases Nat.lt_or_ge k i with lt | ge
            · have := hds k lt
              rw [List.getD_eq_getElem?_getD, List.getElem?_append_left (by omega), ← List.getD_eq_getElem?_getD]
              exact this
            · have ek : k = i := by omega
              subst ek
              rw [List.getD_eq_getElem?_getD, List.getElem?_append_right (by omega), ld, Nat.sub_self]
              show 0 ≤ u ∧ u ≤ _
              omega
          · intro b o e n
            rw [upd_ne (ne_of_none e nD2)]
            exact b6 _ _ (b5 _ _ e n) n
          · obtain ⟨cs, pos, val, h1, h2, h3⟩ := p6
            exact ⟨cs, pos, val, by rw [upd_ne aD2.1.symm]; exact h1, by rw [upd_ne aD2.2.symm]; exact h2, h3⟩
        · rintro H5 ⟨ds, e5, ld, hds, b5, p5⟩
          rw [List.length_map, len] at ld hds
          refine ⟨D2, _, rfl, .inl ⟨SqL.of e5, fun t nt => ?_⟩⟩
          have s6 := Same.upd (o := .tup (ds.map V.int)) nt
          have e6 : upd H5 t (.tup (ds.map V.int)) t = some (.tup (ds.map V.int)) := upd_same
          change (_ : Hp → Prop) (upd H5 t (.tup (ds.map V.int)))
          generalize upd H5 t (.tup (ds.map V.int)) = H6 at s6 e6 ⊢
          refine ⟨_, rfl, e, _, rfl, .inl ⟨SqL.of (s6 _ _ (b5.mem ep ee)), fun u nu => ?_⟩⟩
          have s7 := Same.upd (o := .tup (es.map V.int)) nu
          have e7 : upd H6 u (.tup (es.map V.int)) u = some (.tup (es.map V.int)) := upd_same
          change (_ : Hp → Prop) (upd H6 u (.tup (es.map V.int)))
          generalize upd H6 u (.tup (es.map V.int)) = H7 at s7 e7 ⊢
          refine ⟨by show 3 ≤ sizeLine; decide, fun r nr => ?_⟩
          have s8 := Same.upd (o := .tup [.int (m : Nat), .ref t, .ref u]) nr
          have p7 := (p5.same s6).same s7
          have ar := p7.apart nr
          have bb : But p H H7 := ((((b1.trans (But.of s2)).trans b3).trans b5).trans (But.of s6)).trans (But.of s7)
          exact q r m ds es _ (bb.trans (But.of s8)) (p7.same s8) (by omega) ⟨ld, len, fun k hk => ⟨(hds k (by omega)).1, (hds k (by omega)).2, (hes k hk).2⟩, hsome⟩ (bb.free ar.1 nr) ⟨t, u, upd_same, s8 _ _ (s7 _ _ e6), s8 _ _ e7⟩
end
end Z

set_option Elab.async false
set_option maxRecDepth 100000
set_option maxHeartbeats 4000000
/-! enumerate(t), t a tuple -/
namespace EN
open PySem PySem.Spec PyProof.Rows L2
open Sem (wp)
theorem new_enum {v : Value} {o : Obj} {G : Heap → Prop} (B : Begins v o G) :
    Meets (Builtin.«enumerate.__new__» ⟨[.type "enumerate", v], []⟩) (fun _ R s => G s.heap ∧
      R (.ok (.ret (.ref (s.heap.push o).objs.size)))
        { s with heap := (s.heap.push o).push { cls := .type "enumerate", data := .fields #[.none, .bool false, .ref s.heap.objs.size, rawInt 0, .none, .none] } }) := by
  refine .of_wp fun prog w A R s h => ?_
  obtain ⟨hp, g, d, tk, os⟩ := s
  obtain ⟨hG, h⟩ := h
  have sub := sub_enumerate
  have begin_ : ∀ {A' : Around} {E : Value → Shared → Prop} {Q : Value → Shared → Prop}, Q (.ref hp.objs.size) ⟨hp.push o, g, d, tk, os⟩ →
      wpAny (model prog w) A' (pyIter v) Q E ⟨hp, g, d, tk, os⟩ := fun q => B.iter prog w _ _ ⟨hp, g, d, tk, os⟩ _ hG q
  wp_walk using begin_
  refine wpAny_stack_any fun st => wpAny_pure ?_
  split
  · rename_i c _ _ _ _ _
    cases (c == Value.type "enumerate")
    all_goals
      wp_walk using begin_
      exact ⟨_, rfl, h⟩
  · wp_walk using begin_
    exact ⟨_, rfl, h⟩
theorem call_enum {prog : Program} {w : World} {A : Around} {E : Value → Shared → Prop} {s : Shared} {v : Value} {o : Obj} {G : Heap → Prop} {Q : Value → Shared → Prop} (B : Begins v o G) (hG : G s.heap)
    (h : ∀ h', IsEnum h' (s.heap.objs.size + 1) s.heap.objs.size 0 .none → h'.get? s.heap.objs.size = some o →
      (∀ b u, s.heap.get? b = some u → h'.get? b = some u) → Q (.ref (s.heap.objs.size + 1)) { s with heap := h' }) :
    wpAny (model prog w) A (call (.type "enumerate") [v]) Q E s := by
  apply callType_new F.called_enumerate (by decide) (F.typeCall_enumerate_1 _) (F.newCall_enumerate_1 _) (fun obj => F.args_object_init_2 obj _) F.entry_enumerate_new (new_enum B)
  refine ⟨hG, ?_⟩
  have size : (s.heap.push o).objs.size = s.heap.objs.size + 1 := Heap.size_push ..
  show _ ∧ _
  rw [size]
  have made : IsEnum ((s.heap.push o).push { cls := .type "enumerate", data := .fields #[.none, .bool false, .ref s.heap.objs.size, rawInt 0, .none, .none] }) (s.heap.objs.size + 1) s.heap.objs.size 0 .none := by
    have e := Heap.get?_push_size (s.heap.push o) (o := { cls := .type "enumerate", data := .fields #[.none, .bool false, .ref s.heap.objs.size, rawInt 0, .none, .none] }) rfl
    rwa [size] at e
  refine ⟨⟨_, made, rfl⟩, h _ made ?_ ?_⟩
  · exact Heap.get?_push_of_some _ (Heap.get?_push_size _ B.free)
  · intro b u e
    exact Heap.get?_push_of_some _ (Heap.get?_push_of_some _ e)

/-- the tuple at a, each item in a new pair with its place -/
def Pairs (K : PySem.W.Frag) (a : Addr) : It where
  go := fun i H => ∃ (xs : List V) (x : V), SqT K H a xs ∧ xs[i]? = some x
  yld := fun i H v H' => ∃ T x, v = .ref T ∧ H T = none ∧ H' = upd H T (.tup [.int (i : Nat), x]) ∧ ∀ xs, SqT K H a xs → xs[i]? = some x
  stop := fun i H => ∃ xs : List V, SqT K H a xs ∧ xs.length ≤ i
theorem turn_pairs {P : Program} {w : World} {K : PySem.W.Frag} {elts : List Expr} {kk : Nat} {tpos : Pos} (a e it : Addr) :
    Turn P w K (.Tuple elts kk tpos) (Pairs K a) [e, it] e (fun i h => (∃ old, IsEnum h e it ((i : Nat) : Int) old) ∧ h.IsTupleIter it a i ∧ e ≠ it) where
  mem := List.mem_cons_self ..
  obj := by
    rintro i h ⟨⟨old, he⟩, ⟨o, ho, hc, hd⟩, _⟩ b hb
    simp only [List.mem_cons, List.not_mem_nil, or_false] at hb
    rcases hb with rfl | rfl
    · exact ⟨_, he, fun v q => nomatch q⟩
    · exact ⟨o, ho, fun v q => by rw [hd] at q; cases q⟩
  keep := by
    rintro i h h' ⟨⟨old, he⟩, hi, hne⟩ k
    exact ⟨⟨old, k e (by simp) _ he⟩, hi.at fun o q => k it (by simp) o q, hne⟩
  item := by
    intro X hP hw hK calm i pins s σ H E I hf st hg
    subst hP hw hK
    obtain ⟨⟨old, he⟩, hit, hne⟩ := st
    obtain ⟨xs, x, hq, hx⟩ := hg
    obtain ⟨its, rv, p, hz⟩ := I.tuple hq
    obtain ⟨u, hu, ru⟩ := rv.get hx
    have le : e < s.heap.objs.size := Heap.lt_size he
    have li : it < s.heap.objs.size := by obtain ⟨_, q, _⟩ := hit; exact Heap.lt_size q
    have tup : s.heap.IsTuple a its.toArray := p
    have nai : a ≠ it := by
      rintro rfl
      obtain ⟨o1, q1, c1, _⟩ := tup
      obtain ⟨o2, q2, c2, _⟩ := hit
      rw [q1] at q2
      cases q2
      rw [c1] at c2
      injection c2 with c3
      exact absurd c3 (by decide)
    have nae : a ≠ e := by
      rintro rfl
      obtain ⟨o1, q1, c1, _⟩ := tup
      have q2 : s.heap.get? a = _ := he
      rw [q1] at q2
      cases q2
      injection c1 with c3
      exact absurd c3 (by decide)
    have lt : i < its.toArray.size := by
      have := (List.getElem?_eq_some_iff.mp hu).1
      simpa using this
    refine wpAny_pyNext_enum_itemD (Draws.tuple (A := X.A.in1) (by exact I.ok.hd calm) it a nai its.toArray) he ⟨hit, tup⟩ lt hne (by simp [hne, Ne.symm nae]) fun y h' tk hy ho st' hT hsz hk => ?_
    have ey : y = u := by
      have : its.toArray[i]? = some u := by simpa using hu
      exact Option.some.inj (hy.symm.trans this)
    subst ey
    refine ⟨_, rfl, wpAny_letOwnedTupleGo_enum (s := { s with heap := h', toks := tk + 1 }) ho fun h2 he2 sb => ?_⟩
    have sb' : Heap.SameBut e h' h2 := sb
    have hT2 : h2.get? s.heap.objs.size = some { cls := .type "tuple", data := .seq #[.int i tk, y] } := (sb'.2 _ (Nat.ne_of_gt le)).trans hT
    have new : ObjOk X.prog X.w (upd H s.heap.objs.size (.tup [.int (i : Nat), x])) h2 s.heap.objs.size (.tup [.int (i : Nat), x]) :=
      ⟨by show 2 ≤ sizeLine; decide, [.int i tk, y], .cons ⟨_, rfl⟩ (.cons ru .nil), ⟨_, hT2, rfl, _, rfl⟩⟩
    have I2 : Inv X pins σ (upd H s.heap.objs.size (.tup [.int (i : Nat), x])) { s with heap := h2, toks := tk + 1 } := by
      refine I.turnedNew (ch := [e, it]) (fun b ob hb q => ?_) hf (Nat.le_refl _) new
      have ne : b ≠ e := fun z => hb (by simp [z])
      have ni : b ≠ it := fun z => hb (by simp [z])
      exact (sb'.2 b ne).trans (hk b ob ne ni q)
    refine ⟨.ref s.heap.objs.size, _, I2, rfl, ⟨_, x, rfl, I.hok.fresh (Nat.le_refl _), rfl, fun ys hy => by rw [I.tuple_inj hy hq]; exact hx⟩, ⟨⟨y, ?_⟩, st'.1.at fun o q => (sb'.2 it (Ne.symm hne)).trans q, hne⟩, fun b hb => ?_⟩
    · have e1 : ((i + 1 : Nat) : Int) = (i : Int) + 1 := by omega
      rw [e1]
      exact he2
    · have lb : b < s.heap.objs.size := by
        simp only [List.mem_cons, List.not_mem_nil, or_false] at hb
        rcases hb with rfl | rfl
        · exact le
        · exact li
      rw [upd_ne (Nat.ne_of_lt lb)]
      exact (hf b hb).1
  done := by
    intro X hP hw hK calm i pins s σ H E I hf st hg
    subst hP hw hK
    obtain ⟨⟨old, he⟩, hit, hne⟩ := st
    obtain ⟨xs, hq, hx⟩ := hg
    obtain ⟨its, rv, p, hz⟩ := I.tuple hq
    have tup : s.heap.IsTuple a its.toArray := p
    have nai : a ≠ it := by
      rintro rfl
      obtain ⟨o1, q1, c1, _⟩ := tup
      obtain ⟨o2, q2, c2, _⟩ := hit
      rw [q1] at q2
      cases q2
      rw [c1] at c2
      injection c2 with c3
      exact absurd c3 (by decide)
    obtain ⟨f0, f1, f2, f3, f4, f5⟩ := hf it (by simp)
    have hl := rv.length
    have none_ : its.toArray[i]? = none := by simp; omega
    have hT : s.TypeIs (.ref e) "enumerate" := ⟨_, he, rfl⟩
    unfold pyNext
    refine wpAny_bind (wpAny_attempt (wpAny_callSpecial?_slot (name := Str.ofString "__next__") hT F.slot_enumerate_next
      (wpAny_call_entry F.slot_enumerate_next hT F.entry_enumerate_next ?_ (F.args_enumerate_next_1 _))))
    show wpAny _ _ (field (.ref e) 2 >>= _) _ _ _
    refine wpAny_bind (wpAny_field he rfl (x := .ref it) rfl ?_)
    refine wpAny_bind (wpAny_nextOf_tuple_end (I.ok.hd calm) hit tup none_ fun h' x he' hx' => ?_)
    obtain ⟨o, ho, hc⟩ := hx'
    refine wpAny_bind (wpAny_isInstance (T := "StopIteration") (b := true) ⟨o, ho, hc⟩ isSubtype_stop ?_)
    refine wpAny_pure ⟨rfl, ?_⟩
    exact I.turned (t' := s.toks) (fun b o hb q => he' b o hb q) f0 f1 f3 f4 f5
  self := by
    rintro A i s Q E ⟨⟨old, he⟩, _⟩ h
    exact wpAny_pyIter_enum he h
section
variable {X : Cx}
def tPairs (K : PySem.W.Frag) (ta : TA) : TI := fun σ H R => ta σ H fun vs H1 => ∃ a xs, vs = [.ref a] ∧ SqT K H1 a xs ∧ R (Pairs K a) H1
theorem pi_pairs {e : Expr} {ta : TA} {p pos tpos : Pos} {elts : List Expr} {kk : Nat} (glob : Gl X "enumerate") (none_ : X.mg "enumerate" = none) (args : PA X [e] ta)
    (star : starEach [e] X.env = [(false, eval e X.env)] := by rfl) : PI X (.Tuple elts kk tpos) (.Call (.Name "enumerate" p) [e] [] pos) (tPairs X.K ta) := by
  constructor
  intro pins s σ H R I h
  refine Call_ (ld_blt I glob none_ boot_enumerate ?_)
  refine PyProof.Rows.callWith_type1 (thn (args.run pos pins s σ H _ I h) fun us s1 got => ?_) star rfl
  obtain ⟨vs, H1, I1, r1, a, xs, ex, hq, q⟩ := got
  subst ex
  obtain ⟨u, eu, ru⟩ := vals1 r1
  subst eu
  have eu : u = Value.ref a := ru
  subst eu
  obtain ⟨its, rv, p', hz⟩ := I1.tuple hq
  refine call_enum (begins_tuple a its.toArray) p' fun h' he hit hk => wpAny_pyIter_enum he ?_
  have I2 : Inv X pins σ H1 { s1 with heap := h' } := I1.kept (t' := s1.toks) hk
  refine ⟨s1.heap.objs.size + 1, [s1.heap.objs.size + 1, s1.heap.objs.size], _, _, H1, rfl, I2, turn_pairs a (s1.heap.objs.size + 1) s1.heap.objs.size, ⟨⟨.none, he⟩, ⟨_, hit, rfl, rfl⟩, Nat.succ_ne_self _⟩, fun b hb => ?_, q⟩
  have above : s1.heap.objs.size ≤ b := by
    simp only [List.mem_cons, List.not_mem_nil, or_false] at hb
    rcases hb with rfl | rfl
    · exact Nat.le_add_right _ _
    · exact Nat.le_refl _
  exact I1.fpOk above (I1.hok.fresh above)
/-- the loop over the pairs -/
theorem for_pairs {K : PySem.W.Frag} {a : Addr} {xs : List V} {g : TG} {tb : TS} {D : Ends} {σ : L2.St} {H : Hp} (Pv : Nat → L2.St → Hp → Prop) (h0 : Pv 0 σ H) (hl : ∀ i σ H, i ≤ xs.length → Pv i σ H → SqT K H a xs)
    (turn : ∀ i x σ H T, xs[i]? = some x → Pv i σ H → H T = none → g (.ref T) σ (upd H T (.tup [.int (i : Nat), x])) fun σ2 H2 => tb { D with nx := Pv (i + 1), ct := Pv (i + 1), bk := D.nx } σ2 H2) (done : ∀ σ H, Pv xs.length σ H → D.nx σ H) :
    ∃ W : Nat → Nat → L2.St → Hp → Prop, (∃ m, W 0 m σ H) ∧ ∀ i m σ H, W i m σ H →
      ((Pairs K a).stop i H ∧ D.nx σ H) ∨ ((Pairs K a).go i H ∧ ∃ N : L2.St → Hp → Prop, (∀ σ' H', N σ' H' → ∃ m', m' < m ∧ W (i + 1) m' σ' H') ∧ ∀ x H', (Pairs K a).yld i H x H' → g x σ H' fun σ2 H2 => tb { D with nx := N, ct := N, bk := D.nx } σ2 H2) := by
  refine ⟨fun i m σ H => m = xs.length - i ∧ i ≤ xs.length ∧ Pv i σ H, ⟨xs.length, by simp, Nat.zero_le _, h0⟩, ?_⟩
  rintro i m σ H ⟨rfl, le, pv⟩
  have here := hl i σ H le pv
  rcases Nat.lt_or_ge i xs.length with lt | ge
  · refine .inr ⟨⟨xs, xs[i], here, List.getElem?_eq_getElem lt⟩, Pv (i + 1), fun σ' H' n => ⟨xs.length - (i + 1), by omega, rfl, lt, n⟩, ?_⟩
    rintro v H' ⟨T, x, rfl, nT, rfl, hx⟩
    exact turn i x σ H T (hx xs here) pv nT
  · have e : i = xs.length := by omega
    subst e
    exact .inl ⟨⟨xs, here, Nat.le_refl _⟩, done σ H pv⟩
end
end EN

set_option Elab.async false
set_option linter.all false
set_option maxRecDepth 100000
set_option maxHeartbeats 4000000
/-! enumerate(z), z a text -/
namespace EN
open PySem PySem.Spec PyProof.Rows L2
open Sem (wp)
def Signs (z : Str) : It where
  go := fun i _ => i < z.cps.size
  yld := fun i H v H' => ∃ T c, v = .ref T ∧ H T = none ∧ H' = upd H T (.tup [.int (i : Nat), .str ⟨#[c]⟩]) ∧ z.cps[i]? = some c
  stop := fun i _ => z.cps.size ≤ i
theorem turn_signs {P : Program} {w : World} {K : PySem.W.Frag} {elts : List Expr} {kk : Nat} {tpos : Pos} (z : Str) (t : Tok) (e it : Addr) :
    Turn P w K (.Tuple elts kk tpos) (Signs z) [e, it] e (fun i h => i ≤ z.cps.size ∧ (∃ old, IsEnum h e it ((i : Nat) : Int) old) ∧ h.IsStrIter it (strIterType z) z t i ∧ e ≠ it) where
  mem := List.mem_cons_self ..
  obj := by
    rintro i h ⟨_, ⟨old, he⟩, ⟨o, ho, hc, hd⟩, _⟩ b hb
    simp only [List.mem_cons, List.not_mem_nil, or_false] at hb
    rcases hb with rfl | rfl
    · exact ⟨_, he, fun v q => nomatch q⟩
    · exact ⟨o, ho, fun v q => by rw [hd] at q; cases q⟩
  keep := by
    rintro i h h' ⟨le, ⟨old, he⟩, hi, hne⟩ k
    obtain ⟨o, ho, r⟩ := hi
    exact ⟨le, ⟨old, k e (by simp) _ he⟩, ⟨o, k it (by simp) o ho, r⟩, hne⟩
  item := by
    intro X hP hw hK calm i pins s σ H E I hf st hg
    subst hP hw hK
    obtain ⟨_, ⟨old, he⟩, hit, hne⟩ := st
    have lt : i < z.cps.size := hg
    have le : e < s.heap.objs.size := Heap.lt_size he
    have li : it < s.heap.objs.size := by obtain ⟨_, q, _⟩ := hit; exact Heap.lt_size q
    refine wpAny_pyNext_enum_itemD (Draws.text (A := X.A.in1) (by exact I.ok.hd calm) it z t) he hit lt hne (by simp [hne]) fun y h' tk hy ho st' hT hsz hk => ?_
    obtain ⟨c, u, hc, rfl⟩ := hy
    refine ⟨_, rfl, wpAny_letOwnedTupleGo_enum (s := { s with heap := h', toks := tk + 1 }) ho fun h2 he2 sb => ?_⟩
    have sb' : Heap.SameBut e h' h2 := sb
    have hT2 : h2.get? s.heap.objs.size = some { cls := .type "tuple", data := .seq #[.int i tk, .str ⟨#[c]⟩ u] } := (sb'.2 _ (Nat.ne_of_gt le)).trans hT
    have new : ObjOk X.prog X.w (upd H s.heap.objs.size (.tup [.int (i : Nat), .str ⟨#[c]⟩])) h2 s.heap.objs.size (.tup [.int (i : Nat), .str ⟨#[c]⟩]) :=
      ⟨by show 2 ≤ sizeLine; decide, [.int i tk, .str ⟨#[c]⟩ u], .cons ⟨_, rfl⟩ (.cons ⟨_, rfl⟩ .nil), ⟨_, hT2, rfl, _, rfl⟩⟩
    have I2 : Inv X pins σ (upd H s.heap.objs.size (.tup [.int (i : Nat), .str ⟨#[c]⟩])) { s with heap := h2, toks := tk + 1 } := by
      refine I.turnedNew (ch := [e, it]) (fun b ob hb q => ?_) hf (Nat.le_refl _) new
      have ne : b ≠ e := fun z => hb (by simp [z])
      have ni : b ≠ it := fun z => hb (by simp [z])
      exact (sb'.2 b ne).trans (hk b ob ne ni q)
    refine ⟨.ref s.heap.objs.size, _, I2, rfl, ⟨_, c, rfl, I.hok.fresh (Nat.le_refl _), rfl, hc⟩, ⟨lt, ⟨.str ⟨#[c]⟩ u, ?_⟩, ?_, hne⟩, fun b hb => ?_⟩
    · have e1 : ((i + 1 : Nat) : Int) = (i : Int) + 1 := by omega
      rw [e1]
      exact he2
    · obtain ⟨o, q, r⟩ := st'
      exact ⟨o, (sb'.2 it (Ne.symm hne)).trans q, r⟩
    · have lb : b < s.heap.objs.size := by
        simp only [List.mem_cons, List.not_mem_nil, or_false] at hb
        rcases hb with rfl | rfl
        · exact le
        · exact li
      rw [upd_ne (Nat.ne_of_lt lb)]
      exact (hf b hb).1
  done := by
    intro X hP hw hK calm i pins s σ H E I hf st hg
    subst hP hw hK
    obtain ⟨le, ⟨old, he⟩, hit, hne⟩ := st
    have ge : z.cps.size ≤ i := hg
    obtain rfl : i = z.cps.size := by omega
    obtain ⟨f0, f1, f2, f3, f4, f5⟩ := hf it (by simp)
    have hT : s.TypeIs (.ref e) "enumerate" := ⟨_, he, rfl⟩
    unfold pyNext
    refine wpAny_bind (wpAny_attempt (wpAny_callSpecial?_slot (name := Str.ofString "__next__") hT F.slot_enumerate_next
      (wpAny_call_entry F.slot_enumerate_next hT F.entry_enumerate_next ?_ (F.args_enumerate_next_1 _))))
    show wpAny _ _ (field (.ref e) 2 >>= _) _ _ _
    refine wpAny_bind (wpAny_field he rfl (x := .ref it) rfl ?_)
    refine wpAny_bind ((Draws.text (prog := X.prog) (w := X.w) (A := X.A.in1) (by exact I.ok.hd calm) it z t).done s _ _ hit fun h' x he' hx' => ?_)
    obtain ⟨o, ho, hc⟩ := hx'
    refine wpAny_bind (wpAny_isInstance (T := "StopIteration") (b := true) ⟨o, ho, hc⟩ isSubtype_stop ?_)
    refine wpAny_pure ⟨rfl, ?_⟩
    exact I.turned (t' := s.toks) (fun b o hb q => he' b o hb q) f0 f1 f3 f4 f5
  self := by
    rintro A i s Q E ⟨_, ⟨old, he⟩, _⟩ h
    exact wpAny_pyIter_enum he h
section
variable {X : Cx}
def tSigns (ta : TA) : TI := fun σ H R => ta σ H fun vs H1 => ∃ z : Str, vs = [.str z] ∧ R (Signs z) H1
theorem pi_signs {e : Expr} {ta : TA} {p pos tpos : Pos} {elts : List Expr} {kk : Nat} (glob : Gl X "enumerate") (none_ : X.mg "enumerate" = none) (args : PA X [e] ta)
    (star : starEach [e] X.env = [(false, eval e X.env)] := by rfl) : PI X (.Tuple elts kk tpos) (.Call (.Name "enumerate" p) [e] [] pos) (tSigns ta) := by
  constructor
  intro pins s σ H R I h
  refine Call_ (ld_blt I glob none_ boot_enumerate ?_)
  refine PyProof.Rows.callWith_type1 (thn (args.run pos pins s σ H _ I h) fun us s1 got => ?_) star rfl
  obtain ⟨vs, H1, I1, r1, z, ex, q⟩ := got
  subst ex
  obtain ⟨u, eu, ru⟩ := vals1 r1
  subst eu
  obtain ⟨t, eu⟩ : ∃ t, u = Value.str z t := ru
  subst eu
  refine call_enum (begins_text z t) trivial fun h' he hit hk => wpAny_pyIter_enum he ?_
  have I2 : Inv X pins σ H1 { s1 with heap := h' } := I1.kept (t' := s1.toks) hk
  refine ⟨s1.heap.objs.size + 1, [s1.heap.objs.size + 1, s1.heap.objs.size], _, _, H1, rfl, I2, turn_signs z t (s1.heap.objs.size + 1) s1.heap.objs.size, ⟨Nat.zero_le _, ⟨.none, he⟩, ⟨_, hit, rfl, rfl⟩, Nat.succ_ne_self _⟩, fun b hb => ?_, q⟩
  have above : s1.heap.objs.size ≤ b := by
    simp only [List.mem_cons, List.not_mem_nil, or_false] at hb
    rcases hb with rfl | rfl
    · exact Nat.le_add_right _ _
    · exact Nat.le_refl _
  exact I1.fpOk above (I1.hok.fresh above)
/-- the loop over the signs -/
theorem for_signs {z : Str} {g : TG} {tb : TS} {D : Ends} {σ : L2.St} {H : Hp} (Pv : Nat → L2.St → Hp → Prop) (h0 : Pv 0 σ H)
    (turn : ∀ i c σ H T, z.cps[i]? = some c → Pv i σ H → H T = none → g (.ref T) σ (upd H T (.tup [.int (i : Nat), .str ⟨#[c]⟩])) fun σ2 H2 => tb { D with nx := Pv (i + 1), ct := Pv (i + 1), bk := D.nx } σ2 H2) (done : ∀ σ H, Pv z.cps.size σ H → D.nx σ H) :
    ∃ W : Nat → Nat → L2.St → Hp → Prop, (∃ m, W 0 m σ H) ∧ ∀ i m σ H, W i m σ H →
      ((Signs z).stop i H ∧ D.nx σ H) ∨ ((Signs z).go i H ∧ ∃ N : L2.St → Hp → Prop, (∀ σ' H', N σ' H' → ∃ m', m' < m ∧ W (i + 1) m' σ' H') ∧ ∀ x H', (Signs z).yld i H x H' → g x σ H' fun σ2 H2 => tb { D with nx := N, ct := N, bk := D.nx } σ2 H2) := by
  refine ⟨fun i m σ H => m = z.cps.size - i ∧ i ≤ z.cps.size ∧ Pv i σ H, ⟨z.cps.size, by simp, Nat.zero_le _, h0⟩, ?_⟩
  rintro i m σ H ⟨rfl, le, pv⟩
  rcases Nat.lt_or_ge i z.cps.size with lt | ge
  · refine .inr ⟨lt, Pv (i + 1), fun σ' H' n => ⟨z.cps.size - (i + 1), by omega, rfl, lt, n⟩, ?_⟩
    rintro v H' ⟨T, c, rfl, nT, rfl, hc⟩
    exact turn i c σ H T hc pv nT
  · have e : i = z.cps.size := by omega
    subst e
    exact .inl ⟨Nat.le_refl _, done σ H pv⟩
end
end EN

set_option Elab.async false
set_option linter.all false
set_option maxRecDepth 100000
set_option maxHeartbeats 4000000
/-! z.count(one sign); tapes as texts -/
namespace CO
open PySem PySem.StrLaws PySem.Builtin PySem.Builtin.Str
theorem walk (x : Str) (c : Nat) : ∀ (n a : Nat) (st : Array Nat × Nat), st.fst.size ≤ a → st.snd ≤ a → a + n ≤ x.length + 1 →
    ((forIn (List.range' a n) st (occBody x ⟨#[c]⟩ x.length (x.length + 1))).run.fst).size = st.fst.size + ((x.cps.toList.drop a).take n).count c
  | 0, a, st, _, _, _ => by simp
  | n + 1, a, st, h1, h2, h3 => by
    rw [List.range'_succ, List.forIn_cons]
    have one := subAt_one x c a
    have len : (⟨#[c]⟩ : Str).length = 1 := rfl
    have step : ((x.cps.toList.drop a).take (n + 1)).count c = (if x.cps.toList[a]? = some c then 1 else 0) + ((x.cps.toList.drop (a + 1)).take n).count c := by
      cases e : x.cps.toList[a]? with
      | none =>
        have ge : x.cps.toList.length ≤ a := by simpa using e
        rw [List.drop_eq_nil_of_le ge, List.drop_eq_nil_of_le (by omega)]
        simp
      | some d =>
        obtain ⟨lt, ed⟩ := List.getElem?_eq_some_iff.mp e
        rw [List.drop_eq_getElem_cons lt, List.take_succ_cons, List.count_cons, ed]
        by_cases hd : d = c
        · subst hd
          simp
          omega
        · simp [hd]
    rw [step]
    unfold occBody
    by_cases hc : x.cps.toList[a]? = some c
    · obtain ⟨q1, q2⟩ := one.mpr hc
      rw [if_pos ⟨⟨⟨by omega, h2⟩, q1⟩, q2⟩, if_pos hc]
      show ((forIn (List.range' (a + 1) n) (st.fst.push a, a + (⟨#[c]⟩ : Str).length) (occBody x ⟨#[c]⟩ x.length (x.length + 1))).run.fst).size = _
      rw [walk x c n (a + 1) _ (by show (st.fst.push a).size ≤ _; rw [Array.size_push]; omega) (by show a + 1 ≤ a + 1; exact Nat.le_refl _) (by omega)]
      show (st.fst.push a).size + _ = _
      rw [Array.size_push]
      omega
    · rw [if_neg (fun z => hc (one.mp ⟨z.1.2, z.2⟩)), if_neg hc]
      show ((forIn (List.range' (a + 1) n) (st.fst, st.snd) (occBody x ⟨#[c]⟩ x.length (x.length + 1))).run.fst).size = _
      rw [walk x c n (a + 1) _ (by show st.fst.size ≤ _; omega) (by show st.snd ≤ _; omega) (by omega)]
      show st.fst.size + _ = _
      simp only [if_neg hc, Nat.zero_add]
theorem count_one (x : Str) (c : Nat) : Txt.count x ⟨#[c]⟩ = (x.cps.toList.count c : Nat) := by
  unfold Txt.count
  rw [occ_eq]
  have h := walk x c (x.length + 1 - 0) 0 (#[], 0) (Nat.le_refl _) (Nat.le_refl _) (by omega)
  have e : (x.cps.toList.drop 0).take (x.length + 1 - 0) = x.cps.toList := by
    rw [List.drop_zero]
    exact List.take_of_length_le (by rw [Array.length_toList]; show x.length ≤ _; omega)
  rw [e] at h
  rw [Array.length_toList, h]
  simp
end CO

set_option Elab.async false
set_option linter.all false
set_option maxRecDepth 100000
set_option maxHeartbeats 4000000
/-! tapes as lists of tosses -/
namespace Z
open PySem PySem.Spec PyProof.Rows L2 ZC
def sg (b : Bool) : Str := if b then "H" else "T"
def word (t : List Bool) : Str := ⟨(t.map fun b => if b then 72 else 84).toArray⟩
theorem sg_len (b : Bool) : (sg b).length = 1 := by cases b <;> decide +kernel
theorem sg_cps (b : Bool) : (sg b).cps.toList = [if b then 72 else 84] := by cases b <;> decide +kernel
theorem sg_one (b : Bool) : sg b = ⟨#[if b then 72 else 84]⟩ := by cases b <;> decide +kernel
theorem sg_inj {b c : Bool} (h : sg b = sg c) : b = c := by
  cases b <;> cases c
  · rfl
  · exact absurd h (by decide +kernel)
  · exact absurd h (by decide +kernel)
  · rfl
theorem word_list (t : List Bool) : (word t).cps.toList = t.map fun b => if b then 72 else 84 := by
  unfold word
  rw [List.toList_toArray]
theorem word_len (t : List Bool) : (word t).length = t.length := by
  show (word t).cps.size = _
  rw [← Array.length_toList, word_list, List.length_map]
theorem word_at {t : List Bool} {i c : Nat} (h : (word t).cps[i]? = some c) : ∃ b, t[i]? = some b ∧ (⟨#[c]⟩ : Str) = sg b := by
  have h' : (word t).cps.toList[i]? = some c := by rw [Array.getElem?_toList]; exact h
  rw [word_list, List.getElem?_map] at h'
  cases e : t[i]? with
  | none => rw [e] at h'; cases h'
  | some b =>
    rw [e] at h'
    refine ⟨b, rfl, ?_⟩
    have ec : (if b then 72 else 84) = c := Option.some.inj h'
    rw [← ec, ← sg_one]
theorem str_ext {x y : Str} (e : x.cps.toList = y.cps.toList) : x = y := by
  obtain ⟨x⟩ := x
  obtain ⟨y⟩ := y
  exact congrArg Str.mk (Array.toList_inj.mp e)
theorem word_app (t u : List Bool) : word t ++ word u = word (t ++ u) := by
  refine str_ext ?_
  show ((word t).cps ++ (word u).cps).toList = _
  rw [Array.toList_append, word_list, word_list, word_list, List.map_append]
theorem word_one (b : Bool) : word [b] = sg b := str_ext (by rw [word_list, sg_cps]; rfl)
theorem word_snoc (t : List Bool) (b : Bool) : word t ++ sg b = word (t ++ [b]) := by rw [← word_one, word_app]
theorem word_cons (t : List Bool) (b : Bool) : sg b ++ word t = word (b :: t) := by rw [← word_one, word_app]; rfl
theorem cut_word {t : List Bool} {j k : Nat} (h : j ≤ k) (h' : k ≤ t.length) : cutS (word t) (some (j : Int)) (some (k : Int)) = word ((t.drop j).take (k - j)) := by
  have e1 : HT.sIx (word t).length 0 (some (j : Int)) = j := by
    rw [HT.sIx_nat, word_len]
    omega
  have e2 : HT.sIx (word t).length (word t).length (some (k : Int)) = k := by
    rw [HT.sIx_nat, word_len]
    omega
  refine str_ext ?_
  unfold cutS
  rw [e1, e2, List.toList_toArray, word_list, word_list, List.map_take, List.map_drop]
def hd (t : List Bool) : Nat := t.count true
theorem count_H (t : List Bool) : Txt.count (word t) "H" = (hd t : Int) := by
  have e : (("H" : String) : Str) = ⟨#[72]⟩ := by decide +kernel
  rw [e, CO.count_one, word_list]
  unfold hd
  congr 1
  induction t with
  | nil => rfl
  | cons b t ih =>
    rw [List.map_cons, List.count_cons, List.count_cons, ih]
    cases b <;> rfl
theorem hd_le (t : List Bool) : hd t ≤ t.length := List.count_le_length
/-- the rank of a tape among those with as many heads -/
def rk : List Bool → Nat
  | [] => 0
  | true :: t => rk t
  | false :: t => (if 0 < hd t then ch t.length (hd t - 1) else 0) + rk t
end Z

set_option Elab.async false
set_option linter.all false
set_option maxRecDepth 100000
set_option maxHeartbeats 4000000
namespace Z
open PySem PySem.Spec PyProof.Rows L2 GG ZC
abbrev sTr : Stmt := top 13
theorem sg_T (b : Bool) : decide ((V.str (sg b) : V) = V.str "T") = !b := by
  cases b
  · exact decide_eq_true rfl
  · exact decide_eq_false (by intro h; exact absurd (V.str.inj h) (by decide +kernel))
theorem sg_H (b : Bool) : decide ((V.str (sg b) : V) = V.str "H") = b := by
  cases b
  · exact decide_eq_false (by intro h; exact absurd (V.str.inj h) (by decide +kernel))
  · exact decide_eq_true rfl
theorem hd_cons (b : Bool) (t : List Bool) : hd (b :: t) = hd t + (if b then 1 else 0) := by
  unfold hd
  rw [List.count_cons]
  cases b <;> rfl
section
variable {P : Program} {w : World} {K : PySem.W.Frag} {mg : Str → Option Value} {base : Heap}
def spTr : Sp := fun vs H Q _ => ∃ t : List Bool, vs = [.str (word t)] ∧ t.length ≤ 60 ∧ ∀ H', Same H H' → Q (.int (rk t : Nat)) H'
theorem scTr : FnScope ["sequence", "found", "heads", "at", "side"] ["sequence"] (defScope sTr) := ⟨rfl, rfl, rfl, by decide +kernel, rfl, by decide +kernel, by decide +kernel⟩
theorem ok_tr {f g : Addr} {fd gd : FuncData} (F : Fun K "_law_tape_rank" "_law_tape_rank" sTr f fd) (T : NamesR mg) (GB : FnOk P w K mg base CX0 1 g gd ["many"] spBin) (PB : Def K mg "_law_binomials" g gd ["many"]) : FnOk P w K mg base CX0 2 f fd ["sequence"] spTr := by
  refine F.ok scTr (fun vs H Q E h => ?_) (fun cdv A outer s H vs Q E hr h => ?_)
  · obtain ⟨t, rfl, _⟩ := h
    rfl
  · obtain ⟨t, rfl, ht, q⟩ := h
    refine ⟨_, (pss_cons (ps_par (i := 1) (j := 2) (by rfl) scTr.nd rfl rfl (by decide) rfl rfl (pa_cons pe_int (pa_cons (pe_m1 PySem.F.slot_str_count PySem.F.type_str_count mt_count (pv 0) pe_str) pa_nil)) (by rfl))
      (pss_cons (ps_for PassesOwn.never rfl (EN.pi_signs (by rfl) T.enumerate (pa_cons (pv 0) pa_nil)) (pg_tup rfl (pgs_cons (pg_name (i := 3) scTr.nd rfl (.inl rfl)) (pgs_cons (pg_name (i := 4) scTr.nd rfl (.inl rfl)) pgs_nil))) (pss_cons (ps_if (PW.pt (pw_and (pt_cmpR op_eq (pv 4) pe_str (nomark _)) (pw_and1 (pt_cmpR op_gt (pv 2) pe_int (nomark _))))) (pss_one (ps_set (i := 1) scTr.nd rfl (.inl rfl) (pe_op op_add (pv 1) (pe_ix ix_list (pe_call GB (hr.mono (by decide)) (by rfl) PB.is PB.kp PB.bi .nil pass0 (pa_cons (pe_op op_sub (pe_op op_sub (pe_callB call_len_str (by rfl) T.len PySem.boot_len (pa_cons (pv 0) pa_nil)) (pv 3)) pe_int) pa_nil)) (pe_op op_sub (pv 2) pe_int) (fun _ _ => rfl))))) pss_nil)
      (pss_one (ps_set (i := 2) scTr.nd rfl (.inl rfl) (pe_op op_sub (pv 2) (pe_callTy call_int1 (by rfl) T.int (by decide +kernel) (pa_cons (pe_cmpR op_eq (pv 4) pe_str (nomark _)) pa_nil)))))))
      (pss_one (ps_ret (pv 1))))), ?_⟩
    have line : sizeLine = 16777216 := by decide
    have hsz : (word t).length ≤ sizeLine := by rw [word_len]; omega
    refine ⟨_, rfl, ⟨_, rfl⟩, _, _, rfl, rfl, ?_⟩
    rw [count_H]
    refine ⟨_, _, rfl, _, rfl, _, rfl, EN.for_signs (z := word t) (fun i σ H' => ∃ (fo he : Nat) (v3 v4 : Option V), σ = [some (.str (word t)), some (.int (fo : Nat)), some (.int (he : Nat)), v3, v4] ∧ Same H H' ∧ he = hd (t.drop i) ∧ fo + rk (t.drop i) = rk t) ⟨0, hd t, _, _, rfl, fun _ _ z => z, rfl, by rw [List.drop_zero, Nat.zero_add]⟩ ?_ ?_⟩
    · rintro i c σ H2 T0 hc ⟨fo, he, v3, v4, rfl, s2, rfl, ef⟩ nT
      obtain ⟨b, hb, eb⟩ := word_at hc
      obtain ⟨lt, _⟩ := List.getElem?_eq_some_iff.mp hb
      have dr : t.drop i = b :: t.drop (i + 1) := by
        rw [List.drop_eq_getElem_cons lt]
        rw [(List.getElem?_eq_some_iff.mp hb).2]
      rw [eb]
      refine ⟨T0, _, rfl, SqT.of upd_same, rfl, _, _, rfl, _, _, rfl, rfl, ?_⟩
      have s3 := s2.trans (Same.upd (o := .tup [.int (i : Nat), .str (sg b)]) nT)
      generalize upd H2 T0 (.tup [.int (i : Nat), .str (sg b)]) = H3 at s3 ⊢
      rw [dr] at ef ⊢
      generalize t.drop (i + 1) = u at ef dr ⊢
      have lu : i + 1 + u.length = t.length := by
        have := congrArg List.length dr
        rw [List.length_drop, List.length_cons] at this
        omega
      dsimp only
      refine on (if_tail (fun σ Hx => ∃ fo' : Nat, σ = [some (.str (word t)), some (.int (fo' : Nat)), some (.int (hd (b :: u) : Nat)), some (.int (i : Nat)), some (.str (sg b))] ∧ Same H Hx ∧ fo' + rk u = rk t) ?_ (fun tl => ?_))
      rotate_left
      · refine ⟨_, rfl, rfl, _, rfl, ?_⟩
        rw [sg_T]
        cases b with
        | true => exact iteF (iteF (tl _ _ ⟨fo, rfl, s3, ef⟩))
        | false =>
          refine iteT ⟨_, rfl, _, _, rfl, rfl, _, rfl, ?_⟩
          by_cases h0 : 0 < hd u
          · have e1 : hd (false :: u) = hd u := by rw [hd_cons]; rfl
            rw [decide_eq_true (show (0 : Int) < ((hd (false :: u) : Nat) : Int) by rw [e1]; omega)]
            refine iteT ?_
            have hu := hd_le u
            refine ⟨_, rfl, _, rfl, word t, rfl, hsz, _, rfl, _, _, rfl, rfl, _, _, rfl, rfl, u.length, ?_, by omega, fun p H4 s4 np ep => ?_⟩
            · show [V.int (((word t).length : Nat) - (i : Nat) - 1 : Int)] = [V.int (u.length : Nat)]
              rw [word_len, show ((t.length : Nat) : Int) - (i : Nat) - 1 = (u.length : Nat) by omega]
            · refine ⟨_, rfl, _, _, rfl, rfl, p, _, _, .int (ch u.length (hd u - 1) : Nat), rfl, rfl, SqL.of ep, ?_, _, _, rfl, rfl, tl _ _ ⟨fo + ch u.length (hd u - 1), ?_, s3.trans s4, ?_⟩⟩
              · rw [e1, show ((hd u : Nat) : Int) - 1 = ((hd u - 1 : Nat) : Int) by omega]
                refine atI_nat ?_
                rw [List.getElem?_map, bin_get (by omega)]
                rfl
              · rfl
              · have e2 : rk (false :: u) = (if 0 < hd u then ch u.length (hd u - 1) else 0) + rk u := rfl
                rw [e2, if_pos h0] at ef
                omega
          · have e1 : hd (false :: u) = hd u := by rw [hd_cons]; rfl
            rw [decide_eq_false (show ¬ (0 : Int) < ((hd (false :: u) : Nat) : Int) by rw [e1]; omega)]
            refine iteF (tl _ _ ⟨fo, rfl, s3, ?_⟩)
            have e2 : rk (false :: u) = (if 0 < hd u then ch u.length (hd u - 1) else 0) + rk u := rfl
            rw [e2, if_neg h0] at ef
            omega
      · rintro σ Hx ⟨fo', rfl, sx, ef'⟩
        refine ⟨_, rfl, _, rfl, rfl, .inr ⟨_, rfl, ?_⟩⟩
        rw [sg_H]
        refine ⟨_, _, rfl, rfl, fo', hd u, some (.int (i : Nat)), some (.str (sg b)), ?_, sx, rfl, ef'⟩
        have e3 : ((hd (b :: u) : Nat) : Int) - (if b = true then 1 else 0) = (hd u : Nat) := by
          rw [hd_cons]
          cases b
          · simp
          · simp
        show [some (.str (word t)), some (.int (fo' : Nat)), some (V.int (((hd (b :: u) : Nat) : Int) - (if b = true then 1 else 0))), some (.int (i : Nat)), some (.str (sg b))] = _
        rw [e3]
    · rintro σ H' ⟨fo, he, v3, v4, rfl, s2, _, ef⟩
      have e0 : t.drop (word t).cps.size = [] := List.drop_eq_nil_of_le (by show t.length ≤ (word t).length; rw [word_len]; exact Nat.le_refl _)
      rw [e0] at ef
      have e1 : fo = rk t := ef
      subst e1
      exact ⟨_, rfl, q _ s2⟩
end
end Z

set_option Elab.async false
set_option linter.all false
set_option maxRecDepth 100000
set_option maxHeartbeats 4000000
/-! math.comb -/
namespace CM
open PySem PySem.Spec PyProof.Rows L2 GG ZC
theorem fp_left (n : Int) : ∀ k : Nat, Builtin.Math.fallingProduct (n + 1) (k + 1) = (n + 1) * Builtin.Math.fallingProduct n k
  | 0 => by
    rw [PySem.W.mc_fp_succ, PySem.W.mc_fp_zero, PySem.W.mc_fp_zero]
    simp
  | k + 1 => by
    rw [PySem.W.mc_fp_succ (n + 1) (k + 1), fp_left n k, PySem.W.mc_fp_succ n k, Int.mul_assoc]
    congr 2
    omega
theorem ch_abs : ∀ n k : Nat, (k + 1) * ch (n + 1) (k + 1) = (n + 1) * ch n k
  | 0, 0 => rfl
  | 0, k + 1 => by
    show (k + 1 + 1) * (ch 0 (k + 1) + ch 0 (k + 1 + 1)) = (0 + 1) * 0
    show (k + 1 + 1) * (0 + 0) = (0 + 1) * 0
    simp
  | n + 1, 0 => by
    have h := ch_abs n 0
    have e : ch (n + 1 + 1) (0 + 1) = ch (n + 1) 0 + ch (n + 1) (0 + 1) := rfl
    rw [e, ch_zero]
    rw [ch_zero] at h
    omega
  | n + 1, k + 1 => by
    have h1 := ch_abs n k
    have h2 := ch_abs n (k + 1)
    have e1 : ch (n + 1 + 1) (k + 1 + 1) = ch (n + 1) (k + 1) + ch (n + 1) (k + 1 + 1) := rfl
    have e2 : ch (n + 1) (k + 1) = ch n k + ch n (k + 1) := rfl
    have e3 : (n + 1) * ch (n + 1) (k + 1) = (n + 1) * ch n k + (n + 1) * ch n (k + 1) := by rw [e2, Nat.mul_add]
    rw [e1, Nat.mul_add, h2, Nat.add_mul (k + 1) 1, h1, Nat.one_mul, Nat.add_mul (n + 1) 1, Nat.one_mul]
    omega
theorem ch_fp : ∀ k n : Nat, k ≤ n → (ch n k : Int) * Builtin.Math.fallingProduct k k = Builtin.Math.fallingProduct n k
  | 0, n, _ => by
    rw [ch_zero, PySem.W.mc_fp_zero, PySem.W.mc_fp_zero]
    rfl
  | k + 1, 0, h => by omega
  | k + 1, n + 1, h => by
    have ih := ch_fp k n (by omega)
    have e := congrArg (Nat.cast (R := Int)) (ch_abs n k)
    rw [Int.natCast_mul, Int.natCast_mul] at e
    have l1 : Builtin.Math.fallingProduct ((k + 1 : Nat) : Int) (k + 1) = ((k + 1 : Nat) : Int) * Builtin.Math.fallingProduct k k := by rw [Int.natCast_add]; exact fp_left _ k
    have l2 : Builtin.Math.fallingProduct ((n + 1 : Nat) : Int) (k + 1) = ((n + 1 : Nat) : Int) * Builtin.Math.fallingProduct n k := by rw [Int.natCast_add]; exact fp_left _ k
    rw [l1, l2, ← Int.mul_assoc, Int.mul_comm (ch (n + 1) (k + 1) : Int), e, Int.mul_assoc, ih]
theorem ch_self : ∀ n : Nat, ch n n = 1
  | 0 => rfl
  | n + 1 => by
    show ch n n + ch n (n + 1) = 1
    rw [ch_self n, ch_over n (n + 1) (by omega)]
theorem ch_sym : ∀ s a b : Nat, a + b = s → ch s a = ch s b
  | 0, a, b, h => by
    have e : a = 0 ∧ b = 0 := by omega
    rw [e.1, e.2]
  | s + 1, 0, b, h => by
    have e : b = s + 1 := by omega
    rw [e, ch_zero, ch_self]
  | s + 1, a + 1, 0, h => by
    have e : a = s := by omega
    rw [e, ch_zero, ch_self]
  | s + 1, a + 1, b + 1, h => by
    show ch s a + ch s (a + 1) = ch s b + ch s (b + 1)
    rw [ch_sym s a (b + 1) (by omega), ch_sym s (a + 1) b (by omega), Nat.add_comm]
theorem comb_ch (n k : Nat) : PySem.W.mcComb n k = ch n k := by
  rcases Nat.lt_or_ge n k with lt | le
  · rw [PySem.W.mcComb_above (by omega), ch_over n k lt]
    rfl
  · have go : ∀ m : Nat, m ≤ n → (Builtin.Math.fallingProduct n m / Builtin.Math.fallingProduct m m : Int) = ch n m := by
      intro m hm
      have h := ch_fp m n hm
      have p := PySem.W.mc_fp_pos (n := (m : Int)) m (Int.le_refl _)
      show (Builtin.Math.fallingProduct n m / Builtin.Math.fallingProduct m m : Int) = _
      rw [← h]
      exact Int.mul_ediv_cancel _ (by show Builtin.Math.fallingProduct m m ≠ 0; have : 1 ≤ Builtin.Math.fallingProduct m m := p; omega)
    rcases Nat.le_total k (n - k) with q | q
    · rw [PySem.W.mcComb_at (m := (k : Int)) (by omega) (by omega) (by omega), Int.toNat_natCast]
      exact go k le
    · rw [PySem.W.mcComb_at (m := ((n - k : Nat) : Int)) (by omega) (by omega) (by omega), Int.toNat_natCast, go _ (by omega)]
      rw [ch_sym n (n - k) k (by omega)]
section
variable {X : Cx}
def rComb : List V → Hp → VK → Prop := fun vs H Q => ∃ n k : Nat, vs = [.int (n : Nat), .int (k : Nat)] ∧ n ≤ 1000 ∧ Q (.int (ch n k : Nat)) H
theorem cr_comb : CallR X (.builtin "math.comb") rComb := by
  intro pins s σ H vs us Q I r h
  obtain ⟨n, k, rfl, hn, q⟩ := h
  obtain ⟨t, u, rfl⟩ := Vals.int2 r
  exact PySem.W.mc_comb_v (by omega) (by omega) (by omega) (.inr (by omega)) (comb_ch n k) ⟨.int _, H, I.tok _, ⟨_, rfl⟩, q⟩
end
end CM

set_option Elab.async false
set_option linter.all false
set_option maxRecDepth 100000
set_option maxHeartbeats 4000000
namespace Z
open PySem PySem.Spec PyProof.Rows L2 GG ZC
abbrev sRank : Stmt := top 2
section
variable {P : Program} {w : World} {K : PySem.W.Frag} {mg : Str → Option Value} {base : Heap}
theorem scRank : FnScope ["tape", "heads", "rank", "at", "side"] ["tape"] (defScope sRank) := ⟨rfl, rfl, rfl, by decide +kernel, rfl, by decide +kernel, by decide +kernel⟩
theorem ok_rank {f : Addr} {fd : FuncData} (F : Fun K "rank_in_row" "rank_in_row" sRank f fd) (T : NamesR mg) (mC : mg "comb" = some (.builtin "math.comb")) : FnOk P w K mg base CX0 1 f fd ["tape"] spTr := by
  refine F.ok scRank (fun vs H Q E h => ?_) (fun cdv A outer s H vs Q E hr h => ?_)
  · obtain ⟨t, rfl, _⟩ := h
    rfl
  · obtain ⟨t, rfl, ht, q⟩ := h
    refine ⟨_, (pss_cons (ps_set (i := 1) scRank.nd rfl (.inl rfl) (pe_m1 PySem.F.slot_str_count PySem.F.type_str_count mt_count (pv 0) pe_str))
      (pss_cons (ps_set (i := 2) scRank.nd rfl (.inl rfl) pe_int)
      (pss_cons (ps_for PassesOwn.never rfl (EN.pi_signs (by rfl) T.enumerate (pa_cons (pv 0) pa_nil)) (pg_tup rfl (pgs_cons (pg_name (i := 3) scRank.nd rfl (.inl rfl)) (pgs_cons (pg_name (i := 4) scRank.nd rfl (.inl rfl)) pgs_nil))) (pss_one (ps_if (pt_cmpR op_eq (pv 4) pe_str (nomark _)) (pss_one (ps_aug (i := 1) scRank.nd rfl (.inl rfl) pe_int ip_sub)) (pss_one (ps_if (pt_cmpR op_gt (pv 1) pe_int (nomark _)) (pss_one (ps_aug (i := 2) scRank.nd rfl (.inl rfl) (pe_callBfun CM.cr_comb (by rfl) mC (pa_cons (pe_op op_sub (pe_op op_sub (pe_callB call_len_str (by rfl) T.len PySem.boot_len (pa_cons (pv 0) pa_nil)) (pv 3)) pe_int) (pa_cons (pe_op op_sub (pv 1) pe_int) pa_nil))) ip_add)) pss_nil)))))
      (pss_one (ps_ret (pv 2)))))), ?_⟩
    have line : sizeLine = 16777216 := by decide
    have hsz : (word t).length ≤ sizeLine := by rw [word_len]; omega
    refine ⟨_, rfl, ⟨_, rfl⟩, _, _, rfl, rfl, ?_⟩
    rw [count_H]
    refine ⟨_, rfl, _, rfl, EN.for_signs (z := word t) (fun i σ H' => ∃ (fo : Nat) (v3 v4 : Option V), σ = [some (.str (word t)), some (.int (hd (t.drop i) : Nat)), some (.int (fo : Nat)), v3, v4] ∧ Same H H' ∧ fo + rk (t.drop i) = rk t) ⟨0, _, _, rfl, fun _ _ z => z, by rw [List.drop_zero, Nat.zero_add]⟩ ?_ ?_⟩
    · rintro i c σ H2 T0 hc ⟨fo, v3, v4, rfl, s2, ef⟩ nT
      obtain ⟨b, hb, eb⟩ := word_at hc
      obtain ⟨lt, _⟩ := List.getElem?_eq_some_iff.mp hb
      have dr : t.drop i = b :: t.drop (i + 1) := by
        rw [List.drop_eq_getElem_cons lt]
        rw [(List.getElem?_eq_some_iff.mp hb).2]
      rw [eb]
      refine ⟨T0, _, rfl, SqT.of upd_same, rfl, _, _, rfl, _, _, rfl, rfl, ?_⟩
      have s3 := s2.trans (Same.upd (o := .tup [.int (i : Nat), .str (sg b)]) nT)
      generalize upd H2 T0 (.tup [.int (i : Nat), .str (sg b)]) = H3 at s3 ⊢
      rw [dr] at ef ⊢
      generalize t.drop (i + 1) = u at ef dr ⊢
      have lu : i + 1 + u.length = t.length := by
        have := congrArg List.length dr
        rw [List.length_drop, List.length_cons] at this
        omega
      refine ⟨_, rfl, rfl, _, rfl, ?_⟩
      rw [sg_H]
      cases b with
      | true =>
        refine iteT ⟨_, rfl, _, _, rfl, rfl, fo, some (.int (i : Nat)), some (.str (sg true)), ?_, s3, ef⟩
        have e3 : ((hd (true :: u) : Nat) : Int) - 1 = (hd u : Nat) := by
          rw [hd_cons]
          simp
        show [some (.str (word t)), some (V.int (((hd (true :: u) : Nat) : Int) - 1)), some (.int (fo : Nat)), some (.int (i : Nat)), some (.str (sg true))] = _
        rw [e3]
      | false =>
        have e1 : hd (false :: u) = hd u := by rw [hd_cons]; rfl
        rw [e1]
        refine iteF ⟨_, rfl, _, _, rfl, rfl, _, rfl, ?_⟩
        by_cases h0 : 0 < hd u
        · rw [decide_eq_true (show (0 : Int) < ((hd u : Nat) : Int) by omega)]
          have hu := hd_le u
          refine iteT ⟨_, rfl, _, rfl, word t, rfl, hsz, _, rfl, _, _, rfl, rfl, _, _, rfl, rfl, _, rfl, _, _, rfl, rfl, u.length, hd u - 1, ?_, by omega, _, _, rfl, rfl, fo + ch u.length (hd u - 1), _, _, rfl, s3, ?_⟩
          · show [V.int (((word t).length : Nat) - (i : Nat) - 1 : Int), V.int ((hd u : Nat) - 1 : Int)] = [V.int (u.length : Nat), V.int ((hd u - 1 : Nat) : Int)]
            rw [word_len, show ((t.length : Nat) : Int) - (i : Nat) - 1 = (u.length : Nat) by omega, show ((hd u : Nat) : Int) - 1 = ((hd u - 1 : Nat) : Int) by omega]
          · have e2 : rk (false :: u) = (if 0 < hd u then ch u.length (hd u - 1) else 0) + rk u := rfl
            rw [e2, if_pos h0] at ef
            omega
        · rw [decide_eq_false (show ¬ (0 : Int) < ((hd u : Nat) : Int) by omega)]
          refine iteF ⟨fo, _, _, rfl, s3, ?_⟩
          have e2 : rk (false :: u) = (if 0 < hd u then ch u.length (hd u - 1) else 0) + rk u := rfl
          rw [e2, if_neg h0] at ef
          omega
    · rintro σ H' ⟨fo, v3, v4, rfl, s2, ef⟩
      have e0 : t.drop (word t).cps.size = [] := List.drop_eq_nil_of_le (by show t.length ≤ (word t).length; rw [word_len]; exact Nat.le_refl _)
      rw [e0] at ef
      have e1 : fo = rk t := ef
      subst e1
      exact ⟨_, rfl, q _ s2⟩
end
end Z

set_option Elab.async false
set_option linter.all false
set_option maxRecDepth 100000
set_option maxHeartbeats 4000000
/-! a loop over a text's signs -/
namespace FS
open PySem PySem.Spec PyProof.Rows L2 GG
theorem for_str {z : Str} {g : TG} {tb : TS} {D : Ends} {σ : L2.St} {H : Hp} (Pv : Nat → L2.St → Hp → Prop) (h0 : Pv 0 σ H)
    (turn : ∀ i c σ H, z.cps[i]? = some c → Pv i σ H → g (.str ⟨#[c]⟩) σ H fun σ2 H2 => tb { D with nx := Pv (i + 1), ct := Pv (i + 1), bk := D.nx } σ2 H2) (done : ∀ σ H, Pv z.cps.size σ H → D.nx σ H) :
    ∃ W : Nat → Nat → L2.St → Hp → Prop, (∃ m, W 0 m σ H) ∧ ∀ i m σ H, W i m σ H →
      ((Its z).stop i H ∧ D.nx σ H) ∨ ((Its z).go i H ∧ ∃ N : L2.St → Hp → Prop, (∀ σ' H', N σ' H' → ∃ m', m' < m ∧ W (i + 1) m' σ' H') ∧ ∀ x H', (Its z).yld i H x H' → g x σ H' fun σ2 H2 => tb { D with nx := N, ct := N, bk := D.nx } σ2 H2) := by
  refine ⟨fun i m σ H => m = z.cps.size - i ∧ i ≤ z.cps.size ∧ Pv i σ H, ⟨z.cps.size, by simp, Nat.zero_le _, h0⟩, ?_⟩
  rintro i m σ H ⟨rfl, le, pv⟩
  rcases Nat.lt_or_ge i z.cps.size with lt | ge
  · refine .inr ⟨lt, Pv (i + 1), fun σ' H' n => ⟨z.cps.size - (i + 1), by omega, rfl, lt, n⟩, ?_⟩
    rintro v H' ⟨rfl, c, hc, rfl⟩
    exact turn i c σ _ hc pv
  · have e : i = z.cps.size := by omega
    subst e
    exact .inl ⟨Nat.le_refl _, done σ H pv⟩
end FS

set_option Elab.async false
set_option maxRecDepth 100000
set_option maxHeartbeats 4000000
/-! a text times a number; the texts of data with words -/
namespace STR
open PySem PySem.Spec PyProof.Rows L2
theorem cps_foldl (x : Array Nat) : ∀ (n : Nat) (acc : Array Nat), ((List.replicate n x).foldl (· ++ ·) acc).toList = acc.toList ++ (List.replicate n x.toList).flatten
  | 0, acc => by simp
  | n + 1, acc => by
    rw [List.replicate_succ, List.foldl_cons, cps_foldl x n, List.replicate_succ, List.flatten_cons, Array.toList_append, List.append_assoc]
def rRepS : R2 := fun x y H Q => ∃ (z : Str) (k : Nat), x = .str z ∧ y = .int (k : Int) ∧ k < 2 ^ 40 ∧ z.length * k ≤ sizeLine ∧ ∀ r : Str, r.cps.toList = (List.replicate k z.cps.toList).flatten → Q (.str r) H
section
variable {X : Cx}
theorem op_repS : OpR X (binaryOp .Mult) rRepS := by
  intro pins s σ H x y v u Q I rx ry h
  obtain ⟨z, k, rfl, rfl, hk, hz, q⟩ := h
  obtain ⟨t, rfl⟩ := rx
  obtain ⟨t', rfl⟩ := ry
  refine PySem.P.mul_str ?_ (fun h1 h2 => ?_) (fun _ _ => ?_) ?_
  · have h1 : ¬ ((k : Nat) : Int) < -(2 ^ 63 : Int) := by omega
    have h2 : ¬ ((k : Nat) : Int) ≥ 2 ^ 63 := by omega
    rw [decide_eq_false h1, decide_eq_false h2]
    rfl
  · have hn : ¬ ((k : Nat) : Int) < 1 := h1
    have zl : z.length ≤ sizeLine := by
      have : z.length * 1 ≤ z.length * k := Nat.mul_le_mul_left _ (by omega)
      omega
    have hs : sizeLine = 16777216 := by decide
    have : (2 ^ 40 : Int) ≤ (2 ^ 63 - 1) / ((k : Nat) : Int) ∨ ((k : Nat) : Int) > 2 ^ 22 := by
      by_cases e : ((k : Nat) : Int) ≤ 2 ^ 22
      · left
        refine (Int.le_ediv_iff_mul_le (by omega)).mpr ?_
        omega
      · right; omega
    rcases this with h | h
    · omega
    · have e2 : (2 ^ 23 : Int) ≤ (2 ^ 63 - 1) / ((k : Nat) : Int) := by
        refine (Int.le_ediv_iff_mul_le (by omega)).mpr ?_
        omega
      have : z.length * 4194304 ≤ z.length * k := Nat.mul_le_mul_left _ (by omega)
      omega
  · show Builtin.Str.tooLong (z.length * ((k : Nat) : Int).toNat) = false
    rw [Int.toNat_natCast]
    unfold Builtin.Str.tooLong
    exact decide_eq_false (by omega)
  · split
    · have e0 : k = 0 := by omega
      subst e0
      exact ⟨by decide, .str _, H, I.tok _, ⟨_, rfl⟩, q _ rfl⟩
    · split
      · rename_i h2 h3
        refine ⟨.str z, H, I, ⟨_, rfl⟩, q _ ?_⟩
        rcases Bool.or_eq_true _ _ ▸ h3 with h4 | h4
        · have e1 : k = 1 := by
            have : ((k : Nat) : Int) = 1 := by simpa using h4
            omega
          subst e1
          simp
        · have e1 : z.cps = #[] := by
            have : z.cps.size = 0 := by simpa [Str.length] using h4
            exact Array.size_eq_zero_iff.mp this
          rw [e1]
          simp
      · have e : (⟨(List.replicate ((k : Nat) : Int).toNat z.cps).foldl (· ++ ·) #[]⟩ : Str).cps.toList = (List.replicate k z.cps.toList).flatten := by
          rw [Int.toNat_natCast]
          have := cps_foldl z.cps k #[]
          simpa using this
        refine ⟨?_, .str _, H, I.tok _, ⟨_, rfl⟩, q _ e⟩
        have e3 : ((⟨(List.replicate ((k : Nat) : Int).toNat z.cps).foldl (· ++ ·) #[]⟩ : Str).length) = z.length * k := by
          show Array.size _ = _
          rw [← Array.length_toList, e, List.length_flatten, List.map_replicate, List.sum_replicate_nat, Nat.mul_comm]
          rfl
        rw [e3]
        exact hz
end
end STR

set_option Elab.async false
set_option linter.all false
set_option maxRecDepth 100000
set_option maxHeartbeats 4000000
namespace Z
open PySem PySem.Spec PyProof.Rows L2 GG ZC
abbrev sDec : Stmt := top 3
abbrev sRunR : Stmt := top 4
/-! what a recipe says of a row, and of a tape -/
def cls (ds es : List Int) (t : List Bool) : Option Bool :=
  if (rk t : Int) < ds.getD (hd t) 0 then some true else if (rk t : Int) < es.getD (hd t) 0 then some false else none
def say (b : Option Bool) (no : V) : V := match b with
  | some true => .str "yes"
  | some false => .str "no"
  | none => no
def piece (m k : Nat) (t : List Bool) : List Bool := (t.drop (k * m)).take m
def runR (m : Nat) (ds es : List Int) (t : List Bool) : Nat → Nat → Option Bool × Nat
  | 0, k => (none, k)
  | n + 1, k => if (k + 1) * m ≤ t.length then match cls ds es (piece m k t) with
      | some b => (some b, k + 1)
      | none => runR m ds es t n (k + 1)
    else (none, k)
def out (x : Option Bool × Nat) : List V := [say x.1 (.str "going"), .int (x.2 : Nat)]
theorem runR_end {m : Nat} {ds es : List Int} {t : List Bool} {n k : Nat} (h : ¬ (k + 1) * m ≤ t.length) : runR m ds es t n k = (none, k) := by
  cases n with
  | zero => rfl
  | succ n => exact if_neg h
theorem runR_some {m : Nat} {ds es : List Int} {t : List Bool} {n k : Nat} {b : Bool} (h : (k + 1) * m ≤ t.length) (e : cls ds es (piece m k t) = some b) : runR m ds es t (n + 1) k = (some b, k + 1) := by
  show (if (k + 1) * m ≤ t.length then _ else _) = _
  rw [if_pos h, e]
theorem runR_none {m : Nat} {ds es : List Int} {t : List Bool} {n k : Nat} (h : (k + 1) * m ≤ t.length) (e : cls ds es (piece m k t) = none) : runR m ds es t (n + 1) k = runR m ds es t n (k + 1) := by
  show (if (k + 1) * m ≤ t.length then _ else _) = _
  rw [if_pos h, e]
theorem cls_zero {ds es : List Int} (w : WR 0 ds es) : cls ds es [] ≠ none := by
  obtain ⟨k, hk, hn⟩ := w.some
  have e : k = 0 := by omega
  subst e
  have := w.ok 0 (by omega)
  unfold cls
  show (if ((0 : Nat) : Int) < ds.getD 0 0 then some true else if ((0 : Nat) : Int) < es.getD 0 0 then some false else none) ≠ none
  rw [if_pos (show ((0 : Nat) : Int) < es.getD 0 0 by omega)]
  split <;> simp
theorem piece_len {m k : Nat} {t : List Bool} (h : (k + 1) * m ≤ t.length) : (piece m k t).length = m := by
  unfold piece
  rw [List.length_take, List.length_drop]
  rw [Nat.succ_mul] at h
  omega
theorem piece_cut {m k : Nat} {t : List Bool} (h : (k + 1) * m ≤ t.length) : cutS (word t) (some ((k * m : Nat) : Int)) (some (((k + 1) * m : Nat) : Int)) = word (piece m k t) := by
  rw [cut_word (Nat.mul_le_mul_right m (Nat.le_succ k)) h]
  unfold piece
  congr 2
  rw [Nat.succ_mul]
  omega
section
variable {P : Program} {w : World} {K : PySem.W.Frag} {mg : Str → Option Value} {base : Heap}
def spDec (no : V) : Sp := fun vs H Q _ => ∃ (r : Addr) (t : List Bool) (m : Nat) (ds es : List Int), vs = [.ref r, .str (word t)] ∧ Rec H r m ds es ∧ WR m ds es ∧ t.length = m ∧ m ≤ 40 ∧ ∀ H', Same H H' → Q (say (cls ds es t) no) H'
theorem Rec.ds {H : Hp} {r : Addr} {m : Nat} {ds es : List Int} (h : Rec H r m ds es) (w : WR m ds es) {k : Nat} (hk : k ≤ m) : ∃ a b, H r = some (.tup [.int (m : Nat), .ref a, .ref b]) ∧ H a = some (.tup (ds.map V.int)) ∧ H b = some (.tup (es.map V.int)) ∧ atI (ds.map V.int) (k : Int) = some (.int (ds.getD k 0)) ∧ atI (es.map V.int) (k : Int) = some (.int (es.getD k 0)) := by
  obtain ⟨a, b, h1, h2, h3⟩ := h
  have d := w.dl
  have e := w.el
  refine ⟨a, b, h1, h2, h3, atI_nat ?_, atI_nat ?_⟩
  · rw [List.getElem?_map, List.getD_eq_getElem?_getD, List.getElem?_eq_getElem (by omega)]
    rfl
  · rw [List.getElem?_map, List.getD_eq_getElem?_getD, List.getElem?_eq_getElem (by omega)]
    rfl
theorem scDec : FnScope ["recipe", "row", "_", "ds", "es", "heads", "rank"] ["recipe", "row"] (defScope sDec) := ⟨rfl, rfl, rfl, by decide +kernel, rfl, by decide +kernel, by decide +kernel⟩
theorem ok_dec {f g : Addr} {fd gd : FuncData} (F : Fun K "decide_row" "decide_row" sDec f fd) (GR : FnOk P w K mg base CX0 1 g gd ["tape"] spTr) (PR : Def K mg "rank_in_row" g gd ["tape"]) : FnOk P w K mg base CX0 2 f fd ["recipe", "row"] (spDec .non) := by
  refine F.ok scDec (fun vs H Q E h => ?_) (fun cdv A outer s H vs Q E hr h => ?_)
  · obtain ⟨r, t, m, ds, es, rfl, _⟩ := h
    rfl
  · obtain ⟨r, t, m, ds, es, rfl, hrec, hw, ht, hm, q⟩ := h
    refine ⟨_, (pss_cons (ps_asg (pv 0) (pg_tup rfl (pgs_cons (pg_name (i := 2) scDec.nd rfl (.inl rfl)) (pgs_cons (pg_name (i := 3) scDec.nd rfl (.inl rfl)) (pgs_cons (pg_name (i := 4) scDec.nd rfl (.inl rfl)) pgs_nil)))))
      (pss_cons (ps_set (i := 5) scDec.nd rfl (.inl rfl) (pe_m1 PySem.F.slot_str_count PySem.F.type_str_count mt_count (pv 1) pe_str))
      (pss_cons (ps_set (i := 6) scDec.nd rfl (.inl rfl) (pe_call GR (hr.mono (by decide)) (by rfl) PR.is PR.kp PR.bi .nil pass0 (pa_cons (pv 1) pa_nil)))
      (pss_cons (ps_if (pt_cmpR op_lt (pv 6) (pe_ix ix_tup (pv 3) (pv 5) (fun _ _ => rfl)) (nomark _)) (pss_one (ps_ret pe_str)) pss_nil)
      (pss_one (ps_ret (pe_ifExp (pt_cmpR op_lt (pv 6) (pe_ix ix_tup (pv 4) (pv 5) (fun _ _ => rfl)) (nomark _)) pe_str pe_non))))))), ?_⟩
    obtain ⟨a, b, e1, e2, e3, i1, i2⟩ := hrec.ds hw (k := hd t) (by have := hd_le t; omega)
    refine ⟨_, rfl, r, _, rfl, SqT.of e1, rfl, _, _, rfl, _, _, rfl, _, _, rfl, rfl, _, rfl, ⟨_, rfl⟩, _, _, rfl, rfl, ?_⟩
    rw [count_H]
    refine ⟨_, rfl, t, rfl, by omega, fun H1 s1 => ?_⟩
    refine ⟨_, rfl, _, rfl, _, rfl, a, _, _, .int (ds.getD (hd t) 0), rfl, rfl, SqT.of (s1 _ _ e2), i1, _, _, rfl, rfl, _, rfl, ?_⟩
    unfold cls at q
    by_cases h1 : (rk t : Int) < ds.getD (hd t) 0
    · rw [if_pos h1] at q
      rw [decide_eq_true h1]
      exact iteT (q _ s1)
    · rw [if_neg h1] at q
      rw [decide_eq_false h1]
      refine iteF ⟨_, rfl, _, rfl, _, rfl, b, _, _, .int (es.getD (hd t) 0), rfl, rfl, SqT.of (s1 _ _ e3), i2, _, _, rfl, rfl, _, rfl, ?_⟩
      by_cases h2 : (rk t : Int) < es.getD (hd t) 0
      · rw [if_pos h2] at q
        rw [decide_eq_true h2]
        exact iteT (q _ s1)
      · rw [if_neg h2] at q
        rw [decide_eq_false h2]
        exact iteF (q _ s1)
def spRunR : Sp := fun vs H Q _ => ∃ (r : Addr) (t : List Bool) (m : Nat) (ds es : List Int), vs = [.ref r, .str (word t)] ∧ Rec H r m ds es ∧ WR m ds es ∧ t.length ≤ 3000 ∧ m ≤ 40 ∧ ∀ p H', Same H H' → H p = none → H' p = some (.tup (out (runR m ds es t (t.length + 1) 0))) → Q (.ref p) H'
theorem scRunR : FnScope ["recipe", "tape", "tosses", "rounds", "answer"] ["recipe", "tape"] (defScope sRunR) := ⟨rfl, rfl, rfl, by decide +kernel, rfl, by decide +kernel, by decide +kernel⟩
theorem ok_runR {f g : Addr} {fd gd : FuncData} (F : Fun K "run_recipe" "run_recipe" sRunR f fd) (T : Names mg) (GD : FnOk P w K mg base CX0 2 g gd ["recipe", "row"] (spDec .non)) (PD : Def K mg "decide_row" g gd ["recipe", "row"]) : FnOk P w K mg base CX0 3 f fd ["recipe", "tape"] spRunR := by
  refine F.ok scRunR (fun vs H Q E h => ?_) (fun cdv A outer s H vs Q E hr h => ?_)
  · obtain ⟨r, t, m, ds, es, rfl, _⟩ := h
    rfl
  · obtain ⟨r, t, m, ds, es, rfl, hrec, hw, ht, hm, q⟩ := h
    refine ⟨_, (pss_cons (ps_set (i := 2) scRunR.nd rfl (.inl rfl) (pe_ix ix_tup (pv 0) pe_int (fun _ _ => rfl)))
      (pss_cons (ps_set (i := 3) scRunR.nd rfl (.inl rfl) pe_int)
      (pss_cons (ps_while PassesOwn.never (pt_cmpR op_le (pe_op op_mul (pe_op op_add (pv 3) pe_int) (pv 2)) (pe_callB call_len_str (by rfl) T.len PySem.boot_len (pa_cons (pv 1) pa_nil)) (nomark _)) (pss_cons (ps_set (i := 4) scRunR.nd rfl (.inl rfl) (pe_call GD (hr.mono (by decide)) (by rfl) PD.is PD.kp PD.bi .nil pass0 (pa_cons (pv 0) (pa_cons (pe_slice sl_str (pv 1) (po_some (pe_op op_mul (pv 3) (pv 2))) (po_some (pe_op op_mul (pe_op op_add (pv 3) pe_int) (pv 2)))) pa_nil))))
      (pss_cons (ps_aug (i := 3) scRunR.nd rfl (.inl rfl) pe_int ip_add)
      (pss_one (ps_if (pt_cmpR op_notN (pv 4) pe_non (nomark _)) (pss_one (ps_ret (pe_tup (pa_cons (pv 4) (pa_cons (pv 3) pa_nil))))) pss_nil)))))
      (pss_one (ps_ret (pe_tup (pa_cons pe_str (pa_cons (pv 3) pa_nil)))))))), ?_⟩
    have line : sizeLine = 16777216 := by decide
    have hsz : (word t).length ≤ sizeLine := by rw [word_len]; omega
    obtain ⟨a, b, e1, e2, e3⟩ := id hrec
    refine ⟨_, rfl, r, _, 0, .int (m : Nat), rfl, rfl, SqT.of e1, atI_nat (j := 0) rfl, ?_⟩
    refine ⟨fun n σ H' => ∃ (k : Nat) (v4 : Option V), n = t.length + 1 - k ∧ σ = [some (V.ref r), some (V.str (word t)), some (V.int (m : Nat)), some (V.int (k : Nat)), v4] ∧ Same H H' ∧ (m = 0 → k = 0) ∧ k ≤ t.length ∧ runR m ds es t n k = runR m ds es t (t.length + 1) 0,
      ⟨t.length + 1, 0, none, rfl, rfl, fun _ _ z => z, fun _ => rfl, Nat.zero_le _, rfl⟩, ?_⟩
    rintro n σ H1 ⟨k, v4, rfl, rfl, s1, hk0, hkl, er⟩
    have ek : ((k : Nat) : Int) + 1 = ((k + 1 : Nat) : Int) := rfl
    have em : ((k + 1 : Nat) : Int) * (m : Nat) = (((k + 1) * m : Nat) : Int) := by rw [Int.natCast_mul]
    have em2 : ((k : Nat) : Int) * (m : Nat) = ((k * m : Nat) : Int) := by rw [Int.natCast_mul]
    refine ⟨_, rfl, _, _, rfl, rfl, _, rfl, _, _, rfl, rfl, .inl ⟨by omega, by omega⟩, _, rfl, word t, rfl, hsz, _, _, rfl, rfl, _, rfl, ?_⟩
    dsimp only
    rw [ek, em, word_len]
    by_cases lt : (k + 1) * m ≤ t.length
    · rw [decide_eq_true (show (((k + 1) * m : Nat) : Int) ≤ (t.length : Nat) by omega)]
      refine iteT ?_
      obtain ⟨n, en⟩ : ∃ n, t.length + 1 - k = n + 1 := ⟨t.length - k, by omega⟩
      rw [en] at er ⊢
      have hl : (piece m k t).length = m := piece_len lt
      have km : k * m ≤ 200000 := Nat.le_trans (Nat.mul_le_mul (show k ≤ 3000 by omega) hm) (by decide)
      refine ⟨fun σ H' => ∃ v4, cls ds es (piece m k t) = none ∧ σ = [some (V.ref r), some (V.str (word t)), some (V.int (m : Nat)), some (V.int ((k + 1 : Nat) : Int)), v4] ∧ Same H H', ?_, ?_⟩
      · rintro σ' H' ⟨v4, hc, rfl, s'⟩
        have hm0 : m ≠ 0 := by
          rintro rfl
          have e0 : piece 0 k t = [] := List.length_eq_zero_iff.mp hl
          rw [e0] at hc
          exact cls_zero hw hc
        have hk1 : k + 1 ≤ t.length := Nat.le_trans (Nat.le_mul_of_pos_right (k + 1) (by omega)) lt
        exact ⟨n, by omega, k + 1, v4, by omega, rfl, s', fun z => absurd z hm0, hk1, by rw [← er, runR_none lt hc]⟩
      · refine ⟨_, rfl, _, rfl, ?_⟩
        dsimp only [tPart]
        refine ⟨_, rfl, _, rfl, _, _, rfl, rfl, .inl ⟨by omega, by omega⟩, _, rfl, _, rfl, _, _, rfl, rfl, _, rfl, _, _, rfl, rfl, .inl ⟨by omega, by omega⟩, _, rfl, word t, rfl, hsz, ?_⟩
        dsimp only
        rw [ek, em, em2, piece_cut lt]
        refine ⟨r, piece m k t, m, ds, es, rfl, hrec.same s1, hw, hl, hm, fun H2 s2 => ?_⟩
        have s12 := s1.trans s2
        refine ⟨_, rfl, _, _, rfl, rfl, _, rfl, rfl, _, rfl, ?_⟩
        cases hc : cls ds es (piece m k t) with
        | none =>
          rw [decide_eq_true (show say none V.non = V.non from rfl)]
          exact iteF ⟨_, rfl, rfl, s12⟩
        | some bb =>
          rw [decide_eq_false (show ¬ say (some bb) V.non = V.non by cases bb <;> (intro h; cases h))]
          refine iteT ⟨_, rfl, _, rfl, by show 2 ≤ sizeLine; decide, fun p np => ?_⟩
          refine q p _ (s12.trans (Same.upd np)) (s12.free np) ?_
          rw [upd_same, ← er, runR_some lt hc]
          cases bb <;> rfl
    · rw [decide_eq_false (show ¬ (((k + 1) * m : Nat) : Int) ≤ (t.length : Nat) by omega)]
      refine iteF ⟨_, rfl, by show 2 ≤ sizeLine; decide, fun p np => ?_⟩
      refine q p _ (s1.trans (Same.upd np)) (s1.free np) ?_
      rw [upd_same, ← er, runR_end lt]
      rfl
end
end Z

set_option Elab.async false
set_option linter.all false
set_option maxRecDepth 100000
set_option maxHeartbeats 4000000
namespace Z
open PySem PySem.Spec PyProof.Rows L2 GG ZC
abbrev sCls : Stmt := top 11
abbrev sExp : Stmt := top 12
/-! all tapes of a length, in order -/
def wd : Nat → List (List Bool)
  | 0 => [[]]
  | n + 1 => (wd n).flatMap fun r => [r ++ [true], r ++ [false]]
def alike (t : List Bool) (rs : List (List Bool)) : Nat := rs.countP fun r => hd r == hd t
theorem ranks : ∀ n, n < 7 → ((wd n).all fun t => alike t ((wd n).takeWhile fun r => !(r == t)) == rk t) = true := by decide +kernel
theorem wd_mem : ∀ (n : Nat) (t : List Bool), t.length = n → t ∈ wd n
  | 0, t, h => by
    rw [List.length_eq_zero_iff.mp h]
    exact List.mem_singleton.mpr rfl
  | n + 1, t, h => by
    rcases List.eq_nil_or_concat t with e | ⟨r, b, e⟩
    · rw [e] at h
      cases h
    · rw [List.concat_eq_append] at e
      subst e
      rw [List.length_append] at h
      have hr := wd_mem n r (by simpa using h)
      show r ++ [b] ∈ (wd n).flatMap _
      rw [List.mem_flatMap]
      exact ⟨r, hr, by cases b <;> simp⟩
theorem wd_snoc (rs : List (List Bool)) (r : List Bool) : (rs ++ [r]).flatMap (fun r => [r ++ [true], r ++ [false]]) = rs.flatMap (fun r => [r ++ [true], r ++ [false]]) ++ [r ++ [true], r ++ [false]] := by
  rw [List.flatMap_append]
  rfl
theorem wd_len : ∀ n, (wd n).length = 2 ^ n
  | 0 => rfl
  | n + 1 => by
    have : ∀ rs : List (List Bool), (rs.flatMap fun r => [r ++ [true], r ++ [false]]).length = 2 * rs.length := fun rs => by
      induction rs with
      | nil => rfl
      | cons r rs ih =>
        simp [List.flatMap_cons, ih]
        omega
    show ((wd n).flatMap _).length = _
    rw [this, wd_len n, Nat.pow_succ]
    omega
theorem wd_each : ∀ (n : Nat) (r : List Bool), r ∈ wd n → r.length = n
  | 0, r, h => by rw [List.mem_singleton.mp h]; rfl
  | n + 1, r, h => by
    obtain ⟨s, hs, h2⟩ := List.mem_flatMap.mp h
    have := wd_each n s hs
    simp only [List.mem_cons, List.not_mem_nil, or_false] at h2
    rcases h2 with rfl | rfl <;> simp [this]
/-- where it is found, as many stand ahead as its rank says -/
theorem found {n j : Nat} (hn : n < 7) {t : List Bool} (ht : (wd n)[j]? = some t) (no : ∀ r ∈ (wd n).take j, r ≠ t) : alike t ((wd n).take j) = rk t := by
  have h := List.all_eq_true.mp (ranks n hn) t (List.mem_of_getElem? ht)
  have h : alike t ((wd n).takeWhile fun r => !(r == t)) = rk t := by simpa using h
  rw [← h]
  congr 1
  generalize wd n = l at ht no
  clear h
  induction l generalizing j with
  | nil => cases ht
  | cons x l ih =>
    cases j with
    | zero =>
      cases ht
      rw [List.take_zero, List.takeWhile_cons_of_neg (by simp)]
    | succ j =>
      rw [List.take_succ_cons, List.takeWhile_cons_of_pos (by simpa using no x (by rw [List.take_succ_cons]; exact List.mem_cons_self))]
      congr 1
      exact ih (by simpa using ht) (fun r hr => no r (by rw [List.take_succ_cons]; exact List.mem_cons_of_mem _ hr))
theorem word_inj {t u : List Bool} (h : word t = word u) : t = u := by
  have e : (word t).cps.toList = (word u).cps.toList := by rw [h]
  rw [word_list, word_list] at e
  exact List.map_inj_right (f := fun b : Bool => if b then 72 else 84) (fun x y z => by cases x <;> cases y <;> first | rfl | (exact absurd z (by decide))) |>.mp e
theorem word_dec (t u : List Bool) : decide ((V.str (word t) : V) = .str (word u)) = (t == u) := by
  by_cases h : t = u
  · subst h
    rw [decide_eq_true rfl]
    simp
  · rw [decide_eq_false (fun e => h (word_inj (V.str.inj e)))]
    simpa using h
section
variable {P : Program} {w : World} {K : PySem.W.Frag} {mg : Str → Option Value} {base : Heap}
theorem scCls : FnScope ["some", "sequence", "heads", "rank", "rows", "side", "longer", "row"] ["some", "sequence"] (defScope sCls) := ⟨rfl, rfl, rfl, by decide +kernel, rfl, by decide +kernel, by decide +kernel⟩
def spCls : Sp := fun vs H Q _ => ∃ (r : Addr) (t : List Bool) (m : Nat) (ds es : List Int), vs = [.ref r, .str (word t)] ∧ Rec H r m ds es ∧ WR m ds es ∧ t.length = m ∧ m ≤ 6 ∧ ∀ H', Same H H' → Q (say (cls ds es t) (.str "again")) H'
theorem ok_cls {f : Addr} {fd : FuncData} (F : Fun K "_law_classify" "_law_classify" sCls f fd) (mI : mg "int" = none) : FnOk P w K mg base CX0 1 f fd ["some", "sequence"] spCls := by
  refine F.ok scCls (fun vs H Q E h => ?_) (fun cdv A outer s H vs Q E hr h => ?_)
  · obtain ⟨r, t, m, ds, es, rfl, _⟩ := h
    rfl
  · obtain ⟨r, t, m, ds, es, rfl, hrec, hw, ht, hm, q⟩ := h
    refine ⟨_, (pss_cons (ps_par (i := 2) (j := 3) (by rfl) scCls.nd rfl rfl (by decide) rfl rfl (pa_cons (pe_m1 PySem.F.slot_str_count PySem.F.type_str_count mt_count (pv 1) pe_str) (pa_cons pe_int pa_nil)) (by rfl))
      (pss_cons (ps_set (i := 4) scCls.nd rfl (.inl rfl) (pe_lst (pa_cons pe_str pa_nil)))
      (pss_cons (ps_for PassesOwn.never rfl (pi_str (pv 1)) (pg_name (i := 5) scCls.nd rfl (.inl rfl)) (pss_cons (ps_set (i := 6) scCls.nd rfl (.inl rfl) (pe_lst pa_nil))
      (pss_cons (ps_for PassesOwn.never rfl (pi_list (pv 4)) (pg_name (i := 7) scCls.nd rfl (.inl rfl)) (pss_one (ps_set (i := 6) scCls.nd rfl (.inl rfl) (pe_op op_cat (pv 6) (pe_lst (pa_cons (pe_op op_add_str (pv 7) pe_str) (pa_cons (pe_op op_add_str (pv 7) pe_str) pa_nil)))))))
      (pss_one (ps_set (i := 4) scCls.nd rfl (.inl rfl) (pv 6))))))
      (pss_cons (ps_for PassesOwn.never rfl (pi_list (pv 4)) (pg_name (i := 7) scCls.nd rfl (.inl rfl)) (pss_cons (ps_if (pt_cmpR op_eq (pv 7) (pv 1) (nomark _)) (pss_one (ps_ret (pe_ifExp (pt_cmpR op_lt (pv 3) (pe_ix ix_tup (pe_ix ix_tup (pv 0) pe_int (fun _ _ => rfl)) (pv 2) (fun _ _ => rfl)) (nomark _)) pe_str (pe_ifExp (pt_cmpR op_lt (pv 3) (pe_ix ix_tup (pe_ix ix_tup (pv 0) pe_int (fun _ _ => rfl)) (pv 2) (fun _ _ => rfl)) (nomark _)) pe_str pe_str)))) pss_nil)
      (pss_one (ps_set (i := 3) scCls.nd rfl (.inl rfl) (pe_op op_add (pv 3) (pe_callTy call_int1 (by rfl) mI (by decide +kernel) (pa_cons (pe_cmpR op_eq (pe_m1 PySem.F.slot_str_count PySem.F.type_str_count mt_count (pv 7) pe_str) (pv 2) (nomark _)) pa_nil)))))))
      (pss_one (ps_ret pe_non)))))), ?_⟩
    have line : sizeLine = 16777216 := by decide
    have wlen : ∀ u : List Bool, (word u).length = u.length := word_len
    refine ⟨_, rfl, ⟨_, rfl⟩, _, _, rfl, rfl, _, _, rfl, ?_⟩
    rw [count_H]
    refine ⟨by show 1 ≤ sizeLine; decide, fun R nR => ?_⟩
    have s1 := Same.upd (o := .lst [V.str (PySem.Str.ofString "")]) nR
    have eR : upd H R (.lst [V.str (PySem.Str.ofString "")]) R = some (.lst ((wd 0).map fun u => V.str (word u))) := by
      rw [upd_same]
      have e0 : PySem.Str.ofString "" = word [] := str_ext (by rw [word_list]; decide +kernel)
      rw [e0]
      rfl
    change (_ : Hp → Prop) (upd H R (.lst [V.str (PySem.Str.ofString "")]))
    generalize upd H R (.lst [V.str (PySem.Str.ofString "")]) = H1 at s1 eR ⊢
    refine ⟨_, rfl, _, rfl, FS.for_str (z := word t) (fun i σ H' => ∃ (R : Addr) (v5 v6 v7 : Option V), σ = [some (.ref r), some (.str (word t)), some (.int (hd t : Nat)), some (.int 0), some (.ref R), v5, v6, v7] ∧ Same H H' ∧ H' R = some (.lst ((wd i).map fun u => V.str (word u)))) ⟨R, _, _, _, rfl, s1, eR⟩ ?_ ?_⟩
    · rintro i c σ H2 hc ⟨R, v5, v6, v7, rfl, s2, eR⟩
      have hi : i < m := by
        have := (Array.getElem?_eq_some_iff.mp hc).1
        have e : (word t).cps.size = t.length := word_len t
        omega
      have h2i : 2 ^ i ≤ 64 := Nat.pow_le_pow_right (by decide) (show i ≤ 6 by omega)
      refine ⟨Nat.zero_le _, fun L nL => ?_⟩
      have s3 := Same.upd (o := .lst []) nL
      have eL : upd H2 L (.lst []) L = some (.lst ([].map fun u => V.str (word u))) := upd_same
      have eR3 := s3 _ _ eR
      have s3 := s2.trans s3
      change (_ : Hp → Prop) (upd H2 L (.lst []))
      generalize upd H2 L (.lst []) = H3 at s3 eL eR3 ⊢
      refine ⟨_, rfl, R, rfl, ⟨_, SqL.of eR3⟩, for_list (K := K) (a := R) (xs := (wd i).map fun u => V.str (word u)) (fun j σ H' => ∃ (L : Addr) (v7 : Option V), σ = [some (.ref r), some (.str (word t)), some (.int (hd t : Nat)), some (.int 0), some (.ref R), some (.str ⟨#[c]⟩), some (.ref L), v7] ∧ Same H H' ∧ H' R = some (.lst ((wd i).map fun u => V.str (word u))) ∧ H' L = some (.lst ((((wd i).take j).flatMap fun r => [r ++ [true], r ++ [false]]).map fun u => V.str (word u)))) ⟨L, _, rfl, s3, eR3, eL⟩ (fun j σ H' _ ⟨_, _, _, _, e, _⟩ => SqL.of e) ?_ ?_⟩
      · rintro j x σ H4 hx ⟨L, v7, rfl, s4, eR4, eL4⟩
        obtain ⟨u, hu, rfl⟩ : ∃ u, (wd i)[j]? = some u ∧ V.str (word u) = x := by
          rw [List.getElem?_map] at hx
          cases e : (wd i)[j]? with
          | none => rw [e] at hx; cases hx
          | some u => rw [e] at hx; exact ⟨u, rfl, Option.some.inj hx⟩
        obtain ⟨hj, hju⟩ := List.getElem?_eq_some_iff.mp hu
        have hul : u.length = i := wd_each i u (List.mem_of_getElem? hu)
        have hwl := wd_len i
        refine ⟨_, rfl, _, rfl, _, _, rfl, rfl, by rw [wlen, hul, show (PySem.Str.ofString "H").length = 1 by decide +kernel]; omega, _, rfl, _, _, rfl, rfl, by rw [wlen, hul, show (PySem.Str.ofString "T").length = 1 by decide +kernel]; omega, by show 2 ≤ sizeLine; decide, fun p np => ?_⟩
        have s5 := Same.upd (o := .lst [V.str (word u ++ PySem.Str.ofString "H"), V.str (word u ++ PySem.Str.ofString "T")]) np
        have e5 : upd H4 p (.lst [V.str (word u ++ PySem.Str.ofString "H"), V.str (word u ++ PySem.Str.ofString "T")]) p = some (.lst ([u ++ [true], u ++ [false]].map fun u => V.str (word u))) := by
          rw [upd_same]
          show some (HO.lst [V.str (word u ++ sg true), V.str (word u ++ sg false)]) = _
          rw [word_snoc, word_snoc]
          rfl
        change (_ : Hp → Prop) (upd H4 p (.lst [V.str (word u ++ PySem.Str.ofString "H"), V.str (word u ++ PySem.Str.ofString "T")]))
        generalize upd H4 p (.lst [V.str (word u ++ PySem.Str.ofString "H"), V.str (word u ++ PySem.Str.ofString "T")]) = H5 at s5 e5 ⊢
        have fl : ∀ rs : List (List Bool), (rs.flatMap fun r => [r ++ [true], r ++ [false]]).length = 2 * rs.length := fun rs => by
          induction rs with
          | nil => rfl
          | cons r rs ih =>
            simp [List.flatMap_cons, ih]
            omega
        refine ⟨L, p, _, _, rfl, rfl, s5 _ _ eL4, e5, ?_, fun a na => ?_⟩
        · rw [List.length_map, List.length_map, fl, List.length_take]
          show _ + 2 ≤ sizeLine
          omega
        · refine ⟨a, some (.str (word u)), rfl, (s4.trans s5).trans (Same.upd na), (Same.upd na) _ _ (s5 _ _ eR4), ?_⟩
          rw [upd_same, List.take_succ, hu, ← List.map_append]
          show _ = some (HO.lst (List.map _ (List.flatMap _ (List.take j (wd i) ++ [u]))))
          rw [wd_snoc]
      · rintro σ H4 ⟨L, v7, rfl, s4, eR4, eL4⟩
        rw [List.length_map, List.take_of_length_le (Nat.le_refl _)] at eL4
        exact ⟨_, rfl, L, _, _, _, rfl, s4, eL4⟩
    · rintro σ H2 ⟨R, v5, v6, v7, rfl, s2, eR⟩
      have ew : (word t).cps.size = m := (word_len t).trans ht
      rw [ew] at eR
      obtain ⟨a, b, e1, e2, e3, i1, i2⟩ := (hrec.same s2).ds hw (k := hd t) (by have := hd_le t; omega)
      refine ⟨_, rfl, R, rfl, ⟨_, SqL.of eR⟩, for_list (K := K) (a := R) (xs := (wd m).map fun u => V.str (word u)) (fun j σ H' => ∃ (v7 : Option V), σ = [some (.ref r), some (.str (word t)), some (.int (hd t : Nat)), some (.int (alike t ((wd m).take j) : Nat)), some (.ref R), v5, v6, v7] ∧ H' = H2 ∧ ∀ u ∈ (wd m).take j, u ≠ t) ⟨_, rfl, rfl, fun u hu => absurd hu (by rw [List.take_zero]; exact List.not_mem_nil)⟩ (fun j σ H' _ ⟨_, _, e, _⟩ => by rw [e]; exact SqL.of eR) ?_ ?_⟩
      · rintro j x σ H4 hx ⟨v7, rfl, rfl, no⟩
        obtain ⟨u, hu, rfl⟩ : ∃ u, (wd m)[j]? = some u ∧ V.str (word u) = x := by
          rw [List.getElem?_map] at hx
          cases e : (wd m)[j]? with
          | none => rw [e] at hx; cases hx
          | some u => rw [e] at hx; exact ⟨u, rfl, Option.some.inj hx⟩
        refine ⟨_, rfl, _, rfl, rfl, _, rfl, ?_⟩
        rw [word_dec]
        cases hut : (u == t) with
        | true =>
          have eu : u = t := by simpa using hut
          subst eu
          have er := found (by omega) hu no
          rw [er]
          refine iteT ⟨_, rfl, _, rfl, r, _, 1, .ref a, rfl, rfl, SqT.of e1, atI_nat (j := 1) rfl, _, rfl, a, _, _, .int (ds.getD (hd u) 0), rfl, rfl, SqT.of e2, i1, _, _, rfl, rfl, _, rfl, ?_⟩
          unfold cls at q
          by_cases h1 : (rk u : Int) < ds.getD (hd u) 0
          · rw [if_pos h1] at q
            rw [decide_eq_true h1]
            exact iteT (q _ s2)
          · rw [if_neg h1] at q
            rw [decide_eq_false h1]
            refine iteF ⟨_, rfl, _, rfl, r, _, 2, .ref b, rfl, rfl, SqT.of e1, atI_nat (j := 2) rfl, _, rfl, b, _, _, .int (es.getD (hd u) 0), rfl, rfl, SqT.of e3, i2, _, _, rfl, rfl, _, rfl, ?_⟩
            by_cases h2 : (rk u : Int) < es.getD (hd u) 0
            · rw [if_pos h2] at q
              rw [decide_eq_true h2]
              exact iteT (q _ s2)
            · rw [if_neg h2] at q
              rw [decide_eq_false h2]
              exact iteF (q _ s2)
        | false =>
          have nu : u ≠ t := by simpa using hut
          refine iteF ⟨_, rfl, _, rfl, ⟨_, rfl⟩, _, _, rfl, rfl, ?_⟩
          rw [count_H]
          refine ⟨_, rfl, rfl, .inr ⟨_, rfl, _, _, rfl, rfl, ?_⟩⟩
          refine ⟨some (.str (word u)), ?_, rfl, ?_⟩
          · rw [List.take_succ, hu]
            have ea : alike t ((wd m).take j ++ (some u).toList) = alike t ((wd m).take j) + (if hd u = hd t then 1 else 0) := by
              unfold alike
              show List.countP _ (_ ++ [u]) = _
              rw [List.countP_append, List.countP_singleton]
              by_cases e : hd u = hd t <;> simp [e]
            rw [ea]
            have ed : decide ((V.int (hd u : Nat) : V) = V.int (hd t : Nat)) = decide (hd u = hd t) := by
              by_cases e : hd u = hd t
              · rw [decide_eq_true e, e, decide_eq_true rfl]
              · rw [decide_eq_false e, decide_eq_false (fun z => e (by have := V.int.inj z; omega))]
            show [some (V.ref r), some (V.str (word t)), some (V.int (hd t : Nat)), some (V.int ((alike t ((wd m).take j) : Nat) + (if decide ((V.int (hd u : Nat) : V) = V.int (hd t : Nat)) = true then 1 else 0))), some (V.ref R), v5, v6, some (V.str (word u))] = _
            rw [ed]
            by_cases e : hd u = hd t <;> simp [e]
          · intro x hx
            rw [List.take_succ, hu] at hx
            rcases List.mem_append.mp hx with hx | hx
            · exact no x hx
            · rw [List.mem_singleton.mp hx]
              exact nu
      · rintro σ H4 ⟨v7, rfl, rfl, no⟩
        rw [List.length_map, List.take_of_length_le (Nat.le_refl _)] at no
        exact absurd rfl (no t (wd_mem m t ht))
def spExp : Sp := fun vs H Q _ => ∃ (r : Addr) (t : List Bool) (m : Nat) (ds es : List Int), vs = [.ref r, .str (word t)] ∧ Rec H r m ds es ∧ WR m ds es ∧ t.length ≤ 3000 ∧ m ≤ 6 ∧ ∀ p H', Same H H' → H p = none → H' p = some (.tup (out (runR m ds es t (t.length + 1) 0))) → Q (.ref p) H'
theorem scExp : FnScope ["some", "sequence", "rounds", "word"] ["some", "sequence"] (defScope sExp) := ⟨rfl, rfl, rfl, by decide +kernel, rfl, by decide +kernel, by decide +kernel⟩
theorem ok_exp {f g : Addr} {fd gd : FuncData} (F : Fun K "_law_expected" "_law_expected" sExp f fd) (T : Names mg) (GD : FnOk P w K mg base CX0 1 g gd ["some", "sequence"] spCls) (PD : Def K mg "_law_classify" g gd ["some", "sequence"]) : FnOk P w K mg base CX0 2 f fd ["some", "sequence"] spExp := by
  refine F.ok scExp (fun vs H Q E h => ?_) (fun cdv A outer s H vs Q E hr h => ?_)
  · obtain ⟨r, t, m, ds, es, rfl, _⟩ := h
    rfl
  · obtain ⟨r, t, m, ds, es, rfl, hrec, hw, ht, hm, q⟩ := h
    refine ⟨_, (pss_cons (ps_set (i := 2) scExp.nd rfl (.inl rfl) pe_int)
      (pss_cons (ps_while PassesOwn.never (pt_cmpR op_le (pe_op op_mul (pe_op op_add (pv 2) pe_int) (pe_ix ix_tup (pv 0) pe_int (fun _ _ => rfl))) (pe_callB call_len_str (by rfl) T.len PySem.boot_len (pa_cons (pv 1) pa_nil)) (nomark _)) (pss_cons (ps_set (i := 3) scExp.nd rfl (.inl rfl) (pe_call GD (hr.mono (by decide)) (by rfl) PD.is PD.kp PD.bi .nil pass0 (pa_cons (pv 0) (pa_cons (pe_slice sl_str (pv 1) (po_some (pe_op op_mul (pv 2) (pe_ix ix_tup (pv 0) pe_int (fun _ _ => rfl)))) (po_some (pe_op op_add (pe_op op_mul (pv 2) (pe_ix ix_tup (pv 0) pe_int (fun _ _ => rfl))) (pe_ix ix_tup (pv 0) pe_int (fun _ _ => rfl))))) pa_nil))))
      (pss_cons (ps_set (i := 2) scExp.nd rfl (.inl rfl) (pe_op op_add (pv 2) pe_int))
      (pss_one (ps_if (pt_cmpR op_ne (pv 3) pe_str (nomark _)) (pss_one (ps_ret (pe_tup (pa_cons (pv 3) (pa_cons (pv 2) pa_nil))))) pss_nil)))))
      (pss_one (ps_ret (pe_tup (pa_cons pe_str (pa_cons (pv 2) pa_nil))))))), ?_⟩
    have line : sizeLine = 16777216 := by decide
    have hsz : (word t).length ≤ sizeLine := by rw [word_len]; omega
    obtain ⟨a, b, e1, e2, e3⟩ := id hrec
    refine ⟨fun n σ H' => ∃ (k : Nat) (v4 : Option V), n = t.length + 1 - k ∧ σ = [some (V.ref r), some (V.str (word t)), some (V.int (k : Nat)), v4] ∧ Same H H' ∧ (m = 0 → k = 0) ∧ k ≤ t.length ∧ runR m ds es t n k = runR m ds es t (t.length + 1) 0,
      ⟨t.length + 1, 0, none, rfl, rfl, fun _ _ z => z, fun _ => rfl, Nat.zero_le _, rfl⟩, ?_⟩
    rintro n σ H1 ⟨k, v4, rfl, rfl, s1, hk0, hkl, er⟩
    have ek : ((k : Nat) : Int) + 1 = ((k + 1 : Nat) : Int) := rfl
    have em : ((k + 1 : Nat) : Int) * (m : Nat) = (((k + 1) * m : Nat) : Int) := by rw [Int.natCast_mul]
    have em2 : ((k : Nat) : Int) * (m : Nat) = ((k * m : Nat) : Int) := by rw [Int.natCast_mul]
    have em3 : ((k * m : Nat) : Int) + (m : Nat) = (((k + 1) * m : Nat) : Int) := by rw [Nat.succ_mul]; rfl
    refine ⟨_, rfl, _, _, rfl, rfl, _, rfl, r, _, 0, .int (m : Nat), rfl, rfl, SqT.of (s1 _ _ e1), atI_nat (j := 0) rfl, _, _, rfl, rfl, .inl ⟨by omega, by omega⟩, _, rfl, word t, rfl, hsz, _, _, rfl, rfl, _, rfl, ?_⟩
    dsimp only
    rw [ek, em, word_len]
    by_cases lt : (k + 1) * m ≤ t.length
    · rw [decide_eq_true (show (((k + 1) * m : Nat) : Int) ≤ (t.length : Nat) by omega)]
      refine iteT ?_
      obtain ⟨n, en⟩ : ∃ n, t.length + 1 - k = n + 1 := ⟨t.length - k, by omega⟩
      rw [en] at er ⊢
      have hl : (piece m k t).length = m := piece_len lt
      have km : k * m ≤ 200000 := Nat.le_trans (Nat.mul_le_mul (show k ≤ 3000 by omega) hm) (by decide)
      refine ⟨fun σ H' => ∃ v4, cls ds es (piece m k t) = none ∧ σ = [some (V.ref r), some (V.str (word t)), some (V.int ((k + 1 : Nat) : Int)), v4] ∧ Same H H', ?_, ?_⟩
      · rintro σ' H' ⟨v4, hc, rfl, s'⟩
        have hm0 : m ≠ 0 := by
          rintro rfl
          have e0 : piece 0 k t = [] := List.length_eq_zero_iff.mp hl
          rw [e0] at hc
          exact cls_zero hw hc
        have hk1 : k + 1 ≤ t.length := Nat.le_trans (Nat.le_mul_of_pos_right (k + 1) (by omega)) lt
        exact ⟨n, by omega, k + 1, v4, by omega, rfl, s', fun z => absurd z hm0, hk1, by rw [← er, runR_none lt hc]⟩
      · refine ⟨_, rfl, _, rfl, ?_⟩
        dsimp only [tPart]
        refine ⟨_, rfl, _, rfl, r, _, 0, .int (m : Nat), rfl, rfl, SqT.of (s1 _ _ e1), atI_nat (j := 0) rfl, _, _, rfl, rfl, .inl ⟨by omega, by omega⟩, _, rfl, _, rfl, _, rfl, r, _, 0, .int (m : Nat), rfl, rfl, SqT.of (s1 _ _ e1), atI_nat (j := 0) rfl, _, _, rfl, rfl, .inl ⟨by omega, by omega⟩, _, rfl, r, _, 0, .int (m : Nat), rfl, rfl, SqT.of (s1 _ _ e1), atI_nat (j := 0) rfl, _, _, rfl, rfl, _, rfl, word t, rfl, hsz, ?_⟩
        dsimp only
        rw [em2, em3, piece_cut lt]
        refine ⟨r, piece m k t, m, ds, es, rfl, hrec.same s1, hw, hl, hm, fun H2 s2 => ?_⟩
        have s12 := s1.trans s2
        refine ⟨_, rfl, _, _, rfl, rfl, _, rfl, ?_⟩
        cases hc : cls ds es (piece m k t) with
        | none =>
          refine ⟨rfl, _, rfl, ?_⟩
          rw [decide_eq_true (show say none (V.str (PySem.Str.ofString "again")) = V.str (PySem.Str.ofString "again") from rfl)]
          exact iteF ⟨_, rfl, rfl, s12⟩
        | some bb =>
          refine ⟨by cases bb <;> rfl, _, rfl, ?_⟩
          rw [decide_eq_false (show ¬ say (some bb) (V.str (PySem.Str.ofString "again")) = V.str (PySem.Str.ofString "again") by cases bb <;> (intro h; exact absurd (V.str.inj h) (by decide +kernel)))]
          refine iteT ⟨_, rfl, _, rfl, by show 2 ≤ sizeLine; decide, fun p np => ?_⟩
          refine q p _ (s12.trans (Same.upd np)) (s12.free np) ?_
          rw [upd_same, ← er, runR_some lt hc]
          cases bb <;> rfl
    · rw [decide_eq_false (show ¬ (((k + 1) * m : Nat) : Int) ≤ (t.length : Nat) by omega)]
      refine iteF ⟨_, rfl, by show 2 ≤ sizeLine; decide, fun p np => ?_⟩
      refine q p _ (s1.trans (Same.upd np)) (s1.free np) ?_
      rw [upd_same, ← er, runR_end lt]
      rfl
end
end Z

set_option Elab.async false
set_option linter.all false
set_option maxRecDepth 100000
set_option maxHeartbeats 4000000
/-! tapes joined of their signs -/
namespace Z
open PySem PySem.Spec PyProof.Rows L2 ZC
theorem join_signs : ∀ t : List Bool, Str.join ("" : Str) (t.map sg) = word t
  | [] => str_ext (by rw [word_list]; decide +kernel)
  | [b] => by
    show sg b = word [b]
    rw [word_one]
  | b :: c :: r => by
    show sg b ++ ("" : Str) ++ Str.join ("" : Str) ((c :: r).map sg) = _
    rw [join_signs (c :: r)]
    have e : sg b ++ ("" : Str) = sg b := by cases b <;> decide +kernel
    rw [e, word_cons]
end Z

set_option Elab.async false
set_option linter.all false
set_option maxRecDepth 100000
set_option maxHeartbeats 4000000
/-! tuples of texts and ints as data -/
namespace SH
open PySem PySem.Spec PyProof.Rows L2 GG
def flat : PyData → Bool
  | .int _ => true
  | .bool _ => true
  | .none => true
  | .str x => (PyData.str x).canLay0
  | _ => false
theorem flat_lay : ∀ {d : PyData}, flat d = true → d.canLay0 = true ∧ d.depth = 0 ∧ d.hasDict = false ∧ d.bulk ≤ 1 + d.bulk
  | .int _, _ => ⟨rfl, by simp [PyData.depth], by simp [PyData.hasDict], by omega⟩
  | .bool _, _ => ⟨rfl, by simp [PyData.depth], by simp [PyData.hasDict], by omega⟩
  | .none, _ => ⟨rfl, by simp [PyData.depth], by simp [PyData.hasDict], by omega⟩
  | .str x, h => ⟨h, by simp [PyData.depth], by simp [PyData.hasDict], by omega⟩
theorem flats_lay : ∀ {ds : List PyData}, ds.all flat = true → PyData.canLayAll0 ds = true ∧ PyData.depthAll ds = 0
  | [], _ => ⟨rfl, by simp [PyData.depthAll]⟩
  | d :: r, h => by
    rw [List.all_cons, Bool.and_eq_true] at h
    obtain ⟨h1, h2, _⟩ := flat_lay h.1
    obtain ⟨h3, h4⟩ := flats_lay h.2
    exact ⟨by simp [PyData.canLayAll0, h1, h3], by simp [PyData.depthAll, h2, h4]⟩
theorem lay_tup {ds : List PyData} (h : ds.all flat = true) : (PyData.tuple ds).canLay0 = true := (flats_lay h).1
theorem shaped_tup {ds : List PyData} (h : ds.all flat = true) : SeqAt.shaped (.tuple ds) = true := by
  unfold SeqAt.shaped
  rw [lay_tup h, Bool.true_and]
  simp [PyData.depth, (flats_lay h).2]
theorem eqv_tup {ds : List PyData} (h : ds.all flat = true) : PyData.eqv (.tuple ds) (.tuple ds) = true := SeqAt.eqv_refl _ (lay_tup h)
/-- shown -/
def short : PyData → Bool
  | .int i => decide (i.natAbs.log2 < 1920)
  | .bool _ => true
  | .none => true
  | .str x => (x.cps.toList.all fun c => decide (c < 16 ^ 8)) && decide (x.cps.size ≤ 1000)
  | _ => false
theorem short_one : ∀ {d : PyData}, short d = true → d.showable = true ∧ d.leavesShort 1922 = true ∧ d.hasDict = false ∧ d.depth = 0 ∧ d.bulk ≤ 1001
  | .int i, h => by
    have h : i.natAbs.log2 < 1920 := by simpa [short] using h
    exact ⟨by simp [PyData.showable, h], short_int h, by simp [PyData.hasDict], by simp [PyData.depth], by simp [PyData.bulk]⟩
  | .bool _, _ => ⟨by simp [PyData.showable], by simp [PyData.leavesShort], by simp [PyData.hasDict], by simp [PyData.depth], by simp [PyData.bulk]⟩
  | .none, _ => ⟨by simp [PyData.showable], by simp [PyData.leavesShort], by simp [PyData.hasDict], by simp [PyData.depth], by simp [PyData.bulk]⟩
  | .str x, h => by
    have h : (x.cps.toList.all fun c => decide (c < 16 ^ 8)) = true ∧ x.cps.size ≤ 1000 := by
      have := (Bool.and_eq_true _ _).mp h
      exact ⟨this.1, of_decide_eq_true this.2⟩
    refine ⟨by simp [PyData.showable], ?_, by simp [PyData.hasDict], by simp [PyData.depth], ?_⟩
    · unfold PyData.leavesShort
      exact h.1
    · simp [PyData.bulk]
      omega
theorem short_all : ∀ {ds : List PyData}, ds.all short = true → PyData.showableAll ds = true ∧ PyData.leavesShortAll 1922 ds = true ∧ PyData.hasDictAll ds = false ∧ PyData.depthAll ds = 0 ∧ PyData.bulkAll ds ≤ 1002 * ds.length
  | [], _ => ⟨rfl, rfl, rfl, rfl, by simp [PyData.bulkAll]⟩
  | d :: r, h => by
    rw [List.all_cons, Bool.and_eq_true] at h
    obtain ⟨a1, a2, a3, a4, a5⟩ := short_one h.1
    obtain ⟨b1, b2, b3, b4, b5⟩ := short_all h.2
    refine ⟨by simp [PyData.showableAll, a1, b1], by simp [PyData.leavesShortAll, a2, b2], by simp [PyData.hasDictAll, a3, b3], by simp [PyData.depthAll, a4, b4], ?_⟩
    simp [PyData.bulkAll]
    omega
theorem shows_tup {ds : List PyData} (h : ds.all short = true) (l : ds.length ≤ 7) : Shows (.tuple ds) 50 8000 := by
  obtain ⟨b1, b2, b3, b4, b5⟩ := short_all h
  refine ⟨by simp [PyData.showable, b1], by simp [PyData.leavesShort, b2], by simp [PyData.hasDict, b3], by simp [PyData.depth, b4], ?_⟩
  simp [PyData.bulk]
  omega
end SH

set_option Elab.async false
set_option linter.all false
set_option maxRecDepth 100000
set_option maxHeartbeats 4000000
namespace Z
open PySem PySem.Spec PyProof.Rows L2 GG ZC
abbrev sLong : Stmt := top 14
theorem rep_word {z r : Str} {k : Nat} {b : Bool} (hz : z = sg b) (h : r.cps.toList = (List.replicate k z.cps.toList).flatten) : r = word (List.replicate k b) := by
  refine str_ext ?_
  rw [h, hz, word_list, sg_cps]
  clear h
  induction k with
  | zero => rfl
  | succ k ih =>
    rw [List.replicate_succ, List.flatten_cons, ih, List.replicate_succ]
    rfl
def outD (x : Option Bool × Nat) : List PyData := [match x.1 with | some true => .str "yes" | some false => .str "no" | none => .str "going", .int (x.2 : Nat)]
theorem flat_out (x : Option Bool × Nat) : (outD x).all SH.flat = true := by
  obtain ⟨b, k⟩ := x
  have e : ∀ d : PyData, SH.flat d = true → ([d, .int (k : Nat)].all SH.flat) = true := fun d h => by
    rw [List.all_cons, h]
    rfl
  cases b with
  | none => exact e (.str "going") (by decide +kernel)
  | some b =>
    cases b
    · exact e (.str "no") (by decide +kernel)
    · exact e (.str "yes") (by decide +kernel)
theorem short_out (x : Option Bool × Nat) (h : x.2 < 2 ^ 40) : (outD x).all SH.short = true := by
  obtain ⟨b, k⟩ := x
  have hk : SH.short (.int (k : Nat)) = true := by
    show decide (((k : Nat) : Int).natAbs.log2 < 1920) = true
    rw [Int.natAbs_natCast]
    exact decide_eq_true (Nat.lt_of_lt_of_le (PySem.Flt.log2_lt_of (k := 40) (by decide) h) (by decide))
  have e : ∀ d : PyData, SH.short d = true → ([d, .int (k : Nat)].all SH.short) = true := fun d h => by
    rw [List.all_cons, h, List.all_cons, hk]
    rfl
  cases b with
  | none => exact e (.str "going") (by decide +kernel)
  | some b =>
    cases b
    · exact e (.str "no") (by decide +kernel)
    · exact e (.str "yes") (by decide +kernel)
theorem shaped_out (x : Option Bool × Nat) : SeqAt.shaped (.tuple (outD x)) = true := SH.shaped_tup (flat_out x)
theorem eqv_out (x : Option Bool × Nat) : PyData.eqv (.tuple (outD x)) (.tuple (outD x)) = true := SH.eqv_tup (flat_out x)
theorem dp_out {K : PySem.W.Frag} {H : Hp} {p : Addr} {x : Option Bool × Nat} (h : H p = some (.tup (out x))) : Dp K H (.ref p) (.tuple (outD x)) := by
  obtain ⟨b, k⟩ := x
  cases b with
  | none => exact .tup (SqT.of h) (.cons (.str _) (.cons (.int _) .nil))
  | some b => cases b <;> exact .tup (SqT.of h) (.cons (.str _) (.cons (.int _) .nil))
section
variable {P : Program} {w : World} {K : PySem.W.Frag} {mg : Str → Option Value} {base : Heap}
def spLong : Sp := fun vs H Q _ => ∃ (p l : Addr), vs = [.ref p] ∧ Pen H p l ∧ ∀ H', But p H H' → Pen H' p l → Q (.bl true) H'
theorem scLong : FnScope ["pen", "some", "many", "sequence", "rounds", "word", "line", "heads", "rank", "k"] ["pen"] (defScope sLong) := ⟨rfl, rfl, rfl, by decide +kernel, rfl, by decide +kernel, by decide +kernel⟩
theorem ok_long {f g c t r : Addr} {fd gd cd td rd : FuncData} (F : Fun K "_law_long_case" "_law_long_case" sLong f fd) (T : Names mg) (GD : FnOk P w K mg base CX0 2 g gd ["pen", "many"] spDraw) (PD : Def K mg "_law_draw" g gd ["pen", "many"])
    (GC : FnOk P w K mg base CX0 3 c cd ["pen", "most"] spRecipe) (PC_ : Def K mg "_law_recipe" c cd ["pen", "most"]) (GT : FnOk P w K mg base CX0 2 t td ["sequence"] spTr) (PT_ : Def K mg "_law_tape_rank" t td ["sequence"])
    (GR : FnOk P w K mg base CX0 3 r rd ["recipe", "tape"] spRunR) (PR : Def K mg "run_recipe" r rd ["recipe", "tape"]) : FnOk P w K mg base CX0 4 f fd ["pen"] spLong := by
  refine F.ok scLong (fun vs H Q E h => ?_) (fun cdv A outer s H vs Q E hr h => ?_)
  · obtain ⟨p, l, rfl, _⟩ := h
    rfl
  · obtain ⟨p, l, rfl, pn, q⟩ := h
    have hu : A.units + 3 + 64 < cLine := hr.units
    refine ⟨_, (pss_cons (ps_set (i := 1) scLong.nd rfl (.inl rfl) (pe_call GC (hr.mono (by decide)) (by rfl) PC_.is PC_.kp PC_.bi .nil pass0 (pa_cons (pv 0) (pa_cons pe_int pa_nil))))
      (pss_cons (ps_set (i := 2) scLong.nd rfl (.inl rfl) (pe_ix ix_tup (pv 1) pe_int (fun _ _ => rfl)))
      (pss_cons (ps_set (i := 3) scLong.nd rfl (.inl rfl) (pe_join pe_str (pe_lc (own := [("k", 9)]) (g := gName 9) (tt := tYes) rfl scLong.nd (pi_range1 rfl T.range (pa_cons (pe_op op_add (pe_op op_mul pe_int (pv 2)) pe_int) pa_nil)) (blkOk_by (N := ["pen", "some", "many", "sequence", "rounds", "word", "line", "heads", "rank", "k"]) (sc := defScope sLong) (own := [("k", 9)]) (by decide +kernel)) (fun _ _ _ _ _ => (pg_name (i := 9) scLong.nd rfl (.inl rfl))) (fun _ _ _ _ _ => pts_nil) (fun _ _ _ _ _ => (pe_ix ix_str pe_str (pe_call GD (hr.mono (by decide)) (by rfl) PD.is PD.kp PD.bi .nil pass0 (pa_cons (pv 0) (pa_cons pe_int pa_nil))) (fun _ _ => rfl))))))
      (pss_cons (ps_asg (pe_tup (pa_cons pe_int (pa_cons pe_str pa_nil))) (pg_tup rfl (pgs_cons (pg_name (i := 4) scLong.nd rfl (.inl rfl)) (pgs_cons (pg_name (i := 5) scLong.nd rfl (.inl rfl)) pgs_nil))))
      (pss_cons (ps_while PassesOwn.never (PW.pt (pw_and (pt_cmpR op_eq (pv 5) pe_str (nomark _)) (pw_and1 (pt_cmpR op_le (pe_op op_mul (pe_op op_add (pv 4) pe_int) (pv 2)) (pe_callB call_len_str (by rfl) T.len PySem.boot_len (pa_cons (pv 3) pa_nil)) (nomark _))))) (pss_cons (ps_set (i := 6) scLong.nd rfl (.inl rfl) (pe_slice sl_str (pv 3) (po_some (pe_op op_mul (pv 4) (pv 2))) (po_some (pe_op op_add (pe_op op_mul (pv 4) (pv 2)) (pv 2)))))
      (pss_cons (ps_par (i := 7) (j := 8) (by rfl) scLong.nd rfl rfl (by decide) rfl rfl (pa_cons (pe_m1 PySem.F.slot_str_count PySem.F.type_str_count mt_count (pv 6) pe_str) (pa_cons (pe_call GT (hr.mono (by decide)) (by rfl) PT_.is PT_.kp PT_.bi .nil pass0 (pa_cons (pv 6) pa_nil)) pa_nil)) (by rfl))
      (pss_cons (ps_set (i := 5) scLong.nd rfl (.inl rfl) (pe_ifExp (pt_cmpR op_lt (pv 8) (pe_ix ix_tup (pe_ix ix_tup (pv 1) pe_int (fun _ _ => rfl)) (pv 7) (fun _ _ => rfl)) (nomark _)) pe_str (pe_ifExp (pt_cmpR op_lt (pv 8) (pe_ix ix_tup (pe_ix ix_tup (pv 1) pe_int (fun _ _ => rfl)) (pv 7) (fun _ _ => rfl)) (nomark _)) pe_str pe_str)))
      (pss_one (ps_set (i := 4) scLong.nd rfl (.inl rfl) (pe_op op_add (pv 4) pe_int)))))))
      (pss_one (ps_ret (pe_cmpR (op_eqD hu) (pe_call GR (hr.mono (by decide)) (by rfl) PR.is PR.kp PR.bi .nil pass0 (pa_cons (pv 1) (pa_cons (pv 3) pa_nil))) (pe_tup (pa_cons (pe_ifExp (pt_cmpR op_eq (pv 5) pe_str (nomark _)) pe_str (pv 5)) (pa_cons (pv 4) pa_nil))) (nomark _))))))))), ?_⟩
    have line : sizeLine = 16777216 := by decide
    refine ⟨.ref p, rfl, p, l, 40, rfl, pn, by omega, fun r m ds es H1 b1 p1 hm hw nr hrec => ?_⟩
    obtain ⟨a, b, e1, e2, e3⟩ := id hrec
    refine ⟨_, rfl, r, _, 0, .int (m : Nat), rfl, rfl, SqT.of e1, atI_nat (j := 0) rfl, ?_⟩
    have e2m : (2 : Int) * (m : Nat) + 1 = ((2 * m + 1 : Nat) : Int) := by omega
    refine ⟨⟨_, rfl⟩, _, rfl, _, _, rfl, rfl, .inl ⟨by decide, by decide⟩, _, _, rfl, rfl, _, rfl, by omega, by omega, fun E nE => ?_⟩
    dsimp only
    rw [e2m, Int.toNat_natCast]
    have aE := p1.apart nE
    refine lc_range (lo := 0) (n := 2 * m + 1) (fun k H' => ∃ ts : List Bool, H' E = some (.lst ((ts.map sg).map V.str)) ∧ ts.length = k ∧ But p H1 H' ∧ Pen H' p l) ⟨[], upd_same, rfl, But.of (Same.upd nE), p1.same (Same.upd nE)⟩ ?_ ?_
    · rintro k H8 hk ⟨ts, e8, hts, b8, p8⟩
      refine ⟨rfl, ?_⟩
      dsimp only [tYes]
      refine iteT ⟨.ref p, rfl, p, l, 2, rfl, p8, by decide, by decide +kernel, fun u H9 u0 u1 b9 p9 => ?_⟩
      obtain ⟨c, bt, hc, ec⟩ : ∃ (c : Nat) (bt : Bool), atI (PySem.Str.ofString "HT").cps.toList u = some c ∧ (⟨#[c]⟩ : Str) = sg bt := by
        have e : (PySem.Str.ofString "HT").cps.toList = [72, 84] := by decide +kernel
        rw [e]
        rcases (show u = 0 ∨ u = 1 by omega) with rfl | rfl
        · exact ⟨72, true, rfl, by decide +kernel⟩
        · exact ⟨84, false, rfl, by decide +kernel⟩
      refine ⟨_, _, c, rfl, rfl, by decide +kernel, hc, _, b9.mem aE.1 e8, by rw [List.length_map, List.length_map]; omega, ts ++ [bt], ?_, by simp [hts], ?_, ?_⟩
      · rw [upd_same, List.map_append, List.map_append, ec]
        rfl
      · intro b o e n
        rw [upd_ne (ne_of_none e nE)]
        exact b9 _ _ (b8 _ _ e n) n
      · obtain ⟨cs, pos, val, h1, h2, h3⟩ := p9
        exact ⟨cs, pos, val, by rw [upd_ne aE.1.symm]; exact h1, by rw [upd_ne aE.2.symm]; exact h2, h3⟩
    · rintro H8 ⟨ts, e8, hts, b8, p8⟩
      have sm : ((ts.map sg).map fun x => x.length).sum = ts.length := by
        clear e8 hts
        induction ts with
        | nil => rfl
        | cons b r ih => rw [List.map_cons, List.map_cons, List.sum_cons, ih, sg_len, List.length_cons]; omega
      have e0 : (PySem.Str.ofString "").length = 0 := by decide +kernel
      have hl81 : ts.length ≤ 81 := by omega
      refine ⟨_, E, ts.map sg, rfl, rfl, .inl (SqL.of e8), by rw [sm, e0]; omega, ?_⟩
      rw [TL.join_eq, join_signs]
      have hrec8 := hrec.but p1 b8
      have b18 := b1.trans b8
      have ht := hts
      generalize ts = t at ht hl81 ⊢
      clear sm e8 hts
      have hsz : (word t).length ≤ sizeLine := by rw [word_len]; omega
      obtain ⟨a, b, e1, e2, e3⟩ := id hrec8
      refine ⟨by show 2 ≤ sizeLine; decide, fun T nT => ?_⟩
      have sT := Same.upd (o := .tup [V.int 0, .str (PySem.Str.ofString "again")]) nT
      refine ⟨T, _, rfl, SqT.of upd_same, rfl, _, _, rfl, _, _, rfl, rfl, ?_⟩
      change (_ : Hp → Prop) (upd H8 T (.tup [V.int 0, .str (PySem.Str.ofString "again")]))
      generalize upd H8 T (.tup [V.int 0, .str (PySem.Str.ofString "again")]) = H9 at sT ⊢
      have p9 := p8.same sT
      have b9 := b18.trans (But.of sT)
      have hrec9 := hrec8.same sT
      have R0 : ∃ R, R = runR m ds es t (t.length + 1) 0 := ⟨_, rfl⟩
      obtain ⟨R, hR⟩ := R0
      refine ⟨fun n σ H' => ∃ (k : Nat) (o : Option Bool) (v6 v7 v8 : Option V), σ = [some (V.ref p), some (V.ref r), some (V.int (m : Nat)), some (V.str (word t)), some (V.int (k : Nat)), some (say o (.str "again")), v6, v7, v8, none] ∧ Same H9 H' ∧ k ≤ t.length + 1 ∧ ((o = none ∧ n = t.length + 2 - k ∧ (m = 0 → k = 0) ∧ k ≤ t.length ∧ runR m ds es t (t.length + 1 - k) k = R) ∨ (o.isSome = true ∧ n = 0 ∧ R = (o, k))),
        ⟨t.length + 2, 0, none, _, _, _, rfl, fun _ _ z => z, Nat.zero_le _, .inl ⟨rfl, rfl, fun _ => rfl, Nat.zero_le _, hR.symm⟩⟩, ?_⟩
      rintro n σ H1 ⟨k, o, v6, v7, v8, rfl, s1, hk1, st⟩
      have no1 : ¬ (V.str "yes" : V) = V.str "again" := by intro h; exact absurd (V.str.inj h) (by decide +kernel)
      have no2 : ¬ (V.str "no" : V) = V.str "again" := by intro h; exact absurd (V.str.inj h) (by decide +kernel)
      have hrecN := hrec9.same s1
      rcases st with ⟨rfl, rfl, hk0, hkl, er⟩ | ⟨ho, rfl, eR⟩
      · have ek : ((k : Nat) : Int) + 1 = ((k + 1 : Nat) : Int) := rfl
        have em : ((k + 1 : Nat) : Int) * (m : Nat) = (((k + 1) * m : Nat) : Int) := by rw [Int.natCast_mul]
        have em2 : ((k : Nat) : Int) * (m : Nat) = ((k * m : Nat) : Int) := by rw [Int.natCast_mul]
        have em3 : ((k * m : Nat) : Int) + (m : Nat) = (((k + 1) * m : Nat) : Int) := by rw [Nat.succ_mul]; rfl
        refine ⟨_, rfl, rfl, _, rfl, ?_⟩
        rw [decide_eq_true (show say none (V.str (PySem.Str.ofString "again")) = V.str (PySem.Str.ofString "again") from rfl)]
        refine iteT ⟨_, rfl, _, _, rfl, rfl, _, rfl, _, _, rfl, rfl, .inl ⟨by omega, by omega⟩, _, rfl, word t, rfl, hsz, _, _, rfl, rfl, _, rfl, ?_⟩
        dsimp only
        rw [ek, em, word_len]
        by_cases lt : (k + 1) * m ≤ t.length
        · rw [decide_eq_true (show (((k + 1) * m : Nat) : Int) ≤ (t.length : Nat) by omega)]
          refine iteT ?_
          obtain ⟨n, en⟩ : ∃ n, t.length + 1 - k = n + 1 := ⟨t.length - k, by omega⟩
          rw [en] at er
          have hl : (piece m k t).length = m := piece_len lt
          have km : k * m ≤ 200000 := Nat.le_trans (Nat.mul_le_mul (show k ≤ 3000 by omega) (show m ≤ 40 by omega)) (by decide)
          have i12 := hrecN.ds hw (k := hd (piece m k t)) (by have := hd_le (piece m k t); omega)
          obtain ⟨a, b, e1, e2, e3, i1, i2⟩ := i12
          have hs2 : ∀ H' v6 v7 v8, Same H1 H' → ∃ (k' : Nat) (o : Option Bool) (v6' v7' v8' : Option V), [some (V.ref p), some (V.ref r), some (V.int (m : Nat)), some (V.str (word t)), some (V.int ((k + 1 : Nat) : Int)), some (say (cls ds es (piece m k t)) (.str "again")), v6, v7, v8, none] = [some (V.ref p), some (V.ref r), some (V.int (m : Nat)), some (V.str (word t)), some (V.int (k' : Nat)), some (say o (.str "again")), v6', v7', v8', none] ∧ Same H9 H' ∧ k' ≤ t.length + 1 ∧ ((o = none ∧ n + 1 = t.length + 2 - k' ∧ (m = 0 → k' = 0) ∧ k' ≤ t.length ∧ runR m ds es t (t.length + 1 - k') k' = R) ∨ (o.isSome = true ∧ R = (o, k'))) := by
            intro H' v6 v7 v8 s'
            refine ⟨k + 1, cls ds es (piece m k t), v6, v7, v8, rfl, s1.trans s', by omega, ?_⟩
            cases hc : cls ds es (piece m k t) with
            | none =>
              have hm0 : m ≠ 0 := by
                rintro rfl
                have e0 : piece 0 k t = [] := List.length_eq_zero_iff.mp hl
                rw [e0] at hc
                exact cls_zero hw hc
              have hk1 : k + 1 ≤ t.length := Nat.le_trans (Nat.le_mul_of_pos_right (k + 1) (by omega)) lt
              refine .inl ⟨rfl, by omega, fun z => absurd z hm0, hk1, ?_⟩
              rw [← er, runR_none lt hc, show t.length + 1 - (k + 1) = n by omega]
            | some b => exact .inr ⟨rfl, by rw [← er, runR_some lt hc]⟩
          refine ⟨fun σ H' => ∃ v6 v7 v8, σ = [some (V.ref p), some (V.ref r), some (V.int (m : Nat)), some (V.str (word t)), some (V.int ((k + 1 : Nat) : Int)), some (say (cls ds es (piece m k t)) (.str "again")), v6, v7, v8, none] ∧ Same H1 H', ?_, ?_⟩
          · rintro σ' H' ⟨v6, v7, v8, rfl, s'⟩
            obtain ⟨k', o, v6', v7', v8', e, sx, kx, ⟨h1, h2, h3, h4, h5⟩ | ⟨h1, h2⟩⟩ := hs2 H' v6 v7 v8 s'
            · exact ⟨n + 1, by omega, k', o, v6', v7', v8', e, sx, kx, .inl ⟨h1, h2, h3, h4, h5⟩⟩
            · exact ⟨0, by omega, k', o, v6', v7', v8', e, sx, kx, .inr ⟨h1, rfl, h2⟩⟩
          · refine ⟨_, rfl, ?_⟩
            dsimp only [tPart]
            refine ⟨_, rfl, _, rfl, _, _, rfl, rfl, .inl ⟨by omega, by omega⟩, _, rfl, _, rfl, _, rfl, _, _, rfl, rfl, .inl ⟨by omega, by omega⟩, _, rfl, _, _, rfl, rfl, _, rfl, word t, rfl, hsz, ?_⟩
            dsimp only
            rw [em2, em3, piece_cut lt]
            refine ⟨_, rfl, ⟨_, rfl⟩, _, _, rfl, rfl, ?_⟩
            rw [count_H]
            refine ⟨_, rfl, piece m k t, rfl, by omega, fun H2 s2 => ⟨_, _, rfl, ?_⟩⟩
            have a1 := s2 _ _ e1
            refine ⟨_, rfl, _, rfl, r, _, 1, .ref a, rfl, rfl, SqT.of a1, atI_nat (j := 1) rfl, _, rfl, a, _, _, .int (ds.getD (hd (piece m k t)) 0), rfl, rfl, SqT.of (s2 _ _ e2), i1, _, _, rfl, rfl, _, rfl, ?_⟩
            by_cases h1 : (rk (piece m k t) : Int) < ds.getD (hd (piece m k t)) 0
            · have hc : cls ds es (piece m k t) = some true := by unfold cls; rw [if_pos h1]
              rw [decide_eq_true h1]
              refine iteT ⟨_, rfl, _, _, rfl, rfl, some (.str (word (piece m k t))), some (.int (hd (piece m k t) : Nat)), some (.int (rk (piece m k t) : Nat)), ?_, s2⟩
              rw [hc]
              rfl
            · rw [decide_eq_false h1]
              refine iteF ⟨_, rfl, _, rfl, r, _, 2, .ref b, rfl, rfl, SqT.of a1, atI_nat (j := 2) rfl, _, rfl, b, _, _, .int (es.getD (hd (piece m k t)) 0), rfl, rfl, SqT.of (s2 _ _ e3), i2, _, _, rfl, rfl, _, rfl, ?_⟩
              by_cases h2 : (rk (piece m k t) : Int) < es.getD (hd (piece m k t)) 0
              · have hc : cls ds es (piece m k t) = some false := by unfold cls; rw [if_neg h1, if_pos h2]
                rw [decide_eq_true h2]
                refine iteT ⟨_, rfl, _, _, rfl, rfl, some (.str (word (piece m k t))), some (.int (hd (piece m k t) : Nat)), some (.int (rk (piece m k t) : Nat)), ?_, s2⟩
                rw [hc]
                rfl
              · have hc : cls ds es (piece m k t) = none := by unfold cls; rw [if_neg h1, if_neg h2]
                rw [decide_eq_false h2]
                refine iteF ⟨_, rfl, _, _, rfl, rfl, some (.str (word (piece m k t))), some (.int (hd (piece m k t) : Nat)), some (.int (rk (piece m k t) : Nat)), ?_, s2⟩
                rw [hc]
                rfl
        · rw [decide_eq_false (show ¬ (((k + 1) * m : Nat) : Int) ≤ (t.length : Nat) by omega)]
          refine iteF ⟨_, rfl, _, rfl, r, t, m, ds, es, rfl, hrecN, hw, by omega, by omega, fun y H2 s2 ny ey => ?_⟩
          refine ⟨_, rfl, rfl, _, rfl, ?_⟩
          rw [decide_eq_true (show say none (V.str (PySem.Str.ofString "again")) = V.str (PySem.Str.ofString "again") from rfl)]
          refine iteT ⟨_, rfl, by show 2 ≤ sizeLine; decide, fun z nz => ?_⟩
          have s3 := Same.upd (o := .tup [V.str (PySem.Str.ofString "going"), .int (k : Nat)]) nz
          rw [runR_end lt] at er
          refine ⟨_, _, dp_out (s3 _ _ ey), dp_out (x := R) (by rw [upd_same, ← er]; rfl), shaped_out _, shaped_out _, ?_⟩
          rw [← hR, eqv_out]
          have s13 := (s1.trans s2).trans s3
          exact q _ (b9.trans (But.of s13)) (p9.same s13)
      · refine ⟨_, rfl, by cases o with | none => cases ho | some b => cases b <;> rfl, _, rfl, ?_⟩
        rw [decide_eq_false (show ¬ say o (V.str (PySem.Str.ofString "again")) = V.str (PySem.Str.ofString "again") by cases o with | none => cases ho | some b => (cases b; exact no2; exact no1))]
        refine iteF (iteF ⟨_, rfl, _, rfl, r, t, m, ds, es, rfl, hrecN, hw, by omega, by omega, fun y H2 s2 ny ey => ?_⟩)
        refine ⟨_, rfl, by cases o with | none => cases ho | some b => cases b <;> rfl, _, rfl, ?_⟩
        rw [decide_eq_false (show ¬ say o (V.str (PySem.Str.ofString "again")) = V.str (PySem.Str.ofString "again") by cases o with | none => cases ho | some b => (cases b; exact no2; exact no1))]
        refine iteF ⟨_, rfl, _, rfl, by show 2 ≤ sizeLine; decide, fun z nz => ?_⟩
        have s3 := Same.upd (o := .tup [say o (V.str (PySem.Str.ofString "again")), .int (k : Nat)]) nz
        refine ⟨_, _, dp_out (s3 _ _ ey), dp_out (x := R) (by rw [upd_same, eR]; cases o with | none => cases ho | some b => cases b <;> rfl), shaped_out _, shaped_out _, ?_⟩
        rw [← hR, eqv_out]
        have s13 := (s1.trans s2).trans s3
        exact q _ (b9.trans (But.of s13)) (p9.same s13)
end
end Z

set_option Elab.async false
set_option linter.all false
set_option maxRecDepth 100000
set_option maxHeartbeats 4000000
/-! one parameter, by its name -/
namespace NM
open PySem PySem.Spec PyProof.Rows L2 GG
theorem named1 {K : PySem.W.Frag} {x qual : Str} {st : Stmt} {f : Addr} {fd : FuncData} {a : Str} (F : Fun K x qual st f fd)
    (h : ∀ (kV doc pm : Value) (an : Option Addr) (cd ct u : Value), bindArgs (PySem.W.fnOf x qual (defArgs st) (defBody st) (defScope st) .none kV doc pm an cd ct) ⟨[], [(a, u)]⟩ = pure [(a, u)]) :
    KBn K fd [a] 0 [a] (fun _ ws => ws) (fun _ zs => zs) := by
  obtain ⟨oc, od, kV, doc, pm, an, cd, ct, slots, rfl, found, code⟩ := F.ex
  refine ⟨fun s us ws _ l0 l2 => ?_, fun _ r => r⟩
  match us, ws, l0, l2 with
  | [], [u], _, _ => exact .of_eq (h kV doc pm an cd ct u)
end NM

set_option Elab.async false
set_option linter.all false
set_option maxRecDepth 100000
set_option maxHeartbeats 4000000
namespace Z
open PySem PySem.Spec PyProof.Rows L2 GG ZC
abbrev sLaw : Stmt := top 15
theorem piece_ext {m k : Nat} {t x : List Bool} (h : (k + 1) * m ≤ t.length) : piece m k (t ++ x) = piece m k t := by
  unfold piece
  rw [Nat.succ_mul] at h
  rw [List.drop_append_of_le_length (by omega), List.take_append_of_le_length (by rw [List.length_drop]; omega)]
theorem run_ext {m : Nat} {ds es : List Int} {t x : List Bool} {b : Bool} {j : Nat} : ∀ (n n' k : Nat), n ≤ n' → runR m ds es t n k = (some b, j) → runR m ds es (t ++ x) n' k = (some b, j)
  | 0, n', k, _, h => by cases h
  | n + 1, n', k, hn, h => by
    obtain ⟨n', rfl⟩ : ∃ z, n' = z + 1 := ⟨n' - 1, by omega⟩
    by_cases lt : (k + 1) * m ≤ t.length
    · have lt2 : (k + 1) * m ≤ (t ++ x).length := by rw [List.length_append]; omega
      have pe := piece_ext (x := x) lt
      cases hc : cls ds es (piece m k t) with
      | none =>
        rw [runR_none lt hc] at h
        rw [runR_none lt2 (by rw [pe]; exact hc)]
        exact run_ext n n' (k + 1) (by omega) h
      | some c =>
        rw [runR_some lt hc] at h
        rw [runR_some lt2 (by rw [pe]; exact hc)]
        exact h
    · rw [runR_end lt] at h
      cases h
theorem runR_le (m : Nat) (ds es : List Int) (t : List Bool) : ∀ n k : Nat, (runR m ds es t n k).2 ≤ k + n
  | 0, k => Nat.le_refl _
  | n + 1, k => by
    by_cases lt : (k + 1) * m ≤ t.length
    · cases hc : cls ds es (piece m k t) with
      | none =>
        rw [runR_none lt hc]
        have := runR_le m ds es t n (k + 1)
        omega
      | some c =>
        rw [runR_some lt hc]
        show k + 1 ≤ _
        omega
    · rw [runR_end lt]
      show k ≤ _
      omega
/-- one toss a round -/
theorem wr1 : WR 1 [0, 1] [0, 1] := ⟨rfl, rfl, fun k hk => by
  rcases (show k = 0 ∨ k = 1 by omega) with rfl | rfl <;> decide, 1, by decide, by decide⟩
theorem wr0 : WR 0 [1] [1] := ⟨rfl, rfl, fun k hk => by
  rw [show k = 0 by omega]
  decide, 0, by decide, by decide⟩
theorem wr0' : WR 0 [0] [1] := ⟨rfl, rfl, fun k hk => by
  rw [show k = 0 by omega]
  decide, 0, by decide, by decide⟩
theorem tails {n : Nat} (x : List Bool) (r : Option Bool × Nat) : ∀ (j f k : Nat), j + k = n → (f' : Nat) → f = f' + j → runR 1 [0, 1] [0, 1] (List.replicate n false ++ x) f' n = r → runR 1 [0, 1] [0, 1] (List.replicate n false ++ x) f k = r
  | 0, f, k, hk, f', hf, h => by
    rw [show k = n by omega, show f = f' by omega]
    exact h
  | j + 1, f, k, hk, f', hf, h => by
    obtain ⟨g, rfl⟩ : ∃ z, f = z + 1 := ⟨f - 1, by omega⟩
    have lt : (k + 1) * 1 ≤ (List.replicate n false ++ x).length := by rw [List.length_append, List.length_replicate]; omega
    have pe : piece 1 k (List.replicate n false ++ x) = [false] := by
      unfold piece
      rw [Nat.mul_one, List.drop_append_of_le_length (by rw [List.length_replicate]; omega), List.drop_replicate, show n - k = j + 1 by omega, List.replicate_succ]
      rfl
    rw [runR_none lt (by rw [pe]; decide)]
    exact tails x r j g (k + 1) (by omega) f' (by omega) h
theorem all_tails (n : Nat) : runR 1 [0, 1] [0, 1] (List.replicate n false) (n + 1) 0 = (none, n) := by
  have := tails (n := n) [] (none, n) n (n + 1) 0 (by omega) 1 (by omega) (by
    rw [runR_end]
    rw [List.append_nil, List.length_replicate]
    omega)
  rwa [List.append_nil] at this
theorem tails_head (n : Nat) : runR 1 [0, 1] [0, 1] (List.replicate n false ++ [true]) (n + 2) 0 = (some true, n + 1) := by
  refine tails (n := n) [true] (some true, n + 1) n (n + 2) 0 (by omega) 2 (by omega) ?_
  have pe : piece 1 n (List.replicate n false ++ [true]) = [true] := by
    unfold piece
    rw [Nat.mul_one]
    have : List.drop n (List.replicate n false ++ [true]) = [true] := by
      have := List.drop_left (l₁ := List.replicate n false) (l₂ := [true])
      rwa [List.length_replicate] at this
    rw [this]
    rfl
  exact runR_some (by rw [List.length_append, List.length_replicate]; show (n + 1) * 1 ≤ n + 1; omega) (by rw [pe]; decide)
theorem rec_disp {H : Hp} {t1 t2 t3 : Addr} {m : Nat} {ds es : List Int} (n1 : H t1 = none) (n2 : upd H t1 (.tup (ds.map V.int)) t2 = none) (n3 : upd (upd H t1 (.tup (ds.map V.int))) t2 (.tup (es.map V.int)) t3 = none) :
    Same H (upd (upd (upd H t1 (.tup (ds.map V.int))) t2 (.tup (es.map V.int))) t3 (.tup [.int (m : Nat), .ref t1, .ref t2])) ∧ Rec (upd (upd (upd H t1 (.tup (ds.map V.int))) t2 (.tup (es.map V.int))) t3 (.tup [.int (m : Nat), .ref t1, .ref t2])) t3 m ds es := by
  have s1 := Same.upd (o := .tup (ds.map V.int)) n1
  have s2 := Same.upd (o := .tup (es.map V.int)) n2
  have s3 := Same.upd (o := .tup [V.int (m : Nat), .ref t1, .ref t2]) n3
  exact ⟨(s1.trans s2).trans s3, t1, t2, upd_same, s3 _ _ (s2 _ _ upd_same), s3 _ _ upd_same⟩
section
variable {P : Program} {w : World} {K : PySem.W.Frag} {mg : Str → Option Value} {base : Heap}
structure NamesL (mg : Str → Option Value) : Prop extends NamesS mg where
  repr : mg "repr" = none
def spLaw (K : PySem.W.Frag) : Sp := fun vs H Q _ => ∃ (a : Addr) (ns : List Int), vs = [.ref a] ∧ SqL K H a (ns.map V.int) ∧ ns.length ≤ 63 ∧ ∀ H', Q (.bl true) H'
theorem scLaw : FnScope ["script", "pen", "turn", "some", "sequence", "expected", "length", "k"] ["script"] (defScope sLaw) := ⟨rfl, rfl, rfl, by decide +kernel, rfl, by decide +kernel, by decide +kernel⟩
theorem ok_law {f fP fD fC fE fR fL : Addr} {fd dP dD dC dE dR dL : FuncData} (F : Fun K "law" "law" sLaw f fd) (T : NamesL mg)
    (GP : FnOk P w K mg base CX0 1 fP dP ["script"] (spPen K)) (P1 : Def K mg "_law_pen" fP dP ["script"])
    (GD : FnOk P w K mg base CX0 2 fD dD ["pen", "many"] spDraw) (P2 : Def K mg "_law_draw" fD dD ["pen", "many"])
    (GC : FnOk P w K mg base CX0 3 fC dC ["pen", "most"] spRecipe) (P3 : Def K mg "_law_recipe" fC dC ["pen", "most"])
    (GE : FnOk P w K mg base CX0 2 fE dE ["some", "sequence"] spExp) (P4 : Def K mg "_law_expected" fE dE ["some", "sequence"])
    (GR : FnOk P w K mg base CX0 3 fR dR ["recipe", "tape"] spRunR) (P5 : Def K mg "run_recipe" fR dR ["recipe", "tape"]) (B5 : KBn K dR ["recipe", "tape"] 0 ["tape", "recipe"] (fun _ ws => turned ws) (fun _ zs => turned zs))
    (GL : FnOk P w K mg base CX0 4 fL dL ["pen"] spLong) (P6 : Def K mg "_law_long_case" fL dL ["pen"]) :
    FnG P w K mg base 6 f fd ["script"] (spLaw K) := by
  refine fnG_of F scLaw (fun vs H Q E h => ?_) (fun cdv A outer s H vs Q E hg hr h => ?_)
  · obtain ⟨a, ns, rfl, _⟩ := h
    rfl
  · obtain ⟨a, ns, rfl, hS, hlen, q⟩ := h
    have hu : A.units + 3 + 64 < cLine := hr.units
    have cr := call_repr (X := (cxOf CX0 P w K mg base ["script", "pen", "turn", "some", "sequence", "expected", "length", "k"] "law" (defScope sLaw) f cdv A outer s H E).nox) hg hr
    refine ⟨_, (pss_cons (ps_set (i := 1) scLaw.nd rfl (.inr rfl) (pe_call GP (hr.mono (by decide)) (by rfl) P1.is P1.kp P1.bi .nil pass0 (pa_cons (pv 0) pa_nil)))
      (pss_cons (ps_for PassesOwn.never rfl (pi_range1 rfl T.range (pa_cons pe_int pa_nil)) (pg_name (i := 2) scLaw.nd rfl (.inl rfl)) (pss_cons (ps_set (i := 3) scLaw.nd rfl (.inl rfl) (pe_call GC (hr.mono (by decide)) (by rfl) P3.is P3.kp P3.bi .nil pass0 (pa_cons (pv 1) (pa_cons pe_int pa_nil))))
      (pss_cons (ps_set (i := 4) scLaw.nd rfl (.inl rfl) (pe_join pe_str (pe_lc (own := [("k", 7)]) (g := gName 7) (tt := tYes) rfl scLaw.nd (pi_range1 rfl T.range (pa_cons (pe_call GD (hr.mono (by decide)) (by rfl) P2.is P2.kp P2.bi .nil pass0 (pa_cons (pv 1) (pa_cons pe_int pa_nil))) pa_nil)) (blkOk_by (N := ["script", "pen", "turn", "some", "sequence", "expected", "length", "k"]) (sc := defScope sLaw) (own := [("k", 7)]) (by decide +kernel)) (fun _ _ _ _ _ => (pg_name (i := 7) scLaw.nd rfl (.inl rfl))) (fun _ _ _ _ _ => pts_nil) (fun _ _ _ _ _ => (pe_ix ix_str pe_str (pe_call GD (hr.mono (by decide)) (by rfl) P2.is P2.kp P2.bi .nil pass0 (pa_cons (pv 1) (pa_cons pe_int pa_nil))) (fun _ _ => rfl))))))
      (pss_cons (ps_set (i := 5) scLaw.nd rfl (.inl rfl) (pe_call GE (hr.mono (by decide)) (by rfl) P4.is P4.kp P4.bi .nil pass0 (pa_cons (pv 3) (pa_cons (pv 4) pa_nil))))
      (pss_cons (ps_if (PW.pt (pw_or (pt_cmpR op_ne (pe_callB cr (by rfl) T.repr (by decide +kernel) (pa_cons (pe_call GR (hr.mono (by decide)) (by rfl) P5.is P5.kp P5.bi .nil pass0 (pa_cons (pv 3) (pa_cons (pv 4) pa_nil))) pa_nil)) (pe_callB cr (by rfl) T.repr (by decide +kernel) (pa_cons (pv 5) pa_nil)) (nomark _)) (pw_or1 (pt_cmpR (op_neD hu) (pe_named GR (hr.mono (by decide)) (by rfl) P5.is P5.kp B5 pass0 (pk_cons (pv 4) (pk_cons (pv 3) pk_nil))) (pv 5) (nomark _))))) (pss_one (ps_ret pe_bl)) pss_nil)
      (pss_one (ps_if (PW.pt (pw_and (pt_cmpR op_ne (pe_ix ix_tup (pv 5) pe_int (fun _ _ => rfl)) pe_str (nomark _)) (pw_and1 (pt_cmpR (op_neD hu) (pe_call GR (hr.mono (by decide)) (by rfl) P5.is P5.kp P5.bi .nil pass0 (pa_cons (pv 3) (pa_cons (pe_op op_add_str (pv 4) pe_str) pa_nil))) (pv 5) (nomark _))))) (pss_one (ps_ret pe_bl)) pss_nil)))))))
      (pss_cons (ps_if (pt_not (pt_val (pe_call GL (hr.mono (by decide)) (by rfl) P6.is P6.kp P6.bi .nil pass0 (pa_cons (pv 1) pa_nil)))) (pss_one (ps_ret pe_bl)) pss_nil)
      (pss_cons (ps_set (i := 6) scLaw.nd rfl (.inl rfl) (pe_call GD (hr.mono (by decide)) (by rfl) P2.is P2.kp P2.bi .nil pass0 (pa_cons (pv 1) (pa_cons pe_int pa_nil))))
      (pss_cons (ps_if (pt_cmpR (op_neD hu) (pe_call GR (hr.mono (by decide)) (by rfl) P5.is P5.kp P5.bi .nil pass0 (pa_cons (pe_tup (pa_cons pe_int (pa_cons (pe_tup (pa_cons pe_int (pa_cons pe_int pa_nil))) (pa_cons (pe_tup (pa_cons pe_int (pa_cons pe_int pa_nil))) pa_nil)))) (pa_cons (pe_op op_add_str (pe_op STR.op_repS pe_str (pv 6)) pe_str) pa_nil))) (pe_tup (pa_cons pe_str (pa_cons (pe_op op_add (pv 6) pe_int) pa_nil))) (nomark _)) (pss_one (ps_ret pe_bl)) pss_nil)
      (pss_cons (ps_if (pt_cmpR (op_neD hu) (pe_call GR (hr.mono (by decide)) (by rfl) P5.is P5.kp P5.bi .nil pass0 (pa_cons (pe_tup (pa_cons pe_int (pa_cons (pe_tup (pa_cons pe_int (pa_cons pe_int pa_nil))) (pa_cons (pe_tup (pa_cons pe_int (pa_cons pe_int pa_nil))) pa_nil)))) (pa_cons (pe_op STR.op_repS pe_str (pv 6)) pa_nil))) (pe_tup (pa_cons pe_str (pa_cons (pv 6) pa_nil))) (nomark _)) (pss_one (ps_ret pe_bl)) pss_nil)
      (pss_one (ps_ret (pe_and (pe_cmpR (op_eqD hu) (pe_call GR (hr.mono (by decide)) (by rfl) P5.is P5.kp P5.bi .nil pass0 (pa_cons (pe_tup (pa_cons pe_int (pa_cons (pe_tup (pa_cons pe_int pa_nil)) (pa_cons (pe_tup (pa_cons pe_int pa_nil)) pa_nil)))) (pa_cons pe_str pa_nil))) (pe_tup (pa_cons pe_str (pa_cons pe_int pa_nil))) (nomark _)) (pe_one (pe_cmpR (op_eqD hu) (pe_call GR (hr.mono (by decide)) (by rfl) P5.is P5.kp P5.bi .nil pass0 (pa_cons (pe_tup (pa_cons pe_int (pa_cons (pe_tup (pa_cons pe_int pa_nil)) (pa_cons (pe_tup (pa_cons pe_int pa_nil)) pa_nil)))) (pa_cons pe_str pa_nil))) (pe_tup (pa_cons pe_str (pa_cons pe_int pa_nil))) (nomark _)))))))))))), ?_⟩
    have line : sizeLine = 16777216 := by decide
    refine ⟨.ref a, rfl, a, ns, rfl, hS, hlen, fun p l H1 s1 np nl p1 => ?_⟩
    refine ⟨4, rfl, by decide, by decide, for_range (lo := 0) (n := 4) (fun i σ H' => ∃ v2 v3 v4 v5 : Option V, σ = [some (V.ref a), some (V.ref p), v2, v3, v4, v5, none, none] ∧ Pen H' p l) ⟨_, _, _, _, rfl, p1⟩ ?_ ?_⟩
    · rintro i σ H2 hi ⟨v2, v3, v4, v5, rfl, p2⟩
      refine ⟨.ref p, rfl, p, l, 6, rfl, p2, by omega, fun r m ds es H3 b3 p3 hm hw nr hrec => ?_⟩
      refine ⟨⟨_, rfl⟩, .ref p, rfl, p, l, 31, rfl, p3, by decide, by decide +kernel, fun d H7 d0 d1 b7 p7 => ⟨_, rfl, by omega, by omega, fun E nE => ?_⟩⟩
      have aE := p7.apart nE
      have hrec7 := hrec.but p3 b7
      refine lc_range (lo := 0) (n := d.toNat) (fun k H' => ∃ ts : List Bool, H' E = some (.lst ((ts.map sg).map V.str)) ∧ ts.length = k ∧ But p H7 H' ∧ Pen H' p l) ⟨[], upd_same, rfl, But.of (Same.upd nE), p7.same (Same.upd nE)⟩ ?_ ?_
      · rintro k H8 hk ⟨ts, e8, hts, b8, p8⟩
        refine ⟨rfl, ?_⟩
        dsimp only [tYes]
        refine iteT ⟨.ref p, rfl, p, l, 2, rfl, p8, by decide, by decide +kernel, fun u H9 u0 u1 b9 p9 => ?_⟩
        obtain ⟨c, bt, hc, ec⟩ : ∃ (c : Nat) (bt : Bool), atI (PySem.Str.ofString "HT").cps.toList u = some c ∧ (⟨#[c]⟩ : Str) = sg bt := by
          have e : (PySem.Str.ofString "HT").cps.toList = [72, 84] := by decide +kernel
          rw [e]
          rcases (show u = 0 ∨ u = 1 by omega) with rfl | rfl
          · exact ⟨72, true, rfl, by decide +kernel⟩
          · exact ⟨84, false, rfl, by decide +kernel⟩
        refine ⟨_, _, c, rfl, rfl, by decide +kernel, hc, _, b9.mem aE.1 e8, by rw [List.length_map, List.length_map]; omega, ts ++ [bt], ?_, by simp [hts], ?_, ?_⟩
        · rw [upd_same, List.map_append, List.map_append, ec]
          rfl
        · intro b o e n
          rw [upd_ne (ne_of_none e nE)]
          exact b9 _ _ (b8 _ _ e n) n
        · obtain ⟨cs, pos, val, h1, h2, h3⟩ := p9
          exact ⟨cs, pos, val, by rw [upd_ne aE.1.symm]; exact h1, by rw [upd_ne aE.2.symm]; exact h2, h3⟩
      · rintro H8 ⟨ts, e8, hts, b8, p8⟩
        have sm : ((ts.map sg).map fun x => x.length).sum = ts.length := by
          clear e8 hts
          induction ts with
          | nil => rfl
          | cons b r ih => rw [List.map_cons, List.map_cons, List.sum_cons, ih, sg_len, List.length_cons]; omega
        have e0 : (PySem.Str.ofString "").length = 0 := by decide +kernel
        have hl30 : ts.length ≤ 30 := by omega
        refine ⟨_, E, ts.map sg, rfl, rfl, .inl (SqL.of e8), by rw [sm, e0]; omega, ?_⟩
        rw [TL.join_eq, join_signs]
        have hrec8 := hrec7.but p7 b8
        clear sm e8 hts
        generalize ts = t at hl30 ⊢
        refine ⟨.ref r, rfl, _, rfl, r, t, m, ds, es, rfl, hrec8, hw, by omega, by omega, fun x H9 s9 nx ex => ?_⟩
        have hrec9 := hrec8.same s9
        refine ⟨.ref r, rfl, _, rfl, r, t, m, ds, es, rfl, hrec9, hw, by omega, by omega, fun y H10 s10 ny ey => ?_⟩
        obtain ⟨R, hR⟩ : ∃ R, R = runR m ds es t (t.length + 1) 0 := ⟨_, rfl⟩
        rw [← hR] at ex ey
        have ex10 := s10 _ _ ex
        have fit : R.2 < 2 ^ 40 := by
          rw [hR]
          have := runR_le m ds es t (t.length + 1) 0
          omega
        have sh : Shows (.tuple (outD R)) 50 8000 := SH.shows_tup (short_out R fit) (by show 2 ≤ 7; decide)
        refine ⟨y, _, rfl, dp_out ey, sh, _, rfl, x, _, rfl, dp_out ex10, sh, rfl, _, rfl, iteNS rfl ?_⟩
        have hrec10 := hrec9.same s10
        refine ⟨_, rfl, _, rfl, rfl, r, t, m, ds, es, rfl, hrec10, hw, by omega, by omega, fun z H11 s11 nz ez => ?_⟩
        rw [← hR] at ez
        have ex11 := s11 _ _ ex10
        refine ⟨_, rfl, _, _, dp_out ez, dp_out ex11, shaped_out _, shaped_out _, _, rfl, ?_⟩
        rw [eqv_out]
        refine iteF ?_
        have hrec11 := hrec10.same s11
        have p11 := ((p8.same s9).same s10).same s11
        obtain ⟨o, j⟩ := R
        refine ⟨_, rfl, x, _, 0, say o (.str "going"), rfl, rfl, SqT.of ex11, atI_nat (j := 0) rfl, ?_⟩
        cases o with
        | none =>
          refine ⟨rfl, _, rfl, ?_⟩
          rw [decide_eq_true (show say none (V.str (PySem.Str.ofString "going")) = V.str (PySem.Str.ofString "going") from rfl)]
          exact iteF (iteF ⟨_, _, _, _, rfl, p11⟩)
        | some b =>
          refine ⟨by cases b <;> rfl, _, rfl, ?_⟩
          rw [decide_eq_false (show ¬ say (some b) (V.str (PySem.Str.ofString "going")) = V.str (PySem.Str.ofString "going") by cases b <;> (intro h; exact absurd (V.str.inj h) (by decide +kernel)))]
          have eH : PySem.Str.ofString "HTH" = word [true, false, true] := str_ext (by rw [word_list]; decide +kernel)
          refine iteT ⟨_, rfl, _, rfl, _, _, rfl, rfl, by rw [word_len, show (PySem.Str.ofString "HTH").length = 3 by decide +kernel]; omega, ?_⟩
          rw [eH, word_app]
          refine ⟨r, _, m, ds, es, rfl, hrec11, hw, by rw [List.length_append]; show _ + 3 ≤ _; omega, by omega, fun z2 H12 s12 nz2 ez2 => ?_⟩
          rw [run_ext _ _ 0 (by rw [List.length_append]; omega) hR.symm] at ez2
          refine ⟨_, rfl, _, _, dp_out ez2, dp_out (s12 _ _ ex11), shaped_out _, shaped_out _, _, rfl, ?_⟩
          rw [eqv_out]
          exact iteF ⟨_, _, _, _, rfl, p11.same s12⟩
    · rintro σ H2 ⟨v2, v3, v4, v5, rfl, p2⟩
      refine ⟨.ref p, rfl, p, l, rfl, p2, fun H3 b3 p3 => ?_⟩
      refine ⟨_, rfl, iteF ?_⟩
      refine ⟨.ref p, rfl, p, l, 2001, rfl, p3, by decide, by decide +kernel, fun d H4 d0 d1 b4 p4 => ?_⟩
      obtain ⟨n, rfl⟩ : ∃ n : Nat, d = (n : Int) := ⟨d.toNat, by omega⟩
      have eT : PySem.Str.ofString "T" = sg false := rfl
      have zT : (PySem.Str.ofString "T").length = 1 := by decide +kernel
      -- the tails, then a head
      refine ⟨by show 2 ≤ sizeLine; decide, fun t1 n1 => ⟨by show 2 ≤ sizeLine; decide, fun t2 n2 => ⟨by show 3 ≤ sizeLine; decide, fun t3 n3 => ?_⟩⟩⟩
      have c5 : Same H4 (upd (upd (upd H4 t1 (.tup [V.int 0, V.int 1])) t2 (.tup [V.int 0, V.int 1])) t3 (.tup [V.int 1, .ref t1, .ref t2])) ∧ Rec (upd (upd (upd H4 t1 (.tup [V.int 0, V.int 1])) t2 (.tup [V.int 0, V.int 1])) t3 (.tup [V.int 1, .ref t1, .ref t2])) t3 1 [0, 1] [0, 1] := rec_disp (m := 1) (ds := [0, 1]) (es := [0, 1]) n1 n2 n3
      generalize upd (upd (upd H4 t1 (.tup [V.int 0, V.int 1])) t2 (.tup [V.int 0, V.int 1])) t3 (.tup [V.int 1, .ref t1, .ref t2]) = H5 at c5 ⊢
      obtain ⟨s5, r5⟩ := c5
      refine ⟨_, rfl, _, n, rfl, rfl, by omega, by rw [zT]; omega, fun z hz => ?_⟩
      have ez := rep_word eT hz
      subst ez
      refine ⟨_, _, rfl, rfl, by rw [word_len, List.length_replicate, show (PySem.Str.ofString "H").length = 1 by decide +kernel]; omega, ?_⟩
      refine ⟨t3, List.replicate n false ++ [true], 1, [0, 1], [0, 1], by show [V.ref t3, V.str (word (List.replicate n false) ++ sg true)] = _; rw [word_snoc], r5, wr1, by rw [List.length_append, List.length_replicate]; show n + 1 ≤ 3000; omega, by decide, fun y H6 s6 ny ey => ?_⟩
      rw [show (List.replicate n false ++ [true]).length + 1 = n + 2 by rw [List.length_append, List.length_replicate]; rfl, tails_head] at ey
      refine ⟨_, rfl, _, _, rfl, rfl, by show 2 ≤ sizeLine; decide, fun u nu => ?_⟩
      have su := Same.upd (o := .tup [V.str (PySem.Str.ofString "yes"), .int ((n : Int) + 1)]) nu
      refine ⟨_, _, dp_out (su _ _ ey), dp_out (x := (some true, n + 1)) (by rw [upd_same]; rfl), shaped_out _, shaped_out _, _, rfl, ?_⟩
      rw [eqv_out]
      refine iteF ?_
      generalize upd H6 u (.tup [V.str (PySem.Str.ofString "yes"), .int ((n : Int) + 1)]) = H7
      -- the tails alone
      refine ⟨by show 2 ≤ sizeLine; decide, fun t1 n1 => ⟨by show 2 ≤ sizeLine; decide, fun t2 n2 => ⟨by show 3 ≤ sizeLine; decide, fun t3 n3 => ?_⟩⟩⟩
      have c8 : Same H7 (upd (upd (upd H7 t1 (.tup [V.int 0, V.int 1])) t2 (.tup [V.int 0, V.int 1])) t3 (.tup [V.int 1, .ref t1, .ref t2])) ∧ Rec (upd (upd (upd H7 t1 (.tup [V.int 0, V.int 1])) t2 (.tup [V.int 0, V.int 1])) t3 (.tup [V.int 1, .ref t1, .ref t2])) t3 1 [0, 1] [0, 1] := rec_disp (m := 1) (ds := [0, 1]) (es := [0, 1]) n1 n2 n3
      generalize upd (upd (upd H7 t1 (.tup [V.int 0, V.int 1])) t2 (.tup [V.int 0, V.int 1])) t3 (.tup [V.int 1, .ref t1, .ref t2]) = H8 at c8 ⊢
      obtain ⟨s8, r8⟩ := c8
      refine ⟨_, rfl, _, n, rfl, rfl, by omega, by rw [zT]; omega, fun z hz => ?_⟩
      have ez := rep_word eT hz
      subst ez
      refine ⟨t3, _, 1, [0, 1], [0, 1], rfl, r8, wr1, by rw [List.length_replicate]; omega, by decide, fun y H9 s9 ny ey => ?_⟩
      rw [List.length_replicate, all_tails] at ey
      refine ⟨_, rfl, by show 2 ≤ sizeLine; decide, fun u nu => ?_⟩
      have su := Same.upd (o := .tup [V.str (PySem.Str.ofString "going"), .int (n : Int)]) nu
      refine ⟨_, _, dp_out (su _ _ ey), dp_out (x := (none, n)) (by rw [upd_same]; rfl), shaped_out _, shaped_out _, _, rfl, ?_⟩
      rw [eqv_out]
      refine iteF ?_
      generalize upd H9 u (.tup [V.str (PySem.Str.ofString "going"), .int (n : Int)]) = H10
      -- no toss
      refine ⟨by show 1 ≤ sizeLine; decide, fun t1 n1 => ⟨by show 1 ≤ sizeLine; decide, fun t2 n2 => ⟨by show 3 ≤ sizeLine; decide, fun t3 n3 => ?_⟩⟩⟩
      have c11 : Same H10 (upd (upd (upd H10 t1 (.tup [V.int 1])) t2 (.tup [V.int 1])) t3 (.tup [V.int 0, .ref t1, .ref t2])) ∧ Rec (upd (upd (upd H10 t1 (.tup [V.int 1])) t2 (.tup [V.int 1])) t3 (.tup [V.int 0, .ref t1, .ref t2])) t3 0 [1] [1] := rec_disp (m := 0) (ds := [1]) (es := [1]) n1 n2 n3
      generalize upd (upd (upd H10 t1 (.tup [V.int 1])) t2 (.tup [V.int 1])) t3 (.tup [V.int 0, .ref t1, .ref t2]) = H11 at c11 ⊢
      obtain ⟨s11, r11⟩ := c11
      have eE : PySem.Str.ofString "" = word [] := str_ext (by rw [word_list]; decide +kernel)
      rw [eE]
      refine ⟨t3, [], 0, [1], [1], rfl, r11, wr0, by decide, by decide, fun y H12 s12 ny ey => ?_⟩
      refine ⟨by show 2 ≤ sizeLine; decide, fun u nu => ?_⟩
      have su := Same.upd (o := .tup [V.str (PySem.Str.ofString "yes"), .int 1]) nu
      refine ⟨_, _, dp_out (x := (some true, 1)) (su _ _ ey), dp_out (x := (some true, 1)) (by rw [upd_same]; rfl), shaped_out _, shaped_out _, ?_⟩
      rw [eqv_out]
      generalize upd H12 u (.tup [V.str (PySem.Str.ofString "yes"), .int 1]) = H13
      refine ⟨true, rfl, iteT ?_⟩
      refine ⟨by show 1 ≤ sizeLine; decide, fun t1 n1 => ⟨by show 1 ≤ sizeLine; decide, fun t2 n2 => ⟨by show 3 ≤ sizeLine; decide, fun t3 n3 => ?_⟩⟩⟩
      have c14 : Same H13 (upd (upd (upd H13 t1 (.tup [V.int 0])) t2 (.tup [V.int 1])) t3 (.tup [V.int 0, .ref t1, .ref t2])) ∧ Rec (upd (upd (upd H13 t1 (.tup [V.int 0])) t2 (.tup [V.int 1])) t3 (.tup [V.int 0, .ref t1, .ref t2])) t3 0 [0] [1] := rec_disp (m := 0) (ds := [0]) (es := [1]) n1 n2 n3
      generalize upd (upd (upd H13 t1 (.tup [V.int 0])) t2 (.tup [V.int 1])) t3 (.tup [V.int 0, .ref t1, .ref t2]) = H14 at c14 ⊢
      obtain ⟨s14, r14⟩ := c14
      refine ⟨t3, [true], 0, [0], [1], by show [V.ref t3, V.str (sg true)] = _; rw [word_one], r14, wr0', by decide, by decide, fun y H15 s15 ny ey => ?_⟩
      refine ⟨by show 2 ≤ sizeLine; decide, fun u nu => ?_⟩
      have su := Same.upd (o := .tup [V.str (PySem.Str.ofString "no"), .int 1]) nu
      refine ⟨_, _, dp_out (x := (some false, 1)) (su _ _ ey), dp_out (x := (some false, 1)) (by rw [upd_same]; rfl), shaped_out _, shaped_out _, ?_⟩
      rw [eqv_out]
      exact q _
end
theorem all_mk {w : World} {K : PySem.W.Frag} {h : Heap} {mg : Str → Option Value} {fa f0 f1 f2 f3 f4 f5 f6 f7 f8 f9 f10 f11 f12 : Addr} (X : K.In h) (G : h.Ns mainGlobals mg) (hfa : mg "law" = some (.ref fa))
    {od0 an0 od1 an1 od2 an2 od3 an3 od4 an4 od5 an5 od6 an6 od7 an7 od8 an8 od9 an9 od10 an10 od11 an11 od12 an12 : Option Addr} {sl0 sl1 sl2 sl3 sl4 sl5 sl6 sl7 sl8 sl9 sl10 sl11 sl12 : Array (Option Value)} {oc0 kV0 dc0 pm0 cd0 ct0 oc1 kV1 dc1 pm1 cd1 ct1 oc2 kV2 dc2 pm2 cd2 ct2 oc3 kV3 dc3 pm3 cd3 ct3 oc4 kV4 dc4 pm4 cd4 ct4 oc5 kV5 dc5 pm5 cd5 ct5 oc6 kV6 dc6 pm6 cd6 ct6 oc7 kV7 dc7 pm7 cd7 ct7 oc8 kV8 dc8 pm8 cd8 ct8 oc9 kV9 dc9 pm9 cd9 ct9 oc10 kV10 dc10 pm10 cd10 ct10 oc11 kV11 dc11 pm11 cd11 ct11 oc12 kV12 dc12 pm12 cd12 ct12 : Value}
    (a0 : PySem.W.nsIn K mainGlobals "_law_pen" = some (some (.ref f0))) (l0 : K.lookup f0 = some ⟨oc0, od0, .func (PySem.W.fnOf "_law_pen" "_law_pen" (defArgs sPen) (defBody sPen) (defScope sPen) .none kV0 dc0 pm0 an0 cd0 ct0), sl0⟩) (c0 : PySem.W.codeIn K cd0 "_law_pen" = true) (k0 : PySem.W.keepIn K (.ref f0) = true)
    (a1 : PySem.W.nsIn K mainGlobals "_law_fresh" = some (some (.ref f1))) (l1 : K.lookup f1 = some ⟨oc1, od1, .func (PySem.W.fnOf "_law_fresh" "_law_fresh" (defArgs sFresh) (defBody sFresh) (defScope sFresh) .none kV1 dc1 pm1 an1 cd1 ct1), sl1⟩) (c1 : PySem.W.codeIn K cd1 "_law_fresh" = true) (k1 : PySem.W.keepIn K (.ref f1) = true)
    (a2 : PySem.W.nsIn K mainGlobals "_law_draw" = some (some (.ref f2))) (l2 : K.lookup f2 = some ⟨oc2, od2, .func (PySem.W.fnOf "_law_draw" "_law_draw" (defArgs sDraw) (defBody sDraw) (defScope sDraw) .none kV2 dc2 pm2 an2 cd2 ct2), sl2⟩) (c2 : PySem.W.codeIn K cd2 "_law_draw" = true) (k2 : PySem.W.keepIn K (.ref f2) = true)
    (a3 : PySem.W.nsIn K mainGlobals "_law_binomials" = some (some (.ref f3))) (l3 : K.lookup f3 = some ⟨oc3, od3, .func (PySem.W.fnOf "_law_binomials" "_law_binomials" (defArgs sBin) (defBody sBin) (defScope sBin) .none kV3 dc3 pm3 an3 cd3 ct3), sl3⟩) (c3 : PySem.W.codeIn K cd3 "_law_binomials" = true) (k3 : PySem.W.keepIn K (.ref f3) = true)
    (a4 : PySem.W.nsIn K mainGlobals "_law_recipe" = some (some (.ref f4))) (l4 : K.lookup f4 = some ⟨oc4, od4, .func (PySem.W.fnOf "_law_recipe" "_law_recipe" (defArgs sRecipe) (defBody sRecipe) (defScope sRecipe) .none kV4 dc4 pm4 an4 cd4 ct4), sl4⟩) (c4 : PySem.W.codeIn K cd4 "_law_recipe" = true) (k4 : PySem.W.keepIn K (.ref f4) = true)
    (a5 : PySem.W.nsIn K mainGlobals "_law_tape_rank" = some (some (.ref f5))) (l5 : K.lookup f5 = some ⟨oc5, od5, .func (PySem.W.fnOf "_law_tape_rank" "_law_tape_rank" (defArgs sTr) (defBody sTr) (defScope sTr) .none kV5 dc5 pm5 an5 cd5 ct5), sl5⟩) (c5 : PySem.W.codeIn K cd5 "_law_tape_rank" = true) (k5 : PySem.W.keepIn K (.ref f5) = true)
    (a6 : PySem.W.nsIn K mainGlobals "rank_in_row" = some (some (.ref f6))) (l6 : K.lookup f6 = some ⟨oc6, od6, .func (PySem.W.fnOf "rank_in_row" "rank_in_row" (defArgs sRank) (defBody sRank) (defScope sRank) .none kV6 dc6 pm6 an6 cd6 ct6), sl6⟩) (c6 : PySem.W.codeIn K cd6 "rank_in_row" = true) (k6 : PySem.W.keepIn K (.ref f6) = true)
    (a7 : PySem.W.nsIn K mainGlobals "decide_row" = some (some (.ref f7))) (l7 : K.lookup f7 = some ⟨oc7, od7, .func (PySem.W.fnOf "decide_row" "decide_row" (defArgs sDec) (defBody sDec) (defScope sDec) .none kV7 dc7 pm7 an7 cd7 ct7), sl7⟩) (c7 : PySem.W.codeIn K cd7 "decide_row" = true) (k7 : PySem.W.keepIn K (.ref f7) = true)
    (a8 : PySem.W.nsIn K mainGlobals "run_recipe" = some (some (.ref f8))) (l8 : K.lookup f8 = some ⟨oc8, od8, .func (PySem.W.fnOf "run_recipe" "run_recipe" (defArgs sRunR) (defBody sRunR) (defScope sRunR) .none kV8 dc8 pm8 an8 cd8 ct8), sl8⟩) (c8 : PySem.W.codeIn K cd8 "run_recipe" = true) (k8 : PySem.W.keepIn K (.ref f8) = true)
    (a9 : PySem.W.nsIn K mainGlobals "_law_classify" = some (some (.ref f9))) (l9 : K.lookup f9 = some ⟨oc9, od9, .func (PySem.W.fnOf "_law_classify" "_law_classify" (defArgs sCls) (defBody sCls) (defScope sCls) .none kV9 dc9 pm9 an9 cd9 ct9), sl9⟩) (c9 : PySem.W.codeIn K cd9 "_law_classify" = true) (k9 : PySem.W.keepIn K (.ref f9) = true)
    (a10 : PySem.W.nsIn K mainGlobals "_law_expected" = some (some (.ref f10))) (l10 : K.lookup f10 = some ⟨oc10, od10, .func (PySem.W.fnOf "_law_expected" "_law_expected" (defArgs sExp) (defBody sExp) (defScope sExp) .none kV10 dc10 pm10 an10 cd10 ct10), sl10⟩) (c10 : PySem.W.codeIn K cd10 "_law_expected" = true) (k10 : PySem.W.keepIn K (.ref f10) = true)
    (a11 : PySem.W.nsIn K mainGlobals "_law_long_case" = some (some (.ref f11))) (l11 : K.lookup f11 = some ⟨oc11, od11, .func (PySem.W.fnOf "_law_long_case" "_law_long_case" (defArgs sLong) (defBody sLong) (defScope sLong) .none kV11 dc11 pm11 an11 cd11 ct11), sl11⟩) (c11 : PySem.W.codeIn K cd11 "_law_long_case" = true) (k11 : PySem.W.keepIn K (.ref f11) = true)
    (a12 : PySem.W.nsIn K mainGlobals "law" = some (some (.ref f12))) (l12 : K.lookup f12 = some ⟨oc12, od12, .func (PySem.W.fnOf "law" "law" (defArgs sLaw) (defBody sLaw) (defScope sLaw) .none kV12 dc12 pm12 an12 cd12 ct12), sl12⟩) (c12 : PySem.W.codeIn K cd12 "law" = true) (k12 : PySem.W.keepIn K (.ref f12) = true)
    (z_list : PySem.W.nsIn K mainGlobals "list" = some none)
    (z_tuple : PySem.W.nsIn K mainGlobals "tuple" = some none)
    (z_len : PySem.W.nsIn K mainGlobals "len" = some none)
    (z_range : PySem.W.nsIn K mainGlobals "range" = some none)
    (z_zip : PySem.W.nsIn K mainGlobals "zip" = some none)
    (z_enumerate : PySem.W.nsIn K mainGlobals "enumerate" = some none)
    (z_int : PySem.W.nsIn K mainGlobals "int" = some none)
    (z_sum : PySem.W.nsIn K mainGlobals "sum" = some none)
    (z_repr : PySem.W.nsIn K mainGlobals "repr" = some none)
    (x_comb : PySem.W.nsIn K mainGlobals "comb" = some (some (.builtin "math.comb")))
    : ∃ fd : FuncData, (∀ (s : Shared) (v : Value), BindsTo s fd ⟨[v], []⟩ [("script", v)]) ∧ ∀ base : Heap, K.In base → base.Ns mainGlobals mg → FnG (PySem.Challenge.rw_bentcoin_k45_recipes_run).prog w K mg base 6 fa fd ["script"] (spLaw K) := by
  have e := hfa.symm.trans (PySem.W.mg_of X G a12)
  cases e
  have F0 := fun_mk (st := sPen) l0 c0 k0
  have b0 := F0.binds (ps := ["script"]) fun _ _ _ _ _ _ us hl => match us, hl with | [_], _ => rfl
  have F1 := fun_mk (st := sFresh) l1 c1 k1
  have b1 := F1.binds (ps := ["pen"]) fun _ _ _ _ _ _ us hl => match us, hl with | [_], _ => rfl
  have F2 := fun_mk (st := sDraw) l2 c2 k2
  have b2 := F2.binds (ps := ["pen", "many"]) fun _ _ _ _ _ _ us hl => match us, hl with | [_, _], _ => rfl
  have F3 := fun_mk (st := sBin) l3 c3 k3
  have b3 := F3.binds (ps := ["many"]) fun _ _ _ _ _ _ us hl => match us, hl with | [_], _ => rfl
  have F4 := fun_mk (st := sRecipe) l4 c4 k4
  have b4 := F4.binds (ps := ["pen", "most"]) fun _ _ _ _ _ _ us hl => match us, hl with | [_, _], _ => rfl
  have F5 := fun_mk (st := sTr) l5 c5 k5
  have b5 := F5.binds (ps := ["sequence"]) fun _ _ _ _ _ _ us hl => match us, hl with | [_], _ => rfl
  have F6 := fun_mk (st := sRank) l6 c6 k6
  have b6 := F6.binds (ps := ["tape"]) fun _ _ _ _ _ _ us hl => match us, hl with | [_], _ => rfl
  have F7 := fun_mk (st := sDec) l7 c7 k7
  have b7 := F7.binds (ps := ["recipe", "row"]) fun _ _ _ _ _ _ us hl => match us, hl with | [_, _], _ => rfl
  have F8 := fun_mk (st := sRunR) l8 c8 k8
  have b8 := F8.binds (ps := ["recipe", "tape"]) fun _ _ _ _ _ _ us hl => match us, hl with | [_, _], _ => rfl
  have F9 := fun_mk (st := sCls) l9 c9 k9
  have b9 := F9.binds (ps := ["some", "sequence"]) fun _ _ _ _ _ _ us hl => match us, hl with | [_, _], _ => rfl
  have F10 := fun_mk (st := sExp) l10 c10 k10
  have b10 := F10.binds (ps := ["some", "sequence"]) fun _ _ _ _ _ _ us hl => match us, hl with | [_, _], _ => rfl
  have F11 := fun_mk (st := sLong) l11 c11 k11
  have b11 := F11.binds (ps := ["pen"]) fun _ _ _ _ _ _ us hl => match us, hl with | [_], _ => rfl
  have F12 := fun_mk (st := sLaw) l12 c12 k12
  refine ⟨PySem.W.fnOf "law" "law" (defArgs sLaw) (defBody sLaw) (defScope sLaw) .none kV12 dc12 pm12 an12 cd12 ct12, fun s v => .of_eq rfl, fun base _ _ => ?_⟩
  have T : NamesL mg := ⟨⟨⟨⟨PySem.W.mg_none_of X G z_list, PySem.W.mg_none_of X G z_tuple, PySem.W.mg_none_of X G z_len, PySem.W.mg_none_of X G z_range⟩, PySem.W.mg_none_of X G z_zip, PySem.W.mg_none_of X G z_enumerate, PySem.W.mg_none_of X G z_int⟩, PySem.W.mg_none_of X G z_sum⟩, PySem.W.mg_none_of X G z_repr⟩
  have m : ∀ {x : Str} {u : Value}, PySem.W.nsIn K mainGlobals x = some (some u) → mg x = some u := fun e => PySem.W.mg_of X G e
  have G0 := ok_pen (P := PySem.Challenge.pw_bentcoin_k45_recipes_run) (w := w) (mg := mg) (base := base) F0 T.toNames
  have G1 := ok_fresh (P := PySem.Challenge.pw_bentcoin_k45_recipes_run) (w := w) (mg := mg) (base := base) F1 T.toNames
  have G2 := ok_draw F2 G1 (m a1) k1 b1
  have G3 := ok_bin (P := PySem.Challenge.pw_bentcoin_k45_recipes_run) (w := w) (mg := mg) (base := base) F3 T.toNamesR
  have G4 := ok_recipe F4 T.toNamesS G2 ⟨m a2, k2, b2⟩ G3 ⟨m a3, k3, b3⟩
  have G5 := ok_tr F5 T.toNamesR G3 ⟨m a3, k3, b3⟩
  have G6 := ok_rank (P := PySem.Challenge.pw_bentcoin_k45_recipes_run) (w := w) (mg := mg) (base := base) F6 T.toNamesR (m x_comb)
  have G7 := ok_dec F7 G6 ⟨m a6, k6, b6⟩
  have G8 := ok_runR F8 T.toNames G7 ⟨m a7, k7, b7⟩
  have G9 := ok_cls (P := PySem.Challenge.pw_bentcoin_k45_recipes_run) (w := w) (mg := mg) (base := base) F9 T.int
  have G10 := ok_exp F10 T.toNames G9 ⟨m a9, k9, b9⟩
  have G11 := ok_long F11 T.toNames G2 ⟨m a2, k2, b2⟩ G4 ⟨m a4, k4, b4⟩ G5 ⟨m a5, k5, b5⟩ G8 ⟨m a8, k8, b8⟩
  exact ok_law F12 T G0 ⟨m a0, k0, b0⟩ G2 ⟨m a2, k2, b2⟩ G4 ⟨m a4, k4, b4⟩ G10 ⟨m a10, k10, b10⟩ G8 ⟨m a8, k8, b8⟩ (GG.named2 F8 fun _ _ _ _ _ _ _ _ => rfl) G11 ⟨m a11, k11, b11⟩
end Z
open PySem PySem.W PyProof.Rows
set_option maxRecDepth 100000 in
set_option maxHeartbeats 0 in
theorem PySem.Challenge.cw_bentcoin_k45_recipes_run_holds : PySem.Challenge.rw_bentcoin_k45_recipes_run.Holds := by
  w_on; o_law; k_head; (case hw => w_witness2)
  k_fill
  refine GG.walkG (l := PySem.Challenge.rw_bentcoin_k45_recipes_run) (n := 63) (k := 6) (x := "script") (sp := Z.spLaw) rfl (by decide) rfl ⟨rfl, by decide, by decide⟩ (fun w h Y => PySem.W.kIn_of Y) ?F (fun _ _ a ns hl hS => ⟨a, ns, rfl, hS, hl, fun _ => rfl⟩)
  case F =>
    intro w mg fa h KX G hmg
    refine' Z.all_mk KX G hmg ?a0 ?l0 ?c0 ?k0 ?a1 ?l1 ?c1 ?k1 ?a2 ?l2 ?c2 ?k2 ?a3 ?l3 ?c3 ?k3 ?a4 ?l4 ?c4 ?k4 ?a5 ?l5 ?c5 ?k5 ?a6 ?l6 ?c6 ?k6 ?a7 ?l7 ?c7 ?k7 ?a8 ?l8 ?c8 ?k8 ?a9 ?l9 ?c9 ?k9 ?a10 ?l10 ?c10 ?k10 ?a11 ?l11 ?c11 ?k11 ?a12 ?l12 ?c12 ?k12 ?z_list ?z_tuple ?z_len ?z_range ?z_zip ?z_enumerate ?z_int ?z_sum ?z_repr ?x_comb
    (case a0 => k_is)
    (case l0 => k_is)
    (case c0 => k_is)
    (case k0 => k_is)
    (case a1 => k_is)
    (case l1 => k_is)
    (case c1 => k_is)
    (case k1 => k_is)
    (case a2 => k_is)
    (case l2 => k_is)
    (case c2 => k_is)
    (case k2 => k_is)
    (case a3 => k_is)
    (case l3 => k_is)
    (case c3 => k_is)
    (case k3 => k_is)
    (case a4 => k_is)
    (case l4 => k_is)
    (case c4 => k_is)
    (case k4 => k_is)
    (case a5 => k_is)
    (case l5 => k_is)
    (case c5 => k_is)
    (case k5 => k_is)
    (case a6 => k_is)
    (case l6 => k_is)
    (case c6 => k_is)
    (case k6 => k_is)
    (case a7 => k_is)
    (case l7 => k_is)
    (case c7 => k_is)
    (case k7 => k_is)
    (case a8 => k_is)
    (case l8 => k_is)
    (case c8 => k_is)
    (case k8 => k_is)
    (case a9 => k_is)
    (case l9 => k_is)
    (case c9 => k_is)
    (case k9 => k_is)
    (case a10 => k_is)
    (case l10 => k_is)
    (case c10 => k_is)
    (case k10 => k_is)
    (case a11 => k_is)
    (case l11 => k_is)
    (case c11 => k_is)
    (case k11 => k_is)
    (case a12 => k_is)
    (case l12 => k_is)
    (case c12 => k_is)
    (case k12 => k_is)
    (case z_list => k_is)
    (case z_tuple => k_is)
    (case z_len => k_is)
    (case z_range => k_is)
    (case z_zip => k_is)
    (case z_enumerate => k_is)
    (case z_int => k_is)
    (case z_sum => k_is)
    (case z_repr => k_is)
    (case x_comb => k_is)
