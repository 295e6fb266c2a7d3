import PyProof.Rows.All
import Wide.All
import OpenK.AllK
import Wide.FinOn
import HandS.ForMost
import HandS.Defaults
import HandS.Wide
import HandS.Rev
import HandS.Flow
import KE.DataAny
import HandS.IsInst
import KE.DataEq
import KE.GoesEnum
import HandS.Zip
import HandS.More
import KE.DataMinMax
import HandS.List
import HandS.TupAny
import HandS.Text
import HandS.Walk
import HandS.Star
import HandS.DictComp
import PyProof.StrLawsIn
import HandS.TupMul
import PySem.Challenge.RW_bentcoin_k62_bounds_of_programs
set_option Elab.async false
set_option maxRecDepth 100000
set_option maxHeartbeats 4000000
/-! Defs that are run where no text of an object is being made: so that repr gives the whole text. -/
namespace GG
open PySem PySem.Spec PyProof.Rows L2
section
variable {P : Program} {w : World} {K : PySem.W.Frag} {mg : Str → Option Value} {base : Heap}
structure FnG (P : Program) (w : World) (K : PySem.W.Frag) (mg : Str → Option Value) (base : Heap) (k : Nat) (f : Addr) (fd : FuncData) (ps : List Str) (sp : Sp) : Prop where
  size : ∀ vs H Q E, sp vs H Q E → vs.length = ps.length
  goes : ∀ (A : Around) (o : List Env) (s : Shared) (H : Hp) (ar : Args) (us : List Value) (vs : List V) (Q : VK) (E : XK),
    A.guards = some [] → Room k A → Env0 P w K mg base A o s H → BindsTo s fd ar (ps.zip us) → Vals vs us → sp vs H Q E →
    codeAny (model P w) A (.call (.ref f) ar) (CR CX0 o P w H s Q E) s

theorem fnG_of {x qual : Str} {st : Stmt} {f : Addr} {fd : FuncData} {N ps : List Str} {k : Nat} {sp : Sp}
    (F : Fun K x qual st f fd) (S : FnScope N ps (defScope st)) (size : ∀ vs H Q E, sp vs H Q E → vs.length = ps.length)
    (body : ∀ (cd : Value) (A : Around) (o : List Env) (s : Shared) (H : Hp) (vs : List V) (Q : VK) (E : XK),
      A.guards = some [] → Room k (A.deeper (envOfC qual (defScope st) s.heap.objs.size f cd)) → sp vs H Q E →
      ∃ t, PSs (cxOf CX0 P w K mg base N qual (defScope st) f cd A o s H E).nox (defBody st) t ∧
        t { nx := fun _ H' => Q .non H', rt := Q } (start N vs) H) :
    FnG P w K mg base (k + 1) f fd ps sp := by
  obtain ⟨oc, od, kV, doc, pm, an, cd, ct, slots, rfl, found, code⟩ := F.ex
  refine ⟨size, ?_⟩
  intro A o s H ar us vs Q E gA room e0 hbind given asked
  have inK : K.In s.heap := e0.mod.kin.keeps fun b u e => (e0.bs b u e).1
  have free : s.heap.NoLimit := e0.mod.nolimit.keeps fun b u e => (e0.bs b u e).1
  have many := size vs H Q E asked
  have kinds : ∀ y ∈ ps.zip us, (defScope st).names.lookup y.1 = some .local ∨ ((defScope st).names.lookup y.1 = some .cell ∧
      ((cellsFrom (s.heap.objs.size + 1) (defScope st).names []).lookup y.1).isSome = true) := by
    rintro ⟨n, v⟩ hy
    cases S.par n (List.of_mem_zip hy).1 with
    | inl q => exact Or.inl q
    | inr q => exact Or.inr ⟨q, PySem.W.cellsFrom_some _ _ _ (Or.inl q)⟩
  apply codeAny_call_function room.depth (inK _ _ found) rfl S.co S.gen rfl (PySem.W.codeRec_of inK code)
  apply hbind
  apply wpAny_newFunctionEnv_cells S.kind kinds
  intro env he s1 ready
  subst he
  refine ⟨free.keeps ready.toInCall.keep, ?_⟩
  apply codeAny_func
  obtain ⟨t, ht, hq⟩ := body cd A o s H vs Q E gA (room.deeper _) asked
  have first := inv_start (E := E) (CX := CX0) S room.hd e0 many given ready
  refine wpAny_mono (ht.nox.run [] s1 (start N vs) H _ first hq) (fun fl s' hs => ?_) (fun e s' hs => hs)
  cases fl with
  | next =>
    obtain ⟨σ', H', J, q⟩ := hs
    exact ⟨V.non, H', J.os, J.bare, J.base, J.hok, rfl, q⟩
  | ret u =>
    obtain ⟨v, σ', H', J, rv, q⟩ := hs
    exact ⟨v, H', J.os, J.bare, J.base, J.hok, rv, q⟩
  | brk => exact hs.elim fun _ z => z.elim fun _ z => z.elim fun _ z => z.elim
  | cont => exact hs.elim fun _ z => z.elim fun _ z => z.elim fun _ z => z.elim

/-- what is left of the heap when the script stands alone in it -/
def one (a : Addr) (o : HO) : Hp := fun b => if b = a then some o else none
theorem one_at {a : Addr} {o : HO} : one a o a = some o := if_pos rfl
theorem one_no {a b : Addr} {o : HO} (h : b ≠ a) : one a o b = none := if_neg h

section
variable {mb : Str → Option Value} {k : Nat} {fa a : Addr} {fd : FuncData} {x : Str} {sp : Sp} {s₁ : Shared} {vs : List Value} {ns : List Int}
abbrev Fine (s₁ : Shared) (r : Result) (s' : Shared) : Prop := r = .ok (.ret (.bool true)) ∧ OldK s₁.heap s'.heap ∧ s'.os = s₁.os ∧ AllBare s'.gens

/-- from a heap in which at most the script is told of -/
theorem from_heap {H : Hp} (inK : K.In (hidT s₁.heap H)) (names : (hidT s₁.heap H).Ns mainGlobals mg) (blt : (hidT s₁.heap H).Ns builtinsNs mb)
    (known : ∀ y : Str, y ≠ "__name__" → mb y = bootBuiltins y) (free : (hidT s₁.heap H).NoLimit) (none_ : s₁.gens = #[])
    (alone : ∀ b, H b = none ∨ ∃ o xs, H b = some (.frz o (.lst xs))) (hok : HOk P w H s₁.heap) (room : Room k callerA)
    (F : FnG P w K mg (hidT s₁.heap H) k fa fd [x] sp) (binds : ∀ (s : Shared) (u : Value), BindsTo s fd ⟨[u], []⟩ [(x, u)])
    (asked : sp [.ref a] H (fun v _ => v = .bl true) fun _ _ _ => False) :
    codeAny (model P w) callerA (.call (.ref fa) ⟨[.ref a], []⟩) (Fine s₁) s₁ := by
  have entry : Env0 P w K mg (hidT s₁.heap H) callerA [] s₁ H :=
    { frames := rfl, mod := ⟨inK, names, ⟨mb, blt, known⟩, free⟩, bs := fun b u e => of_hidT e, bsz := Nat.le_of_eq (hidT_size _ _), funs := trivial,
      frf := fun b hb => absurd (show b ∈ ([] : List Addr) from hb) (by simp), hok := hok, bare := .of_eq none_ }
  have run := F.goes callerA [] s₁ H ⟨[.ref a], []⟩ [.ref a] [.ref a] _ _ rfl room entry (binds s₁ (.ref a)) (.cons rfl .nil) asked
  refine codeAny_mono run fun r s' got => ?_
  cases r with
  | error e => exact False.elim got
  | ok fl =>
    cases fl with
    | ret u =>
      obtain ⟨v, H', os, bare, un, hok', ru, yes⟩ := got
      have yes' : v = .bl true := yes
      subst yes'
      have eu : u = Value.bool true := ru
      subst eu
      refine ⟨rfl, OldK.of_keep ?_, os, bare⟩
      intro b u e
      rcases alone b with q | ⟨ob, xs, q⟩
      · exact un.keep b u e q (fun z => absurd (show b ∈ ([] : List Addr) from z) (by simp)) (by simp)
      · have e1 := (hok b _ q).1
        have e2 := (hok' b _ (un.frzs b ob _ q)).1
        rw [e] at e1
        cases e1
        exact e2
    | next => exact False.elim got
    | brk => exact False.elim got
    | cont => exact False.elim got
/-- the law's call, its promise once -/
theorem lawG (inK : K.In s₁.heap) (names : s₁.heap.Ns mainGlobals mg) (blt : s₁.heap.Ns builtinsNs mb) (known : ∀ y : Str, y ≠ "__name__" → mb y = bootBuiltins y)
    (free : s₁.heap.NoLimit) (none_ : s₁.gens = #[]) (script : s₁.heap.get? a = some { cls := .type "list", data := .seq vs.toArray }) (nums : IntsAre vs ns)
    (few : ns.length ≤ sizeLine) (room : Room k callerA) (F : ∀ base : Heap, K.In base → base.Ns mainGlobals mg → FnG P w K mg base k fa fd [x] sp)
    (binds : ∀ (s : Shared) (u : Value), BindsTo s fd ⟨[u], []⟩ [(x, u)]) (asked : ∀ H : Hp, SqL K H a (ns.map V.int) → sp [.ref a] H (fun v _ => v = .bl true) fun _ _ _ => False) :
    codeAny (model P w) callerA (.call (.ref fa) ⟨[.ref a], []⟩) (Fine s₁) s₁ := by
  have rel := vals_ints nums
  have len := nums.length
  cases look : K.lookup a with
  | some o =>
    have e := inK a o look
    rw [script] at e
    cases e
    have keep : ∀ {b : Addr} {u : Obj}, s₁.heap.get? b = some u → (hidT s₁.heap fun _ => none).get? b = some u := fun e => hidT_get e rfl
    have ns' : ∀ {b : Addr} {m : Str → Option Value}, s₁.heap.Ns b m → (hidT s₁.heap fun _ => none).Ns b m := fun ⟨o, es, ep, e, d, r⟩ => ⟨o, es, ep, keep e, d, r⟩
    have inK' : K.In (hidT s₁.heap fun _ => none) := fun b u e => keep (inK b u e)
    refine from_heap inK' (ns' names) (ns' blt) known (let ⟨mc, h1, h2⟩ := free; ⟨mc, ns' h1, h2⟩) none_ (fun _ => .inl rfl) (fun b u z => nomatch z) room (F _ inK' (ns' names)) binds ?_
    exact asked _ (.inr ⟨_, vs.toArray, _, look, rfl, rfl, rfl, by rw [List.size_toArray, len]; exact few, by simpa using rel⟩)
  | none =>
    have keep : ∀ {b : Addr} {u : Obj}, b ≠ a → s₁.heap.get? b = some u → (hidT s₁.heap (one a (.frz { cls := .type "list", data := .seq vs.toArray } (.lst (ns.map V.int))))).get? b = some u := fun n e => hidT_get e (one_no n)
    have ns' : ∀ {b : Addr} {m : Str → Option Value}, s₁.heap.Ns b m → (hidT s₁.heap (one a (.frz { cls := .type "list", data := .seq vs.toArray } (.lst (ns.map V.int))))).Ns b m := by
      rintro b m ⟨o, es, ep, e, d, r⟩
      refine ⟨o, es, ep, keep (fun z => ?_) e, d, r⟩
      rw [z, script] at e
      cases e
      cases d
    have inK' : K.In (hidT s₁.heap (one a (.frz { cls := .type "list", data := .seq vs.toArray } (.lst (ns.map V.int))))) := fun b u e => keep (fun z => by rw [z, look] at e; cases e) (inK b u e)
    refine from_heap inK' (ns' names) (ns' blt) known (let ⟨mc, h1, h2⟩ := free; ⟨mc, ns' h1, h2⟩) none_ (fun b => ?_) (fun b u z => ?_) room (F _ inK' (ns' names)) binds (asked _ (.inl (.inr ⟨_, one_at⟩)))
    · by_cases e : b = a
      · exact .inr ⟨_, _, by rw [e]; exact one_at⟩
      · exact .inl (one_no e)
    · by_cases e : b = a
      · subst e
        have z' := one_at.symm.trans z
        cases z'
        exact ⟨script, by rw [List.length_map]; exact few, vs, _, rel, script⟩
      · have z' := (one_no e).symm.trans z
        cases z'
end
end
/-- the end of a proof: as the layer's own, for such a promise -/
theorem walkG {l : PySem.W.OpenLaw} {n k : Nat} {q : Program} {loose : List Str} {XP : (Str → Option Value) → Heap → Prop} {YP : World → Heap → Prop} {d : DefRec} {K : Params → PySem.W.Frag}
    {sp : PySem.W.Frag → Sp} {x : Str} (most : l.most = some n) (few : n ≤ sizeLine) (plain : d.params.defaults = []) (room : Room k callerA) (inY : ∀ (w : World) (h : Heap), YP w h → (K w.params).In h)
    (F : ∀ (w : World) (mg : Str → Option Value) (fa : Addr) (h : Heap), (K w.params).In h → h.Ns mainGlobals mg → mg d.name = some (.ref fa) →
      ∃ fd : FuncData, (∀ (s : Shared) (u : Value), BindsTo s fd ⟨[u], []⟩ [(x, u)]) ∧
        ∀ base : Heap, (K w.params).In base → base.Ns mainGlobals mg → FnG l.prog w (K w.params) mg base k fa fd [x] (sp (K w.params)))
    (asked : ∀ (K : PySem.W.Frag) (H : Hp) (a : Addr) (ns : List Int), ns.length ≤ n → SqL K H a (ns.map V.int) → sp K [.ref a] H (fun v _ => v = .bl true) fun _ _ _ => False) :
    PySem.W.WalkO q loose XP YP l.row.toRowW d [] (fun f vs => PySem.call f vs) := by
  apply Att.attach_call most plain
  intro w s₀ s₁ mg mb fa o pm cd doc a vs ns G Y _ _ _ named script nums size none_
  have inK := inY w _ Y
  obtain ⟨fd, binds, hF⟩ := F w mg fa _ inK G.T.g named
  exact lawG inK G.T.g G.T.b G.T.builtins G.T.nolimit none_ script nums (Nat.le_trans size few) room hF binds fun H hs => asked _ H a ns size hs

/-! the text of data -/
/-- data whose text is made: no dict, no int too long, not too deep, not too many -/
structure Shows (d : PyData) (deep many : Nat) : Prop where
  s : d.showable = true
  l : d.leavesShort 1922 = true
  h : d.hasDict = false
  p : d.depth ≤ deep
  b : d.bulk ≤ many
theorem Shows.mono {d : PyData} {a b a' b' : Nat} (x : Shows d a b) (h1 : a ≤ a') (h2 : b ≤ b') : Shows d a' b' := ⟨x.s, x.l, x.h, Nat.le_trans x.p h1, Nat.le_trans x.b h2⟩
theorem Shows.room {d : PyData} (x : Shows d 50 8000) : d.shown.length ≤ sizeLine := by
  have h := PyData.shown_le_bulk 1922 (by decide) d x.l
  have hb := x.b
  have e : sizeLine = 16777216 := by decide
  have := Nat.mul_le_mul_left 1924 hb
  omega
theorem short_int {i : Int} (h : i.natAbs.log2 < 1920) : (PyData.int i).leavesShort 1922 = true := by
  simp only [PyData.leavesShort, decide_eq_true_eq]
  have e := int_text_length_le (k := 1920) (by decide) h
  rw [PyData.shown_int, PySem.ofString_length]
  omega
theorem ints_show : ∀ {ns : List Int}, (∀ n ∈ ns, n.natAbs.log2 < 1920) → PyData.showableAll (ns.map PyData.int) = true ∧ PyData.leavesShortAll 1922 (ns.map PyData.int) = true ∧ PyData.hasDictAll (ns.map PyData.int) = false ∧ PyData.depthAll (ns.map PyData.int) = 0 ∧ PyData.bulkAll (ns.map PyData.int) = ns.length
  | [], _ => ⟨rfl, rfl, rfl, rfl, rfl⟩
  | n :: r, h => by
    obtain ⟨h1, h2, h3, h4, h5⟩ := ints_show (ns := r) fun m hm => h m (List.mem_cons_of_mem _ hm)
    have hn := h n List.mem_cons_self
    have hs := short_int hn
    refine ⟨?_, ?_, ?_, ?_, ?_⟩
    · simp [PyData.showableAll, PyData.showable, h1, hn]
    · simp [PyData.leavesShortAll, h2, hs]
    · simp [PyData.hasDictAll, PyData.hasDict, h3]
    · simp [PyData.depthAll, PyData.depth, h4]
    · simp [PyData.bulkAll, PyData.bulk, h5]; omega
theorem shows_ints {ns : List Int} (h : ∀ n ∈ ns, n.natAbs.log2 < 1920) : Shows (.tuple (ns.map PyData.int)) 1 ns.length := by
  obtain ⟨h1, h2, h3, h4, h5⟩ := ints_show h
  exact ⟨by simp [PyData.showable, h1], by simp [PyData.leavesShort, h2], by simp [PyData.hasDict, h3], by simp [PyData.depth, h4], by simp [PyData.bulk, h5]⟩
section
variable {X : Cx}
def rRepr (K : PySem.W.Frag) : List V → Hp → VK → Prop := fun vs H Q => ∃ (a : Addr) (d : PyData), vs = [.ref a] ∧ Dp K H (.ref a) d ∧ Shows d 50 8000 ∧ Q (.str d.shown) H
theorem call_repr {k : Nat} (hg : X.A.guards = some []) (room : Room k X.A) : CallR X (.builtin "repr") (rRepr X.K) := by
  intro pins s σ H vs us Q I r h
  obtain ⟨a, d, rfl, hd, hs, q⟩ := h
  obtain ⟨u, rfl, ru⟩ := vals1 r
  have eu : u = Value.ref a := ru
  subst eu
  obtain ⟨as, reads⟩ := Dp.reads I d (.ref a) (.ref a) hd rfl
  have hu := room.un
  have hp := hs.p
  refine repr_of_reads' reads hs.s (fun e => by rw [hs.h] at e; cases e) hg (by omega) (fun _ _ e => e) (fun h' u tk hk => ?_) hs.room
  exact ⟨.str d.shown, H, I.kept hk, ⟨u, rfl⟩, q⟩
/-! x *= e of ints -/
theorem ip_mulW : PIp X .Mult (fun x y H Q => ∃ i j : Int, x = .int i ∧ y = .int j ∧ IntMulOk i j ∧ Q (.int (i * j)) H) := by
  intro pins s σ H x y v u Q I rx ry h
  obtain ⟨i, j, ex, ey, ok, q⟩ := h
  subst ex ey
  obtain ⟨t, et⟩ := rx
  obtain ⟨t', et'⟩ := ry
  subst et et'
  exact imul_int ⟨V.int (i * j), H, I.tok _, ⟨_, rfl⟩, q⟩ ok
/-! f(k = v, ..): all by their names -/
variable {CX : CXT} {k : Nat} {f : Addr} {fd : FuncData} {ps ks : List Str} {sp : Sp} {E : XK} {x : Str} {p pos : Pos} {kws : List Keyword} {t tk : TA}
  {g : List Value → List Value → List Value} {gV : List V → List V → List V}
def tNamed (sp : Sp) (gV : List V → List V → List V) (E : XK) (m : Nat) (tk : TA) : TE := fun σ H Q => tk σ H fun zs H1 => zs.length = m ∧ sp (gV [] zs) H1 Q E
theorem pe_named (F : FnOk X.prog X.w X.K X.mg X.base CX k f fd ps sp) (room : Room k X.A) (glob : Gl X x) (is : X.mg x = some (.ref f)) (keep : PySem.W.keepIn X.K (.ref f) = true)
    (bound : KBn X.K fd ps 0 ks g gV) (pass : Passes CX X E) (args : PK X kws tk) (all : (backToKw pos (keywordEach kws X.env)).all (·.1.isSome) = true := by rfl)
    (names : (backToKw pos (keywordEach kws X.env)).filterMap (·.1) = ks := by rfl) (nodebug : (x == ("__debug__" : Str)) = false := by decide)
    (plain : ((backTo pos (starEach [] X.env)).any (·.1) || (backToKw pos (keywordEach kws X.env)).any (·.1.isNone)) = false := by rfl) :
    PE X (.Call (.Name x p) [] kws pos) (tNamed sp gV E ks.length tk) := by
  constructor
  intro pins s σ H Q I h
  apply wpAny_Call_Name_kw
  refine ld_glob I glob is ?_ nodebug
  apply PySem.W.callWith_KW0 I.ok.mod.kin keep all _ plain
  have run := args.run pos pins s σ H _ I h
  refine thn run fun ws s2 done => ?_
  obtain ⟨zs, H2, I2, rz, many, q⟩ := done
  refine ⟨I2.kIn, ?_⟩
  rw [names]
  have few : ws.length = ks.length := by rw [← rz.length]; exact many
  first
  | exact run_fnN (us := []) (vs := []) F room bound pass I2 .nil rz rfl few q
  | exact run_fnN (us := []) (vs := []) F room bound pass I2 .nil rz rfl many q
def turned {α : Type} : List α → List α
  | [u, v] => [v, u]
  | l => l
theorem turned_vals : ∀ {zs : List V} {ws : List Value}, Vals zs ws → Vals (turned zs) (turned ws)
  | _, _, .nil => .nil
  | _, _, .cons a .nil => .cons a .nil
  | _, _, .cons a (.cons b .nil) => .cons b (.cons a .nil)
  | _, _, .cons a (.cons b (.cons c r)) => .cons a (.cons b (.cons c r))
/-- two parameters, both by name, the second ahead -/
theorem named2 {K : PySem.W.Frag} {x qual : Str} {st : Stmt} {a b : Str} (F : Fun K x qual st f fd)
    (h : ∀ (kV doc pm : Value) (an : Option Addr) (cd ct u v : Value), bindArgs (PySem.W.fnOf x qual (defArgs st) (defBody st) (defScope st) .none kV doc pm an cd ct) ⟨[], [(b, u), (a, v)]⟩ = pure [(a, v), (b, u)]) :
    KBn K fd [a, b] 0 [b, a] (fun _ ws => turned ws) (fun _ zs => turned zs) := by
  obtain ⟨oc, od, kV, doc, pm, an, cd, ct, slots, rfl, found, code⟩ := F.ex
  refine ⟨fun s us ws _ l0 l2 => ?_, fun _ r => turned_vals r⟩
  match us, ws, l0, l2 with
  | [], [u, v], _, _ => exact .of_eq (h kV doc pm an cd ct u v)
theorem max_is (calm : X.calm = true) : CallR X (.builtin "max") (fun vs H Q => ∃ i j k : Int, vs = [.int i, .int j] ∧ k = (if j > i then j else i) ∧ Q (.int k) H) := by
  intro pins s σ H vs us Q I r h
  obtain ⟨i, j, k, e, ek, q⟩ := h
  subst ek
  exact call_max2 calm pins s σ H vs us Q I r ⟨i, j, e, q⟩
/-! a def that wants that no text is being made, called -/
theorem pe_callG {F : FuncData} {es : List Expr} {e : Expr} (G : FnG X.prog X.w X.K X.mg X.base k f F ps sp) (quiet : X.A.guards = some []) (room : Room k X.A) (glob : Gl X x) (is : X.mg x = some (.ref f)) (keep : PySem.W.keepIn X.K (.ref f) = true)
    (bound : Binds X.K F ps []) (args : PA X (e :: es) t) (nodebug : (x == ("__debug__" : Str)) = false := by decide) (star : starEach (e :: es) X.env = (false, eval e X.env) :: starEach es X.env := by rfl)
    (plain : (backTo pos (starEach es X.env)).any (·.1) = false := by rfl) : PE X (.Call (.Name x p) (e :: es) [] pos) (tCall sp [] E0 t) := by
  constructor
  intro pins s σ H Q I h
  apply wpAny_Call_Name_kw
  refine ld_glob I glob is ?_ nodebug
  refine PySem.W.callWith_K (h₀ := X.base) I.ok.mod.kin keep (thn (args.run pos pins s σ H _ I h) fun us s1 got => ?_) star plain
  obtain ⟨vs, H1, I1, r, asked⟩ := got
  refine ⟨I1.kIn, ?_⟩
  have asked' : sp vs H1 Q E0 := by simpa using asked
  have many : (us ++ []).length = ps.length := by rw [List.append_nil, ← r.length]; exact G.size _ _ _ _ asked'
  have bind := bound s1 us I1.kIn many
  rw [List.append_nil] at bind
  apply wpAny_call
  refine codeAny_mono (G.goes X.A X.stack s1 H1 ⟨us, []⟩ us vs Q E0 quiet room I1.env0 bind r asked') fun res s' hq => ?_
  cases res with
  | error e => exact False.elim hq
  | ok fl =>
    cases fl with
    | ret u => exact I1.after hq
    | next => exact False.elim hq
    | brk => exact False.elim hq
    | cont => exact False.elim hq
/-! repr of None, or of data -/
def rRepr2 (K : PySem.W.Frag) : List V → Hp → VK → Prop := fun vs H Q => (vs = [.non] ∧ Q (.str "None") H) ∨ rRepr K vs H Q
theorem call_repr2 {k : Nat} (hg : X.A.guards = some []) (room : Room k X.A) : CallR X (.builtin "repr") (rRepr2 X.K) := by
  intro pins s σ H vs us Q I r h
  rcases h with ⟨ev, q⟩ | h
  · subst ev
    obtain ⟨u, eu, ru⟩ := vals1 r
    subst eu
    have e : u = Value.none := ru
    subst e
    exact PySem.P.repr_of_none ⟨.str _, H, I.tok _, ⟨_, rfl⟩, q⟩
  · exact call_repr hg room pins s σ H vs us Q I r h
end
end GG

set_option Elab.async false
set_option linter.all false
set_option maxRecDepth 100000
set_option maxHeartbeats 4000000
namespace Z
open PySem PySem.Spec PyProof.Rows L2 GG
def top (i : Nat) : Stmt := PySem.Challenge.pw_bentcoin_k62_bounds_of_programs.main.body.getD i (.Pass ⟨0, 0, 0, 0⟩)
abbrev sPen : Stmt := top 25
abbrev sFresh : Stmt := top 26
abbrev sDraw : Stmt := top 27
/-- what follows an if, once for all ways to it -/
theorem if_tail {c : TT} {a b : TS} {D : Ends} {σ : L2.St} {H : Hp} (W : L2.St → Hp → Prop) (tail : ∀ σ H, W σ H → D.nx σ H) (go : (∀ σ H, W σ H → D.nx σ H) → tIfS c a b D σ H) : tIfS c a b D σ H := go tail
theorem on {t u : TS} {D : Ends} {σ : L2.St} {H : Hp} (h : t { D with nx := u D } σ H) : tSeq t u D σ H := h
theorem put_c {v : V} {i : Nat} {D : Ends} {σ : L2.St} {H : Hp} (h : D.nx (σ.set i (some v)) H) : tAsg (tC v) (gName i) D σ H := h
/-! heaps -/
theorem Same.upd {H : Hp} {p : Addr} {o : HO} (h : H p = none) : Same H (L2.upd H p o) := fun b x e => by
  rw [upd_ne (ne_of_none e h)]
  exact e
/-- all that was told of stands, but what is at a -/
def But (a : Addr) (H H' : Hp) : Prop := ∀ b o, H b = some o → b ≠ a → H' b = some o
theorem But.refl (a : Addr) (H : Hp) : But a H H := fun _ _ e _ => e
theorem But.trans {a : Addr} {H H1 H2 : Hp} (x : But a H H1) (y : But a H1 H2) : But a H H2 := fun b o e n => y b o (x b o e n) n
theorem But.of {a : Addr} {H H1 : Hp} (x : Same H H1) : But a H H1 := fun b o e _ => x b o e
theorem But.put {a : Addr} {H : Hp} {o : HO} : But a H (L2.upd H a o) := fun b u e n => by
  rw [upd_ne n]
  exact e
theorem But.free {a : Addr} {H H' : Hp} {l : Addr} (e : But a H H') (n : l ≠ a) (h : H' l = none) : H l = none := by
  cases q : H l with
  | none => rfl
  | some o =>
    rw [e l o q n] at h
    cases h
theorem But.same {a : Addr} {H H0 H' : Hp} (s : Same H0 H) (n : H0 a = none) (b : But a H H') : Same H0 H' := fun c o e => b c o (s c o e) (ne_of_none e n)
theorem But.seq {a c : Addr} {K : PySem.W.Frag} {H H' : Hp} {xs : List V} (e : But a H H') (n : c ≠ a) (h : SqL K H c xs) : SqL K H' c xs := by
  rcases h with (h | ⟨o, h⟩) | h
  · exact .inl (.inl (e _ _ h n))
  · exact .inl (.inr ⟨o, e _ _ h n⟩)
  · exact .inr h
/-- a pen stands at a -/
def Pen (H : Hp) (a l : Addr) : Prop := ∃ (cs : List Int) (pos val : Int), H a = some (.lst [.ref l, .int pos, .int val]) ∧ H l = some (.lst (cs.map V.int)) ∧ 0 ≤ pos
theorem Pen.ne {H : Hp} {a l : Addr} {cs : List Int} {p v : Int} (h : H a = some (.lst [.ref l, .int p, .int v])) (e : H l = some (.lst (cs.map V.int))) : l ≠ a := by
  intro z
  subst z
  rw [h] at e
  cases cs with
  | nil => cases e
  | cons x r => cases e
theorem Pen.put {H : Hp} {a l : Addr} {cs : List Int} {p v q u : Int} (h : H a = some (.lst [.ref l, .int p, .int v])) (e : H l = some (.lst (cs.map V.int))) (hq : 0 ≤ q) : Pen (upd H a (.lst [.ref l, .int q, .int u])) a l :=
  ⟨cs, q, u, upd_same, by rw [upd_ne (Pen.ne h e)]; exact e, hq⟩
theorem Pen.same {H H' : Hp} {a l : Addr} (p : Pen H a l) (s : Same H H') : Pen H' a l := by
  obtain ⟨cs, q, v, h1, h2, h3⟩ := p
  exact ⟨cs, q, v, s _ _ h1, s _ _ h2, h3⟩
theorem dpInts {K : PySem.W.Frag} {H : Hp} : ∀ ns : List Int, DpAll K H (ns.map V.int) (ns.map PyData.int)
  | [] => .nil
  | n :: r => .cons (.int n) (dpInts r)
theorem cut_to {α : Type} (xs : List V) (n : Nat) : ∃ m, cutV xs none (some (n : Int)) = xs.take m := ⟨_, by unfold cutV; rw [HT.sIx_none]; rfl⟩
/-- a row without the zeros at its end -/
def strip (l : List Int) : List Int := (l.reverse.dropWhile (· == 0)).reverse
theorem strip_nil : strip [] = [] := rfl
theorem strip_zero (l : List Int) : strip (l ++ [0]) = strip l := by
  unfold strip
  rw [List.reverse_append]
  rfl
theorem strip_last {l : List Int} {z : Int} (h : z ≠ 0) : strip (l ++ [z]) = l ++ [z] := by
  unfold strip
  rw [List.reverse_append]
  show (List.dropWhile (· == 0) (z :: l.reverse)).reverse = _
  rw [List.dropWhile_cons_of_neg (by simpa using h), List.reverse_cons, List.reverse_reverse]
theorem strip_mem {l : List Int} {c : Int} (h : c ∈ strip l) : c ∈ l := by
  unfold strip at h
  rw [List.mem_reverse] at h
  exact List.mem_reverse.mp ((List.dropWhile_sublist _).subset h)
theorem strip_len (l : List Int) : (strip l).length ≤ l.length := by
  unfold strip
  rw [List.length_reverse]
  have := (List.dropWhile_sublist (· == 0) (l := l.reverse)).length_le
  rwa [List.length_reverse] at this
theorem strip_strip (l : List Int) : strip (strip l) = strip l := by
  rcases List.eq_nil_or_concat (strip l) with e | ⟨r, z, e⟩
  · rw [e]; rfl
  · rw [List.concat_eq_append] at e
    by_cases h : z = 0
    · exfalso
      have e2 : l.reverse.dropWhile (· == 0) = z :: r.reverse := by
        have := congrArg List.reverse e
        unfold strip at this
        rw [List.reverse_reverse, List.reverse_append] at this
        exact this
      have := List.head?_dropWhile_not (p := fun x : Int => x == 0) (l := l.reverse)
      rw [e2] at this
      simp [h] at this
    · rw [e, strip_last h]
theorem eqv_nil : ∀ {xs : List Int}, xs ≠ [] → (!PyData.eqv (.list (xs.map PyData.int)) (.list [])) = true
  | [], h => absurd rfl h
  | _ :: _, _ => rfl
structure Names (mg : Str → Option Value) : Prop where
  list : mg "list" = none
  tuple : mg "tuple" = none
  len : mg "len" = none
  range : mg "range" = none
structure Def (K : PySem.W.Frag) (mg : Str → Option Value) (x : Str) (f : Addr) (fd : FuncData) (ps : List Str) : Prop where
  is : mg x = some (.ref f)
  kp : PySem.W.keepIn K (.ref f) = true
  bi : Binds K fd ps []
theorem Pen.apart {H : Hp} {a l e : Addr} (p : Pen H a l) (h : H e = none) : e ≠ a ∧ e ≠ l := by
  obtain ⟨cs, pos, val, ha, hl, _⟩ := p
  exact ⟨(ne_of_none ha h).symm, (ne_of_none hl h).symm⟩
theorem Pen.notTup {H : Hp} {a l e : Addr} {xs : List V} (p : Pen H a l) (h : H e = some (.tup xs)) : e ≠ a := by
  obtain ⟨cs, pos, val, ha, hl, _⟩ := p
  rintro rfl
  rw [ha] at h
  cases h
theorem But.mem {a p : Addr} {H H' : Hp} {o : HO} (b : But a H H') (n : p ≠ a) (e : H p = some o) : H' p = some o := b p o e n
/-- what follows a value, once for all ways to it -/
theorem asg_tail {te : TE} {g : TG} {D : Ends} {σ : L2.St} {H : Hp} (W : V → Hp → Prop) (tail : ∀ v H', W v H' → g v σ H' D.nx) (go : (∀ v H', W v H' → g v σ H' D.nx) → te σ H fun x H1 => g x σ H1 D.nx) : tAsg te g D σ H := go tail
theorem log_le {b : Int} (h : b.natAbs < 2 ^ 100) : b.natAbs.log2 < 9000 := Nat.lt_of_lt_of_le (PySem.Flt.log2_lt_of (k := 100) (by decide) h) (by decide)
section
variable {P : Program} {w : World} {K : PySem.W.Frag} {mg : Str → Option Value} {base : Heap}
/-! ### the pen -/
def spPen (K : PySem.W.Frag) : Sp := fun vs H Q _ => ∃ (s : Addr) (ns : List Int), vs = [.ref s] ∧ SqL K H s (ns.map V.int) ∧ ns.length ≤ 63 ∧ ∀ p l H', Same H H' → H p = none → H l = none → Pen H' p l → Q (.ref p) H'
theorem scPen : FnScope ["script"] ["script"] (defScope sPen) := ⟨rfl, rfl, rfl, by decide +kernel, rfl, by decide +kernel, by decide +kernel⟩
theorem ok_pen {f : Addr} {fd : FuncData} (F : Fun K "_law_pen" "_law_pen" sPen f fd) (T : Names mg) : FnOk P w K mg base CX0 1 f fd ["script"] (spPen K) := by
  refine F.ok scPen (fun vs H Q E h => ?_) (fun cdv A outer s H vs Q E hr h => ?_)
  · obtain ⟨a, ns, rfl, _⟩ := h
    rfl
  · obtain ⟨a, ns, rfl, hS, hlen, q⟩ := h
    refine ⟨_, pss_one (ps_ret (pe_lst (pa_cons (pe_callTy call_list_of (by rfl) T.list (by decide +kernel) (pa_cons (pe_slice sl_list (pv 0) po_none (po_some pe_int)) pa_nil)) (pa_cons pe_int (pa_cons pe_int pa_nil))))), ?_⟩
    refine ⟨.ref a, rfl, 63, rfl, a, _, rfl, hS, fun c nc => ?_⟩
    refine ⟨c, _, rfl, .inl (.inl (.inl upd_same)), fun l nl => ?_⟩
    refine ⟨by show 3 ≤ sizeLine; decide, fun p np => ?_⟩
    obtain ⟨m, em⟩ := cut_to (α := Int) (ns.map V.int) 63
    have em : cutV (ns.map V.int) none (some 63) = (ns.map V.int).take m := em
    have lp : l ≠ p := ne_of_none upd_same np
    have h1 := (Same.trans (Same.upd (o := .lst (cutV (ns.map V.int) none (some 63))) nc) (Same.trans (Same.upd (o := .lst (cutV (ns.map V.int) none (some 63))) nl) (Same.upd (o := .lst [.ref l, .int 0, .int 0]) np)))
    refine q p l _ h1 (Same.free (Same.trans (Same.upd nc) (Same.upd nl)) np) (Same.free (Same.upd nc) nl) ⟨ns.take m, 0, 0, upd_same, ?_, by decide⟩
    rw [upd_ne lp, upd_same, em, List.map_take]
/-! ### a fresh number -/
def spFresh : Sp := fun vs H Q _ => ∃ (a l : Addr), vs = [.ref a] ∧ Pen H a l ∧ ∀ (v : Int) H', But a H H' → Pen H' a l → Q (.int v) H'
theorem scFresh : FnScope ["pen", "at", "cell", "p", "one", "found", "turn"] ["pen"] (defScope sFresh) := ⟨rfl, rfl, rfl, by decide +kernel, rfl, by decide +kernel, by decide +kernel⟩
theorem ok_fresh {f : Addr} {fd : FuncData} (F : Fun K "_law_fresh" "_law_fresh" sFresh f fd) (T : Names mg) : FnOk P w K mg base CX0 1 f fd ["pen"] spFresh := by
  refine F.ok scFresh (fun vs H Q E h => ?_) (fun cdv A outer s H vs Q E hr h => ?_)
  · obtain ⟨a, l, rfl, _⟩ := h
    rfl
  · obtain ⟨a, l, rfl, ⟨cs, pos, val, ha, hl, hp⟩, q⟩ := h
    have hu : A.units + 3 + 64 < cLine := hr.units
    refine ⟨_, pss_cons (ps_set (i := 1) scFresh.nd rfl (.inl rfl) (pe_ix ix_list (pv 0) pe_int (fun _ _ => rfl)))
      (pss_cons (ps_asg (pe_op op_add (pv 1) pe_int) (pg_sub (pv 0) pe_int set_list))
      (pss_cons (ps_set (i := 2) scFresh.nd rfl (.inl rfl) pe_int)
      (pss_cons (ps_if (pt_cmpR (op_neD hu) (pe_ix ix_list (pv 0) pe_int (fun _ _ => rfl)) (pe_lst pa_nil) (nomark _))
        (pss_one (ps_set (i := 2) scFresh.nd rfl (.inl rfl) (pe_ix ix_list (pe_ix ix_list (pv 0) pe_int (fun _ _ => rfl)) (pe_op op_mod (pv 1) (pe_callB call_len_seq (by rfl) T.len PySem.boot_len (pa_cons (pe_ix ix_list (pv 0) pe_int (fun _ _ => rfl)) pa_nil))) (fun _ _ => rfl)))) pss_nil)
      (pss_cons (ps_if (PW.pt (pw_and (pt_cmpR op_lt (pv 1) (pe_callB call_len_seq (by rfl) T.len PySem.boot_len (pa_cons (pe_ix ix_list (pv 0) pe_int (fun _ _ => rfl)) pa_nil)) (nomark _)) (pw_and1 (pt_cmpR op_ge (pv 2) (pe_op op_pow pe_int pe_int) (nomark _)))))
        (pss_one (ps_ret (pe_op op_sub (pv 2) (pe_op op_pow pe_int pe_int)))) pss_nil)
      (pss_cons (ps_set (i := 3) scFresh.nd rfl (.inl rfl) pe_int)
      (pss_cons (ps_set (i := 4) scFresh.nd rfl (.inl rfl) (pe_op op_mod (pe_op op_add (pe_op op_add (pe_op op_mul (pv 2) pe_int) (pe_op op_mul pe_int (pv 1))) pe_int) (pv 3)))
      (pss_cons (ps_set (i := 5) scFresh.nd rfl (.inl rfl) (pv 4))
      (pss_cons (ps_for PassesOwn.never rfl (pi_range1 rfl T.range (pa_cons pe_int pa_nil)) (pg_name (i := 6) scFresh.nd rfl (.inl rfl))
        (pss_cons (ps_set (i := 4) scFresh.nd rfl (.inl rfl) (pe_op op_mod (pe_op op_add (pe_op op_add (pe_op op_mul (pv 4) (pv 4)) (pe_op op_mul (pe_op op_mul pe_int (pe_op op_add (pv 6) pe_int)) (pe_op op_add (pv 1) pe_int))) (pv 2)) (pv 3)))
        (pss_one (ps_set (i := 5) scFresh.nd rfl (.inl rfl) (pe_op op_add (pe_op op_mul (pv 5) (pv 3)) (pv 4))))))
      (pss_one (ps_ret (pv 5))))))))))), ?_⟩
    -- position = pen[1]; pen[1] = position + 1; cell = 0
    refine ⟨.ref a, rfl, a, _, 1, .int pos, rfl, rfl, SqL.of ha, atI_nat (j := 1) rfl, ?_⟩
    refine ⟨_, rfl, _, _, rfl, rfl, .ref a, rfl, a, _, 1, 1, rfl, rfl, ha, rfl, ?_⟩
    have ha1 : upd H a (.lst [.ref l, .int (pos + 1), .int val]) a = some (.lst [.ref l, .int (pos + 1), .int val]) := upd_same
    have hl1 : upd H a (.lst [.ref l, .int (pos + 1), .int val]) l = some (.lst (cs.map V.int)) := by
      rw [upd_ne (Pen.ne ha hl)]
      exact hl
    have b1 : But a H (upd H a (.lst [.ref l, .int (pos + 1), .int val])) := But.put
    change (_ : Hp → Prop) (upd H a (.lst [.ref l, .int (pos + 1), .int val]))
    generalize upd H a (.lst [.ref l, .int (pos + 1), .int val]) = H1 at ha1 hl1 b1 ⊢
    -- if pen[0] != []
    have ec : cs = [] ∨ ∃ x r, cs = x :: r := by
      cases cs with
      | nil => exact .inl rfl
      | cons x r => exact .inr ⟨x, r, rfl⟩
    dsimp only
    refine on (put_c ?_)
    dsimp only
    refine on (if_tail (fun σ H' => ∃ cell : Int, σ = [some (V.ref a), some (V.int pos), some (V.int cell), none, none, none, none] ∧ Same H1 H') ?_ (fun t => ?_))
    rotate_left
    · refine ⟨.ref a, rfl, a, _, 0, .ref l, rfl, rfl, SqL.of ha1, atI_nat (j := 0) rfl, Nat.zero_le _, fun e0 ne0 => ?_⟩
      have s2 : Same H1 (upd H1 e0 (.lst [])) := Same.upd ne0
      have ha2 := s2 _ _ ha1
      have hl2 := s2 _ _ hl1
      have d0 : Dp K (upd H1 e0 (.lst [])) (.ref e0) (.list []) := .lst (SqL.of upd_same) .nil
      generalize upd H1 e0 (.lst []) = H2 at s2 ha2 hl2 d0 ⊢
      refine ⟨.list (cs.map PyData.int), .list [], .lst (SqL.of hl2) (dpInts cs), d0, PySem.W.ke_shaped_ints cs, rfl, _, rfl, ?_⟩
      rcases ec with rfl | ⟨x, r, rfl⟩
      · exact iteF (t _ _ ⟨0, rfl, s2⟩)
      · refine iteT ?_
        have hpos : pos % (((x :: r).length : Nat) : Int) < ((x :: r).length : Nat) ∧ 0 ≤ pos % (((x :: r).length : Nat) : Int) := by
          have : (0 : Int) < ((x :: r).length : Nat) := by rw [List.length_cons]; omega
          exact ⟨Int.emod_lt_of_pos _ this, Int.emod_nonneg _ (by omega)⟩
        obtain ⟨j, ej⟩ : ∃ j : Nat, pos % (((x :: r).length : Nat) : Int) = (j : Int) := ⟨(pos % (((x :: r).length : Nat) : Int)).toNat, by omega⟩
        have hj : j < (x :: r).length := by omega
        refine ⟨.ref a, rfl, a, _, 0, .ref l, rfl, rfl, SqL.of ha2, atI_nat (j := 0) rfl, .int pos, rfl, .ref a, rfl, a, _, 0, .ref l, rfl, rfl, SqL.of ha2, atI_nat (j := 0) rfl, l, _, rfl, .inl (SqL.of hl2), _, _, rfl, rfl, ?_, ?_⟩
        · show (0 : Int) < _
          rw [List.length_map, List.length_cons]
          omega
        · refine ⟨l, _, _, .int (x :: r)[j], rfl, rfl, SqL.of hl2, ?_, t _ _ ⟨_, rfl, s2⟩⟩
          rw [List.length_map, ej]
          exact atI_nat (by rw [List.getElem?_map, List.getElem?_eq_getElem hj]; rfl)
    · rintro σ H' ⟨cell, rfl, s2⟩
      have ha2 := s2 _ _ ha1
      have hl2 := s2 _ _ hl1
      have b2 : But a H H' := b1.trans (But.of s2)
      have p2 : Pen H' a l := ⟨cs, pos + 1, val, ha2, hl2, by omega⟩
      -- if position < len(pen[0]) and cell >= 10 ** 18: return cell - 10 ** 18
      dsimp only
      refine on (if_tail (fun σ H3 => σ = [some (V.ref a), some (V.int pos), some (V.int cell), none, none, none, none] ∧ H3 = H') ?_ (fun t => ?_))
      rotate_left
      · refine ⟨_, rfl, .ref a, rfl, a, _, 0, .ref l, rfl, rfl, SqL.of ha2, atI_nat (j := 0) rfl, l, _, rfl, .inl (SqL.of hl2), _, _, rfl, rfl, _, rfl, ite2 (fun _ => ?_) (fun _ => iteF (t _ _ ⟨rfl, rfl⟩))⟩
        refine ⟨_, rfl, _, _, rfl, rfl, ⟨by decide, by decide, by decide⟩, _, _, rfl, rfl, _, rfl, ite2 (fun _ => ?_) (fun _ => t _ _ ⟨rfl, rfl⟩)⟩
        exact ⟨_, rfl, _, _, rfl, rfl, ⟨by decide, by decide, by decide⟩, _, _, rfl, rfl, q _ _ b2 p2⟩
      · rintro σ H3 ⟨rfl, rfl⟩
        -- state, mixed, the six turns
        refine ⟨_, rfl, _, _, rfl, rfl, .inr ⟨by decide, by decide⟩, _, rfl, _, _, rfl, rfl, .inl ⟨by decide, by decide⟩, _, _, rfl, rfl, _, _, rfl, rfl, _, rfl, _, _, rfl, rfl, (by show (0 : Int) < 2305843009213693951; decide), _, rfl,
          6, rfl, by decide, by decide, for_range (lo := 0) (n := 6) (fun i σ H4 => ∃ (st mx : Int) (v : Option V), σ = [some (V.ref a), some (V.int pos), some (V.int cell), some (V.int 2305843009213693951), some (V.int st), some (V.int mx), v] ∧ H4 = H3 ∧ 0 ≤ st ∧ st < 2305843009213693951)
            ⟨_, _, none, rfl, rfl, Int.emod_nonneg _ (by decide), Int.emod_lt_of_pos _ (by decide)⟩ ?_ ?_⟩
        · rintro i σ H4 hi ⟨st, mx, v, rfl, rfl, h0, h1⟩
          refine ⟨_, rfl, _, rfl, _, _, rfl, rfl, .inl ⟨by omega, by omega⟩, _, rfl, _, _, rfl, rfl, _, _, rfl, rfl, .inl ⟨by decide, by decide⟩, _, rfl, _, _, rfl, rfl, _, _, rfl, rfl, .inl ⟨by show -(2 ^ 64) < (69621 : Int) * (0 + (i : Int) + 1); omega, by show (69621 : Int) * (0 + (i : Int) + 1) < 2 ^ 64; omega⟩, _, _, rfl, rfl,
            _, rfl, _, _, rfl, rfl, _, rfl, _, _, rfl, rfl, (by show (0 : Int) < 2305843009213693951; decide), _, rfl, _, rfl, _, _, rfl, rfl, .inr ⟨by decide, by decide⟩, _, rfl, _, _, rfl, rfl, ?_⟩
          exact ⟨_, _, _, rfl, rfl, Int.emod_nonneg _ (by decide), Int.emod_lt_of_pos _ (by decide)⟩
        · rintro σ H4 ⟨st, mx, v, rfl, rfl, h0, h1⟩
          exact ⟨_, rfl, q _ _ b2 p2⟩
/-! ### a number below a bound -/
def spDraw : Sp := fun vs H Q _ => ∃ (a l : Addr) (b : Int), vs = [.ref a, .int b] ∧ Pen H a l ∧ 0 < b ∧ b.natAbs.log2 < 9000 ∧ ∀ (d : Int) H', 0 ≤ d → d < b → But a H H' → Pen H' a l → Q (.int d) H'
theorem scDraw : FnScope ["pen", "many", "digit"] ["pen", "many"] (defScope sDraw) := ⟨rfl, rfl, rfl, by decide +kernel, rfl, by decide +kernel, by decide +kernel⟩
theorem ok_draw {f g : Addr} {fd gd : FuncData} (F : Fun K "_law_draw" "_law_draw" sDraw f fd) (GF : FnOk P w K mg base CX0 1 g gd ["pen"] spFresh) (mF : mg "_law_fresh" = some (.ref g)) (kF : PySem.W.keepIn K (.ref g) = true) (bF : Binds K gd ["pen"] []) :
    FnOk P w K mg base CX0 2 f fd ["pen", "many"] spDraw := by
  refine F.ok scDraw (fun vs H Q E h => ?_) (fun cdv A outer s H vs Q E hr h => ?_)
  · obtain ⟨a, l, b, rfl, _⟩ := h
    rfl
  · obtain ⟨a, l, b, rfl, pn, hb, hb2, q⟩ := h
    refine ⟨_, pss_cons (ps_if (pt_cmpR op_lt (pe_ix ix_list (pv 0) pe_int (fun _ _ => rfl)) (pv 1) (nomark _))
        (pss_one (ps_asg (pe_call GF hr (by rfl) mF kF bF .nil pass0 (pa_cons (pv 0) pa_nil)) (pg_sub (pv 0) pe_int set_list))) pss_nil)
      (pss_cons (ps_set (i := 2) scDraw.nd rfl (.inl rfl) (pe_op op_mod (pe_ix ix_list (pv 0) pe_int (fun _ _ => rfl)) (pv 1)))
      (pss_cons (ps_asg (pe_op op_fdivW (pe_ix ix_list (pv 0) pe_int (fun _ _ => rfl)) (pv 1)) (pg_sub (pv 0) pe_int set_list))
      (pss_one (ps_ret (pv 2))))), ?_⟩
    refine on (if_tail (fun σ H' => σ = [some (V.ref a), some (V.int b), none] ∧ Pen H' a l ∧ But a H H') ?_ (fun t => ?_))
    rotate_left
    · obtain ⟨cs, pos, val, ha, hl, hp⟩ := id pn
      refine ⟨.ref a, rfl, a, _, 2, .int val, rfl, rfl, SqL.of ha, atI_nat (j := 2) rfl, _, rfl, _, _, rfl, rfl, _, rfl, ite2 (fun _ => ?_) (fun _ => t _ _ ⟨rfl, pn, But.refl _ _⟩)⟩
      refine ⟨.ref a, rfl, a, l, rfl, pn, fun v H1 b1 p1 => ?_⟩
      obtain ⟨cs, pos, val, ha, hl, hp⟩ := p1
      exact ⟨.ref a, rfl, a, _, 2, 2, rfl, rfl, ha, rfl, t _ _ ⟨rfl, Pen.put ha hl hp, b1.trans But.put⟩⟩
    · rintro σ H1 ⟨rfl, ⟨cs, pos, val, ha, hl, hp⟩, b1⟩
      refine ⟨.ref a, rfl, a, _, 2, .int val, rfl, rfl, SqL.of ha, atI_nat (j := 2) rfl, _, rfl, _, _, rfl, rfl, hb, .ref a, rfl, a, _, 2, .int val, rfl, rfl, SqL.of ha, atI_nat (j := 2) rfl, _, rfl, _, _, rfl, rfl, ⟨hb, hb2⟩, .ref a, rfl, a, _, 2, 2, rfl, rfl, ha, rfl, _, rfl, ?_⟩
      exact q _ _ (Int.emod_nonneg _ (by omega)) (Int.emod_lt_of_pos _ hb) (b1.trans But.put) (Pen.put ha hl hp)
end
end Z

set_option Elab.async false
set_option linter.all false
set_option maxRecDepth 100000
set_option maxHeartbeats 4000000
/-! operators and calls that the layer has for fewer numbers -/
namespace OPS
open PySem PySem.Spec PyProof.Rows L2
section
variable {X : Cx}
/-- a divisor of either sign -/
def CDivZ (_ j : Int) : Prop := j ≠ 0 ∧ j.natAbs.log2 < 9000
theorem op_fdivZ : OpR X (binaryOp .FloorDiv) (rI CDivZ fun i j => .int (i.fdiv j)) := opI fun _ _ _ _ _ _ _ c q => floordiv_int c.1 q (.inl (PyProof.noPylong_of_log2 c.2))
theorem call_divmodZ : CallR X (.builtin "divmod") (fun vs H Q => ∃ i j : Int, vs = [.int i, .int j] ∧ CDivZ i j ∧ ∀ p, H p = none → Q (.ref p) (upd H p (.tup [.int (i.fdiv j), .int (i.fmod j)]))) := by
  intro pins s σ H vs us Q I r h
  obtain ⟨i, j, ev, c, q⟩ := h
  subst ev
  obtain ⟨u, v, eu, ⟨t, et⟩, ⟨t', et'⟩⟩ := vals2 r
  subst eu et et'
  apply divmod_int c.1 _ (.inl (PyProof.noPylong_of_log2 c.2))
  have free : H s.heap.objs.size = none := I.hok.fresh (Nat.le_refl _)
  refine ⟨.ref s.heap.objs.size, _, I.laid (fun b o e => Heap.get?_push_of_some _ e) (Nat.le_refl _) ?_, rfl, q _ free⟩
  exact ⟨by show 2 ≤ sizeLine; decide, [.int (i.fdiv j) s.toks, .int (i.fmod j) (s.toks + 1)], .cons ⟨_, rfl⟩ (.cons ⟨_, rfl⟩ .nil), ⟨_, Heap.get?_push_size s.heap rfl, rfl, 0, rfl⟩⟩
/-- xs[i] as read ahead of xs[i] op= .. -/
theorem get_list : PGet X (fun o i H Q => ∃ (p : Addr) (xs : List V) (k : Nat) (v : V), o = .ref p ∧ i = .int (k : Int) ∧ SqL X.K H p xs ∧ xs[k]? = some v ∧ Q v H) := by
  intro pins s σ H o i ov iv Q I ro ri h
  obtain ⟨p, xs, k, v, eo, ei, hq, hv, q⟩ := h
  subst eo ei
  have eov : ov = Value.ref p := ro
  subst eov
  obtain ⟨t, et⟩ := ri
  subst et
  obtain ⟨its, r, pl, hz⟩ := I.list hq
  obtain ⟨u, hu, ru⟩ := r.get hv
  have lt : k < its.length := (List.getElem?_eq_some_iff.mp hu).1
  have hl := r.length
  have hn := line63
  refine wpAny_getItem_list pl.isList (by omega) (by omega) (x := u) (by simpa using hu) ⟨v, H, I, ru, q⟩
/-- any(xs), xs a list of ints -/
def rAnyI (K : PySem.W.Frag) : List V → Hp → VK → Prop := fun vs H Q => ∃ (a : Addr) (ns : List Int), vs = [.ref a] ∧ SqL K H a (ns.map V.int) ∧ Q (.bl (ns.any fun n => n != 0)) H
theorem dpI {K : PySem.W.Frag} {H : Hp} : ∀ ns : List Int, DpAll K H (ns.map V.int) (ns.map PyData.int)
  | [] => .nil
  | n :: r => .cons (.int n) (dpI r)
theorem plain_ints : ∀ ns : List Int, PyData.plainAll (ns.map PyData.int) = true
  | [] => rfl
  | _ :: r => by simp [PyData.plainAll, PyData.plain, plain_ints r]
theorem any_truthy : ∀ ns : List Int, (ns.map PyData.int).any PyData.truthy = ns.any fun n => n != 0
  | [] => rfl
  | n :: r => by simp [PyData.truthy, List.any_map]; rfl
theorem call_anyI (calm : X.calm = true) : CallR X (.builtin "any") (rAnyI X.K) := by
  intro pins s σ H vs us Q I r h
  obtain ⟨a, ns, ev, hs, q⟩ := h
  subst ev
  rw [Vals.ref1 r]
  obtain ⟨as, reads⟩ := Dp.reads I (.list (ns.map PyData.int)) (.ref a) (.ref a) (.lst hs (dpI ns)) rfl
  obtain ⟨its, rv, hl, _⟩ := I.list hs
  cases reads with
  | list hg hc hd hr =>
    rename_i o vs n bs
    refine PySem.W.any_list_data (vs := vs) (I.ok.hd calm) ⟨_, hg, hc, _, hd⟩ hr (plain_ints ns) (fun x hx => ?_) fun h' tk hk => ?_
    · obtain ⟨n, _, rfl⟩ := List.mem_map.mp hx
      trivial
    · exact ⟨.bl _, H, I.kept hk, by rw [any_truthy]; rfl, q⟩
end
end OPS

set_option Elab.async false
set_option linter.all false
set_option maxRecDepth 100000
/-! any over a tuple of ints; isinstance within comprehensions -/
namespace ANT
open PySem PySem.Spec PyProof.Rows L2 GG OPS
variable {X : Cx}
def rAnyT (K : PySem.W.Frag) : List V → Hp → VK → Prop := fun vs H Q => ∃ (a : Addr) (ns : List Int), vs = [.ref a] ∧ SqT K H a (ns.map V.int) ∧ Q (.bl (ns.any fun n => n != 0)) H
theorem call_anyT (calm : X.calm = true) : CallR X (.builtin "any") (rAnyT X.K) := by
  intro pins s σ H vs us Q I r h
  obtain ⟨a, ns, ev, hs, q⟩ := h
  subst ev
  rw [Vals.ref1 r]
  obtain ⟨as, reads⟩ := Dp.reads I (.tuple (ns.map PyData.int)) (.ref a) (.ref a) (.tup hs (dpI ns)) rfl
  cases reads with
  | tuple hg hc hd hr =>
    rename_i o vs n
    refine PySem.W.any_tuple_data (vs := vs) (I.ok.hd calm) ⟨_, hg, hc, _, hd⟩ hr (plain_ints ns) (fun x hx => ?_) fun h' tk hk => ?_
    · obtain ⟨n, _, rfl⟩ := List.mem_map.mp hx
      trivial
    · exact ⟨.bl _, H, I.kept hk, by rw [any_truthy]; rfl, q⟩
theorem call_isiK {K : PySem.W.Frag} (hK : X.K = K) : CallR X (.builtin "isinstance") (rIsi K) := by
  subst hK
  exact call_isi
end ANT

set_option Elab.async false
set_option linter.all false
set_option maxRecDepth 100000
set_option maxHeartbeats 4000000
/-! data with empty dicts in it, and its text: lists that do not lie at the address of sys.modules -/
namespace TPD
open PySem PySem.Spec PyProof.Rows L2 GG
mutual
inductive Tp (K : PySem.W.Frag) (H : Hp) : V → PyData → Prop
  | non : Tp K H .non .none
  | bl (b : Bool) : Tp K H (.bl b) (.bool b)
  | int (i : Int) : Tp K H (.int i) (.int i)
  | str (x : Str) : Tp K H (.str x) (.str x)
  | lst {a : Addr} {xs : List V} {ds : List PyData} : sysModules < a → SqL K H a xs → TpAll K H xs ds → Tp K H (.ref a) (.list ds)
  | tup {a : Addr} {xs : List V} {ds : List PyData} : SqT K H a xs → TpAll K H xs ds → Tp K H (.ref a) (.tuple ds)
  | dic {a : Addr} : H a = some (.dK []) → Tp K H (.ref a) (.dict [])
inductive TpAll (K : PySem.W.Frag) (H : Hp) : List V → List PyData → Prop
  | nil : TpAll K H [] []
  | cons {v : V} {vs : List V} {d : PyData} {ds : List PyData} : Tp K H v d → TpAll K H vs ds → TpAll K H (v :: vs) (d :: ds)
end
section
variable {X : Cx} {pins : List (Addr × Obj)} {σ : L2.St} {H : Hp} {s : Shared}
mutual
theorem Tp.reads (I : Inv X pins σ H s) : ∀ (d : PyData) (v : V) (u : Value), Tp X.K H v d → RelV v u → ∃ as, Reads s.heap u d as ∧ sysModules ∉ as
  | .none, _, _, h, r => by
    cases h
    cases r
    exact ⟨_, Reads.none, by simp⟩
  | .bool b, _, _, h, r => by
    cases h
    cases r
    exact ⟨_, Reads.bool b, by simp⟩
  | .int i, _, _, h, r => by
    cases h
    obtain ⟨t, rfl⟩ := r
    exact ⟨_, Reads.int i t, by simp⟩
  | .str x, _, _, h, r => by
    cases h
    obtain ⟨t, rfl⟩ := r
    exact ⟨_, Reads.str x t, by simp⟩
  | .list ds, _, _, h, r => by
    cases h with
    | lst hb hs ha =>
      cases r
      obtain ⟨its, rv, ⟨o, n, ho, hc, _, hd⟩, _⟩ := I.list hs
      obtain ⟨as, hr, na⟩ := Tp.readsAll I ds _ its ha rv
      exact ⟨_, Reads.list ho hc hd hr, fun m => by
        rcases List.mem_cons.mp m with e | m
        · rw [← e] at hb
          exact Nat.lt_irrefl _ hb
        · exact na m⟩
  | .tuple ds, _, _, h, r => by
    cases h with
    | tup hs ha =>
      cases r
      obtain ⟨its, rv, ⟨o, ho, hc, n, hd⟩, _⟩ := I.tuple hs
      obtain ⟨as, hr, na⟩ := Tp.readsAll I ds _ its ha rv
      exact ⟨_, Reads.tuple ho hc hd hr, na⟩
  | .dict kvs, _, _, h, r => by
    cases h with
    | @dic a e =>
      cases r
      obtain ⟨_, low, vs, kv, dd⟩ := dk_of I.hok e
      cases kv
      obtain ⟨o, es, ep, ho, ex, hdt, _, pr, _⟩ := dd
      have hl := pr.length
      have e0 : es.toList = [] := List.length_eq_zero_iff.mp hl
      refine ⟨_, Reads.dict ho ex.1 hdt (as := []) (bs := []) (by rw [e0]; exact .nil) (by rw [e0]; exact .nil), fun m => ?_⟩
      have h2 : sysModules = a := by simpa using m
      rw [← h2] at low
      simp at low
theorem Tp.readsAll (I : Inv X pins σ H s) : ∀ (ds : List PyData) (vs : List V) (us : List Value), TpAll X.K H vs ds → Vals vs us → ∃ as, ReadsAll s.heap us ds as ∧ sysModules ∉ as
  | [], _, _, h, r => by
    cases h
    cases r
    exact ⟨_, ReadsAll.nil, by simp⟩
  | d :: ds, _, _, h, r => by
    cases h with
    | cons h1 h2 =>
      cases r with
      | cons r1 r2 =>
        obtain ⟨as, q1, n1⟩ := Tp.reads I d _ _ h1 r1
        obtain ⟨bs, q2, n2⟩ := Tp.readsAll I ds _ _ h2 r2
        exact ⟨_, ReadsAll.cons q1 q2, fun m => by
          rcases List.mem_append.mp m with m | m
          · exact n1 m
          · exact n2 m⟩
end
end
section
variable {X : Cx}
/-- repr of such data -/
structure ShowsT (d : PyData) : Prop where
  s : d.showable = true
  p : d.depth ≤ 50
  z : d.shown.length ≤ sizeLine
def rReprT (K : PySem.W.Frag) : List V → Hp → VK → Prop := fun vs H Q => ∃ (a : Addr) (d : PyData), vs = [.ref a] ∧ Tp K H (.ref a) d ∧ ShowsT d ∧ Q (.str d.shown) H
theorem call_reprT {k : Nat} (hg : X.A.guards = some []) (room : Room k X.A) : CallR X (.builtin "repr") (rReprT X.K) := by
  intro pins s σ H vs us Q I r h
  obtain ⟨a, d, rfl, hd, hs, q⟩ := h
  obtain ⟨u, rfl, ru⟩ := vals1 r
  have eu : u = Value.ref a := ru
  subst eu
  obtain ⟨as, reads, na⟩ := Tp.reads I d (.ref a) (.ref a) hd rfl
  have hu := room.un
  have hp := hs.p
  refine repr_of_reads' reads hs.s (fun _ => na) hg (by omega) (fun _ _ e => e) (fun h' u tk hk => ?_) hs.z
  exact ⟨.str d.shown, H, I.kept hk, ⟨u, rfl⟩, q⟩
/-- [..]: a new list, and where it does not lie -/
def tLstS (t : TA) : TE := fun σ H Q => t σ H fun xs H1 => xs.length ≤ sizeLine ∧ ∀ l, sysModules < l → H1 l = none → Q (.ref l) (upd H1 l (.lst xs))
variable {es : List Expr} {t : TA} {pos : Pos}
theorem pe_lstS (h : PA X es t) : PE X (.List es pos) (tLstS t) := by
  refine ⟨fun pins s σ H Q I hq => ?_⟩
  refine wpAny_List_spliced (thn (h.run pos pins s σ H _ I hq) fun us s1 ⟨xs, H1, I1, r, z, q⟩ => ⟨by rw [← r.length]; exact z, ?_⟩)
  have hf : H1 s1.heap.objs.size = none := I1.hok.fresh (Nat.le_refl _)
  refine ⟨.ref s1.heap.objs.size, upd H1 s1.heap.objs.size (.lst xs), I1.laid (t' := s1.toks) (fun b u e => Heap.get?_push_of_some _ e) (Nat.le_refl _) ?_, rfl, q _ I1.big hf⟩
  exact ⟨z, us, 0, r, Heap.get?_push_size _ rfl⟩
/-- list(x): a new list, and where it does not lie -/
theorem call_listS : CallR X (.type "list") (fun xs H Q => ∃ p ys, xs = [.ref p] ∧ (SqL X.K H p ys ∨ SqT X.K H p ys) ∧ ∀ l, sysModules < l → H l = none → Q (.ref l) (upd H l (.lst ys))) := by
  intro pins s σ H xs us Q I r h
  obtain ⟨p, ys, rfl, hq, q⟩ := h
  obtain ⟨u, rfl, rx⟩ := vals1 r
  cases rx
  have fin : ∀ (its : List Value), Vals ys its → ys.length ≤ sizeLine → ∀ (h' : Heap) (c' : Nat), (∀ b o', s.heap.get? b = some o' → h'.get? b = some o') →
      h'.get? s.heap.objs.size = some { cls := .type "list", dict := none, data := .seq its.toArray c', slots := #[] } → EP X pins σ Q (.ref s.heap.objs.size) { s with heap := h' } := fun its r' hz h' c' kp e =>
    ⟨.ref s.heap.objs.size, _, I.laid (t' := s.toks) kp (Nat.le_refl _) (show ObjOk X.prog X.w _ h' _ (.lst ys) from ⟨hz, its, c', r', e⟩), rfl, q _ I.big (I.hok.fresh (Nat.le_refl _))⟩
  rcases hq with hq | hq
  · obtain ⟨its, r', pl, hz⟩ := I.list hq
    have hlen := r'.length
    obtain ⟨o, ho, hc, n, hd⟩ := pl.isList
    exact call_list_seq p (.inl rfl) ho hc hd (fun h' c' kp e => fin its r' hz h' c' kp e) (by simp only [List.size_toArray] <;> omega)
  · obtain ⟨its, r', pl, hz⟩ := I.tuple hq
    have hlen := r'.length
    obtain ⟨o, ho, hc, n, hd⟩ := pl
    exact call_list_seq p (.inr rfl) ho hc hd (fun h' c' kp e => fin its r' hz h' c' kp e) (by simp only [List.size_toArray] <;> omega)
end
end TPD

set_option Elab.async false
set_option linter.all false
set_option maxRecDepth 100000
set_option maxHeartbeats 4000000
/-! kinds of data -/
namespace TPD
open PySem PySem.Spec PyProof.Rows L2 GG
def tyD : PyData → String
  | .none => "NoneType"
  | .bool _ => "bool"
  | .int _ => "int"
  | .str _ => "str"
  | .list _ => "list"
  | .tuple _ => "tuple"
  | .dict _ => "dict"
theorem kit_int : ∀ d : PyData, kitB (tyD d) "int" = some (match d with | .int _ => true | .bool _ => true | _ => false)
  | .none => by decide +kernel
  | .bool _ => by show kitB "bool" "int" = some true; decide +kernel
  | .int _ => by show kitB "int" "int" = some true; decide +kernel
  | .str _ => by show kitB "str" "int" = some false; decide +kernel
  | .list _ => by show kitB "list" "int" = some false; decide +kernel
  | .tuple _ => by show kitB "tuple" "int" = some false; decide +kernel
  | .dict _ => by show kitB "dict" "int" = some false; decide +kernel
theorem kit_bool : ∀ d : PyData, kitB (tyD d) "bool" = some (match d with | .bool _ => true | _ => false)
  | .none => by decide +kernel
  | .bool _ => by show kitB "bool" "bool" = some true; decide +kernel
  | .int _ => by show kitB "int" "bool" = some false; decide +kernel
  | .str _ => by show kitB "str" "bool" = some false; decide +kernel
  | .list _ => by show kitB "list" "bool" = some false; decide +kernel
  | .tuple _ => by show kitB "tuple" "bool" = some false; decide +kernel
  | .dict _ => by show kitB "dict" "bool" = some false; decide +kernel
theorem kit_tup : ∀ d : PyData, kitB (tyD d) "tuple" = some (match d with | .tuple _ => true | _ => false)
  | .none => by decide +kernel
  | .bool _ => by show kitB "bool" "tuple" = some false; decide +kernel
  | .int _ => by show kitB "int" "tuple" = some false; decide +kernel
  | .str _ => by show kitB "str" "tuple" = some false; decide +kernel
  | .list _ => by show kitB "list" "tuple" = some false; decide +kernel
  | .tuple _ => by show kitB "tuple" "tuple" = some true; decide +kernel
  | .dict _ => by show kitB "dict" "tuple" = some false; decide +kernel
theorem sql_ty {K : PySem.W.Frag} {H : Hp} {a : Addr} {xs : List V} (h : SqL K H a xs) : TyX K H (.ref a) (.type "list") := by
  rcases h with (h | ⟨o, h⟩) | ⟨o, its, n, e, c, _⟩
  · exact .base (.lst h)
  · exact .base (.frz h)
  · exact .kList e c
theorem sqt_ty {K : PySem.W.Frag} {H : Hp} {a : Addr} {xs : List V} (h : SqT K H a xs) : TyX K H (.ref a) (.type "tuple") := by
  rcases h with (h | ⟨o, h⟩) | ⟨o, its, n, e, c, _⟩
  · exact .base (.tup h)
  · exact .fTuple h
  · exact .kTuple e c
theorem Tp.ty {K : PySem.W.Frag} {H : Hp} {v : V} {d : PyData} (h : Tp K H v d) : TyX K H v (.type (tyD d)) := by
  cases h with
  | non => exact .base .non
  | bl b => exact .base (.bl b)
  | int i => exact .base (.int i)
  | str x => exact .base (.str x)
  | lst _ s _ => exact sql_ty s
  | tup s _ => exact sqt_ty s
  | dic e => exact .base (.dK e)
theorem sqt_same {K : PySem.W.Frag} {H H' : Hp} {a : Addr} {xs : List V} (s : Same H H') (h : SqT K H a xs) : SqT K H' a xs := by
  rcases h with (h | ⟨o, h⟩) | h
  · exact .inl (.inl (s _ _ h))
  · exact .inl (.inr ⟨o, s _ _ h⟩)
  · exact .inr h
theorem sql_same {K : PySem.W.Frag} {H H' : Hp} {a : Addr} {xs : List V} (s : Same H H') (h : SqL K H a xs) : SqL K H' a xs := by
  rcases h with (h | ⟨o, h⟩) | h
  · exact .inl (.inl (s _ _ h))
  · exact .inl (.inr ⟨o, s _ _ h⟩)
  · exact .inr h
mutual
theorem Tp.same {K : PySem.W.Frag} {H H' : Hp} (s : Same H H') : ∀ (d : PyData) (v : V), Tp K H v d → Tp K H' v d
  | .none, _, h => by cases h; exact .non
  | .bool b, _, h => by cases h; exact .bl b
  | .int i, _, h => by cases h; exact .int i
  | .str x, _, h => by cases h; exact .str x
  | .list ds, _, h => by
    cases h with
    | lst hb hs ha => exact .lst hb (sql_same s hs) (Tp.sameAll s ds _ ha)
  | .tuple ds, _, h => by
    cases h with
    | tup hs ha => exact .tup (sqt_same s hs) (Tp.sameAll s ds _ ha)
  | .dict _, _, h => by
    cases h with
    | dic e => exact .dic (s _ _ e)
theorem Tp.sameAll {K : PySem.W.Frag} {H H' : Hp} (s : Same H H') : ∀ (ds : List PyData) (vs : List V), TpAll K H vs ds → TpAll K H' vs ds
  | [], _, h => by cases h; exact .nil
  | d :: ds, _, h => by
    cases h with
    | cons h1 h2 => exact .cons (Tp.same s d _ h1) (Tp.sameAll s ds _ h2)
end
end TPD

set_option Elab.async false
set_option linter.all false
set_option maxRecDepth 100000
set_option maxHeartbeats 4000000
/-! any data with empty dicts, compared with a text -/
namespace EQD
open PySem PySem.Spec PyProof.Rows L2 GG TPD
theorem not_by_dict (d : Addr) (data : Data) (dd : Option Addr) (sl : Array (Option Value)) (b : Str) (u : Tok) :
    Meets (Builtin.«dict.__eq__» ⟨[.ref d, .str b u], []⟩) (fun _ R s => s.heap.get? d = some { cls := .type "dict", dict := dd, data := data, slots := sl } ∧ R (.ok (.ret .notImplemented)) s) := by
  refine .of_wp fun prog w A R s h => ?_
  obtain ⟨hp, g, dr, tk, os⟩ := s
  obtain ⟨here, h⟩ := h
  have no := F.sub_str_dict
  wp_walk using wpAny_loadPart' here, wpAny_load here
  exact ⟨_, rfl, h⟩
theorem not_by_text (b : Str) (u : Tok) (d : Addr) (es : Array DictEntry) (ep : Nat) (dd : Option Addr) (sl : Array (Option Value)) :
    Meets (Builtin.«str.__eq__» ⟨[.str b u, .ref d], []⟩) (fun _ R s => s.heap.get? d = some { cls := .type "dict", dict := dd, data := .dict es ep, slots := sl } ∧ R (.ok (.ret .notImplemented)) s) := by
  refine .of_wp fun prog w A R s h => ?_
  obtain ⟨hp, g, dr, tk, os⟩ := s
  obtain ⟨here, h⟩ := h
  have no := F.sub_dict_str
  wp_walk using wpAny_loadPart' here, wpAny_load here
  exact ⟨_, rfl, h⟩
section
variable {A : Around} {s : Shared}
theorem empty_text {d : Addr} {o : Obj} {es : Array DictEntry} {ep : Nat} (b : Str) (u : Tok) (ho : s.heap.get? d = some o) (hc : o.cls = .type "dict") (hd : o.data = .dict es ep) (hu : A.units < cLine) : SeqAt.RcAt A s (.ref d) (.str b u) false := by
  intro prog w E Q h
  obtain ⟨cls, dd, data, sl⟩ := o
  simp only at hc hd
  subst hc hd
  refine SeqAt.rc_eq_decline_or (k := false) ⟨_, ho, rfl⟩ (typeIs_str s b u) (by decide) F.sub_str_dict F.slot_dict_eq F.slot_str_eq_refl (fun Q' hq => ?_) (fun Q' hq => ?_) (fun Q' hq => ?_) (.inr hu) h
  · exact call_meets F.slot_dict_eq ⟨_, ho, rfl⟩ F.entry_dict_eq (F.args_dict_eq_2 _ _) (not_by_dict d _ dd sl b u) ⟨ho, hq⟩
  · exact call_meets F.slot_str_eq_refl (typeIs_str s b u) F.entry_str_eq (F.args_str_eq_2 _ _) (not_by_text b u d es ep dd sl) ⟨ho, hq⟩
  · exact wpAny_of_eq (rfl : isSame (.ref d) (.str b u) = pure false) hq
end
section
variable {X : Cx}
/-- is it that text? -/
def isText (d : PyData) (b : Str) : Bool := match d with
  | .str x => x == b
  | _ => false
def rText (K : PySem.W.Frag) : R2 := fun x y H Q => ∃ (d : PyData) (b : Str), Tp K H x d ∧ y = .str b ∧ Q (.bl (isText d b)) H
theorem op_text {K : PySem.W.Frag} (hK : X.K = K) (hu : X.A.units < cLine) : OpR X (compareOp .Eq) (rText K) := by
  subst hK
  intro pins s σ H x y v u Q I rx ry h
  obtain ⟨d, b, hd, rfl, q⟩ := h
  obtain ⟨t, rfl⟩ := ry
  have fin : ∀ c : Bool, isText d b = c → EP X pins σ Q (.bool c) s := fun c e => ⟨.bl c, H, I, rfl, by rw [← e]; exact q⟩
  cases hd with
  | non =>
    cases rx
    exact SeqAt.RcAt.none_str b t _ _ _ _ (fin false rfl)
  | bl c =>
    cases rx
    exact SeqAt.RcAt.bool_str c b t _ _ _ _ (fin false rfl)
  | int i =>
    obtain ⟨t2, rfl⟩ := rx
    exact SeqAt.RcAt.int_str i t2 b t _ _ _ _ (fin false rfl)
  | str z =>
    obtain ⟨t2, rfl⟩ := rx
    exact SeqAt.RcAt.str_str z t2 b t _ _ _ _ (fin (z == b) rfl)
  | lst hb hs ha =>
    cases rx
    obtain ⟨its, rv, pl, _⟩ := I.list hs
    exact SeqAt.RcAt.list_str b t pl.isList hu _ _ _ _ (fin false rfl)
  | tup hs ha =>
    cases rx
    obtain ⟨its, rv, pl, _⟩ := I.tuple hs
    exact SeqAt.RcAt.tuple_str b t pl hu _ _ _ _ (fin false rfl)
  | dic e =>
    cases rx
    obtain ⟨_, low, vs, kv, dd⟩ := dk_of I.hok e
    obtain ⟨o, es, ep, ho, ex, hdt, _, _, _⟩ := dd
    exact empty_text b t ho ex.1 hdt hu _ _ _ _ (fin false rfl)
end
end EQD

set_option Elab.async false
set_option maxRecDepth 100000
set_option maxHeartbeats 4000000
/-! enumerate(t), t a tuple -/
namespace EN
open PySem PySem.Spec PyProof.Rows L2
open Sem (wp)
theorem new_enum {v : Value} {o : Obj} {G : Heap → Prop} (B : Begins v o G) :
    Meets (Builtin.«enumerate.__new__» ⟨[.type "enumerate", v], []⟩) (fun _ R s => G s.heap ∧
      R (.ok (.ret (.ref (s.heap.push o).objs.size)))
        { s with heap := (s.heap.push o).push { cls := .type "enumerate", data := .fields #[.none, .bool false, .ref s.heap.objs.size, rawInt 0, .none, .none] } }) := by
  refine .of_wp fun prog w A R s h => ?_
  obtain ⟨hp, g, d, tk, os⟩ := s
  obtain ⟨hG, h⟩ := h
  have sub := sub_enumerate
  have begin_ : ∀ {A' : Around} {E : Value → Shared → Prop} {Q : Value → Shared → Prop}, Q (.ref hp.objs.size) ⟨hp.push o, g, d, tk, os⟩ →
      wpAny (model prog w) A' (pyIter v) Q E ⟨hp, g, d, tk, os⟩ := fun q => B.iter prog w _ _ ⟨hp, g, d, tk, os⟩ _ hG q
  wp_walk using begin_
  refine wpAny_stack_any fun st => wpAny_pure ?_
  split
  · rename_i c _ _ _ _ _
    cases (c == Value.type "enumerate")
    all_goals
      wp_walk using begin_
      exact ⟨_, rfl, h⟩
  · wp_walk using begin_
    exact ⟨_, rfl, h⟩
theorem call_enum {prog : Program} {w : World} {A : Around} {E : Value → Shared → Prop} {s : Shared} {v : Value} {o : Obj} {G : Heap → Prop} {Q : Value → Shared → Prop} (B : Begins v o G) (hG : G s.heap)
    (h : ∀ h', IsEnum h' (s.heap.objs.size + 1) s.heap.objs.size 0 .none → h'.get? s.heap.objs.size = some o →
      (∀ b u, s.heap.get? b = some u → h'.get? b = some u) → Q (.ref (s.heap.objs.size + 1)) { s with heap := h' }) :
    wpAny (model prog w) A (call (.type "enumerate") [v]) Q E s := by
  apply callType_new F.called_enumerate (by decide) (F.typeCall_enumerate_1 _) (F.newCall_enumerate_1 _) (fun obj => F.args_object_init_2 obj _) F.entry_enumerate_new (new_enum B)
  refine ⟨hG, ?_⟩
  have size : (s.heap.push o).objs.size = s.heap.objs.size + 1 := Heap.size_push ..
  show _ ∧ _
  rw [size]
  have made : IsEnum ((s.heap.push o).push { cls := .type "enumerate", data := .fields #[.none, .bool false, .ref s.heap.objs.size, rawInt 0, .none, .none] }) (s.heap.objs.size + 1) s.heap.objs.size 0 .none := by
    have e := Heap.get?_push_size (s.heap.push o) (o := { cls := .type "enumerate", data := .fields #[.none, .bool false, .ref s.heap.objs.size, rawInt 0, .none, .none] }) rfl
    rwa [size] at e
  refine ⟨⟨_, made, rfl⟩, h _ made ?_ ?_⟩
  · exact Heap.get?_push_of_some _ (Heap.get?_push_size _ B.free)
  · intro b u e
    exact Heap.get?_push_of_some _ (Heap.get?_push_of_some _ e)

/-- the tuple at a, each item in a new pair with its place -/
def Pairs (K : PySem.W.Frag) (a : Addr) : It where
  go := fun i H => ∃ (xs : List V) (x : V), SqT K H a xs ∧ xs[i]? = some x
  yld := fun i H v H' => ∃ T x, v = .ref T ∧ H T = none ∧ H' = upd H T (.tup [.int (i : Nat), x]) ∧ ∀ xs, SqT K H a xs → xs[i]? = some x
  stop := fun i H => ∃ xs : List V, SqT K H a xs ∧ xs.length ≤ i
theorem turn_pairs {P : Program} {w : World} {K : PySem.W.Frag} {elts : List Expr} {kk : Nat} {tpos : Pos} (a e it : Addr) :
    Turn P w K (.Tuple elts kk tpos) (Pairs K a) [e, it] e (fun i h => (∃ old, IsEnum h e it ((i : Nat) : Int) old) ∧ h.IsTupleIter it a i ∧ e ≠ it) where
  mem := List.mem_cons_self ..
  obj := by
    rintro i h ⟨⟨old, he⟩, ⟨o, ho, hc, hd⟩, _⟩ b hb
    simp only [List.mem_cons, List.not_mem_nil, or_false] at hb
    rcases hb with rfl | rfl
    · exact ⟨_, he, fun v q => nomatch q⟩
    · exact ⟨o, ho, fun v q => by rw [hd] at q; cases q⟩
  keep := by
    rintro i h h' ⟨⟨old, he⟩, hi, hne⟩ k
    exact ⟨⟨old, k e (by simp) _ he⟩, hi.at fun o q => k it (by simp) o q, hne⟩
  item := by
    intro X hP hw hK calm i pins s σ H E I hf st hg
    subst hP hw hK
    obtain ⟨⟨old, he⟩, hit, hne⟩ := st
    obtain ⟨xs, x, hq, hx⟩ := hg
    obtain ⟨its, rv, p, hz⟩ := I.tuple hq
    obtain ⟨u, hu, ru⟩ := rv.get hx
    have le : e < s.heap.objs.size := Heap.lt_size he
    have li : it < s.heap.objs.size := by obtain ⟨_, q, _⟩ := hit; exact Heap.lt_size q
    have tup : s.heap.IsTuple a its.toArray := p
    have nai : a ≠ it := by
      rintro rfl
      obtain ⟨o1, q1, c1, _⟩ := tup
      obtain ⟨o2, q2, c2, _⟩ := hit
      rw [q1] at q2
      cases q2
      rw [c1] at c2
      injection c2 with c3
      exact absurd c3 (by decide)
    have nae : a ≠ e := by
      rintro rfl
      obtain ⟨o1, q1, c1, _⟩ := tup
      have q2 : s.heap.get? a = _ := he
      rw [q1] at q2
      cases q2
      injection c1 with c3
      exact absurd c3 (by decide)
    have lt : i < its.toArray.size := by
      have := (List.getElem?_eq_some_iff.mp hu).1
      simpa using this
    refine wpAny_pyNext_enum_itemD (Draws.tuple (A := X.A.in1) (by exact I.ok.hd calm) it a nai its.toArray) he ⟨hit, tup⟩ lt hne (by simp [hne, Ne.symm nae]) fun y h' tk hy ho st' hT hsz hk => ?_
    have ey : y = u := by
      have : its.toArray[i]? = some u := by simpa using hu
      exact Option.some.inj (hy.symm.trans this)
    subst ey
    refine ⟨_, rfl, wpAny_letOwnedTupleGo_enum (s := { s with heap := h', toks := tk + 1 }) ho fun h2 he2 sb => ?_⟩
    have sb' : Heap.SameBut e h' h2 := sb
    have hT2 : h2.get? s.heap.objs.size = some { cls := .type "tuple", data := .seq #[.int i tk, y] } := (sb'.2 _ (Nat.ne_of_gt le)).trans hT
    have new : ObjOk X.prog X.w (upd H s.heap.objs.size (.tup [.int (i : Nat), x])) h2 s.heap.objs.size (.tup [.int (i : Nat), x]) :=
      ⟨by show 2 ≤ sizeLine; decide, [.int i tk, y], .cons ⟨_, rfl⟩ (.cons ru .nil), ⟨_, hT2, rfl, _, rfl⟩⟩
    have I2 : Inv X pins σ (upd H s.heap.objs.size (.tup [.int (i : Nat), x])) { s with heap := h2, toks := tk + 1 } := by
      refine I.turnedNew (ch := [e, it]) (fun b ob hb q => ?_) hf (Nat.le_refl _) new
      have ne : b ≠ e := fun z => hb (by simp [z])
      have ni : b ≠ it := fun z => hb (by simp [z])
      exact (sb'.2 b ne).trans (hk b ob ne ni q)
    refine ⟨.ref s.heap.objs.size, _, I2, rfl, ⟨_, x, rfl, I.hok.fresh (Nat.le_refl _), rfl, fun ys hy => by rw [I.tuple_inj hy hq]; exact hx⟩, ⟨⟨y, ?_⟩, st'.1.at fun o q => (sb'.2 it (Ne.symm hne)).trans q, hne⟩, fun b hb => ?_⟩
    · have e1 : ((i + 1 : Nat) : Int) = (i : Int) + 1 := by omega
      rw [e1]
      exact he2
    · have lb : b < s.heap.objs.size := by
        simp only [List.mem_cons, List.not_mem_nil, or_false] at hb
        rcases hb with rfl | rfl
        · exact le
        · exact li
      rw [upd_ne (Nat.ne_of_lt lb)]
      exact (hf b hb).1
  done := by
    intro X hP hw hK calm i pins s σ H E I hf st hg
    subst hP hw hK
    obtain ⟨⟨old, he⟩, hit, hne⟩ := st
    obtain ⟨xs, hq, hx⟩ := hg
    obtain ⟨its, rv, p, hz⟩ := I.tuple hq
    have tup : s.heap.IsTuple a its.toArray := p
    have nai : a ≠ it := by
      rintro rfl
      obtain ⟨o1, q1, c1, _⟩ := tup
      obtain ⟨o2, q2, c2, _⟩ := hit
      rw [q1] at q2
      cases q2
      rw [c1] at c2
      injection c2 with c3
      exact absurd c3 (by decide)
    obtain ⟨f0, f1, f2, f3, f4, f5⟩ := hf it (by simp)
    have hl := rv.length
    have none_ : its.toArray[i]? = none := by simp; omega
    have hT : s.TypeIs (.ref e) "enumerate" := ⟨_, he, rfl⟩
    unfold pyNext
    refine wpAny_bind (wpAny_attempt (wpAny_callSpecial?_slot (name := Str.ofString "__next__") hT F.slot_enumerate_next
      (wpAny_call_entry F.slot_enumerate_next hT F.entry_enumerate_next ?_ (F.args_enumerate_next_1 _))))
    show wpAny _ _ (field (.ref e) 2 >>= _) _ _ _
    refine wpAny_bind (wpAny_field he rfl (x := .ref it) rfl ?_)
    refine wpAny_bind (wpAny_nextOf_tuple_end (I.ok.hd calm) hit tup none_ fun h' x he' hx' => ?_)
    obtain ⟨o, ho, hc⟩ := hx'
    refine wpAny_bind (wpAny_isInstance (T := "StopIteration") (b := true) ⟨o, ho, hc⟩ isSubtype_stop ?_)
    refine wpAny_pure ⟨rfl, ?_⟩
    exact I.turned (t' := s.toks) (fun b o hb q => he' b o hb q) f0 f1 f3 f4 f5
  self := by
    rintro A i s Q E ⟨⟨old, he⟩, _⟩ h
    exact wpAny_pyIter_enum he h
section
variable {X : Cx}
def tPairs (K : PySem.W.Frag) (ta : TA) : TI := fun σ H R => ta σ H fun vs H1 => ∃ a xs, vs = [.ref a] ∧ SqT K H1 a xs ∧ R (Pairs K a) H1
theorem pi_pairs {e : Expr} {ta : TA} {p pos tpos : Pos} {elts : List Expr} {kk : Nat} (glob : Gl X "enumerate") (none_ : X.mg "enumerate" = none) (args : PA X [e] ta)
    (star : starEach [e] X.env = [(false, eval e X.env)] := by rfl) : PI X (.Tuple elts kk tpos) (.Call (.Name "enumerate" p) [e] [] pos) (tPairs X.K ta) := by
  constructor
  intro pins s σ H R I h
  refine Call_ (ld_blt I glob none_ boot_enumerate ?_)
  refine PyProof.Rows.callWith_type1 (thn (args.run pos pins s σ H _ I h) fun us s1 got => ?_) star rfl
  obtain ⟨vs, H1, I1, r1, a, xs, ex, hq, q⟩ := got
  subst ex
  obtain ⟨u, eu, ru⟩ := vals1 r1
  subst eu
  have eu : u = Value.ref a := ru
  subst eu
  obtain ⟨its, rv, p', hz⟩ := I1.tuple hq
  refine call_enum (begins_tuple a its.toArray) p' fun h' he hit hk => wpAny_pyIter_enum he ?_
  have I2 : Inv X pins σ H1 { s1 with heap := h' } := I1.kept (t' := s1.toks) hk
  refine ⟨s1.heap.objs.size + 1, [s1.heap.objs.size + 1, s1.heap.objs.size], _, _, H1, rfl, I2, turn_pairs a (s1.heap.objs.size + 1) s1.heap.objs.size, ⟨⟨.none, he⟩, ⟨_, hit, rfl, rfl⟩, Nat.succ_ne_self _⟩, fun b hb => ?_, q⟩
  have above : s1.heap.objs.size ≤ b := by
    simp only [List.mem_cons, List.not_mem_nil, or_false] at hb
    rcases hb with rfl | rfl
    · exact Nat.le_add_right _ _
    · exact Nat.le_refl _
  exact I1.fpOk above (I1.hok.fresh above)
/-- the loop over the pairs -/
theorem for_pairs {K : PySem.W.Frag} {a : Addr} {xs : List V} {g : TG} {tb : TS} {D : Ends} {σ : L2.St} {H : Hp} (Pv : Nat → L2.St → Hp → Prop) (h0 : Pv 0 σ H) (hl : ∀ i σ H, i ≤ xs.length → Pv i σ H → SqT K H a xs)
    (turn : ∀ i x σ H T, xs[i]? = some x → Pv i σ H → H T = none → g (.ref T) σ (upd H T (.tup [.int (i : Nat), x])) fun σ2 H2 => tb { D with nx := Pv (i + 1), ct := Pv (i + 1), bk := D.nx } σ2 H2) (done : ∀ σ H, Pv xs.length σ H → D.nx σ H) :
    ∃ W : Nat → Nat → L2.St → Hp → Prop, (∃ m, W 0 m σ H) ∧ ∀ i m σ H, W i m σ H →
      ((Pairs K a).stop i H ∧ D.nx σ H) ∨ ((Pairs K a).go i H ∧ ∃ N : L2.St → Hp → Prop, (∀ σ' H', N σ' H' → ∃ m', m' < m ∧ W (i + 1) m' σ' H') ∧ ∀ x H', (Pairs K a).yld i H x H' → g x σ H' fun σ2 H2 => tb { D with nx := N, ct := N, bk := D.nx } σ2 H2) := by
  refine ⟨fun i m σ H => m = xs.length - i ∧ i ≤ xs.length ∧ Pv i σ H, ⟨xs.length, by simp, Nat.zero_le _, h0⟩, ?_⟩
  rintro i m σ H ⟨rfl, le, pv⟩
  have here := hl i σ H le pv
  rcases Nat.lt_or_ge i xs.length with lt | ge
  · refine .inr ⟨⟨xs, xs[i], here, List.getElem?_eq_getElem lt⟩, Pv (i + 1), fun σ' H' n => ⟨xs.length - (i + 1), by omega, rfl, lt, n⟩, ?_⟩
    rintro v H' ⟨T, x, rfl, nT, rfl, hx⟩
    exact turn i x σ H T (hx xs here) pv nT
  · have e : i = xs.length := by omega
    subst e
    exact .inl ⟨⟨xs, here, Nat.le_refl _⟩, done σ H pv⟩
end
end EN

set_option Elab.async false
set_option linter.all false
set_option maxRecDepth 100000
set_option maxHeartbeats 4000000
/-! any data looked for in a tuple of texts -/
namespace INX
open PySem PySem.Spec PyProof.Rows L2 GG TPD EQD
section
variable {A : Around} {s : Shared}
theorem text_empty {d : Addr} {o : Obj} {es : Array DictEntry} {ep : Nat} (b : Str) (u : Tok) (ho : s.heap.get? d = some o) (hc : o.cls = .type "dict") (hd : o.data = .dict es ep) (hu : A.units < cLine) : SeqAt.RcAt A s (.str b u) (.ref d) false := by
  intro prog w E Q h
  obtain ⟨cls, dd, data, sl⟩ := o
  simp only at hc hd
  subst hc hd
  refine SeqAt.rc_eq_decline_or (k := false) (typeIs_str s b u) ⟨_, ho, rfl⟩ (by decide) F.sub_dict_str F.slot_str_eq F.slot_dict_eq_refl (fun Q' hq => ?_) (fun Q' hq => ?_) (fun Q' hq => ?_) (.inr hu) h
  · exact call_meets F.slot_str_eq (typeIs_str s b u) F.entry_str_eq (F.args_str_eq_2 _ _) (not_by_text b u d es ep dd sl) ⟨ho, hq⟩
  · exact call_meets F.slot_dict_eq_refl ⟨_, ho, rfl⟩ F.entry_dict_eq (F.args_dict_eq_2 _ _) (not_by_dict d _ dd sl b u) ⟨ho, hq⟩
  · exact wpAny_of_eq (rfl : isSame (.str b u) (.ref d) = pure false) hq
theorem textE_empty {d : Addr} {o : Obj} {es : Array DictEntry} {ep : Nat} (b : Str) (u : Tok) (ho : s.heap.get? d = some o) (hc : o.cls = .type "dict") (hd : o.data = .dict es ep) (hu : A.units < cLine) : SeqAt.EqAt A s (.str b u) (.ref d) false := fun prog w E Q h => by
  unfold eqBool
  refine wpAny_holding ?_
  refine wpAny_ite_split (fun hab => absurd (eq_of_beq hab) nofun) (fun _ => ?_)
  exact wpAny_bind (text_empty b u ho hc hd hu prog w E _ (wpAny_truthy_bool h))
end
section
variable {X : Cx}
def inTexts (d : PyData) (zs : List Str) : Bool := zs.any fun z => isText d z
def rInX (K : PySem.W.Frag) (f : Bool → Bool) : R2 := fun x y H Q => ∃ (d : PyData) (p : Addr) (zs : List Str), Tp K H x d ∧ y = .ref p ∧ SqT K H p (zs.map V.str) ∧ Q (.bl (f (inTexts d zs))) H
def eqT (d : PyData) (u : Value) : Bool := match u with
  | .str z _ => isText d z
  | _ => false
theorem isText_flip {x z : Str} : (z == x) = isText (.str x) z := by
  show (z == x) = (x == z)
  rw [Bool.eq_iff_iff]
  simp only [beq_iff_eq]
  exact eq_comm
theorem eq_text {pins : List (Addr × Obj)} {σ : L2.St} {H : Hp} {s : Shared} {A : Around} (I : Inv X pins σ H s) (hu : A.units < cLine) {x : V} {v : Value} {d : PyData} (hd : Tp X.K H x d) (rx : RelV x v) (z : Str) (t : Tok) : SeqAt.EqAt A s (.str z t) v (isText d z) := by
  cases hd with
  | non =>
    cases rx
    exact SeqAt.EqAt.str_none z t
  | bl c =>
    cases rx
    exact SeqAt.EqAt.str_bool z t c
  | int i =>
    obtain ⟨t2, rfl⟩ := rx
    exact SeqAt.EqAt.str_int z t i t2
  | str y =>
    obtain ⟨t2, rfl⟩ := rx
    have h := SeqAt.EqAt.str_str (A := A) (s := s) z t y t2
    rw [isText_flip] at h
    exact h
  | lst hb hs ha =>
    cases rx
    obtain ⟨its, rv, pl, _⟩ := I.list hs
    exact SeqAt.EqAt.str_list z t pl.isList hu
  | tup hs ha =>
    cases rx
    obtain ⟨its, rv, pl, _⟩ := I.tuple hs
    exact SeqAt.EqAt.str_tuple z t pl hu
  | dic e =>
    cases rx
    obtain ⟨_, low, vs, kv, dd⟩ := dk_of I.hok e
    obtain ⟨o, es, ep, ho, ex, hdt, _, _, _⟩ := dd
    exact textE_empty z t ho ex.1 hdt hu
theorem any_texts {d : PyData} : ∀ {zs : List Str} {us : List Value}, Vals (zs.map V.str) us → us.any (eqT d) = inTexts d zs
  | [], us, r => by
    cases r
    rfl
  | z :: zs, us, r => by
    cases r with
    | cons r1 r2 =>
      obtain ⟨t, rfl⟩ := r1
      show (isText d z || _) = (isText d z || _)
      rw [any_texts r2]
      rfl
theorem mem_texts : ∀ {zs : List Str} {us : List Value}, Vals (zs.map V.str) us → ∀ u ∈ us, ∃ z t, u = Value.str z t
  | [], us, r, u, hu => by
    cases r
    cases hu
  | z :: zs, us, r, u, hu => by
    cases r with
    | cons r1 r2 =>
      obtain ⟨t, rfl⟩ := r1
      rcases List.mem_cons.mp hu with rfl | hu
      · exact ⟨z, t, rfl⟩
      · exact mem_texts r2 u hu
theorem op_notInX {K : PySem.W.Frag} (hK : X.K = K) (hu : X.A.units + 1 < cLine) : OpR X (compareOp .NotIn) (rInX K fun b => !b) := by
  subst hK
  intro pins s σ H x y v u Q I rx ry h
  obtain ⟨d, p, zs, hd, rfl, hq, q⟩ := h
  cases ry
  obtain ⟨its, r, pl, hz⟩ := I.tuple hq
  refine SeqAt.notIn_tupleAt (eqT d) pl (fun w hw => ?_) ⟨.bl _, H, I, rfl, ?_⟩
  · obtain ⟨z, t, rfl⟩ := mem_texts r w (by simpa using hw)
    exact eq_text I hu hd rx z t
  · rw [show its.toArray.any (eqT d) = its.any (eqT d) by simp, any_texts r]
    exact q
theorem op_inX {K : PySem.W.Frag} (hK : X.K = K) (hu : X.A.units + 1 < cLine) : OpR X (compareOp .In) (rInX K fun b => b) := by
  subst hK
  intro pins s σ H x y v u Q I rx ry h
  obtain ⟨d, p, zs, hd, rfl, hq, q⟩ := h
  cases ry
  obtain ⟨its, r, pl, hz⟩ := I.tuple hq
  refine SeqAt.in_tupleAt (eqT d) pl (fun w hw => ?_) ⟨.bl _, H, I, rfl, ?_⟩
  · obtain ⟨z, t, rfl⟩ := mem_texts r w (by simpa using hw)
    exact eq_text I hu hd rx z t
  · rw [show its.toArray.any (eqT d) = its.any (eqT d) by simp, any_texts r]
    exact q
end
end INX

set_option Elab.async false
set_option linter.all false
set_option maxRecDepth 100000
set_option maxHeartbeats 4000000
namespace Z
open PySem PySem.Spec PyProof.Rows L2 GG TPD EQD
abbrev sII : Stmt := top 2
abbrev sIX : Stmt := top 3
abbrev sIT : Stmt := top 4
structure NamesI (mg : Str → Option Value) : Prop extends Names mg where
  isinstance : mg "isinstance" = none
theorem kit_str : ∀ d : PyData, kitB (tyD d) "str" = some (match d with | .str _ => true | _ => false)
  | .none => by decide +kernel
  | .bool _ => by show kitB "bool" "str" = some false; decide +kernel
  | .int _ => by show kitB "int" "str" = some false; decide +kernel
  | .str _ => by show kitB "str" "str" = some true; decide +kernel
  | .list _ => by show kitB "list" "str" = some false; decide +kernel
  | .tuple _ => by show kitB "tuple" "str" = some false; decide +kernel
  | .dict _ => by show kitB "dict" "str" = some false; decide +kernel
def numI : PyData → Bool
  | .int _ => true
  | _ => false
def idxD (n : Int) : PyData → Bool
  | .int i => decide (0 ≤ i) && decide (i < n)
  | _ => false
def tupD (n : Int) : PyData → Bool
  | .tuple ds => decide ((ds.length : Int) = n)
  | _ => false
theorem tpLen {K : PySem.W.Frag} {H : Hp} : ∀ {xs : List V} {ds : List PyData}, TpAll K H xs ds → xs.length = ds.length
  | _, _, .nil => rfl
  | _, _, .cons _ t => congrArg Nat.succ (tpLen t)
theorem tpGet {K : PySem.W.Frag} {H : Hp} : ∀ {xs : List V} {ds : List PyData}, TpAll K H xs ds → ∀ {j : Nat} {x : V}, xs[j]? = some x → ∃ d, ds[j]? = some d ∧ Tp K H x d
  | _, _, .nil, j, x, h => by simp at h
  | _, _, .cons a t, 0, x, h => by
    cases h
    exact ⟨_, rfl, a⟩
  | _, _, .cons a t, j + 1, x, h => tpGet t h
def itD (d : PyData) (i : Nat) : PyData := match d with
  | .tuple l => l.getD i .none
  | _ => .none
def intD (d : PyData) : Int := match d with
  | .int i => i
  | _ => 0
theorem tupD_of {n : Int} {d : PyData} (h : tupD n d = true) : ∃ l, d = .tuple l ∧ (l.length : Int) = n := by
  cases d with
  | tuple l => exact ⟨l, rfl, of_decide_eq_true h⟩
  | int i => cases h
  | bool b => cases h
  | none => cases h
  | str x => cases h
  | list ds => cases h
  | dict kvs => cases h
theorem idxD_of {n : Int} {d : PyData} (h : idxD n d = true) : ∃ i, d = .int i ∧ 0 ≤ i ∧ i < n := by
  cases d with
  | int i =>
    have h : (decide (0 ≤ i) && decide (i < n)) = true := h
    rw [Bool.and_eq_true, decide_eq_true_eq, decide_eq_true_eq] at h
    exact ⟨i, rfl, h.1, h.2⟩
  | tuple l => cases h
  | bool b => cases h
  | none => cases h
  | str x => cases h
  | list ds => cases h
  | dict kvs => cases h
section
variable {K : PySem.W.Frag} {H : Hp}
theorem tp_tup {v : V} {l : List PyData} (h : Tp K H v (.tuple l)) : ∃ a xs, v = .ref a ∧ SqT K H a xs ∧ TpAll K H xs l := by
  cases h with
  | @tup a xs _ hs ha => exact ⟨a, xs, rfl, hs, ha⟩
theorem tp_int {v : V} {i : Int} (h : Tp K H v (.int i)) : v = .int i := by
  cases h
  rfl
end
theorem num_of {d : PyData} (h : numI d = true) : ∃ i, d = .int i := by
  cases d with
  | int i => exact ⟨i, rfl⟩
  | tuple l => cases h
  | bool b => cases h
  | none => cases h
  | str x => cases h
  | list ds => cases h
  | dict kvs => cases h
section
variable {P : Program} {w : World} {K : PySem.W.Frag} {mg : Str → Option Value} {base : Heap}
def spII (K : PySem.W.Frag) : Sp := fun vs H Q _ => ∃ (v : V) (d : PyData), vs = [v] ∧ Tp K H v d ∧ Q (.bl (numI d)) H
theorem scII : FnScope ["value"] ["value"] (defScope sII) := ⟨rfl, rfl, rfl, by decide +kernel, rfl, by decide +kernel, by decide +kernel⟩
theorem ok_ii {f : Addr} {fd : FuncData} (F : Fun K "is_integer" "is_integer" sII f fd) (T : NamesI mg) (nI : mg "int" = none) (nB : mg "bool" = none) : FnOk P w K mg base CX0 1 f fd ["value"] (spII K) := by
  refine F.ok scII (fun vs H Q E h => ?_) (fun cdv A outer s H vs Q E hr h => ?_)
  · obtain ⟨v, d, rfl, _⟩ := h
    rfl
  · obtain ⟨v, d, rfl, hd, q⟩ := h
    refine ⟨_, (pss_one (ps_ret (pe_and (pe_callB call_isi (by rfl) T.isinstance (by decide +kernel) (pa_cons (pv 0) (pa_cons (pe_bltn (v := .ty "int") (by rfl) nI (by decide +kernel) rfl) pa_nil))) (pe_one (pe_not (pe_callB call_isi (by rfl) T.isinstance (by decide +kernel) (pa_cons (pv 0) (pa_cons (pe_bltn (v := .ty "bool") (by rfl) nB (by decide +kernel) rfl) pa_nil)))))))), ?_⟩
    refine ⟨_, rfl, _, .ty "int", .type (tyD d), .type "int", _, rfl, .ty "int", hd.ty, kit_ty (kit_int d), _, rfl, ?_⟩
    cases d with
    | int i => exact iteT ⟨_, rfl, _, .ty "bool", .type "int", .type "bool", _, rfl, .ty "bool", hd.ty, kit_ty (kit_bool (.int i)), _, rfl, q⟩
    | bool b => exact iteT ⟨_, rfl, _, .ty "bool", .type "bool", .type "bool", _, rfl, .ty "bool", hd.ty, kit_ty (kit_bool (.bool b)), _, rfl, q⟩
    | none => exact iteF q
    | str x => exact iteF q
    | list ds => exact iteF q
    | tuple ds => exact iteF q
    | dict kvs => exact iteF q
def spIX (K : PySem.W.Frag) : Sp := fun vs H Q _ => ∃ (v : V) (d : PyData) (n : Int), vs = [v, .int n] ∧ Tp K H v d ∧ Q (.bl (idxD n d)) H
theorem scIX : FnScope ["value", "size"] ["value", "size"] (defScope sIX) := ⟨rfl, rfl, rfl, by decide +kernel, rfl, by decide +kernel, by decide +kernel⟩
theorem ok_ix {f g : Addr} {fd gd : FuncData} (F : Fun K "is_index" "is_index" sIX f fd) (GI : FnOk P w K mg base CX0 1 g gd ["value"] (spII K)) (PI_ : Def K mg "is_integer" g gd ["value"]) : FnOk P w K mg base CX0 2 f fd ["value", "size"] (spIX K) := by
  refine F.ok scIX (fun vs H Q E h => ?_) (fun cdv A outer s H vs Q E hr h => ?_)
  · obtain ⟨v, d, n, rfl, _⟩ := h
    rfl
  · obtain ⟨v, d, n, rfl, hd, q⟩ := h
    refine ⟨_, (pss_one (ps_ret (pe_and (pe_call GI (hr.mono (by first | decide | omega)) (by rfl) PI_.is PI_.kp PI_.bi .nil pass0 (pa_cons (pv 0) pa_nil)) (pe_one (pe_chain op_le op_lt pe_int (pv 0) (pv 1)))))), ?_⟩
    refine ⟨_, rfl, v, d, rfl, hd, _, rfl, ?_⟩
    cases d with
    | int i =>
      cases hd
      refine iteT ⟨_, rfl, _, _, rfl, rfl, _, rfl, ?_⟩
      have q : Q (.bl (decide (0 ≤ i) && decide (i < n))) H := q
      by_cases h0 : 0 ≤ i
      · rw [decide_eq_true h0] at q ⊢
        exact iteT ⟨_, rfl, _, _, rfl, rfl, q⟩
      · rw [decide_eq_false h0] at q ⊢
        exact iteF q
    | bool b => exact iteF q
    | none => exact iteF q
    | str x => exact iteF q
    | list ds => exact iteF q
    | tuple ds => exact iteF q
    | dict kvs => exact iteF q
def spIT (K : PySem.W.Frag) : Sp := fun vs H Q _ => ∃ (v : V) (d : PyData) (n : Int), vs = [v, .int n] ∧ Tp K H v d ∧ Q (.bl (tupD n d)) H
theorem scIT : FnScope ["value", "size"] ["value", "size"] (defScope sIT) := ⟨rfl, rfl, rfl, by decide +kernel, rfl, by decide +kernel, by decide +kernel⟩
theorem ok_it {f : Addr} {fd : FuncData} (F : Fun K "is_tuple" "is_tuple" sIT f fd) (T : NamesI mg) : FnOk P w K mg base CX0 1 f fd ["value", "size"] (spIT K) := by
  refine F.ok scIT (fun vs H Q E h => ?_) (fun cdv A outer s H vs Q E hr h => ?_)
  · obtain ⟨v, d, n, rfl, _⟩ := h
    rfl
  · obtain ⟨v, d, n, rfl, hd, q⟩ := h
    refine ⟨_, (pss_one (ps_ret (pe_and (pe_callB call_isi (by rfl) T.isinstance (by decide +kernel) (pa_cons (pv 0) (pa_cons (pe_bltn (v := .ty "tuple") (by rfl) T.tuple (by decide +kernel) rfl) pa_nil))) (pe_one (pe_cmpR op_eq (pe_callB call_len_seq (by rfl) T.len PySem.boot_len (pa_cons (pv 0) pa_nil)) (pv 1) (nomark _)))))), ?_⟩
    refine ⟨_, rfl, _, .ty "tuple", .type (tyD d), .type "tuple", _, rfl, .ty "tuple", hd.ty, kit_ty (kit_tup d), _, rfl, ?_⟩
    cases d with
    | tuple ds =>
      cases hd with
      | @tup a xs _ hs ha =>
        refine iteT ⟨_, rfl, a, xs, rfl, .inr hs, _, rfl, rfl, ?_⟩
        have e : (V.int (xs.length : Nat) = .int n) ↔ ((ds.length : Int) = n) := by
          rw [tpLen ha]
          exact ⟨fun h => V.int.inj h, fun h => by rw [h]⟩
        show Q (.bl (decide (V.int (xs.length : Nat) = .int n))) H
        have q : Q (.bl (decide ((ds.length : Int) = n))) H := q
        rw [decide_eq_decide.mpr e]
        exact q
    | int i => exact iteF q
    | bool b => exact iteF q
    | none => exact iteF q
    | str x => exact iteF q
    | list ds => exact iteF q
    | dict kvs => exact iteF q
theorem it_at {H : Hp} {xs : List V} {l : List PyData} (ha : TpAll K H xs l) {j : Nat} (hj : j < l.length) : ∃ u, xs[j]? = some u ∧ Tp K H u (itD (.tuple l) j) := by
  have lx := tpLen ha
  obtain ⟨d, h1, h2⟩ := tpGet ha (List.getElem?_eq_getElem (by omega : j < xs.length))
  refine ⟨xs[j], List.getElem?_eq_getElem _, ?_⟩
  show Tp K H _ (l.getD j .none)
  rw [List.getD_eq_getElem?_getD, h1]
  exact h2
end
end Z

set_option Elab.async false
set_option linter.all false
set_option maxRecDepth 100000
set_option maxHeartbeats 4000000
/-! enumerate(z), z a text -/
namespace EN
open PySem PySem.Spec PyProof.Rows L2
open Sem (wp)
def Signs (z : Str) : It where
  go := fun i _ => i < z.cps.size
  yld := fun i H v H' => ∃ T c, v = .ref T ∧ H T = none ∧ H' = upd H T (.tup [.int (i : Nat), .str ⟨#[c]⟩]) ∧ z.cps[i]? = some c
  stop := fun i _ => z.cps.size ≤ i
theorem turn_signs {P : Program} {w : World} {K : PySem.W.Frag} {elts : List Expr} {kk : Nat} {tpos : Pos} (z : Str) (t : Tok) (e it : Addr) :
    Turn P w K (.Tuple elts kk tpos) (Signs z) [e, it] e (fun i h => i ≤ z.cps.size ∧ (∃ old, IsEnum h e it ((i : Nat) : Int) old) ∧ h.IsStrIter it (strIterType z) z t i ∧ e ≠ it) where
  mem := List.mem_cons_self ..
  obj := by
    rintro i h ⟨_, ⟨old, he⟩, ⟨o, ho, hc, hd⟩, _⟩ b hb
    simp only [List.mem_cons, List.not_mem_nil, or_false] at hb
    rcases hb with rfl | rfl
    · exact ⟨_, he, fun v q => nomatch q⟩
    · exact ⟨o, ho, fun v q => by rw [hd] at q; cases q⟩
  keep := by
    rintro i h h' ⟨le, ⟨old, he⟩, hi, hne⟩ k
    obtain ⟨o, ho, r⟩ := hi
    exact ⟨le, ⟨old, k e (by simp) _ he⟩, ⟨o, k it (by simp) o ho, r⟩, hne⟩
  item := by
    intro X hP hw hK calm i pins s σ H E I hf st hg
    subst hP hw hK
    obtain ⟨_, ⟨old, he⟩, hit, hne⟩ := st
    have lt : i < z.cps.size := hg
    have le : e < s.heap.objs.size := Heap.lt_size he
    have li : it < s.heap.objs.size := by obtain ⟨_, q, _⟩ := hit; exact Heap.lt_size q
    refine wpAny_pyNext_enum_itemD (Draws.text (A := X.A.in1) (by exact I.ok.hd calm) it z t) he hit lt hne (by simp [hne]) fun y h' tk hy ho st' hT hsz hk => ?_
    obtain ⟨c, u, hc, rfl⟩ := hy
    refine ⟨_, rfl, wpAny_letOwnedTupleGo_enum (s := { s with heap := h', toks := tk + 1 }) ho fun h2 he2 sb => ?_⟩
    have sb' : Heap.SameBut e h' h2 := sb
    have hT2 : h2.get? s.heap.objs.size = some { cls := .type "tuple", data := .seq #[.int i tk, .str ⟨#[c]⟩ u] } := (sb'.2 _ (Nat.ne_of_gt le)).trans hT
    have new : ObjOk X.prog X.w (upd H s.heap.objs.size (.tup [.int (i : Nat), .str ⟨#[c]⟩])) h2 s.heap.objs.size (.tup [.int (i : Nat), .str ⟨#[c]⟩]) :=
      ⟨by show 2 ≤ sizeLine; decide, [.int i tk, .str ⟨#[c]⟩ u], .cons ⟨_, rfl⟩ (.cons ⟨_, rfl⟩ .nil), ⟨_, hT2, rfl, _, rfl⟩⟩
    have I2 : Inv X pins σ (upd H s.heap.objs.size (.tup [.int (i : Nat), .str ⟨#[c]⟩])) { s with heap := h2, toks := tk + 1 } := by
      refine I.turnedNew (ch := [e, it]) (fun b ob hb q => ?_) hf (Nat.le_refl _) new
      have ne : b ≠ e := fun z => hb (by simp [z])
      have ni : b ≠ it := fun z => hb (by simp [z])
      exact (sb'.2 b ne).trans (hk b ob ne ni q)
    refine ⟨.ref s.heap.objs.size, _, I2, rfl, ⟨_, c, rfl, I.hok.fresh (Nat.le_refl _), rfl, hc⟩, ⟨lt, ⟨.str ⟨#[c]⟩ u, ?_⟩, ?_, hne⟩, fun b hb => ?_⟩
    · have e1 : ((i + 1 : Nat) : Int) = (i : Int) + 1 := by omega
      rw [e1]
      exact he2
    · obtain ⟨o, q, r⟩ := st'
      exact ⟨o, (sb'.2 it (Ne.symm hne)).trans q, r⟩
    · have lb : b < s.heap.objs.size := by
        simp only [List.mem_cons, List.not_mem_nil, or_false] at hb
        rcases hb with rfl | rfl
        · exact le
        · exact li
      rw [upd_ne (Nat.ne_of_lt lb)]
      exact (hf b hb).1
  done := by
    intro X hP hw hK calm i pins s σ H E I hf st hg
    subst hP hw hK
    obtain ⟨le, ⟨old, he⟩, hit, hne⟩ := st
    have ge : z.cps.size ≤ i := hg
    obtain rfl : i = z.cps.size := by omega
    obtain ⟨f0, f1, f2, f3, f4, f5⟩ := hf it (by simp)
    have hT : s.TypeIs (.ref e) "enumerate" := ⟨_, he, rfl⟩
    unfold pyNext
    refine wpAny_bind (wpAny_attempt (wpAny_callSpecial?_slot (name := Str.ofString "__next__") hT F.slot_enumerate_next
      (wpAny_call_entry F.slot_enumerate_next hT F.entry_enumerate_next ?_ (F.args_enumerate_next_1 _))))
    show wpAny _ _ (field (.ref e) 2 >>= _) _ _ _
    refine wpAny_bind (wpAny_field he rfl (x := .ref it) rfl ?_)
    refine wpAny_bind ((Draws.text (prog := X.prog) (w := X.w) (A := X.A.in1) (by exact I.ok.hd calm) it z t).done s _ _ hit fun h' x he' hx' => ?_)
    obtain ⟨o, ho, hc⟩ := hx'
    refine wpAny_bind (wpAny_isInstance (T := "StopIteration") (b := true) ⟨o, ho, hc⟩ isSubtype_stop ?_)
    refine wpAny_pure ⟨rfl, ?_⟩
    exact I.turned (t' := s.toks) (fun b o hb q => he' b o hb q) f0 f1 f3 f4 f5
  self := by
    rintro A i s Q E ⟨_, ⟨old, he⟩, _⟩ h
    exact wpAny_pyIter_enum he h
section
variable {X : Cx}
def tSigns (ta : TA) : TI := fun σ H R => ta σ H fun vs H1 => ∃ z : Str, vs = [.str z] ∧ R (Signs z) H1
theorem pi_signs {e : Expr} {ta : TA} {p pos tpos : Pos} {elts : List Expr} {kk : Nat} (glob : Gl X "enumerate") (none_ : X.mg "enumerate" = none) (args : PA X [e] ta)
    (star : starEach [e] X.env = [(false, eval e X.env)] := by rfl) : PI X (.Tuple elts kk tpos) (.Call (.Name "enumerate" p) [e] [] pos) (tSigns ta) := by
  constructor
  intro pins s σ H R I h
  refine Call_ (ld_blt I glob none_ boot_enumerate ?_)
  refine PyProof.Rows.callWith_type1 (thn (args.run pos pins s σ H _ I h) fun us s1 got => ?_) star rfl
  obtain ⟨vs, H1, I1, r1, z, ex, q⟩ := got
  subst ex
  obtain ⟨u, eu, ru⟩ := vals1 r1
  subst eu
  obtain ⟨t, eu⟩ : ∃ t, u = Value.str z t := ru
  subst eu
  refine call_enum (begins_text z t) trivial fun h' he hit hk => wpAny_pyIter_enum he ?_
  have I2 : Inv X pins σ H1 { s1 with heap := h' } := I1.kept (t' := s1.toks) hk
  refine ⟨s1.heap.objs.size + 1, [s1.heap.objs.size + 1, s1.heap.objs.size], _, _, H1, rfl, I2, turn_signs z t (s1.heap.objs.size + 1) s1.heap.objs.size, ⟨Nat.zero_le _, ⟨.none, he⟩, ⟨_, hit, rfl, rfl⟩, Nat.succ_ne_self _⟩, fun b hb => ?_, q⟩
  have above : s1.heap.objs.size ≤ b := by
    simp only [List.mem_cons, List.not_mem_nil, or_false] at hb
    rcases hb with rfl | rfl
    · exact Nat.le_add_right _ _
    · exact Nat.le_refl _
  exact I1.fpOk above (I1.hok.fresh above)
/-- the loop over the signs -/
theorem for_signs {z : Str} {g : TG} {tb : TS} {D : Ends} {σ : L2.St} {H : Hp} (Pv : Nat → L2.St → Hp → Prop) (h0 : Pv 0 σ H)
    (turn : ∀ i c σ H T, z.cps[i]? = some c → Pv i σ H → H T = none → g (.ref T) σ (upd H T (.tup [.int (i : Nat), .str ⟨#[c]⟩])) fun σ2 H2 => tb { D with nx := Pv (i + 1), ct := Pv (i + 1), bk := D.nx } σ2 H2) (done : ∀ σ H, Pv z.cps.size σ H → D.nx σ H) :
    ∃ W : Nat → Nat → L2.St → Hp → Prop, (∃ m, W 0 m σ H) ∧ ∀ i m σ H, W i m σ H →
      ((Signs z).stop i H ∧ D.nx σ H) ∨ ((Signs z).go i H ∧ ∃ N : L2.St → Hp → Prop, (∀ σ' H', N σ' H' → ∃ m', m' < m ∧ W (i + 1) m' σ' H') ∧ ∀ x H', (Signs z).yld i H x H' → g x σ H' fun σ2 H2 => tb { D with nx := N, ct := N, bk := D.nx } σ2 H2) := by
  refine ⟨fun i m σ H => m = z.cps.size - i ∧ i ≤ z.cps.size ∧ Pv i σ H, ⟨z.cps.size, by simp, Nat.zero_le _, h0⟩, ?_⟩
  rintro i m σ H ⟨rfl, le, pv⟩
  rcases Nat.lt_or_ge i z.cps.size with lt | ge
  · refine .inr ⟨lt, Pv (i + 1), fun σ' H' n => ⟨z.cps.size - (i + 1), by omega, rfl, lt, n⟩, ?_⟩
    rintro v H' ⟨T, c, rfl, nT, rfl, hc⟩
    exact turn i c σ H T hc pv nT
  · have e : i = z.cps.size := by omega
    subst e
    exact .inl ⟨Nat.le_refl _, done σ H pv⟩
end
end EN

set_option Elab.async false
set_option linter.all false
set_option maxRecDepth 100000
set_option maxHeartbeats 4000000
/-! zip of a tuple and a text -/
namespace ZTS
open PySem PySem.Spec PyProof.Rows L2 RZ
def Itz (K : PySem.W.Frag) (a : Addr) (y : Str) : It :=
  ⟨fun i H => ∃ xs : List V, SqT K H a xs ∧ i < xs.length ∧ i < y.cps.size,
    fun i H v H' => ∃ T x c, v = .ref T ∧ H T = none ∧ H' = upd H T (.tup [x, .str ⟨#[c]⟩]) ∧ (∀ xs, SqT K H a xs → xs[i]? = some x) ∧ y.cps[i]? = some c,
    fun i H => ∃ xs : List V, SqT K H a xs ∧ (i = xs.length ∨ i = y.cps.size) ∧ i ≤ xs.length ∧ i ≤ y.cps.size⟩
theorem turn_zts {P : Program} {w : World} {K : PySem.W.Frag} {elts : List Expr} {kk : Nat} {tpos : Pos} {a z TI TO i1 i2 : Addr} (y : Str) (t : Tok) (D : ZipSep2 z TI TO i1 i2 [i1, a] [i2]) (ne : a ≠ i1) :
    Turn P w K (.Tuple elts kk tpos) (Itz K a y) [z, TI, TO, i1, i2] z (fun i h => IsZip h z TI TO .none ∧ IsTupOf2 h TI (.ref i1) (.ref i2) ∧ (∃ x y, IsTupOf2 h TO x y) ∧ h.IsTupleIter i1 a i ∧ h.IsStrIter i2 (strIterType y) y t i) where
  mem := by simp
  obj := fun i h st c hc => by
    obtain ⟨hz, hTI, ⟨x, y, hTO⟩, ⟨o1, e1, _, d1⟩, ⟨o2, e2, _, d2⟩⟩ := st
    have e' : c = z ∨ c = TI ∨ c = TO ∨ c = i1 ∨ c = i2 := by simpa using hc
    rcases e' with q | q | q | q | q
    · rw [q]; exact ⟨_, hz, fun v q => nomatch q⟩
    · rw [q]; exact ⟨_, hTI, fun v q => nomatch q⟩
    · rw [q]; exact ⟨_, hTO, fun v q => nomatch q⟩
    · rw [q]; exact ⟨o1, e1, fun v q => by rw [d1] at q; cases q⟩
    · rw [q]; exact ⟨o2, e2, fun v q => by rw [d2] at q; cases q⟩
  keep := fun i h h' st k => by
    obtain ⟨hz, hTI, ⟨x, y, hTO⟩, h1, ⟨o2, q2, r2⟩⟩ := st
    exact ⟨k z (by simp) _ hz, k TI (by simp) _ hTI, ⟨x, y, k TO (by simp) _ hTO⟩, h1.at fun o q => k i1 (by simp) o q, ⟨o2, k i2 (by simp) o2 q2, r2⟩⟩
  item := by
    intro X hP hw hK hc i pins s σ H E I hf st hg
    subst hP hw hK
    obtain ⟨hz, hTI, ⟨x0, y0, hTO⟩, h1, h2⟩ := st
    obtain ⟨xs, hqx, hi, hj⟩ := hg
    obtain ⟨its, rv, p, _⟩ := I.tuple hqx
    have l1 := rv.length
    have hzl : z < s.heap.objs.size := Heap.lt_size hz
    refine wpAny_pyNext_zipD2_item D (Draws.tuple (A := X.A.in1) (by exact I.ok.hd hc) i1 a ne its.toArray) (Draws.text (A := X.A.in1) (by exact I.ok.hd hc) i2 y t) hz hTI hTO ⟨h1, p⟩ h2 (by simp; omega) hj fun u v h' tk hu hv z' TO' s1 s2 hT hsz hk => ?_
    obtain ⟨c, u2, hcc, ev⟩ := hv
    subst ev
    have hx : xs[i]? = some (xs[i]'hi) := List.getElem?_eq_getElem hi
    obtain ⟨u', hu', ru⟩ := rv.get hx
    have eu : u' = u := by
      have : its[i]? = some u := by simpa using hu
      rw [hu'] at this
      exact Option.some.inj this
    subst eu
    refine ⟨_, rfl, wpAny_letOwnedTupleGo_zip (s := { s with heap := h', toks := tk }) z' fun h'' z'' sb => ?_⟩
    have sb : Heap.SameBut z h' h'' := sb
    have hT2 : h''.get? s.heap.objs.size = some { cls := .type "tuple", data := .seq #[u', .str ⟨#[c]⟩ u2] } := (sb.2 _ (Nat.ne_of_gt hzl)).trans hT
    have new : ObjOk X.prog X.w (upd H s.heap.objs.size (.tup [xs[i]'hi, .str ⟨#[c]⟩])) h'' s.heap.objs.size (.tup [xs[i]'hi, .str ⟨#[c]⟩]) :=
      ⟨by show 2 ≤ sizeLine; decide, [u', .str ⟨#[c]⟩ u2], .cons ru (.cons ⟨_, rfl⟩ .nil), ⟨_, hT2, rfl, _, rfl⟩⟩
    have I1 : Inv X pins σ (upd H s.heap.objs.size (.tup [xs[i]'hi, .str ⟨#[c]⟩])) { s with heap := h'', toks := tk } :=
      I.turnedNew (t' := tk) (ch := [z, TI, TO, i1, i2]) (fun c o hb q => (sb.2 c (fun q' => hb (by simp [q']))).trans (hk c o (fun q' => hb (by simp [q'])) (fun q' => hb (by simp [q'])) (fun q' => hb (by simp [q'])) (fun q' => hb (by simp [q'])) q)) hf (Nat.le_refl _) new
    refine ⟨.ref s.heap.objs.size, _, I1, rfl, ⟨_, xs[i]'hi, c, rfl, I.hok.fresh (Nat.le_refl _), rfl, fun l hl => by rw [I.tuple_inj hl hqx]; exact hx, hcc⟩, ⟨z'', ?_, ⟨u', .str ⟨#[c]⟩ u2, ?_⟩, ?_, ?_⟩, fun c hcm => ?_⟩
    · exact (sb.2 _ D.TIz).trans (hk _ _ D.TIz D.TITO D.TIi1 D.TIi2 hTI)
    · exact (sb.2 _ D.TOz).trans TO'
    · exact s1.1.at fun o q => (sb.2 _ D.zi1.symm).trans q
    · obtain ⟨o, q, r⟩ := s2
      exact ⟨o, (sb.2 _ D.zi2.symm).trans q, r⟩
    · have hlt : c < s.heap.objs.size := by
        have e' : c = z ∨ c = TI ∨ c = TO ∨ c = i1 ∨ c = i2 := by simpa using hcm
        rcases e' with q | q | q | q | q
        · rw [q]; exact hzl
        · rw [q]; exact Heap.lt_size hTI
        · rw [q]; exact Heap.lt_size hTO
        · rw [q]; obtain ⟨_, e1, _⟩ := h1; exact Heap.lt_size e1
        · rw [q]; obtain ⟨_, e2, _⟩ := h2; exact Heap.lt_size e2
      rw [upd_ne (Nat.ne_of_lt hlt)]
      exact (hf c hcm).1
  done := by
    intro X hP hw hK hc i pins s σ H E I hf st hg
    subst hP hw hK
    obtain ⟨hz, hTI, ⟨x0, y0, hTO⟩, h1, h2⟩ := st
    obtain ⟨xs, hqx, hend, hi, hj⟩ := hg
    obtain ⟨its, rv, p, _⟩ := I.tuple hqx
    have l1 := rv.length
    refine wpAny_pyNext_zipD2_end D (Draws.tuple (A := X.A.in1) (by exact I.ok.hd hc) i1 a ne its.toArray) (Draws.text (A := X.A.in1) (by exact I.ok.hd hc) i2 y t) hz hTI hTO ⟨h1, p⟩ h2 (by simp; omega) hj (by simp; omega) fun h' tk hk => ⟨rfl, I.turnedL (t' := tk) (ch := [z, TI, TO, i1, i2]) (fun c o hb q =>
      hk c o (fun q' => hb (by simp [q'])) (fun q' => hb (by simp [q'])) (fun q' => hb (by simp [q'])) (fun q' => hb (by simp [q'])) q) hf⟩
  self := fun A i s Q E st h => wpAny_pyIter_zip st.1 h
def iZip (K : PySem.W.Frag) (ta : TA) : TI := fun σ H R => ta σ H fun vs H1 => ∃ (a : Addr) (xs : List V) (y : Str), vs = [.ref a, .str y] ∧ SqT K H1 a xs ∧ R (Itz K a y) H1
theorem pi_zts {X : Cx} {e e2 : Expr} {ta : TA} {p pos tpos : Pos} {elts : List Expr} {kk : Nat} (hg : Gl X "zip") (hm : X.mg "zip" = none) (ha : PA X [e, e2] ta)
    (hs : starEach [e, e2] X.env = (false, eval e X.env) :: starEach [e2] X.env := by rfl) (hpl : (backTo pos (starEach [e2] X.env)).any (·.1) = false := by rfl) :
    PI X (.Tuple elts kk tpos) (.Call (.Name "zip" p) [e, e2] [] pos) (iZip X.K ta) := by
  refine ⟨fun pins s σ H R I h => ?_⟩
  refine Call_ (ld_blt I hg hm PyProof.Rows.boot_zip (PyProof.Rows.callWith_type1 (thn (ha.run pos pins s σ H _ I h) fun us s1 ⟨vs, H1, I1, r1, q1⟩ => ?_) hs hpl))
  obtain ⟨a, xs, y, ex, hqx, q⟩ := q1
  subst ex
  obtain ⟨u1, u2, rfl, r, r'⟩ := vals2 r1
  cases r
  obtain ⟨t, eu⟩ : ∃ t, u2 = Value.str y t := r'
  subst eu
  have fresh5 : ∀ c, c ∈ [s1.heap.objs.size + 4, s1.heap.objs.size + 2, s1.heap.objs.size + 3, s1.heap.objs.size, s1.heap.objs.size + 1] → FpOk X pins H1 c := fun c hcm => by
    have e' : c = s1.heap.objs.size + 4 ∨ c = s1.heap.objs.size + 2 ∨ c = s1.heap.objs.size + 3 ∨ c = s1.heap.objs.size ∨ c = s1.heap.objs.size + 1 := by simpa using hcm
    have hle : s1.heap.objs.size ≤ c := by
      rcases e' with z | z | z | z | z
      · rw [z]; exact Nat.le_add_right _ _
      · rw [z]; exact Nat.le_add_right _ _
      · rw [z]; exact Nat.le_add_right _ _
      · rw [z]; exact Nat.le_refl _
      · rw [z]; exact Nat.le_add_right _ _
    exact I1.fpOk hle (I1.hok.fresh hle)
  obtain ⟨its, rv, p1, _⟩ := I1.tuple hqx
  obtain ⟨o1, ho1, _⟩ := id p1
  have la : a < s1.heap.objs.size := Heap.lt_size ho1
  refine zip_begins2 (begins_tuple a its.toArray) (begins_text y t) p1 trivial fun h' hz hTI hTO h1 h2 hsz hk => wpAny_pyIter_zip hz ?_
  have I2 : Inv X pins σ H1 { s1 with heap := h' } := I1.kept (t' := s1.toks) hk
  exact ⟨s1.heap.objs.size + 4, [s1.heap.objs.size + 4, s1.heap.objs.size + 2, s1.heap.objs.size + 3, s1.heap.objs.size, s1.heap.objs.size + 1], _, _, H1, rfl, I2, turn_zts y t (zip_sep2 (fp1 := [a]) (fp2 := []) (fun b hb => by
    have : b = a := by simpa using hb
    rw [this]; exact la) (fun b hb => by simp at hb)) (Nat.ne_of_lt la), ⟨hz, hTI, ⟨_, _, hTO⟩, ⟨_, h1, rfl, rfl⟩, ⟨_, h2, rfl, rfl⟩⟩, fresh5, q⟩
/-- the loop, as long as both are -/
theorem for_zts {K : PySem.W.Frag} {a : Addr} {xs : List V} {y : Str} {g : TG} {tb : TS} {D : Ends} {σ : L2.St} {H : Hp} (hl : xs.length = y.cps.size) (Pv : Nat → L2.St → Hp → Prop) (h0 : Pv 0 σ H) (hq : ∀ i σ H, Pv i σ H → SqT K H a xs)
    (hs : ∀ (i : Nat) (x : V) (c : Nat) (T : Addr) (σ : L2.St) (H : Hp), xs[i]? = some x → y.cps[i]? = some c → Pv i σ H → H T = none → g (.ref T) σ (upd H T (.tup [x, .str ⟨#[c]⟩])) fun σ2 H2 => tb { D with nx := Pv (i + 1), ct := Pv (i + 1), bk := D.nx } σ2 H2) (hd : ∀ σ H, Pv xs.length σ H → D.nx σ H) :
    ∃ W : Nat → Nat → L2.St → Hp → Prop, (∃ m, W 0 m σ H) ∧ ∀ i m σ H, W i m σ H →
      ((Itz K a y).stop i H ∧ D.nx σ H) ∨ ((Itz K a y).go i H ∧ ∃ N : L2.St → Hp → Prop, (∀ σ' H', N σ' H' → ∃ m', m' < m ∧ W (i + 1) m' σ' H') ∧ ∀ v H', (Itz K a y).yld i H v H' → g v σ H' fun σ2 H2 => tb { D with nx := N, ct := N, bk := D.nx } σ2 H2) := by
  refine ⟨fun i m σ H => m = xs.length - i ∧ i ≤ xs.length ∧ Pv i σ H, ⟨xs.length, rfl, Nat.zero_le _, h0⟩, ?_⟩
  rintro i m σ H ⟨rfl, hi, p⟩
  have qx := hq i σ H p
  by_cases hlt : i < xs.length
  · refine .inr ⟨⟨xs, qx, hlt, by omega⟩, Pv (i + 1), fun σ' H' p' => ⟨xs.length - (i + 1), by omega, rfl, hlt, p'⟩, fun v H' y => ?_⟩
    obtain ⟨T, x', c, rfl, hT, rfl, f1, f2⟩ := y
    exact hs i x' c T σ H (f1 xs qx) f2 p hT
  · have e : i = xs.length := by omega
    subst e
    exact .inl ⟨⟨xs, qx, .inl rfl, Nat.le_refl _, by omega⟩, hd σ H p⟩
end ZTS

set_option Elab.async false
set_option linter.all false
set_option maxRecDepth 100000
set_option maxHeartbeats 4000000
/-! a statement that is never met -/
namespace ABS
open PySem PySem.Spec PyProof.Rows L2
theorem ps_never {X : Cx} {st : Stmt} : PS X st (fun _ _ _ => False) := ⟨fun _ _ _ _ _ _ h => h.elim⟩
end ABS

set_option Elab.async false
set_option linter.all false
set_option maxRecDepth 100000
/-! a dict of the module: the part and the world told -/
namespace KDX
open PySem PySem.Spec PyProof.Rows L2 GG
def rNotIn (K : PySem.W.Frag) (d : Addr) : R2 := fun x y H Q => ∃ (z : Str) (r : Option Value), x = .str z ∧ y = .ref d ∧ PySem.W.nsIn K d z = some r ∧ Q (.bl (!r.isSome)) H
theorem op_notIn {X : Cx} {K : PySem.W.Frag} {w : World} {d : Addr} {es : Array DictEntry} {n : Nat} (hK : X.K = K) (hw : X.w = w) (D : KDict K w d es n) : OpR X (compareOp .NotIn) (rNotIn K d) := by
  subst hK hw
  exact op_notIn_kd D
theorem ix {X : Cx} {K : PySem.W.Frag} {w : World} (hK : X.K = K) (hw : X.w = w) : IxR X (rIxD K w) := by
  subst hK hw
  exact ix_kdict
end KDX

set_option Elab.async false
set_option linter.all false
set_option maxRecDepth 100000
set_option maxHeartbeats 4000000
/-! a tuple compared with (), a list with []; the least and the greatest of two numbers in a tuple -/
namespace WRD
open PySem PySem.Spec PyProof.Rows L2 GG
section
variable {X : Cx}
def rNoneIn (K : PySem.W.Frag) : R2 := fun x y H Q => ∃ (a b : Addr) (xs : List V), x = .ref a ∧ y = .ref b ∧ SqT K H a xs ∧ SqT K H b [] ∧ Q (.bl (decide (xs.length = 0))) H
theorem op_noneIn {K : PySem.W.Frag} (hK : X.K = K) (hu : X.A.units < cLine) : OpR X (compareOp .Eq) (rNoneIn K) := by
  subst hK
  intro pins s σ H x y v u Q I rx ry h
  obtain ⟨a, b, xs, rfl, rfl, ha, hb, q⟩ := h
  cases rx
  cases ry
  obtain ⟨its, r1, p1, _⟩ := I.tuple ha
  obtain ⟨its2, r2, p2, _⟩ := I.tuple hb
  cases r2
  have hl := r1.length
  refine SeqAt.RcAt.tuples (e := fun _ => true) p1 p2 hu (fun j _ h2 => absurd h2 (by simp)) _ _ _ _ ⟨.bl _, H, I, rfl, ?_⟩
  have e : ((List.range (min its.toArray.size ([] : List Value).toArray.size)).all (fun _ => true) && its.toArray.size == ([] : List Value).toArray.size) = decide (xs.length = 0) := by
    rw [hl]
    cases its <;> simp
  rw [e]
  exact q
def rSomeIn (K : PySem.W.Frag) : R2 := fun x y H Q => ∃ (a b : Addr) (xs : List V), x = .ref a ∧ y = .ref b ∧ SqL K H a xs ∧ SqL K H b [] ∧ Q (.bl (!decide (xs.length = 0))) H
theorem op_someIn {K : PySem.W.Frag} (hK : X.K = K) (hu : X.A.units < cLine) : OpR X (compareOp .NotEq) (rSomeIn K) := by
  subst hK
  intro pins s σ H x y v u Q I rx ry h
  obtain ⟨a, b, xs, rfl, rfl, ha, hb, q⟩ := h
  cases rx
  cases ry
  obtain ⟨its, r1, p1, _⟩ := I.list ha
  obtain ⟨its2, r2, p2, _⟩ := I.list hb
  cases r2
  have hl := r1.length
  cases its with
  | nil =>
    have hx : xs = [] := List.length_eq_zero_iff.mp hl
    subst hx
    exact SeqAt.RcNeAt.lists (e := fun _ => true) p1.isList p2.isList rfl hu (fun j _ h2 => absurd h2 (by simp)) _ _ _ _ ⟨.bl _, H, I, rfl, q⟩
  | cons c r =>
    refine SeqAt.RcNeAt.lists_lengths p1.isList p2.isList (by simp) hu _ _ _ _ ⟨.bl true, H, I, rfl, ?_⟩
    rw [decide_eq_false (by rw [hl]; simp)] at q
    exact q
theorem nums_alike (i j : Int) : PySem.W.AlikeAll [.int i, .int j] := by
  refine ⟨fun x hx y hy => ?_, fun x hx => ?_⟩
  · simp only [List.mem_cons, List.not_mem_nil, or_false] at hx hy
    rcases hx with rfl | rfl <;> rcases hy with rfl | rfl <;> rfl
  · simp only [List.mem_cons, List.not_mem_nil, or_false] at hx
    rcases hx with rfl | rfl <;> exact fun h => by cases h
def rLeast (K : PySem.W.Frag) (f : Int → Int → Int) : List V → Hp → VK → Prop := fun vs H Q => ∃ (a : Addr) (i j : Int), vs = [.ref a] ∧ SqT K H a [.int i, .int j] ∧ Q (.int (f i j)) H
theorem cr_least (hc : X.calm = true) (hu : X.A.units + 64 < cLine) : CallR X (.builtin "min") (rLeast X.K min) := by
  intro pins s σ H vs us Q I r h
  obtain ⟨a, i, j, rfl, hs, q⟩ := h
  obtain ⟨u, rfl, ru⟩ := vals1 r
  cases ru
  obtain ⟨its, rv, pl, _⟩ := I.tuple hs
  obtain ⟨u1, u2, rfl, ⟨t1, rfl⟩, ⟨t2, rfl⟩⟩ := vals2 rv
  have rd : ReadsAll s.heap [Value.int i t1, Value.int j t2] [PyData.int i, PyData.int j] _ := ReadsAll.cons (Reads.int i t1) (ReadsAll.cons (Reads.int j t2) ReadsAll.nil)
  refine PySem.W.min_tuple_data (I.ok.hd hc) pl rd (nums_alike i j) (by simp [PyData.depthAll, PyData.depth]; omega) fun k v h' tk bs hv rv hk => ?_
  rw [show PySem.W.minD (.int i) [.int j] = .int (min i j) from PySem.W.minD_ints i [j]] at rv
  cases rv
  exact ⟨.int _, H, I.kept hk, ⟨_, rfl⟩, q⟩
theorem cr_most (hc : X.calm = true) (hu : X.A.units + 64 < cLine) : CallR X (.builtin "max") (rLeast X.K max) := by
  intro pins s σ H vs us Q I r h
  obtain ⟨a, i, j, rfl, hs, q⟩ := h
  obtain ⟨u, rfl, ru⟩ := vals1 r
  cases ru
  obtain ⟨its, rv, pl, _⟩ := I.tuple hs
  obtain ⟨u1, u2, rfl, ⟨t1, rfl⟩, ⟨t2, rfl⟩⟩ := vals2 rv
  have rd : ReadsAll s.heap [Value.int i t1, Value.int j t2] [PyData.int i, PyData.int j] _ := ReadsAll.cons (Reads.int i t1) (ReadsAll.cons (Reads.int j t2) ReadsAll.nil)
  refine PySem.W.max_tuple_data (I.ok.hd hc) pl rd (nums_alike i j) (by simp [PyData.depthAll, PyData.depth]; omega) fun k v h' tk bs hv rv hk => ?_
  rw [show PySem.W.maxD (.int i) [.int j] = .int (max i j) from PySem.W.maxD_ints i [j]] at rv
  cases rv
  exact ⟨.int _, H, I.kept hk, ⟨_, rfl⟩, q⟩
end
end WRD

set_option Elab.async false
set_option linter.all false
set_option maxRecDepth 100000
set_option maxHeartbeats 4000000
/-! data that stands on its own objects, none of them in N; slices and sums of tuples without a split by cases -/
namespace DSD
open PySem PySem.Spec PyProof.Rows L2 GG TPD
/-- all but what is in N stays -/
def BN (N : Addr → Prop) (H H' : Hp) : Prop := ∀ b o, H b = some o → ¬ N b → H' b = some o
mutual
inductive Ds (N : Addr → Prop) (H : Hp) : V → PyData → Prop
  | non : Ds N H .non .none
  | bl (b : Bool) : Ds N H (.bl b) (.bool b)
  | int (i : Int) : Ds N H (.int i) (.int i)
  | str (x : Str) : Ds N H (.str x) (.str x)
  | lst {a : Addr} {xs : List V} {ds : List PyData} : sysModules < a → H a = some (.lst xs) → ¬ N a → DsAll N H xs ds → Ds N H (.ref a) (.list ds)
  | tup {a : Addr} {xs : List V} {ds : List PyData} : H a = some (.tup xs) → ¬ N a → DsAll N H xs ds → Ds N H (.ref a) (.tuple ds)
  | dic {a : Addr} : H a = some (.dK []) → ¬ N a → Ds N H (.ref a) (.dict [])
inductive DsAll (N : Addr → Prop) (H : Hp) : List V → List PyData → Prop
  | nil : DsAll N H [] []
  | cons {v : V} {vs : List V} {d : PyData} {ds : List PyData} : Ds N H v d → DsAll N H vs ds → DsAll N H (v :: vs) (d :: ds)
end
section
variable {N : Addr → Prop} {H H' : Hp}
mutual
theorem Ds.bn (b : BN N H H') : ∀ (d : PyData) (v : V), Ds N H v d → Ds N H' v d
  | .none, _, h => by cases h; exact .non
  | .bool c, _, h => by cases h; exact .bl c
  | .int i, _, h => by cases h; exact .int i
  | .str x, _, h => by cases h; exact .str x
  | .list ds, _, h => by
    cases h with
    | lst h0 h1 h2 h3 => exact .lst h0 (b _ _ h1 h2) h2 (Ds.bnAll b ds _ h3)
  | .tuple ds, _, h => by
    cases h with
    | tup h1 h2 h3 => exact .tup (b _ _ h1 h2) h2 (Ds.bnAll b ds _ h3)
  | .dict _, _, h => by
    cases h with
    | dic h1 h2 => exact .dic (b _ _ h1 h2) h2
theorem Ds.bnAll (b : BN N H H') : ∀ (ds : List PyData) (vs : List V), DsAll N H vs ds → DsAll N H' vs ds
  | [], _, h => by cases h; exact .nil
  | d :: ds, _, h => by
    cases h with
    | cons h1 h2 => exact .cons (Ds.bn b d _ h1) (Ds.bnAll b ds _ h2)
end
mutual
theorem Ds.tp {K : PySem.W.Frag} : ∀ (d : PyData) (v : V), Ds N H v d → Tp K H v d
  | .none, _, h => by cases h; exact .non
  | .bool c, _, h => by cases h; exact .bl c
  | .int i, _, h => by cases h; exact .int i
  | .str x, _, h => by cases h; exact .str x
  | .list ds, _, h => by
    cases h with
    | lst h0 h1 h2 h3 => exact .lst h0 (SqL.of h1) (Ds.tpAll ds _ h3)
  | .tuple ds, _, h => by
    cases h with
    | tup h1 h2 h3 => exact .tup (SqT.of h1) (Ds.tpAll ds _ h3)
  | .dict _, _, h => by
    cases h with
    | dic h1 h2 => exact .dic h1
theorem Ds.tpAll {K : PySem.W.Frag} : ∀ (ds : List PyData) (vs : List V), DsAll N H vs ds → TpAll K H vs ds
  | [], _, h => by cases h; exact .nil
  | d :: ds, _, h => by
    cases h with
    | cons h1 h2 => exact .cons (Ds.tp d _ h1) (Ds.tpAll ds _ h2)
end
theorem DsAll.len : ∀ {vs : List V} {ds : List PyData}, DsAll N H vs ds → vs.length = ds.length
  | _, _, .nil => rfl
  | _, _, .cons _ t => congrArg Nat.succ t.len
theorem DsAll.app : ∀ {vs ws : List V} {ds es : List PyData}, DsAll N H vs ds → DsAll N H ws es → DsAll N H (vs ++ ws) (ds ++ es)
  | _, _, _, _, .nil, h => h
  | _, _, _, _, .cons a t, h => .cons a (t.app h)
theorem DsAll.drop : ∀ {vs : List V} {ds : List PyData} (n : Nat), DsAll N H vs ds → DsAll N H (vs.drop n) (ds.drop n)
  | _, _, 0, h => h
  | _, _, n + 1, .nil => .nil
  | _, _, n + 1, .cons a t => t.drop n
theorem DsAll.take : ∀ {vs : List V} {ds : List PyData} (n : Nat), DsAll N H vs ds → DsAll N H (vs.take n) (ds.take n)
  | _, _, 0, h => .nil
  | _, _, n + 1, .nil => .nil
  | _, _, n + 1, .cons a t => .cons a (t.take n)
end
section
variable {X : Cx}
def rCutU : V → Option Int → Option Int → Hp → VK → Prop := fun x lo hi H Q => ∃ (a : Addr) (xs : List V), x = .ref a ∧ H a = some (.tup xs) ∧ ∀ (p : Addr) H', Same H H' → H' p = some (.tup (cutV xs lo hi)) → (p = a ∨ H p = none) → Q (.ref p) H'
theorem sl_cutU : SlR X rCutU := by
  intro pins s σ H x v vl vu lo hi sl Q I rx hs pl pu h
  obtain ⟨a, xs, rfl, ha, q⟩ := h
  refine sl_tupA pins s σ H _ v vl vu lo hi sl Q I rx hs pl pu ⟨a, xs, rfl, SqT.of ha, fun w => ?_, fun _ p np => ?_⟩
  · refine q a H (Same.refl _) ?_ (.inl rfl)
    rw [ha]
    unfold cutV
    rw [w.1, w.2, List.drop_zero, Nat.sub_zero, List.take_length]
  · exact q p _ (fun b o e => by rw [upd_ne (ne_of_none e np)]; exact e) upd_same (.inr np)
def rCatU : R2 := fun x y H Q => ∃ (a b : Addr) (xs ys : List V), x = .ref a ∧ y = .ref b ∧ H a = some (.tup xs) ∧ H b = some (.tup ys) ∧ xs.length + ys.length ≤ sizeLine ∧ ∀ (p : Addr) H', Same H H' → H' p = some (.tup (xs ++ ys)) → (p = a ∨ p = b ∨ H p = none) → Q (.ref p) H'
theorem op_catU : OpR X (binaryOp .Add) rCatU := by
  intro pins s σ H x y v u Q I rx ry h
  obtain ⟨a, b, xs, ys, rfl, rfl, ha, hb, hz, q⟩ := h
  refine op_catA pins s σ H _ _ v u Q I rx ry ⟨a, b, xs, ys, rfl, rfl, SqT.of ha, SqT.of hb, hz, fun e => ?_, fun _ e => ?_, fun _ _ p np => ?_⟩
  · subst e
    exact q b H (Same.refl _) hb (.inr (.inl rfl))
  · subst e
    exact q a H (Same.refl _) (by rw [List.append_nil]; exact ha) (.inl rfl)
  · exact q p _ (fun b o e => by rw [upd_ne (ne_of_none e np)]; exact e) upd_same (.inr (.inr np))
end
end DSD

set_option Elab.async false
set_option linter.all false
set_option maxRecDepth 100000
set_option maxHeartbeats 4000000
namespace Z
open PySem PySem.Spec PyProof.Rows L2 GG TPD EQD INX
abbrev sIW : Stmt := top 5
abbrev sIE : Stmt := top 18
abbrev sPt : Stmt := top 17
/-! what is a word, an expression, a block -/
def isLow (c : Nat) : Bool := decide (97 ≤ c) && decide (c ≤ 122)
def wordD : PyData → Bool
  | .str x => (decide (1 ≤ x.length) && decide (x.length ≤ 6)) && x.cps.toList.all isLow
  | _ => false
def isOp (d : PyData) : Bool := inTexts d ["plus", "less", "alike", "least"]
def exprD : Nat → PyData → Bool
  | 0, d => match d with
    | .tuple _ => false
    | d => wordD d || idxD 10 d
  | n + 1, d => match d with
    | .tuple l => decide (l.length = 3) && (isOp (l.getD 0 .none) && (exprD n (l.getD 1 .none) && exprD n (l.getD 2 .none)))
    | d => wordD d || idxD 10 d
mutual
def strD : PyData → Bool
  | .str x => decide (x.length ≤ 1000)
  | .list ds => strA ds
  | .tuple ds => strA ds
  | .none => true
  | .bool _ => true
  | .int _ => true
  | .dict _ => true
def strA : List PyData → Bool
  | [] => true
  | d :: ds => strD d && strA ds
end
theorem strA_all : ∀ xs : List PyData, strA xs = xs.all strD
  | [] => rfl
  | x :: xs => by
    show (strD x && strA xs) = _
    rw [strA_all xs]
    rfl
theorem strD_get {l : List PyData} (h : strD (.tuple l) = true) (i : Nat) : strD (l.getD i .none) = true := by
  have h : strA l = true := h
  rw [strA_all, List.all_eq_true] at h
  rw [List.getD_eq_getElem?_getD]
  cases e : l[i]? with
  | none => rfl
  | some d => exact h d (List.mem_of_getElem? e)
theorem strD_mem {l : List PyData} (h : strD (.tuple l) = true) {d : PyData} (hd : d ∈ l) : strD d = true := by
  have h : strA l = true := h
  rw [strA_all, List.all_eq_true] at h
  exact h d hd
def partD (bk : PyData → Bool) (c : Nat) (d : PyData) : Bool := if c = 66 then bk d else if c = 87 then wordD d else exprD 6 d
def shapes : List (Str × Str) := [("toss", "BB"), ("set", "WE"), ("if", "EBB"), ("loop", "B"), ("leave", ""), ("end", "E"), ("call", "W")]
def shape (x : Str) : Option Str := (shapes.find? fun p => p.1 == x).map (·.2)
def all2 (f : Nat → PyData → Bool) : List Nat → List PyData → Bool
  | c :: cs, d :: ds => f c d && all2 f cs ds
  | _, _ => true
def statD (bk : PyData → Bool) : PyData → Bool
  | .tuple (.str x :: r) => match shape x with
    | none => false
    | some z => decide (r.length = z.length) && all2 (partD bk) z.cps.toList r
  | _ => false
def blockD : Nat → PyData → Bool
  | 0, _ => false
  | n + 1, d => match d with
    | .tuple l => decide (l.length ≤ 20) && l.all (statD (blockD n))
    | _ => false
theorem sign_le {c k : Nat} : (!decide (([c] : List Nat) < [k])) = decide (k ≤ c) := by
  have e : (([c] : List Nat) < [k]) ↔ c < k := by
    rw [List.cons_lt_cons_iff]
    simp
  rw [decide_eq_decide.mpr e]
  by_cases h : k ≤ c
  · rw [decide_eq_true h, decide_eq_false (by omega)]
    rfl
  · rw [decide_eq_false h, decide_eq_true (by omega)]
    rfl
theorem cps_a : (("a" : Str)).cps.toList = [97] := by decide +kernel
theorem cps_z : (("z" : Str)).cps.toList = [122] := by decide +kernel
section
variable {P : Program} {w : World} {K : PySem.W.Frag} {mg : Str → Option Value} {base : Heap}
def spIW (K : PySem.W.Frag) : Sp := fun vs H Q _ => ∃ (v : V) (d : PyData), vs = [v] ∧ Tp K H v d ∧ strD d = true ∧ ∀ H', Same H H' → Q (.bl (wordD d)) H'
theorem scIW : FnScope ["value", "sign"] ["value"] (defScope sIW) := ⟨rfl, rfl, rfl, by decide +kernel, rfl, by decide +kernel, by decide +kernel⟩
theorem ok_iw {f : Addr} {fd : FuncData} {tL : Tok} (F : Fun K "is_word" "is_word" sIW f fd) (T : NamesI mg) (nS : mg "str" = none) (nA : mg "all" = none) (mL : mg "MAX_LETTERS" = some (.int 6 tL)) : FnOk P w K mg base CX0 1 f fd ["value"] (spIW K) := by
  refine F.ok scIW (fun vs H Q E h => ?_) (fun cdv A outer s H vs Q E hr h => ?_)
  · obtain ⟨v, d, rfl, _⟩ := h
    rfl
  · obtain ⟨v, d, rfl, hd, hz, q⟩ := h
    refine ⟨_, (pss_cons (ps_if (PW.pt (pw_or (pt_not (pt_val (pe_callB call_isi (by rfl) T.isinstance (by decide +kernel) (pa_cons (pv 0) (pa_cons (pe_bltn (v := .ty "str") (by rfl) nS (by decide +kernel) rfl) pa_nil))))) (pw_or1 (pt_not (pt_chain op_le op_le pe_int (pe_callB call_len_str (by rfl) T.len PySem.boot_len (pa_cons (pv 0) pa_nil)) (pe_glob (v := .int 6) rfl mL ⟨_, rfl⟩)))))) (pss_one (ps_ret pe_bl)) pss_nil)
      (pss_one (ps_ret (pe_callB (cr_all rfl) (by rfl) nA (by decide +kernel) (pa_cons (pe_lc (own := [("sign", 1)]) (g := gName 1) (tt := tYes) rfl scIW.nd (pi_str (pv 0)) (blkOk_by (N := ["value", "sign"]) (sc := defScope sIW) (own := [("sign", 1)]) (by decide +kernel)) (fun _ _ _ _ _ => (pg_name (i := 1) scIW.nd rfl (.inl rfl))) (fun _ _ _ _ _ => pts_nil) (fun _ _ _ _ _ => (pe_chain op_le_str op_le_str pe_str (pv 1) pe_str))) pa_nil))))), ?_⟩
    refine ⟨_, rfl, _, .ty "str", .type (tyD d), .type "str", _, rfl, .ty "str", hd.ty, kit_ty (kit_str d), _, rfl, ?_⟩
    cases d with
    | int i => exact iteT (q _ (Same.refl _))
    | bool b => exact iteT (q _ (Same.refl _))
    | none => exact iteT (q _ (Same.refl _))
    | list ds => exact iteT (q _ (Same.refl _))
    | tuple ds => exact iteT (q _ (Same.refl _))
    | dict kvs => exact iteT (q _ (Same.refl _))
    | str x =>
      cases hd
      have hz : x.length ≤ 1000 := of_decide_eq_true hz
      have line : sizeLine = 16777216 := by decide
      have q : ∀ H', Same H H' → Q (.bl ((decide (1 ≤ x.length) && decide (x.length ≤ 6)) && x.cps.toList.all isLow)) H' := q
      refine iteF ⟨_, rfl, x, rfl, by omega, _, _, rfl, rfl, _, rfl, ?_⟩
      by_cases l0 : 1 ≤ x.length
      · rw [decide_eq_true (show (1 : Int) ≤ (x.length : Nat) by omega)]
        refine iteT ⟨_, _, rfl, rfl, _, rfl, ?_⟩
        by_cases l1 : x.length ≤ 6
        · rw [decide_eq_true (show ((x.length : Nat) : Int) ≤ 6 by omega)]
          refine iteF ⟨_, rfl, x, rfl, fun D nD => ?_⟩
          refine lc_it (walk_str (z := x)) (fun j Hx => Same H Hx ∧ Hx D = some (.lst (((x.cps.toList.take j).map isLow).map V.bl))) ⟨Same.upd nD, upd_same⟩ (fun _ _ _ _ => trivial) ?_ ?_
          · rintro j v H1 H2 hj ⟨s1, e1⟩ ⟨rfl, c, hc, rfl⟩
            refine ⟨rfl, ?_⟩
            dsimp only [tYes]
            have hc' : x.cps.toList[j]? = some c := by simpa using hc
            refine iteT ⟨_, rfl, _, _, rfl, rfl, _, rfl, ?_⟩
            have cs : ((⟨#[c]⟩ : Str)).cps.toList = [c] := rfl
            rw [cs, cps_a, sign_le]
            have put : ∀ b : Bool, isLow c = b → ∃ acc, H2 D = some (.lst acc) ∧ acc.length < sizeLine ∧ Same H (upd H2 D (.lst (acc ++ [V.bl b]))) ∧ (upd H2 D (.lst (acc ++ [V.bl b]))) D = some (.lst (((x.cps.toList.take (j + 1)).map isLow).map V.bl)) := fun b hb => ⟨_, e1, by
              rw [List.length_map, List.length_map, List.length_take, Array.length_toList]
              have : x.cps.size = x.length := rfl
              omega, fun b o h => by rw [upd_ne (ne_of_none h nD)]; exact s1 _ _ h, by
              rw [upd_same, List.take_succ, hc', List.map_append, List.map_append]
              subst hb
              rfl⟩
            by_cases ca : 97 ≤ c
            · rw [decide_eq_true ca]
              refine iteT ⟨_, _, rfl, rfl, ?_⟩
              rw [cs, cps_z, sign_le]
              exact put _ (by unfold isLow; rw [decide_eq_true ca, Bool.true_and])
            · rw [decide_eq_false ca]
              exact iteF (put false (by unfold isLow; rw [decide_eq_false ca, Bool.false_and]))
          · rintro H1 ⟨s1, e1⟩
            have ex : x.cps.toList.take x.cps.size = x.cps.toList := List.take_of_length_le (by rw [Array.length_toList]; exact Nat.le_refl _)
            rw [ex] at e1
            have q := q H1 s1
            rw [decide_eq_true l0, decide_eq_true l1] at q
            refine ⟨D, _, rfl, SqL.of e1, ?_⟩
            rw [List.all_map]
            exact q
        · rw [decide_eq_false (show ¬ ((x.length : Nat) : Int) ≤ 6 by omega)]
          refine iteT ?_
          have q := q H (Same.refl _)
          rw [decide_eq_false l1, Bool.and_false, Bool.false_and] at q
          exact q
      · rw [decide_eq_false (show ¬ (1 : Int) ≤ (x.length : Nat) by omega)]
        refine iteF ⟨_, rfl, iteT ?_⟩
        have q := q H (Same.refl _)
        rw [decide_eq_false l0, Bool.false_and, Bool.false_and] at q
        exact q
def isT : PyData → Bool
  | .tuple _ => true
  | _ => false
theorem kit_tupB (d : PyData) : kitB (tyD d) "tuple" = some (isT d) := (kit_tup d).trans (by cases d <;> rfl)
theorem isT_of {d : PyData} (h : isT d = true) : ∃ l, d = .tuple l := by
  cases d with
  | tuple l => exact ⟨l, rfl⟩
  | _ => cases h
theorem expr_leaf {n : Nat} {d : PyData} (h : isT d = false) : exprD n d = (wordD d || idxD 10 d) := by
  cases d with
  | tuple l => cases h
  | _ => cases n <;> rfl
def spIE (K : PySem.W.Frag) (n : Nat) : Sp := fun vs H Q _ => ∃ (v : V) (d : PyData) (k : Int), vs = [v, .int k] ∧ Tp K H v d ∧ strD d = true ∧ k + n = 7 ∧ ∀ H', Same H H' → Q (.bl (exprD n d)) H'
theorem scIE : FnScope ["value", "depth"] ["value", "depth"] (defScope sIE) := ⟨rfl, rfl, rfl, by decide +kernel, rfl, by decide +kernel, by decide +kernel⟩
/-- a tuple of the module, of texts -/
structure Ops (K : PySem.W.Frag) (a : Addr) (zs : List Str) : Prop where
  at_ : ∀ H : Hp, SqT K H a (zs.map V.str)
theorem ok_ie {f g x : Addr} {fd gd xd : FuncData} {tN tD : Tok} {oa : Addr} (F : Fun K "is_expression" "is_expression" sIE f fd) (T : NamesI mg) (mN : mg "MAX_NESTING" = some (.int 6 tN)) (mD : mg "MAX_DIGIT" = some (.int 9 tD)) (mO : mg "OPERATIONS" = some (.ref oa)) (kO : Ops K oa ["plus", "less", "alike", "least"])
    (GW : FnOk P w K mg base CX0 1 g gd ["value"] (spIW K)) (PW_ : Def K mg "is_word" g gd ["value"]) (GX : FnOk P w K mg base CX0 2 x xd ["value", "size"] (spIX K)) (PX_ : Def K mg "is_index" x xd ["value", "size"]) (PE_ : Def K mg "is_expression" f fd ["value", "depth"]) :
    ∀ n, FnOk P w K mg base CX0 (n + 3) f fd ["value", "depth"] (spIE K n) := by
  intro n
  induction n with
  | zero =>
    refine F.ok scIE (fun vs H Q E h => ?_) (fun cdv A outer s H vs Q E hr h => ?_)
    · obtain ⟨v, d, k, rfl, _⟩ := h
      rfl
    · obtain ⟨v, d, k, rfl, hd, hz, hk, q⟩ := h
      have hu : A.units + 3 + 64 < cLine := hr.units
      refine ⟨_, (pss_cons (ps_if (pt_not (pt_val (pe_callB call_isi (by rfl) T.isinstance (by decide +kernel) (pa_cons (pv 0) (pa_cons (pe_bltn (v := .ty "tuple") (by rfl) T.tuple (by decide +kernel) rfl) pa_nil))))) (pss_one (ps_ret (pe_or (pe_call GW (hr.mono (by first | decide | omega)) (by rfl) PW_.is PW_.kp PW_.bi .nil pass0 (pa_cons (pv 0) pa_nil)) (pe_one (pe_call GX (hr.mono (by first | decide | omega)) (by rfl) PX_.is PX_.kp PX_.bi .nil pass0 (pa_cons (pv 0) (pa_cons (pe_op op_add (pe_glob (v := .int 9) rfl mD ⟨_, rfl⟩) pe_int) pa_nil))))))) pss_nil)
      (pss_cons (ps_if (PW.pt (pw_or (pt_cmpR op_gt (pv 1) (pe_glob (v := .int 6) rfl mN ⟨_, rfl⟩) (nomark _)) (pw_or (pt_cmpR op_ne (pe_callB call_len_seq (by rfl) T.len PySem.boot_len (pa_cons (pv 0) pa_nil)) pe_int (nomark _)) (pw_or1 (pt_cmpR (op_notInX (K := K) rfl (by show A.units + 3 + 1 < cLine; omega)) (pe_ix ix_tup (pv 0) pe_int (fun _ _ => rfl)) (pe_glob (v := .ref oa) rfl mO rfl) (by rfl)))))) (pss_one (ps_ret pe_bl)) pss_nil)
      (pss_one ABS.ps_never))), ?_⟩
      refine ⟨_, rfl, _, .ty "tuple", .type (tyD d), .type "tuple", _, rfl, .ty "tuple", hd.ty, kit_ty (kit_tupB d), _, rfl, ?_⟩
      cases ht : isT d with
      | false =>
        rw [expr_leaf ht] at q
        refine iteT ⟨_, rfl, v, d, rfl, hd, hz, fun H1 s1 => ⟨_, rfl, ?_⟩⟩
        cases hw : wordD d with
        | true =>
          rw [hw, Bool.true_or] at q
          exact iteT (q _ s1)
        | false =>
          rw [hw, Bool.false_or] at q
          exact iteF ⟨_, rfl, _, _, rfl, rfl, v, d, 10, rfl, Tp.same s1 d v hd, q _ s1⟩
      | true =>
        obtain ⟨l, rfl⟩ := isT_of ht
        refine iteF ?_
        obtain rfl : k = 7 := by omega
        exact ⟨_, rfl, _, _, rfl, rfl, _, rfl, iteT (iteT (q _ (Same.refl _)))⟩
  | succ n GR =>
    refine F.ok scIE (fun vs H Q E h => ?_) (fun cdv A outer s H vs Q E hr h => ?_)
    · obtain ⟨v, d, k, rfl, _⟩ := h
      rfl
    · obtain ⟨v, d, k, rfl, hd, hz, hk, q⟩ := h
      have hu : A.units + 3 + 64 < cLine := hr.units
      refine ⟨_, (pss_cons (ps_if (pt_not (pt_val (pe_callB call_isi (by rfl) T.isinstance (by decide +kernel) (pa_cons (pv 0) (pa_cons (pe_bltn (v := .ty "tuple") (by rfl) T.tuple (by decide +kernel) rfl) pa_nil))))) (pss_one (ps_ret (pe_or (pe_call GW (hr.mono (by first | decide | omega)) (by rfl) PW_.is PW_.kp PW_.bi .nil pass0 (pa_cons (pv 0) pa_nil)) (pe_one (pe_call GX (hr.mono (by first | decide | omega)) (by rfl) PX_.is PX_.kp PX_.bi .nil pass0 (pa_cons (pv 0) (pa_cons (pe_op op_add (pe_glob (v := .int 9) rfl mD ⟨_, rfl⟩) pe_int) pa_nil))))))) pss_nil)
      (pss_cons (ps_if (PW.pt (pw_or (pt_cmpR op_gt (pv 1) (pe_glob (v := .int 6) rfl mN ⟨_, rfl⟩) (nomark _)) (pw_or (pt_cmpR op_ne (pe_callB call_len_seq (by rfl) T.len PySem.boot_len (pa_cons (pv 0) pa_nil)) pe_int (nomark _)) (pw_or1 (pt_cmpR (op_notInX (K := K) rfl (by show A.units + 3 + 1 < cLine; omega)) (pe_ix ix_tup (pv 0) pe_int (fun _ _ => rfl)) (pe_glob (v := .ref oa) rfl mO rfl) (by rfl)))))) (pss_one (ps_ret pe_bl)) pss_nil)
      (pss_one (ps_ret (pe_and (pe_call GR (hr.mono (by first | decide | omega)) (by rfl) PE_.is PE_.kp PE_.bi .nil pass0 (pa_cons (pe_ix ix_tup (pv 0) pe_int (fun _ _ => rfl)) (pa_cons (pe_op op_add (pv 1) pe_int) pa_nil))) (pe_one (pe_call GR (hr.mono (by first | decide | omega)) (by rfl) PE_.is PE_.kp PE_.bi .nil pass0 (pa_cons (pe_ix ix_tup (pv 0) pe_int (fun _ _ => rfl)) (pa_cons (pe_op op_add (pv 1) pe_int) pa_nil))))))))), ?_⟩
      refine ⟨_, rfl, _, .ty "tuple", .type (tyD d), .type "tuple", _, rfl, .ty "tuple", hd.ty, kit_ty (kit_tupB d), _, rfl, ?_⟩
      cases ht : isT d with
      | false =>
        rw [expr_leaf ht] at q
        refine iteT ⟨_, rfl, v, d, rfl, hd, hz, fun H1 s1 => ⟨_, rfl, ?_⟩⟩
        cases hw : wordD d with
        | true =>
          rw [hw, Bool.true_or] at q
          exact iteT (q _ s1)
        | false =>
          rw [hw, Bool.false_or] at q
          exact iteF ⟨_, rfl, _, _, rfl, rfl, v, d, 10, rfl, Tp.same s1 d v hd, q _ s1⟩
      | true =>
        obtain ⟨l, rfl⟩ := isT_of ht
        refine iteF ?_
        have hk : k = 6 - (n : Int) := by omega
        obtain ⟨a, xs, rfl, hs, ha⟩ := tp_tup hd
        have lx := tpLen ha
        have q : ∀ H', Same H H' → Q (.bl (decide (l.length = 3) && (isOp (l.getD 0 .none) && (exprD n (l.getD 1 .none) && exprD n (l.getD 2 .none))))) H' := q
        refine ⟨_, rfl, _, _, rfl, rfl, _, rfl, ?_⟩
        rw [decide_eq_false (by omega)]
        refine iteF ⟨_, rfl, a, xs, rfl, .inr hs, rfl, _, rfl, ?_⟩
        by_cases l3 : l.length = 3
        · rw [decide_eq_true l3, Bool.true_and] at q
          obtain ⟨u0, g0, t0⟩ := it_at ha (show 0 < l.length by omega)
          obtain ⟨u1, g1, t1⟩ := it_at ha (show 1 < l.length by omega)
          obtain ⟨u2, g2, t2⟩ := it_at ha (show 2 < l.length by omega)
          rw [decide_eq_true (show V.int ((xs.length : Nat) : Int) = .int 3 by rw [lx, l3]; rfl)]
          refine iteF ⟨_, rfl, a, xs, 0, u0, rfl, rfl, hs, atI_nat (j := 0) g0, _, oa, _, t0, rfl, kO.at_ H, _, rfl, ?_⟩
          have eo : inTexts (itD (PyData.tuple l) 0) ["plus", "less", "alike", "least"] = isOp (l.getD 0 .none) := rfl
          rw [eo]
          cases ho : isOp (l.getD 0 .none) with
          | false =>
            rw [ho, Bool.false_and] at q
            exact iteT (q _ (Same.refl _))
          | true =>
            rw [ho, Bool.true_and] at q
            refine iteF ⟨_, rfl, a, xs, 1, u1, rfl, rfl, hs, atI_nat (j := 1) g1, _, rfl, _, _, rfl, rfl, u1, _, k + 1, rfl, t1, strD_get hz 1, by omega, fun H1 s1 => ⟨_, rfl, ?_⟩⟩
            cases h1 : exprD n (itD (.tuple l) 1) with
            | false =>
              have h1 : exprD n (l.getD 1 .none) = false := h1
              rw [h1, Bool.false_and] at q
              exact iteF (q _ s1)
            | true =>
              have h1 : exprD n (l.getD 1 .none) = true := h1
              rw [h1, Bool.true_and] at q
              exact iteT ⟨_, rfl, a, xs, 2, u2, rfl, rfl, sqt_same s1 hs, atI_nat (j := 2) g2, _, rfl, _, _, rfl, rfl, u2, _, k + 1, rfl, Tp.same s1 _ _ t2, strD_get hz 2, by omega, fun H2 s2 => q _ (s1.trans s2)⟩
        · rw [decide_eq_false l3, Bool.false_and] at q
          rw [decide_eq_false (show ¬ V.int ((xs.length : Nat) : Int) = .int 3 from fun e => l3 (by rw [lx] at e; have := V.int.inj e; omega))]
          exact iteT (iteT (q _ (Same.refl _)))
theorem WT_ext {x y : Str} (e : x.cps.toList = y.cps.toList) : x = y := by
  obtain ⟨⟨a⟩⟩ := x
  obtain ⟨⟨b⟩⟩ := y
  cases e
  rfl
theorem sign_is {c k : Nat} {z : Str} (hz : z.cps.toList = [k]) : decide (V.str (⟨#[c]⟩ : Str) = V.str z) = decide (c = k) := by
  rw [decide_eq_decide]
  constructor
  · intro e
    have := V.str.inj e
    rw [← this] at hz
    have hz : [c] = [k] := hz
    exact (List.cons.inj hz).1
  · intro e
    subst e
    have : (⟨#[c]⟩ : Str) = z := WT_ext hz.symm
    rw [this]
def spPt (K : PySem.W.Frag) (n : Nat) : Sp := fun vs H Q _ => ∃ (v : V) (d : PyData) (c : Nat) (k : Int), vs = [v, .str ⟨#[c]⟩, .int k] ∧ Tp K H v d ∧ strD d = true ∧ k + n = 6 ∧ ∀ H', Same H H' → Q (.bl (partD (blockD n) c d)) H'
def spSt (K : PySem.W.Frag) (n : Nat) : Sp := fun vs H Q _ => ∃ (v : V) (d : PyData) (k : Int), vs = [v, .int k] ∧ Tp K H v d ∧ strD d = true ∧ k + n = 6 ∧ ∀ H', Same H H' → Q (.bl (statD (blockD n) d)) H'
def spBk (K : PySem.W.Frag) (n : Nat) : Sp := fun vs H Q _ => ∃ (v : V) (d : PyData) (k : Int), vs = [v, .int k] ∧ Tp K H v d ∧ strD d = true ∧ k + n = 7 ∧ ∀ H', Same H H' → Q (.bl (blockD n d)) H'
theorem scPt : FnScope ["value", "letter", "depth"] ["value", "letter", "depth"] (defScope sPt) := ⟨rfl, rfl, rfl, by decide +kernel, rfl, by decide +kernel, by decide +kernel⟩
theorem ok_pt {L n : Nat} {f b g x : Addr} {fd bd gd xd : FuncData} (hL : 9 ≤ L) (F : Fun K "is_part" "is_part" sPt f fd) (GB : FnOk P w K mg base CX0 L b bd ["value", "depth"] (spBk K n)) (PB_ : Def K mg "is_block" b bd ["value", "depth"])
    (GW : FnOk P w K mg base CX0 1 g gd ["value"] (spIW K)) (PW_ : Def K mg "is_word" g gd ["value"]) (GE : FnOk P w K mg base CX0 9 x xd ["value", "depth"] (spIE K 6)) (PE_ : Def K mg "is_expression" x xd ["value", "depth"]) : FnOk P w K mg base CX0 (L + 1) f fd ["value", "letter", "depth"] (spPt K n) := by
  refine F.ok scPt (fun vs H Q E h => ?_) (fun cdv A outer s H vs Q E hr h => ?_)
  · obtain ⟨v, d, c, k, rfl, _⟩ := h
    rfl
  · obtain ⟨v, d, c, k, rfl, hd, hz, hk, q⟩ := h
    refine ⟨_, (pss_cons (ps_if (pt_cmpR op_eq (pv 1) pe_str (nomark _)) (pss_one (ps_ret (pe_call GB (hr.mono (by first | decide | omega)) (by rfl) PB_.is PB_.kp PB_.bi .nil pass0 (pa_cons (pv 0) (pa_cons (pe_op op_add (pv 2) pe_int) pa_nil))))) pss_nil)
      (pss_one (ps_ret (pe_ifExp (pt_cmpR op_eq (pv 1) pe_str (nomark _)) (pe_call GW (hr.mono (by first | decide | omega)) (by rfl) PW_.is PW_.kp PW_.bi .nil pass0 (pa_cons (pv 0) pa_nil)) (pe_call GE (hr.mono (by first | decide | omega)) (by rfl) PE_.is PE_.kp PE_.bi .nil pass0 (pa_cons (pv 0) (pa_cons pe_int pa_nil))))))), ?_⟩
    refine ⟨_, rfl, rfl, _, rfl, ?_⟩
    rw [sign_is (k := 66) (by decide +kernel)]
    unfold partD at q
    by_cases c66 : c = 66
    · rw [if_pos c66] at q
      rw [decide_eq_true c66]
      exact iteT ⟨_, rfl, _, rfl, _, _, rfl, rfl, v, d, k + 1, rfl, hd, hz, by omega, q⟩
    · rw [if_neg c66] at q
      rw [decide_eq_false c66]
      refine iteF ⟨_, rfl, rfl, _, rfl, ?_⟩
      rw [sign_is (k := 87) (by decide +kernel)]
      by_cases c87 : c = 87
      · rw [if_pos c87] at q
        rw [decide_eq_true c87]
        exact iteT ⟨_, rfl, v, d, rfl, hd, hz, q⟩
      · rw [if_neg c87] at q
        rw [decide_eq_false c87]
        exact iteF ⟨_, rfl, v, d, 1, rfl, hd, hz, by decide, q⟩
/-- the module's table of shapes -/
structure Shp (K : PySem.W.Frag) (w : World) (a : Addr) (es : Array DictEntry) (n : Nat) : Prop where
  kd : KDict K w a es n
  kv : ∀ z, match shape z with
    | none => PySem.W.nsIn K a z = some none
    | some y => ∃ t, PySem.W.nsIn K a z = some (some (.str y t))
theorem Shp.at_ {a : Addr} {es : Array DictEntry} {n : Nat} (S : Shp K w a es n) {z y : Str} (h : shape z = some y) : KDct K w a z (.str y) := by
  have := S.kv z
  rw [h] at this
  obtain ⟨t, e⟩ := this
  exact ⟨es, n, _, S.kd.at_, S.kd.lit, e, ⟨t, rfl⟩⟩
theorem six1 (n : Nat) : HT.sIx (n + 1) 0 (some 1) = 1 := by
  have := HT.sIx_nat (n + 1) 0 1
  rw [show ((1 : Nat) : Int) = 1 from rfl] at this
  rw [this]
  omega
theorem cut1 (v : V) (us : List V) : cutV (v :: us) (some 1) none = us := by
  unfold cutV
  rw [List.length_cons, six1, HT.sIx_none, List.drop_succ_cons, List.drop_zero, List.take_of_length_le (by omega)]
end
end Z

set_option Elab.async false
set_option linter.all false
set_option maxRecDepth 100000
set_option maxHeartbeats 1000000
namespace Z
open PySem PySem.Spec PyProof.Rows L2 GG TPD EQD INX
abbrev sIS : Stmt := top 16
abbrev sIB : Stmt := top 15
section
variable {P : Program} {w : World} {K : PySem.W.Frag} {mg : Str → Option Value} {base : Heap}
theorem shape_short {x z : Str} (h : shape x = some z) : z.length ≤ 3 := by
  unfold shape at h
  obtain ⟨p, hp, rfl⟩ := Option.map_eq_some_iff.mp h
  have m := List.mem_of_find?_eq_some hp
  have : ∀ p ∈ shapes, p.2.length ≤ 3 := by decide +kernel
  exact this p m
theorem drop_at {α : Type} {l : List α} {i : Nat} {x : α} (h : l[i]? = some x) : l.drop i = x :: l.drop (i + 1) := by
  obtain ⟨hi, e⟩ := List.getElem?_eq_some_iff.mp h
  rw [List.drop_eq_getElem_cons hi, e]
theorem scISt : FnScope ["value", "depth", "part", "letter"] ["value", "depth"] (defScope sIS) := ⟨rfl, rfl, rfl, by decide +kernel, rfl, by decide +kernel, by decide +kernel⟩
theorem ok_st {L n : Nat} {f p : Addr} {fd pd : FuncData} {sa : Addr} {es : Array DictEntry} {sn : Nat} (F : Fun K "is_statement" "is_statement" sIS f fd) (T : NamesI mg) (nS : mg "str" = none) (nZ : mg "zip" = none) (mS : mg "SHAPES" = some (.ref sa)) (kS : Shp K w sa es sn)
    (GP : FnOk P w K mg base CX0 L p pd ["value", "letter", "depth"] (spPt K n)) (PP_ : Def K mg "is_part" p pd ["value", "letter", "depth"]) : FnOk P w K mg base CX0 (L + 1) f fd ["value", "depth"] (spSt K n) := by
  refine F.ok scISt (fun vs H Q E h => ?_) (fun cdv A outer s H vs Q E hr h => ?_)
  · obtain ⟨v, d, k, rfl, _⟩ := h
    rfl
  · obtain ⟨v, d, k, rfl, hd, hz, hk, q⟩ := h
    have hu : A.units + 3 + 64 < cLine := hr.units
    refine ⟨_, (pss_cons (ps_if (PW.pt (pw_or (pt_not (pt_val (pe_callB call_isi (by rfl) T.isinstance (by decide +kernel) (pa_cons (pv 0) (pa_cons (pe_bltn (v := .ty "tuple") (by rfl) T.tuple (by decide +kernel) rfl) pa_nil))))) (pw_or (pt_cmpR (WRD.op_noneIn (K := K) rfl (by show A.units + 3 < cLine; omega)) (pv 0) (pe_tup pa_nil) (nomark _)) (pw_or1 (pt_not (pt_val (pe_callB call_isi (by rfl) T.isinstance (by decide +kernel) (pa_cons (pe_ix ix_tup (pv 0) pe_int (fun _ _ => rfl)) (pa_cons (pe_bltn (v := .ty "str") (by rfl) nS (by decide +kernel) rfl) pa_nil))))))))) (pss_one (ps_ret pe_bl)) pss_nil)
      (pss_cons (ps_if (PW.pt (pw_or (pt_cmpR (KDX.op_notIn (K := K) (w := w) rfl rfl kS.kd) (pe_ix ix_tup (pv 0) pe_int (fun _ _ => rfl)) (pe_glob (v := .ref sa) rfl mS rfl) (by rfl)) (pw_or1 (pt_cmpR op_ne (pe_callB call_len_seq (by rfl) T.len PySem.boot_len (pa_cons (pv 0) pa_nil)) (pe_op op_add (pe_callB call_len_str (by rfl) T.len PySem.boot_len (pa_cons (pe_ix (KDX.ix (K := K) (w := w) rfl rfl) (pe_glob (v := .ref sa) rfl mS rfl) (pe_ix ix_tup (pv 0) pe_int (fun _ _ => rfl)) (fun _ _ => rfl)) pa_nil)) pe_int) (nomark _))))) (pss_one (ps_ret pe_bl)) pss_nil)
      (pss_cons (ps_for PassesOwn.never rfl (ZTS.pi_zts (by rfl) nZ (pa_cons (pe_slice sl_tup (pv 0) (po_some pe_int) po_none) (pa_cons (pe_ix (KDX.ix (K := K) (w := w) rfl rfl) (pe_glob (v := .ref sa) rfl mS rfl) (pe_ix ix_tup (pv 0) pe_int (fun _ _ => rfl)) (fun _ _ => rfl)) pa_nil))) (pg_tup rfl (pgs_cons (pg_name (i := 2) scISt.nd rfl (.inl rfl)) (pgs_cons (pg_name (i := 3) scISt.nd rfl (.inl rfl)) pgs_nil))) (pss_one (ps_if (pt_not (pt_val (pe_call GP (hr.mono (by first | decide | omega)) (by rfl) PP_.is PP_.kp PP_.bi .nil pass0 (pa_cons (pv 2) (pa_cons (pv 3) (pa_cons (pv 1) pa_nil)))))) (pss_one (ps_ret pe_bl)) pss_nil)))
      (pss_one (ps_ret pe_bl))))), ?_⟩
    refine ⟨_, rfl, _, .ty "tuple", .type (tyD d), .type "tuple", _, rfl, .ty "tuple", hd.ty, kit_ty (kit_tupB d), _, rfl, ?_⟩
    cases ht : isT d with
    | false =>
      have e : statD (blockD n) d = false := by cases d <;> first | rfl | cases ht
      rw [e] at q
      exact iteT (iteT (q _ (Same.refl _)))
    | true =>
      obtain ⟨l, rfl⟩ := isT_of ht
      obtain ⟨a, xs, rfl, hs, ha⟩ := tp_tup hd
      refine iteF ⟨_, rfl, by show 0 ≤ sizeLine; decide, fun q0 nq0 => ?_⟩
      have s0 := Same.upd (o := .tup []) nq0
      have e0 : upd H q0 (.tup []) q0 = some (.tup []) := upd_same
      generalize upd H q0 (.tup []) = H0 at s0 e0 ⊢
      refine ⟨a, q0, xs, rfl, rfl, sqt_same s0 hs, SqT.of e0, _, rfl, ?_⟩
      cases ha with
      | nil => exact iteT (iteT (q _ s0))
      | @cons u us e es_ h1 h2 =>
        have lx := tpLen h2
        refine iteF ⟨_, rfl, a, _, 0, u, rfl, rfl, sqt_same s0 hs, atI_nat (j := 0) rfl, _, .ty "str", .type (tyD e), .type "str", _, rfl, .ty "str", (Tp.same s0 _ _ h1).ty, kit_ty (kit_str e), _, rfl, ?_⟩
        cases e with
        | int i => exact iteT (q _ s0)
        | bool b => exact iteT (q _ s0)
        | none => exact iteT (q _ s0)
        | list ds => exact iteT (q _ s0)
        | tuple ds => exact iteT (q _ s0)
        | dict kvs => exact iteT (q _ s0)
        | str x =>
          cases h1
          have q : ∀ H', Same H H' → Q (.bl (match shape x with
            | none => false
            | some z => decide (es_.length = z.length) && all2 (partD (blockD n)) z.cps.toList es_)) H' := q
          have kx := kS.kv x
          have line : sizeLine = 16777216 := by decide
          refine iteF ⟨_, rfl, a, _, 0, _, rfl, rfl, sqt_same s0 hs, atI_nat (j := 0) rfl, ?_⟩
          cases hsh : shape x with
          | none =>
            rw [hsh] at kx q
            exact ⟨x, none, rfl, rfl, kx, _, rfl, iteT (iteT (q _ s0))⟩
          | some z =>
            rw [hsh] at kx
            obtain ⟨tz, ez⟩ := kx
            have q : ∀ H', Same H H' → Q (.bl (decide (es_.length = z.length) && all2 (partD (blockD n)) z.cps.toList es_)) H' := by
              rw [hsh] at q
              exact q
            have kz := kS.at_ hsh
            have zl : z.length ≤ 3 := shape_short hsh
            refine ⟨x, _, rfl, rfl, ez, _, rfl, iteF ?_⟩
            refine ⟨_, rfl, a, _, rfl, .inr (sqt_same s0 hs), _, rfl, a, _, 0, _, rfl, rfl, sqt_same s0 hs, atI_nat (j := 0) rfl, sa, x, _, rfl, rfl, kz, z, rfl, by omega, _, _, rfl, rfl, rfl, _, rfl, ?_⟩
            by_cases hl : es_.length = z.length
            · rw [decide_eq_true hl, Bool.true_and] at q
              rw [decide_eq_true (show V.int (((V.str x :: us).length : Nat) : Int) = V.int ((z.length : Nat) + 1) by rw [List.length_cons, lx, hl]; rfl)]
              refine iteF ⟨_, rfl, ?_⟩
              dsimp only [tPart, tNoPart]
              refine ⟨_, rfl, a, _, rfl, sqt_same s0 hs, fun z => ?_, fun p np => ?_⟩
              · have := z.1
                rw [List.length_cons, six1] at this
                cases this
              rw [cut1]
              have sp := Same.upd (o := .tup us) np
              have ep : upd H0 p (.tup us) p = some (.tup us) := upd_same
              have s1 := s0.trans sp
              generalize upd H0 p (.tup us) = H1 at sp ep s1 ⊢
              refine ⟨_, rfl, a, _, 0, _, rfl, rfl, sqt_same s1 hs, atI_nat (j := 0) rfl, sa, x, _, rfl, rfl, kz, p, us, z, rfl, SqT.of ep, ?_⟩
              refine ZTS.for_zts (D := { nx := tRet (tC (V.bl true)) { nx := fun x H' => Q V.non H', rt := Q }, rt := Q }) (xs := us) (by rw [lx, hl]; rfl) (fun i σ Hx => ∃ v1 v2 : Option V, σ = [some (.ref a), some (.int k), v1, v2] ∧ Same H1 Hx ∧ (all2 (partD (blockD n)) z.cps.toList es_ = all2 (partD (blockD n)) (z.cps.toList.drop i) (es_.drop i))) ⟨none, none, rfl, Same.refl _, by rw [List.drop_zero, List.drop_zero]⟩ (fun i σ Hx ⟨_, _, _, h, _⟩ => sqt_same h (SqT.of ep)) ?_ ?_
              · rintro i u c Tp_ σ H2 hu_ hc ⟨v1, v2, rfl, s2, hw⟩ nT
                obtain ⟨d, hd', td⟩ := tpGet h2 hu_
                rw [drop_at (show z.cps.toList[i]? = some c by simpa using hc), drop_at hd'] at hw
                have hw : all2 (partD (blockD n)) z.cps.toList es_ = (partD (blockD n) c d && all2 (partD (blockD n)) (z.cps.toList.drop (i + 1)) (es_.drop (i + 1))) := hw
                have sT := Same.upd (o := .tup [u, V.str ⟨#[c]⟩]) nT
                have eT : upd H2 Tp_ (.tup [u, V.str ⟨#[c]⟩]) Tp_ = some (.tup [u, V.str ⟨#[c]⟩]) := upd_same
                have s3 := s2.trans sT
                generalize upd H2 Tp_ (.tup [u, V.str ⟨#[c]⟩]) = H3 at s3 eT ⊢
                refine ⟨Tp_, _, rfl, SqT.of eT, rfl, _, _, rfl, _, _, rfl, rfl, ?_⟩
                have s03 := s1.trans s3
                refine ⟨_, rfl, _, rfl, _, rfl, u, d, c, k, rfl, Tp.same s03 _ _ td, strD_mem hz (List.mem_cons_of_mem _ (List.mem_of_getElem? hd')), hk, fun H4 s4 => ⟨_, rfl, ?_⟩⟩
                cases hp : partD (blockD n) c d with
                | false =>
                  rw [hp, Bool.false_and] at hw
                  rw [hw] at q
                  exact iteT (q _ (s03.trans s4))
                | true =>
                  rw [hp, Bool.true_and] at hw
                  exact iteF ⟨_, _, rfl, s3.trans s4, hw⟩
              · rintro σ H2 ⟨v1, v2, rfl, s2, hw⟩
                have e0 : all2 (partD (blockD n)) (z.cps.toList.drop us.length) (es_.drop us.length) = true := by
                  rw [lx, List.drop_of_length_le (l := es_) (Nat.le_refl _)]
                  cases z.cps.toList.drop es_.length <;> rfl
                rw [e0] at hw
                rw [hw] at q
                exact q _ (s1.trans s2)
            · rw [decide_eq_false hl, Bool.false_and] at q
              rw [decide_eq_false (show ¬ V.int (((V.str x :: us).length : Nat) : Int) = V.int ((z.length : Nat) + 1) from fun e => hl (by
                have := V.int.inj e
                rw [List.length_cons, lx] at this
                omega))]
              exact iteT (q _ s0)
theorem scIB : FnScope ["value", "depth", "part"] ["value", "depth"] (defScope sIB) := ⟨rfl, rfl, rfl, by decide +kernel, rfl, by decide +kernel, by decide +kernel⟩
theorem ok_bk0 {L : Nat} {f : Addr} {fd : FuncData} {tN tM : Tok} (F : Fun K "is_block" "is_block" sIB f fd) (T : NamesI mg) (mN : mg "MAX_NESTING" = some (.int 6 tN)) (mM : mg "MAX_STATEMENTS" = some (.int 20 tM)) : FnOk P w K mg base CX0 (L + 1) f fd ["value", "depth"] (spBk K 0) := by
  refine F.ok scIB (fun vs H Q E h => ?_) (fun cdv A outer s H vs Q E hr h => ?_)
  · obtain ⟨v, d, k, rfl, _⟩ := h
    rfl
  · obtain ⟨v, d, k, rfl, hd, hz, hk, q⟩ := h
    refine ⟨_, (pss_cons (ps_if (PW.pt (pw_or (pt_cmpR op_gt (pv 1) (pe_glob (v := .int 6) rfl mN ⟨_, rfl⟩) (nomark _)) (pw_or (pt_not (pt_val (pe_callB call_isi (by rfl) T.isinstance (by decide +kernel) (pa_cons (pv 0) (pa_cons (pe_bltn (v := .ty "tuple") (by rfl) T.tuple (by decide +kernel) rfl) pa_nil))))) (pw_or1 (pt_cmpR op_gt (pe_callB call_len_seq (by rfl) T.len PySem.boot_len (pa_cons (pv 0) pa_nil)) (pe_glob (v := .int 20) rfl mM ⟨_, rfl⟩) (nomark _)))))) (pss_one (ps_ret pe_bl)) pss_nil)
      (pss_one ABS.ps_never)), ?_⟩
    obtain rfl : k = 7 := by omega
    exact ⟨_, rfl, _, _, rfl, rfl, _, rfl, iteT (iteT (q _ (Same.refl _)))⟩
theorem ok_bk1 {L n : Nat} {f g : Addr} {fd gd : FuncData} {tN tM : Tok} (F : Fun K "is_block" "is_block" sIB f fd) (T : NamesI mg) (nA : mg "all" = none) (mN : mg "MAX_NESTING" = some (.int 6 tN)) (mM : mg "MAX_STATEMENTS" = some (.int 20 tM)) (GS : FnOk P w K mg base CX0 L g gd ["value", "depth"] (spSt K n)) (PS_ : Def K mg "is_statement" g gd ["value", "depth"]) : FnOk P w K mg base CX0 (L + 1) f fd ["value", "depth"] (spBk K (n + 1)) := by
  refine F.ok scIB (fun vs H Q E h => ?_) (fun cdv A outer s H vs Q E hr h => ?_)
  · obtain ⟨v, d, k, rfl, _⟩ := h
    rfl
  · obtain ⟨v, d, k, rfl, hd, hz, hk, q⟩ := h
    refine ⟨_, (pss_cons (ps_if (PW.pt (pw_or (pt_cmpR op_gt (pv 1) (pe_glob (v := .int 6) rfl mN ⟨_, rfl⟩) (nomark _)) (pw_or (pt_not (pt_val (pe_callB call_isi (by rfl) T.isinstance (by decide +kernel) (pa_cons (pv 0) (pa_cons (pe_bltn (v := .ty "tuple") (by rfl) T.tuple (by decide +kernel) rfl) pa_nil))))) (pw_or1 (pt_cmpR op_gt (pe_callB call_len_seq (by rfl) T.len PySem.boot_len (pa_cons (pv 0) pa_nil)) (pe_glob (v := .int 20) rfl mM ⟨_, rfl⟩) (nomark _)))))) (pss_one (ps_ret pe_bl)) pss_nil)
      (pss_one (ps_ret (pe_callB (cr_all rfl) (by rfl) nA (by decide +kernel) (pa_cons (pe_lc (own := [("part", 2)]) (g := gName 2) (tt := tYes) rfl scIB.nd (pi_tup (pv 0)) (blkOk_by (N := ["value", "depth", "part"]) (sc := defScope sIB) (own := [("part", 2)]) (by decide +kernel)) (fun _ _ _ _ _ => (pg_name (i := 2) scIB.nd rfl (.inl rfl))) (fun _ _ _ _ _ => pts_nil) (fun _ _ _ _ _ => (pe_call GS (hr.mono (by first | decide | omega)) (by rfl) PS_.is PS_.kp PS_.bi .nil pass0 (pa_cons (pv 2) (pa_cons (pv 1) pa_nil))))) pa_nil))))), ?_⟩
    refine ⟨_, rfl, _, _, rfl, rfl, _, rfl, ?_⟩
    rw [decide_eq_false (by omega)]
    refine iteF ⟨_, rfl, _, .ty "tuple", .type (tyD d), .type "tuple", _, rfl, .ty "tuple", hd.ty, kit_ty (kit_tupB d), _, rfl, ?_⟩
    cases ht : isT d with
    | false =>
      have e : blockD (n + 1) d = false := by cases d <;> first | rfl | cases ht
      rw [e] at q
      exact iteT (iteT (q _ (Same.refl _)))
    | true =>
      obtain ⟨l, rfl⟩ := isT_of ht
      obtain ⟨a, xs, rfl, hs, ha⟩ := tp_tup hd
      have lx := tpLen ha
      have line : sizeLine = 16777216 := by decide
      have q : ∀ H', Same H H' → Q (.bl (decide (l.length ≤ 20) && l.all (statD (blockD n)))) H' := q
      refine iteF ⟨_, rfl, a, xs, rfl, .inr hs, _, _, rfl, rfl, _, rfl, ?_⟩
      by_cases hl : l.length ≤ 20
      · rw [decide_eq_true hl, Bool.true_and] at q
        rw [decide_eq_false (by omega)]
        refine iteF ⟨_, rfl, a, rfl, ⟨_, hs⟩, fun D nD => ?_⟩
        refine lc_tup (K := K) (a := a) (xs := xs) (fun j Hx => Same H Hx ∧ Hx D = some (.lst (((l.take j).map (statD (blockD n))).map V.bl))) ⟨Same.upd nD, upd_same⟩ (fun j Hx _ h => sqt_same h.1 hs) ?_ ?_
        · rintro j x H1 hx ⟨s1, e1⟩
          obtain ⟨dj, hdj, tj⟩ := tpGet ha hx
          refine ⟨rfl, ?_⟩
          dsimp only [tYes]
          refine iteT ⟨_, rfl, _, rfl, x, dj, k, rfl, Tp.same s1 _ _ tj, strD_mem hz (List.mem_of_getElem? hdj), by omega, fun H2 s2 => ?_⟩
          refine ⟨_, s2 _ _ e1, by rw [List.length_map, List.length_map, List.length_take]; omega, fun b o h => by rw [upd_ne (ne_of_none h nD)]; exact s2 _ _ (s1 _ _ h), ?_⟩
          rw [upd_same, List.take_succ, hdj, List.map_append, List.map_append]
          rfl
        · rintro H1 ⟨s1, e1⟩
          rw [lx, List.take_length] at e1
          refine ⟨D, _, rfl, SqL.of e1, ?_⟩
          rw [List.all_map]
          exact q H1 s1
      · rw [decide_eq_false hl, Bool.false_and] at q
        rw [decide_eq_true (by omega)]
        exact iteT (q _ (Same.refl _))
theorem ok_bk {b s p g x : Addr} {bd sd pd gd xd : FuncData} {tN tM : Tok} {sa : Addr} {es : Array DictEntry} {sn : Nat} (FB : Fun K "is_block" "is_block" sIB b bd) (FS : Fun K "is_statement" "is_statement" sIS s sd) (FP : Fun K "is_part" "is_part" sPt p pd) (T : NamesI mg) (nA : mg "all" = none) (nS : mg "str" = none) (nZ : mg "zip" = none)
    (mN : mg "MAX_NESTING" = some (.int 6 tN)) (mM : mg "MAX_STATEMENTS" = some (.int 20 tM)) (mS : mg "SHAPES" = some (.ref sa)) (kS : Shp K w sa es sn) (PB_ : Def K mg "is_block" b bd ["value", "depth"]) (PS_ : Def K mg "is_statement" s sd ["value", "depth"]) (PP_ : Def K mg "is_part" p pd ["value", "letter", "depth"])
    (GW : FnOk P w K mg base CX0 1 g gd ["value"] (spIW K)) (PW_ : Def K mg "is_word" g gd ["value"]) (GE : FnOk P w K mg base CX0 9 x xd ["value", "depth"] (spIE K 6)) (PE_ : Def K mg "is_expression" x xd ["value", "depth"]) : ∀ n, FnOk P w K mg base CX0 (3 * n + 10) b bd ["value", "depth"] (spBk K n)
  | 0 => ok_bk0 (L := 9) FB T mN mM
  | n + 1 => ok_bk1 (L := 3 * n + 12) FB T nA mN mM (ok_st (L := 3 * n + 11) FS T nS nZ mS kS (ok_pt (L := 3 * n + 10) (by omega) FP (ok_bk FB FS FP T nA nS nZ mN mM mS kS PB_ PS_ PP_ GW PW_ GE PE_ n) PB_ GW PW_ GE PE_) PP_) PS_
end
end Z

set_option Elab.async false
set_option linter.all false
set_option maxRecDepth 100000
set_option maxHeartbeats 1000000
namespace Z
open PySem PySem.Spec PyProof.Rows L2 GG TPD EQD INX
abbrev sFm : Stmt := top 14
/-! what is built as a program is -/
def defsD : List Str → List PyData → Bool
  | _, [] => true
  | ws, d :: r => match d with
    | .tuple [.str x, b] => (wordD (.str x) && blockD 6 b) && (!ws.contains x && defsD (ws ++ [x]) r)
    | _ => false
def formD : PyData → Bool
  | .tuple [b, .tuple ds] => blockD 6 b && (decide (ds.length ≤ 6) && defsD [] ds)
  | _ => false
theorem form_not2 {d : PyData} (h : tupD 2 d = false) : formD d = false := by
  cases d with
  | tuple l =>
    match l, h with
    | [], _ => rfl
    | [_], _ => rfl
    | [_, _], h => cases h
    | _ :: d :: _ :: _, _ => cases d <;> rfl
  | _ => rfl
theorem form_not {b d : PyData} (h : isT d = false) : formD (.tuple [b, d]) = false := by
  cases d with
  | tuple l => cases h
  | _ => rfl
theorem form_nob {b d : PyData} (h : blockD 6 b = false) : formD (.tuple [b, d]) = false := by
  cases d with
  | tuple l =>
    show (blockD 6 b && _) = false
    rw [h, Bool.false_and]
  | _ => rfl
theorem defs_not2 {ws : List Str} {d : PyData} {r : List PyData} (h : tupD 2 d = false) : defsD ws (d :: r) = false := by
  cases d with
  | tuple l =>
    match l, h with
    | [], _ => rfl
    | [d], _ => cases d <;> rfl
    | [_, _], h => cases h
    | d :: _ :: _ :: _, _ => cases d <;> rfl
  | _ => rfl
theorem defs_notw {ws : List Str} {d b : PyData} {r : List PyData} (h : wordD d = false) : defsD ws (.tuple [d, b] :: r) = false := by
  cases d with
  | str x =>
    show ((wordD (.str x) && _) && _) = false
    rw [h, Bool.false_and, Bool.false_and]
  | _ => rfl
theorem word_of {d : PyData} (h : wordD d = true) : ∃ x, d = .str x := by
  cases d with
  | str x => exact ⟨x, rfl⟩
  | _ => cases h
theorem all_flat (ws : List Str) : (ws.map V.str).all flatV = true := by
  rw [List.all_eq_true]
  intro x hx
  obtain ⟨y, _, rfl⟩ := List.mem_map.mp hx
  rfl
theorem in_words (ws : List Str) (y : Str) : inV (V.str y) (ws.map V.str) = ws.contains y := by
  unfold inV
  rw [List.any_map]
  induction ws with
  | nil => rfl
  | cons x r ih =>
    rw [List.any_cons, List.contains_cons, ih]
    congr 1
    show (x == y) = (y == x)
    exact Bool.eq_iff_iff.mpr ⟨fun h => by rw [eq_of_beq h]; exact beq_self_eq_true _, fun h => by rw [eq_of_beq h]; exact beq_self_eq_true _⟩
section
variable {P : Program} {w : World} {K : PySem.W.Frag} {mg : Str → Option Value} {base : Heap}
def spFm (K : PySem.W.Frag) : Sp := fun vs H Q _ => ∃ (v : V) (d : PyData), vs = [v] ∧ Tp K H v d ∧ strD d = true ∧ ∀ H', Same H H' → Q (.bl (formD d)) H'
theorem scFm : FnScope ["value", "words", "pair"] ["value"] (defScope sFm) := ⟨rfl, rfl, rfl, by decide +kernel, rfl, by decide +kernel, by decide +kernel⟩
theorem ok_fm {f t b g : Addr} {fd td bd gd : FuncData} {tD : Tok} (F : Fun K "is_form" "is_form" sFm f fd) (T : NamesI mg) (mD : mg "MAX_DEFS" = some (.int 6 tD)) (GT : FnOk P w K mg base CX0 1 t td ["value", "size"] (spIT K)) (PT_ : Def K mg "is_tuple" t td ["value", "size"])
    (GB : FnOk P w K mg base CX0 28 b bd ["value", "depth"] (spBk K 6)) (PB_ : Def K mg "is_block" b bd ["value", "depth"]) (GW : FnOk P w K mg base CX0 1 g gd ["value"] (spIW K)) (PW_ : Def K mg "is_word" g gd ["value"]) : FnOk P w K mg base CX0 29 f fd ["value"] (spFm K) := by
  refine F.ok scFm (fun vs H Q E h => ?_) (fun cdv A outer s H vs Q E hr h => ?_)
  · obtain ⟨v, d, rfl, _⟩ := h
    rfl
  · obtain ⟨v, d, rfl, hd, hz, q⟩ := h
    refine ⟨_, (pss_cons (ps_if (PW.pt (pw_or (pt_not (pt_val (pe_call GT (hr.mono (by first | decide | omega)) (by rfl) PT_.is PT_.kp PT_.bi .nil pass0 (pa_cons (pv 0) (pa_cons pe_int pa_nil))))) (pw_or1 (pt_not (pt_val (pe_call GB (hr.mono (by first | decide | omega)) (by rfl) PB_.is PB_.kp PB_.bi .nil pass0 (pa_cons (pe_ix ix_tup (pv 0) pe_int (fun _ _ => rfl)) (pa_cons pe_int pa_nil)))))))) (pss_one (ps_ret pe_bl)) pss_nil)
      (pss_cons (ps_if (PW.pt (pw_or (pt_not (pt_val (pe_callB call_isi (by rfl) T.isinstance (by decide +kernel) (pa_cons (pe_ix ix_tup (pv 0) pe_int (fun _ _ => rfl)) (pa_cons (pe_bltn (v := .ty "tuple") (by rfl) T.tuple (by decide +kernel) rfl) pa_nil))))) (pw_or1 (pt_cmpR op_gt (pe_callB call_len_seq (by rfl) T.len PySem.boot_len (pa_cons (pe_ix ix_tup (pv 0) pe_int (fun _ _ => rfl)) pa_nil)) (pe_glob (v := .int 6) rfl mD ⟨_, rfl⟩) (nomark _))))) (pss_one (ps_ret pe_bl)) pss_nil)
      (pss_cons (ps_set (i := 1) scFm.nd rfl (.inl rfl) (pe_lst pa_nil))
      (pss_cons (ps_for PassesOwn.never rfl (pi_tup (pe_ix ix_tup (pv 0) pe_int (fun _ _ => rfl))) (pg_name (i := 2) scFm.nd rfl (.inl rfl)) (pss_cons (ps_if (PW.pt (pw_or (pt_not (pt_val (pe_call GT (hr.mono (by first | decide | omega)) (by rfl) PT_.is PT_.kp PT_.bi .nil pass0 (pa_cons (pv 2) (pa_cons pe_int pa_nil))))) (pw_or (pt_not (pt_val (pe_call GW (hr.mono (by first | decide | omega)) (by rfl) PW_.is PW_.kp PW_.bi .nil pass0 (pa_cons (pe_ix ix_tup (pv 2) pe_int (fun _ _ => rfl)) pa_nil)))) (pw_or1 (pt_not (pt_val (pe_call GB (hr.mono (by first | decide | omega)) (by rfl) PB_.is PB_.kp PB_.bi .nil pass0 (pa_cons (pe_ix ix_tup (pv 2) pe_int (fun _ _ => rfl)) (pa_cons pe_int pa_nil))))))))) (pss_one (ps_ret pe_bl)) pss_nil)
      (pss_cons (ps_if (pt_cmpR op_in_seq (pe_ix ix_tup (pv 2) pe_int (fun _ _ => rfl)) (pv 1) (by rfl)) (pss_one (ps_ret pe_bl)) pss_nil)
      (pss_one (ps_expr (pe_bm PySem.F.plainAttrs_list PySem.F.slot_list_append PySem.F.type_list_append mt_append (pv 1) (pa_cons (pe_ix ix_tup (pv 2) pe_int (fun _ _ => rfl)) pa_nil)))))))
      (pss_one (ps_ret pe_bl)))))), ?_⟩
    have line : sizeLine = 16777216 := by decide
    refine ⟨_, rfl, v, d, 2, rfl, hd, _, rfl, ?_⟩
    cases h2 : tupD 2 d with
    | false =>
      rw [form_not2 h2] at q
      exact iteT (iteT (q _ (Same.refl _)))
    | true =>
      obtain ⟨l, rfl, hl⟩ := tupD_of h2
      obtain ⟨a, xs, rfl, hs, ha⟩ := tp_tup hd
      match l, hl, ha, hz, q with
      | [b0, d1], _, @TpAll.cons _ _ u0 _ _ _ t0 (@TpAll.cons _ _ u1 _ _ _ t1 .nil), hz, q =>
        have z0 := strD_mem hz (List.mem_cons_self ..)
        have z1 := strD_mem hz (List.mem_cons_of_mem _ (List.mem_cons_self ..))
        refine iteF ⟨_, rfl, a, _, 0, u0, rfl, rfl, hs, atI_nat (j := 0) rfl, u0, b0, 1, rfl, t0, z0, by decide, fun H1 s1 => ⟨_, rfl, ?_⟩⟩
        have t1' := Tp.same s1 _ _ t1
        have hs1 := sqt_same s1 hs
        cases hb : blockD 6 b0 with
        | false =>
          rw [form_nob hb] at q
          exact iteT (q _ s1)
        | true =>
          refine iteF ⟨_, rfl, a, _, 1, u1, rfl, rfl, hs1, atI_nat (j := 1) rfl, _, .ty "tuple", .type (tyD d1), .type "tuple", _, rfl, .ty "tuple", t1'.ty, kit_ty (kit_tupB d1), _, rfl, ?_⟩
          cases ht : isT d1 with
          | false =>
            rw [form_not ht] at q
            exact iteT (iteT (q _ s1))
          | true =>
            obtain ⟨ds, rfl⟩ := isT_of ht
            obtain ⟨c, ys, rfl, hc, hys⟩ := tp_tup t1'
            have ly := tpLen hys
            have q : ∀ H', Same H H' → Q (.bl (blockD 6 b0 && (decide (ds.length ≤ 6) && defsD [] ds))) H' := q
            rw [hb, Bool.true_and] at q
            refine iteF ⟨_, rfl, a, _, 1, _, rfl, rfl, hs1, atI_nat (j := 1) rfl, c, ys, rfl, .inr hc, _, _, rfl, rfl, _, rfl, ?_⟩
            by_cases h6 : ds.length ≤ 6
            · rw [decide_eq_true h6, Bool.true_and] at q
              rw [decide_eq_false (by omega)]
              refine iteF ⟨by show 0 ≤ sizeLine; decide, fun W nW => ?_⟩
              have nW0 : H W = none := s1.free nW
              have s2 := Same.upd (o := .lst []) nW
              have eW : upd H1 W (.lst []) W = some (.lst []) := upd_same
              have s3 := s1.trans s2
              generalize upd H1 W (.lst []) = H2 at s2 eW s3 ⊢
              refine ⟨_, rfl, a, _, 1, _, rfl, rfl, sqt_same s2 hs1, atI_nat (j := 1) rfl, c, rfl, ⟨_, sqt_same s2 hc⟩, ?_⟩
              refine for_it (walk_tup (K := K) (a := c) (xs := ys)) (D := { nx := tRet (tC (V.bl true)) { nx := fun x H' => Q V.non H', rt := Q }, rt := Q }) (fun i σ Hx => ∃ (vi : Option V) (ws : List Str), σ = [some (.ref a), some (.ref W), vi] ∧ Same H1 Hx ∧ Hx W = some (.lst (ws.map V.str)) ∧ ws.length ≤ i ∧ defsD [] ds = defsD ws (ds.drop i)) ⟨none, [], rfl, s2, eW, Nat.le_refl _, by rw [List.drop_zero]⟩ (fun i σ Hx _ ⟨_, _, _, h, _⟩ => sqt_same h hc) ?_ ?_
              · rintro i x σ H3 H4 hi ⟨vi, ws, rfl, s4, eW4, lw, hw⟩ ⟨rfl, hx⟩
                obtain ⟨dj, hdj, tj⟩ := tpGet hys hx
                rw [drop_at hdj] at hw
                have s14 : Same H H4 := s1.trans s4
                have tj' := Tp.same s4 _ _ tj
                have zj := strD_mem z1 (List.mem_of_getElem? hdj)
                have stop : ∀ H', Same H H' → defsD ws (dj :: ds.drop (i + 1)) = false → Q (.bl false) H' := fun H' s' e => by
                  rw [hw, e] at q
                  exact q _ s'
                refine ⟨_, rfl, x, dj, 2, rfl, tj', _, rfl, ?_⟩
                cases e2 : tupD 2 dj with
                | false => exact iteT (iteT (stop _ s14 (defs_not2 e2)))
                | true =>
                  obtain ⟨l, rfl, hl⟩ := tupD_of e2
                  obtain ⟨pa, ps, rfl, hps, hpa⟩ := tp_tup tj'
                  match l, hl, hpa, zj, hw, stop with
                  | [w0, b1], _, @TpAll.cons _ _ u0 _ _ _ tw (@TpAll.cons _ _ u1 _ _ _ tb .nil), zj, hw, stop =>
                    have zw := strD_mem zj (List.mem_cons_self ..)
                    have zb := strD_mem zj (List.mem_cons_of_mem _ (List.mem_cons_self ..))
                    refine iteF ⟨_, rfl, pa, _, 0, u0, rfl, rfl, hps, atI_nat (j := 0) rfl, u0, w0, rfl, tw, zw, fun H5 s5 => ⟨_, rfl, ?_⟩⟩
                    cases ew : wordD w0 with
                    | false => exact iteT (iteT (stop _ (s14.trans s5) (defs_notw ew)))
                    | true =>
                      obtain ⟨y, rfl⟩ := word_of ew
                      cases tw
                      refine iteF ⟨_, rfl, pa, _, 1, u1, rfl, rfl, sqt_same s5 hps, atI_nat (j := 1) rfl, u1, b1, 1, rfl, Tp.same s5 _ _ tb, zb, by decide, fun H6 s6 => ⟨_, rfl, ?_⟩⟩
                      have s56 := s5.trans s6
                      have hw : defsD [] ds = ((wordD (.str y) && blockD 6 b1) && (!ws.contains y && defsD (ws ++ [y]) (ds.drop (i + 1)))) := hw
                      rw [ew, Bool.true_and] at hw
                      cases eb : blockD 6 b1 with
                      | false =>
                        rw [eb, Bool.false_and] at hw
                        rw [hw] at q
                        exact iteT (q _ (s14.trans s56))
                      | true =>
                        rw [eb, Bool.true_and] at hw
                        have eW6 := s56 _ _ eW4
                        refine iteF ⟨_, rfl, pa, _, 0, _, rfl, rfl, sqt_same s56 hps, atI_nat (j := 0) rfl, _, rfl, W, _, rfl, .inl (SqL.of eW6), rfl, all_flat ws, _, rfl, ?_⟩
                        rw [if_neg (show ¬ (false = true) by decide), in_words]
                        cases ec : ws.contains y with
                        | true =>
                          rw [ec, Bool.not_true, Bool.false_and] at hw
                          rw [hw] at q
                          exact iteT (q _ (s14.trans s56))
                        | false =>
                          rw [ec, Bool.not_false, Bool.true_and] at hw
                          have hl6 : i < 6 := by omega
                          refine iteF ⟨_, rfl, .inl ⟨rfl, _, SqL.of eW6⟩, _, rfl, pa, _, 0, _, rfl, rfl, sqt_same s56 hps, atI_nat (j := 0) rfl, W, _, _, rfl, rfl, eW6, by rw [List.length_map]; omega, ?_⟩
                          refine ⟨_, ws ++ [y], rfl, fun b o h => ?_, by rw [upd_same, List.map_append]; rfl, by rw [List.length_append]; exact Nat.succ_le_succ lw, hw⟩
                          rw [upd_ne (ne_of_none h nW)]
                          exact s56 _ _ (s4 _ _ h)
              · rintro σ H3 ⟨vi, ws, rfl, s4, eW4, lw, hw⟩
                rw [ly, List.drop_of_length_le (Nat.le_refl _)] at hw
                have hw : defsD [] ds = true := hw
                rw [hw] at q
                exact q _ (s1.trans s4)
            · rw [decide_eq_false h6, Bool.false_and] at q
              rw [decide_eq_true (by omega)]
              exact iteT (q _ s1)
end
end Z

set_option Elab.async false
set_option linter.all false
set_option maxRecDepth 100000
set_option maxHeartbeats 1000000
namespace Z
open PySem PySem.Spec PyProof.Rows L2 GG TPD EQD INX
abbrev sBI : Stmt := top 21
abbrev sLB : Stmt := top 20
/-! the statements of a block, in order -/
def headD (d : PyData) : Str := match d with
  | .tuple (.str x :: _) => x
  | _ => ""
def elemsN (z : Str) (n : Nat) : List Nat := ((List.range n).filter fun i => decide (z.cps[i]? = some 66)).map (· + 1)
def elemsD (d : PyData) : List Nat := match shape (headD d) with
  | some z => elemsN z z.cps.size
  | none => []
abbrev Row : Type := List Int × PyData × Bool
def rowD (r : Row) : PyData := .tuple [.tuple (r.1.map PyData.int), r.2.1, .bool r.2.2]
def itemsD : PyData → List PyData
  | .tuple l => l
  | _ => []
def rowsD (rec : PyData → List Int → Bool → List Row) (p : List Int) (b : Bool) (i : Nat) (s : PyData) : List Row :=
  (p ++ [(i : Int)], s, b) :: (elemsD s).flatMap fun e => rec (itD s e) (p ++ [(i : Int)] ++ [(e : Int)]) (b || headD s == "loop")
def listB : Nat → PyData → List Int → Bool → List Row
  | 0, _, _, _ => []
  | n + 1, d, p, b => (List.range (itemsD d).length).flatMap fun i => rowsD (listB n) p b i ((itemsD d).getD i .none)
theorem walk_signs {z : Str} : Walk (EN.Signs z) z.cps.size (fun _ => True) (fun i H v H' => ∃ T c, v = .ref T ∧ H T = none ∧ H' = upd H T (.tup [.int (i : Nat), .str ⟨#[c]⟩]) ∧ z.cps[i]? = some c) :=
  ⟨fun _ _ hi _ => hi, fun _ _ => Nat.le_refl _, fun _ _ _ _ _ _ y => y⟩
theorem elems_succ (z : Str) (n : Nat) : elemsN z (n + 1) = if z.cps[n]? = some 66 then elemsN z n ++ [n + 1] else elemsN z n := by
  unfold elemsN
  rw [List.range_succ, List.filter_append, List.map_append]
  by_cases h : z.cps[n]? = some 66
  · rw [if_pos h, List.filter_cons_of_pos (by rw [decide_eq_true h])]
    rfl
  · rw [if_neg h, List.filter_cons_of_neg (by rw [decide_eq_false h]; decide)]
    simp
theorem elems_len (z : Str) (n : Nat) : (elemsN z n).length ≤ n := by
  unfold elemsN
  rw [List.length_map]
  exact Nat.le_trans (List.length_filter_le _ _) (by rw [List.length_range]; exact Nat.le_refl _)
theorem all2_get {f : Nat → PyData → Bool} : ∀ {cs : List Nat} {ds : List PyData}, all2 f cs ds = true → ∀ {i c : Nat} {d : PyData}, cs[i]? = some c → ds[i]? = some d → f c d = true
  | [], _, _, _, _, _, h, _ => by simp at h
  | _ :: _, [], _, _, _, _, _, h => by simp at h
  | c :: cs, d :: ds, h, 0, _, _, h1, h2 => by
    cases h1
    cases h2
    have h : (f c d && all2 f cs ds) = true := h
    rw [Bool.and_eq_true] at h
    exact h.1
  | c :: cs, d :: ds, h, i + 1, _, _, h1, h2 => by
    have h : (f c d && all2 f cs ds) = true := h
    rw [Bool.and_eq_true] at h
    exact all2_get h.2 (by simpa using h1) (by simpa using h2)
section
variable {P : Program} {w : World} {K : PySem.W.Frag} {mg : Str → Option Value} {base : Heap}
def intsV (l : List Nat) : List V := l.map fun e => V.int (e : Nat)
def spBI (K : PySem.W.Frag) : Sp := fun vs H Q _ => ∃ (v : V) (x z : Str) (r : List PyData), vs = [v] ∧ Tp K H v (.tuple (.str x :: r)) ∧ shape x = some z ∧ ∀ D H', Same H H' → H D = none → H' D = some (.lst (intsV (elemsN z z.cps.size))) → Q (.ref D) H'
theorem scBI : FnScope ["statement", "at", "letter"] ["statement"] (defScope sBI) := ⟨rfl, rfl, rfl, by decide +kernel, rfl, by decide +kernel, by decide +kernel⟩
theorem ok_bi {f : Addr} {fd : FuncData} {sa : Addr} {es : Array DictEntry} {sn : Nat} (F : Fun K "block_indices" "block_indices" sBI f fd) (nE : mg "enumerate" = none) (mS : mg "SHAPES" = some (.ref sa)) (kS : Shp K w sa es sn) : FnOk P w K mg base CX0 1 f fd ["statement"] (spBI K) := by
  refine F.ok scBI (fun vs H Q E h => ?_) (fun cdv A outer s H vs Q E hr h => ?_)
  · obtain ⟨v, x, z, r, rfl, _⟩ := h
    rfl
  · obtain ⟨v, x, z, r, rfl, hd, hx, q⟩ := h
    refine ⟨_, (pss_one (ps_ret (pe_lc (own := [("at", 1), ("letter", 2)]) (g := gTup K 2 (gCons (gName 1) (gCons (gName 2) gNil))) rfl scBI.nd (EN.pi_signs (by rfl) nE (pa_cons (pe_ix (KDX.ix (K := K) (w := w) rfl rfl) (pe_glob (v := .ref sa) rfl mS rfl) (pe_ix ix_tup (pv 0) pe_int (fun _ _ => rfl)) (fun _ _ => rfl)) pa_nil)) (blkOk_by (N := ["statement", "at", "letter"]) (sc := defScope sBI) (own := [("at", 1), ("letter", 2)]) (by decide +kernel)) (fun _ _ _ _ _ => (pg_tup rfl (pgs_cons (pg_name (i := 1) scBI.nd rfl (.inl rfl) (Or.inr rfl)) (pgs_cons (pg_name (i := 2) scBI.nd rfl (.inl rfl) (Or.inr rfl)) pgs_nil)))) (fun _ _ _ _ _ => (pts_one (pt_cmpR op_eq (pv 2) pe_str (nomark _)))) (fun _ _ _ _ _ => (pe_op op_add (pv 1) pe_int))))), ?_⟩
    have line : sizeLine = 16777216 := by decide
    obtain ⟨a, xs, rfl, hs, ha⟩ := tp_tup hd
    cases ha with
    | @cons u us e es_ h1 h2 =>
      cases h1
      have kz := kS.at_ hx
      have zl := shape_short hx
      refine ⟨_, rfl, a, _, 0, _, rfl, rfl, hs, atI_nat (j := 0) rfl, sa, x, _, rfl, rfl, kz, z, rfl, fun D nD => ?_⟩
      refine lc_it (walk_signs (z := z)) (fun j Hx => Same H Hx ∧ Hx D = some (.lst (intsV (elemsN z j)))) ⟨Same.upd nD, upd_same⟩ (fun _ _ _ _ => trivial) ?_ ?_
      · rintro j v H1 H2 hj ⟨s1, e1⟩ ⟨T, c, rfl, nT, rfl, hc⟩
        have sT := Same.upd (o := .tup [V.int (j : Nat), V.str ⟨#[c]⟩]) nT
        have eT : upd H1 T (.tup [V.int (j : Nat), V.str ⟨#[c]⟩]) T = some (.tup [V.int (j : Nat), V.str ⟨#[c]⟩]) := upd_same
        have s2 := s1.trans sT
        have e2 := sT _ _ e1
        generalize upd H1 T (.tup [V.int (j : Nat), V.str ⟨#[c]⟩]) = H2 at s2 eT e2 ⊢
        refine ⟨T, _, rfl, SqT.of eT, rfl, _, _, rfl, _, _, rfl, rfl, rfl, ?_⟩
        refine ⟨_, rfl, rfl, _, rfl, ?_⟩
        rw [sign_is (k := 66) (by decide +kernel), elems_succ]
        by_cases c66 : c = 66
        · rw [decide_eq_true c66, if_pos (show z.cps[j]? = some 66 by rw [hc, c66])]
          refine iteT ⟨_, rfl, _, _, rfl, rfl, _, e2, by
            have := elems_len z j
            unfold intsV
            rw [List.length_map]
            have : z.cps.size = z.length := rfl
            omega, fun b o h => by rw [upd_ne (ne_of_none h nD)]; exact s2 _ _ h, ?_⟩
          rw [upd_same]
          unfold intsV
          rw [List.map_append]
          rfl
        · rw [decide_eq_false c66, if_neg (show ¬ z.cps[j]? = some 66 by rw [hc]; intro e; exact c66 (Option.some.inj e))]
          exact iteF ⟨s2, e2⟩
      · rintro H1 ⟨s1, e1⟩
        exact q D H1 s1 nD e1
theorem stat_elem {bk : PyData → Bool} {s : PyData} (h : statD bk s = true) : ∃ x z r, s = .tuple (.str x :: r) ∧ shape x = some z ∧ r.length = z.length ∧ ∀ e, e ∈ elemsN z z.cps.size → bk (itD s e) = true ∧ e < r.length + 1 := by
  unfold statD at h
  split at h
  · rename_i x r
    cases hx : shape x with
    | none =>
      rw [hx] at h
      cases h
    | some z =>
      rw [hx] at h
      have h : (decide (r.length = z.length) && all2 (partD bk) z.cps.toList r) = true := h
      rw [Bool.and_eq_true, decide_eq_true_eq] at h
      refine ⟨x, z, r, rfl, hx, h.1, fun e he => ?_⟩
      unfold elemsN at he
      obtain ⟨i, hi, rfl⟩ := List.mem_map.mp he
      obtain ⟨hr, hc⟩ := List.mem_filter.mp hi
      have hc : z.cps[i]? = some 66 := of_decide_eq_true hc
      have hr : i < z.cps.size := List.mem_range.mp hr
      have hl : i < r.length := by
        have : z.cps.size = z.length := rfl
        omega
      refine ⟨?_, by omega⟩
      have one := all2_get h.2 (show z.cps.toList[i]? = some 66 by simpa using hc) (List.getElem?_eq_getElem hl)
      have : partD bk 66 r[i] = bk r[i] := rfl
      rw [this] at one
      show bk ((PyData.str x :: r).getD (i + 1) .none) = true
      rw [List.getD_cons_succ, List.getD_eq_getElem?_getD, List.getElem?_eq_getElem hl]
      exact one
  · cases h
theorem elems_of {x z : Str} {r : List PyData} (h : shape x = some z) : elemsD (.tuple (.str x :: r)) = elemsN z z.cps.size := by
  show (match shape x with
    | some z => elemsN z z.cps.size
    | none => []) = _
  rw [h]
theorem str_dec (x y : Str) : decide ((V.str x : V) = .str y) = (x == y) := by
  by_cases h : x = y
  · subst h
    rw [decide_eq_true rfl]
    simp
  · rw [decide_eq_false (fun e => h (V.str.inj e))]
    simpa using h
/-- tuples stand -/
def TS_ (H H' : Hp) : Prop := ∀ b xs, H b = some (.tup xs) → H' b = some (.tup xs)
theorem TS_.refl (H : Hp) : TS_ H H := fun _ _ h => h
theorem TS_.trans {H H1 H2 : Hp} (a : TS_ H H1) (b : TS_ H1 H2) : TS_ H H2 := fun x xs h => b x xs (a x xs h)
theorem TS_.same {H H' : Hp} (s : Same H H') : TS_ H H' := fun b _ h => s b _ h
theorem TS_.put {H : Hp} {F : Addr} {xs ys : List V} (e : H F = some (.lst xs)) : TS_ H (upd H F (.lst ys)) := fun b zs h => by
  rw [upd_ne (fun z => by
    subst z
    rw [e] at h
    cases h)]
  exact h
def RowAt (K : PySem.W.Frag) (H0 H : Hp) (v : V) (r : Row) : Prop := ∃ (t pt : Addr) (sv : V), v = .ref t ∧ H t = some (.tup [.ref pt, sv, .bl r.2.2]) ∧ H pt = some (.tup (r.1.map V.int)) ∧ Tp K H0 sv r.2.1
def RowsAt (K : PySem.W.Frag) (H0 H : Hp) : List V → List Row → Prop
  | [], [] => True
  | v :: vs, r :: rs => RowAt K H0 H v r ∧ RowsAt K H0 H vs rs
  | _, _ => False
theorem RowAt.mono {K : PySem.W.Frag} {H0 H H' : Hp} {v : V} {r : Row} (h : RowAt K H0 H v r) (s : TS_ H H') : RowAt K H0 H' v r := by
  obtain ⟨t, pt, sv, e, h1, h2, h3⟩ := h
  exact ⟨t, pt, sv, e, s _ _ h1, s _ _ h2, h3⟩
theorem RowsAt.mono {K : PySem.W.Frag} {H0 H H' : Hp} (s : TS_ H H') : ∀ {vs : List V} {rs : List Row}, RowsAt K H0 H vs rs → RowsAt K H0 H' vs rs
  | [], [], _ => trivial
  | _ :: _, _ :: _, h => ⟨h.1.mono s, RowsAt.mono s h.2⟩
  | [], _ :: _, h => h.elim
  | _ :: _, [], h => h.elim
theorem RowsAt.len {K : PySem.W.Frag} {H0 H : Hp} : ∀ {vs : List V} {rs : List Row}, RowsAt K H0 H vs rs → vs.length = rs.length
  | [], [], _ => rfl
  | _ :: _, _ :: _, h => congrArg Nat.succ (RowsAt.len h.2)
  | [], _ :: _, h => h.elim
  | _ :: _, [], h => h.elim
theorem RowsAt.app {K : PySem.W.Frag} {H0 H : Hp} : ∀ {vs ws : List V} {rs qs : List Row}, RowsAt K H0 H vs rs → RowsAt K H0 H ws qs → RowsAt K H0 H (vs ++ ws) (rs ++ qs)
  | [], _, [], _, _, h => h
  | _ :: _, _, _ :: _, _, h, g => ⟨h.1, RowsAt.app h.2 g⟩
  | [], _, _ :: _, _, h, _ => h.elim
  | _ :: _, _, [], _, h, _ => h.elim
theorem RowsAt.get {K : PySem.W.Frag} {H0 H : Hp} : ∀ {vs : List V} {rs : List Row}, RowsAt K H0 H vs rs → ∀ {i : Nat} {v : V}, vs[i]? = some v → ∃ r, rs[i]? = some r ∧ RowAt K H0 H v r
  | [], [], _, i, v, e => by simp at e
  | _ :: _, r :: _, h, 0, v, e => by
    cases e
    exact ⟨r, rfl, h.1⟩
  | _ :: _, _ :: _, h, i + 1, v, e => RowsAt.get h.2 (by simpa using e)
  | [], _ :: _, h, _, _, _ => h.elim
  | _ :: _, [], h, _, _, _ => h.elim
theorem flat_mono {α β : Type} (G : α → List β) (xs : List α) (j : Nat) : ((xs.take j).flatMap G).length ≤ (xs.flatMap G).length := by
  have e : xs.flatMap G = (xs.take j).flatMap G ++ (xs.drop j).flatMap G := by rw [← List.flatMap_append, List.take_append_drop]
  rw [e, List.length_append]
  omega
theorem flat_one {α β : Type} (G : α → List β) {xs : List α} {x : α} (h : x ∈ xs) : (G x).length ≤ (xs.flatMap G).length := by
  induction xs with
  | nil => cases h
  | cons y r ih =>
    rw [List.flatMap_cons, List.length_append]
    rcases List.mem_cons.mp h with rfl | h
    · omega
    · have := ih h
      omega
theorem block_of {n : Nat} {d : PyData} (h : blockD (n + 1) d = true) : ∃ l, d = .tuple l ∧ l.length ≤ 20 ∧ ∀ x ∈ l, statD (blockD n) x = true := by
  cases d with
  | tuple l =>
    have h : (decide (l.length ≤ 20) && l.all (statD (blockD n))) = true := h
    rw [Bool.and_eq_true, decide_eq_true_eq, List.all_eq_true] at h
    exact ⟨l, rfl, h⟩
  | _ => cases h
def spLB (K : PySem.W.Frag) (n : Nat) : Sp := fun vs H Q _ => ∃ (v : V) (d : PyData) (pa : Addr) (ps : List Int) (b : Bool) (H0 : Hp), vs = [v, .ref pa, .bl b] ∧ Same H0 H ∧ Tp K H0 v d ∧ blockD n d = true ∧ H pa = some (.tup (ps.map V.int)) ∧ ps.length + 2 * n ≤ 100 ∧ (listB n d ps b).length ≤ 1000000 ∧
  ∀ F H' rows, Same H H' → H F = none → H' F = some (.lst rows) → RowsAt K H0 H' rows (listB n d ps b) → Q (.ref F) H'
theorem scLB : FnScope ["block", "path", "looped", "found", "at", "statement", "place", "inside", "element"] ["block", "path", "looped"] (defScope sLB) := ⟨rfl, rfl, rfl, by decide +kernel, rfl, by decide +kernel, by decide +kernel⟩
theorem ok_lb {f i : Addr} {fd id_ : FuncData} (F : Fun K "list_in_block" "list_in_block" sLB f fd) (T : NamesI mg) (nE : mg "enumerate" = none) (PL_ : Def K mg "list_in_block" f fd ["block", "path", "looped"]) (GI : FnOk P w K mg base CX0 1 i id_ ["statement"] (spBI K)) (PI_ : Def K mg "block_indices" i id_ ["statement"]) : ∀ n, FnOk P w K mg base CX0 (n + 2) f fd ["block", "path", "looped"] (spLB K n) := by
  intro n
  induction n with
  | zero =>
    refine F.ok scLB (fun vs H Q E h => ?_) (fun cdv A outer s H vs Q E hr h => ?_)
    · obtain ⟨v, d, pa, ps, b, _, rfl, _⟩ := h
      rfl
    · obtain ⟨v, d, pa, ps, b, H0, _, _, _, h, _⟩ := h
      cases h
  | succ n GR =>
    refine F.ok scLB (fun vs H Q E h => ?_) (fun cdv A outer s H vs Q E hr h => ?_)
    · obtain ⟨v, d, pa, ps, b, _, rfl, _⟩ := h
      rfl
    · obtain ⟨v, d, pa, ps, b, Hb, rfl, sb, hd, hb, hp, hpl, hll, q⟩ := h
      refine ⟨_, (pss_cons (ps_set (i := 3) scLB.nd rfl (.inl rfl) (pe_lst pa_nil))
      (pss_cons (ps_for PassesOwn.never rfl (EN.pi_pairs (by rfl) nE (pa_cons (pv 0) pa_nil)) (pg_tup rfl (pgs_cons (pg_name (i := 4) scLB.nd rfl (.inl rfl)) (pgs_cons (pg_name (i := 5) scLB.nd rfl (.inl rfl)) pgs_nil))) (pss_cons (ps_set (i := 6) scLB.nd rfl (.inl rfl) (pe_tup (StX.pa_star (pv 1) (pa_cons (pv 4) pa_nil))))
      (pss_cons (ps_expr (pe_bm PySem.F.plainAttrs_list PySem.F.slot_list_append PySem.F.type_list_append mt_append (pv 3) (pa_cons (pe_tup (pa_cons (pv 6) (pa_cons (pv 5) (pa_cons (pv 2) pa_nil)))) pa_nil)))
      (pss_cons (ps_set (i := 7) scLB.nd rfl (.inl rfl) (pe_or (pv 2) (pe_one (pe_cmpR op_eq (pe_ix ix_tup (pv 5) pe_int (fun _ _ => rfl)) pe_str (nomark _)))))
      (pss_one (ps_for PassesOwn.never rfl (pi_list (pe_call GI (hr.mono (by first | decide | omega)) (by rfl) PI_.is PI_.kp PI_.bi .nil pass0 (pa_cons (pv 5) pa_nil))) (pg_name (i := 8) scLB.nd rfl (.inl rfl)) (pss_one (ps_expr (pe_bm PySem.F.plainAttrs_list PySem.F.slot_list_extend PySem.F.type_list_extend mt_extend (pv 3) (pa_cons (pe_call GR (hr.mono (by first | decide | omega)) (by rfl) PL_.is PL_.kp PL_.bi .nil pass0 (pa_cons (pe_ix ix_tup (pv 5) (pv 8) (fun _ _ => rfl)) (pa_cons (pe_tup (StX.pa_star (pv 6) (pa_cons (pv 8) pa_nil))) (pa_cons (pv 7) pa_nil)))) pa_nil))))))))))
      (pss_one (ps_ret (pv 3))))), ?_⟩
      have line : sizeLine = 16777216 := by decide
      refine ⟨by show 0 ≤ sizeLine; decide, fun F nF => ?_⟩
      obtain ⟨l, rfl, hl20, hall⟩ := block_of hb
      obtain ⟨a, xs, rfl, hs, ha⟩ := tp_tup hd
      have lx := tpLen ha
      have s0 := Same.upd (o := .lst []) nF
      have e0 : upd H F (.lst []) F = some (.lst []) := upd_same
      generalize upd H F (.lst []) = H0 at s0 e0 ⊢
      have eB : listB (n + 1) (.tuple l) ps b = (List.range l.length).flatMap fun i => rowsD (listB n) ps b i (l.getD i .none) := rfl
      rw [eB] at q hll
      generalize eG : (fun i => rowsD (listB n) ps b i (l.getD i .none)) = G at q hll
      have sbH := fun Hx (s : Same H Hx) => sb.trans s
      refine ⟨_, rfl, a, xs, rfl, sqt_same (sb.trans s0) hs, EN.for_pairs (D := { nx := tRet (tVar 3) { nx := fun x H' => Q V.non H', rt := Q }, rt := Q }) (xs := xs) (fun i σ Hx => ∃ (v4 v5 v6 v7 v8 : Option V) (rows : List V), σ = [some (.ref a), some (.ref pa), some (.bl b), some (.ref F), v4, v5, v6, v7, v8] ∧ Same H Hx ∧ Hx F = some (.lst rows) ∧ RowsAt K Hb Hx rows ((List.range i).flatMap G)) ⟨none, none, none, none, none, [], rfl, s0, e0, trivial⟩ (fun i σ Hx _ ⟨_, _, _, _, _, _, _, h, _⟩ => sqt_same (sb.trans h) hs) ?_ ?_⟩
      · rintro i x σ H1 T1 hx ⟨v4, v5, v6, v7, v8, rows, rfl, s1, eF, tr⟩ nT1
        obtain ⟨s, hsd, ts⟩ := tpGet ha hx
        have hi : i < l.length := (List.getElem?_eq_some_iff.mp hsd).1
        have gi : l.getD i .none = s := by rw [List.getD_eq_getElem?_getD, hsd]; rfl
        obtain ⟨y, z, r, rfl, hy, hrl, hel⟩ := stat_elem (hall s (List.mem_of_getElem? hsd))
        have lrow := tr.len
        have pre1 : ((List.range (i + 1)).flatMap G).length ≤ 1000000 := by
          have := flat_mono G (List.range l.length) (i + 1)
          rw [List.take_range, Nat.min_eq_left (by omega)] at this
          omega
        rw [List.range_succ, List.flatMap_append, List.flatMap_singleton, List.length_append] at pre1
        have eGi : G i = (ps ++ [(i : Int)], PyData.tuple (.str y :: r), b) :: (elemsN z z.cps.size).flatMap fun e => listB n (itD (.tuple (.str y :: r)) e) (ps ++ [(i : Int)] ++ [(e : Int)]) (b || y == "loop") := by
          rw [← eG]
          show rowsD (listB n) ps b i (l.getD i .none) = _
          rw [gi]
          unfold rowsD
          rw [elems_of hy]
          rfl
        have sT := Same.upd (o := .tup [V.int (i : Nat), x]) nT1
        have eT : upd H1 T1 (.tup [V.int (i : Nat), x]) T1 = some (.tup [V.int (i : Nat), x]) := upd_same
        have s2 := s1.trans sT
        have eF2 := sT _ _ eF
        have tr2 := tr.mono (TS_.same sT)
        generalize upd H1 T1 (.tup [V.int (i : Nat), x]) = H2 at s2 eT eF2 tr2 ⊢
        refine ⟨T1, _, rfl, SqT.of eT, rfl, _, _, rfl, _, _, rfl, rfl, ?_⟩
        refine ⟨_, rfl, pa, _, rfl, .inl (SqT.of (s2 _ _ hp)), _, rfl, by rw [List.length_append, List.length_map]; show _ + 1 ≤ sizeLine; omega, fun t nt => ?_⟩
        have st := Same.upd (o := .tup (ps.map V.int ++ [V.int (i : Nat)])) nt
        have et : upd H2 t (.tup (ps.map V.int ++ [V.int (i : Nat)])) t = some (.tup (ps.map V.int ++ [V.int (i : Nat)])) := upd_same
        have s3 := s2.trans st
        have eF3 := st _ _ eF2
        have tr3 := tr2.mono (TS_.same st)
        generalize upd H2 t (.tup (ps.map V.int ++ [V.int (i : Nat)])) = H3 at s3 et eF3 tr3 ⊢
        refine ⟨_, rfl, .inl ⟨rfl, _, SqL.of eF3⟩, _, rfl, _, rfl, _, rfl, by show 3 ≤ sizeLine; decide, fun u nu => ⟨F, rows, _, rfl, rfl, ?_⟩⟩
        have su := Same.upd (o := .tup [V.ref t, x, V.bl b]) nu
        have eu : upd H3 u (.tup [V.ref t, x, V.bl b]) u = some (.tup [V.ref t, x, V.bl b]) := upd_same
        have s4 := s3.trans su
        have eF4 := su _ _ eF3
        have et4 := su _ _ et
        have tr4 := tr3.mono (TS_.same su)
        generalize upd H3 u (.tup [V.ref t, x, V.bl b]) = H4 at s4 eu eF4 et4 tr4 ⊢
        refine ⟨eF4, by omega, ?_⟩
        have p5 := TS_.put (ys := rows ++ [V.ref u]) eF4
        have eF5 : upd H4 F (.lst (rows ++ [V.ref u])) F = some (.lst (rows ++ [V.ref u])) := upd_same
        have s5 : Same H (upd H4 F (.lst (rows ++ [V.ref u]))) := fun c o h => by
          rw [upd_ne (ne_of_none h nF)]
          exact s4 _ _ h
        have et5 := p5 _ _ et4
        have tr5 := (tr4.mono p5).app (show RowsAt K Hb _ [V.ref u] [(ps ++ [(i : Int)], PyData.tuple (.str y :: r), b)] from ⟨⟨u, t, x, rfl, p5 _ _ eu, by
          rw [et5, List.map_append]
          rfl, ts⟩, trivial⟩)
        generalize upd H4 F (.lst (rows ++ [V.ref u])) = H5 at eF5 s5 et5 tr5 ⊢
        obtain ⟨ax, zs, rfl, hzs, haz⟩ := tp_tup ts
        have key : ∀ (Q' : VK), Q' (.bl (b || y == "loop")) H5 → tOrV (tVar 2) (tOp rEq (tOp (rIxT K) (tVar 5) (tC (V.int 0))) (tC (V.str "loop"))) [some (V.ref a), some (V.ref pa), some (V.bl b), some (V.ref F), some (V.int (i : Nat)), some (V.ref ax), some (V.ref t), v7, v8] H5 Q' := fun Q' h => by
          refine ⟨_, rfl, _, rfl, ?_⟩
          cases b with
          | true => exact iteT h
          | false =>
            rw [Bool.false_or] at h
            cases haz with
            | @cons u0 us0 _ _ h1 h2 =>
              cases h1
              refine iteF ⟨_, rfl, ax, _, 0, _, rfl, rfl, sqt_same (sb.trans s5) hzs, atI_nat (j := 0) rfl, rfl, ?_⟩
              rw [str_dec]
              exact h
        refine key _ ?_
        have hd' : Tp K H5 (V.ref ax) (.tuple (.str y :: r)) := Tp.same (sb.trans s5) _ _ ts
        refine ⟨_, rfl, _, y, z, r, rfl, hd', hy, fun D H6 s6 nD eD => ?_⟩
        have nDF : D ≠ F := fun e => by
          rw [e, eF5] at nD
          cases nD
        refine ⟨D, rfl, ⟨_, SqL.of eD⟩, ?_⟩
        have eLn : (intsV (elemsN z z.cps.size)).length = (elemsN z z.cps.size).length := by unfold intsV; rw [List.length_map]
        have eGl : (G i).length = 1 + ((elemsN z z.cps.size).flatMap fun e => listB n (itD (.tuple (.str y :: r)) e) (ps ++ [(i : Int)] ++ [(e : Int)]) (b || y == "loop")).length := by
          rw [eGi, List.length_cons]
          omega
        refine for_it (walk_list (K := K) (a := D) (xs := intsV (elemsN z z.cps.size))) (D := { nx := fun σ Hx => ∃ (v4 v5 v6 v7 v8 : Option V) (rows : List V), σ = [some (.ref a), some (.ref pa), some (.bl b), some (.ref F), v4, v5, v6, v7, v8] ∧ Same H Hx ∧ Hx F = some (.lst rows) ∧ RowsAt K Hb Hx rows ((List.range (i + 1)).flatMap G), rt := Q, bk := tRet (tVar 3) { nx := fun x H' => Q V.non H', rt := Q }, ct := fun σ Hx => ∃ (v4 v5 v6 v7 v8 : Option V) (rows : List V), σ = [some (.ref a), some (.ref pa), some (.bl b), some (.ref F), v4, v5, v6, v7, v8] ∧ Same H Hx ∧ Hx F = some (.lst rows) ∧ RowsAt K Hb Hx rows ((List.range (i + 1)).flatMap G) })
          (fun j σ Hx => ∃ (v8 : Option V) (rows' : List V), σ = [some (V.ref a), some (V.ref pa), some (V.bl b), some (V.ref F), some (V.int (i : Nat)), some (V.ref ax), some (V.ref t), some (V.bl (b || y == "loop")), v8] ∧ Same H Hx ∧ Hx F = some (.lst rows') ∧ Hx D = some (.lst (intsV (elemsN z z.cps.size))) ∧ Hx t = some (.tup (ps.map V.int ++ [V.int (i : Nat)])) ∧
            RowsAt K Hb Hx rows' ((List.range i).flatMap G ++ ([(ps ++ [(i : Int)], PyData.tuple (.str y :: r), b)] ++ ((elemsN z z.cps.size).take j).flatMap fun e => listB n (itD (.tuple (.str y :: r)) e) (ps ++ [(i : Int)] ++ [(e : Int)]) (b || y == "loop"))))
          ⟨v8, _, rfl, s5.trans s6, s6 _ _ eF5, eD, s6 _ _ et5, tr5.mono (TS_.same s6)⟩ (fun _ _ _ _ ⟨_, _, _, _, _, h, _⟩ => SqL.of h) ?_ ?_
        · rintro j x σ Hj Hk hj ⟨v8, rows', rfl, s7, eF7, eD7, et7, tr7⟩ ⟨rfl, hx⟩
          obtain ⟨e, he, rfl⟩ : ∃ e : Nat, (elemsN z z.cps.size)[j]? = some e ∧ x = V.int (e : Nat) := by
            unfold intsV at hx
            rw [List.getElem?_map] at hx
            obtain ⟨e, h1, h2⟩ := Option.map_eq_some_iff.mp hx
            exact ⟨e, h1, h2.symm⟩
          have hme := List.mem_of_getElem? he
          obtain ⟨be, le⟩ := hel e hme
          have sbk := sb.trans s7
          obtain ⟨ue, gu, tu⟩ := it_at haz (show e < (PyData.str y :: r).length from le)
          have l7 := tr7.len
          have m1 := flat_mono (fun e => listB n (itD (PyData.tuple (.str y :: r)) e) (ps ++ [(i : Int)] ++ [(e : Int)]) (b || y == "loop")) (elemsN z z.cps.size) j
          have m2 := flat_one (fun e => listB n (itD (PyData.tuple (.str y :: r)) e) (ps ++ [(i : Int)] ++ [(e : Int)]) (b || y == "loop")) hme
          rw [List.length_append, List.length_append] at l7
          have l1 : ([(ps ++ [(i : Int)], PyData.tuple (.str y :: r), b)] : List Row).length = 1 := rfl
          refine ⟨_, rfl, .inl ⟨rfl, _, SqL.of eF7⟩, _, rfl, _, rfl, ax, _, e, ue, rfl, rfl, sqt_same sbk hzs, atI_nat gu, _, rfl, t, _, rfl, .inl (SqT.of et7), _, rfl, by
            rw [List.length_append, List.length_append, List.length_map]
            show _ + 1 + 1 ≤ sizeLine
            omega, fun q0 nq => ?_⟩
          have sq := Same.upd (o := .tup (ps.map V.int ++ [V.int (i : Nat)] ++ [V.int (e : Nat)])) nq
          have eq0 : upd Hk q0 (.tup (ps.map V.int ++ [V.int (i : Nat)] ++ [V.int (e : Nat)])) q0 = some (.tup (ps.map V.int ++ [V.int (i : Nat)] ++ [V.int (e : Nat)])) := upd_same
          have eF7' := sq _ _ eF7
          have eD7' := sq _ _ eD7
          have et7' := sq _ _ et7
          have tr7' := tr7.mono (TS_.same sq)
          have s7' := s7.trans sq
          generalize upd Hk q0 (.tup (ps.map V.int ++ [V.int (i : Nat)] ++ [V.int (e : Nat)])) = Hm at sq eq0 eF7' eD7' et7' tr7' s7' ⊢
          refine ⟨_, rfl, ue, itD (.tuple (.str y :: r)) e, q0, ps ++ [(i : Int)] ++ [(e : Int)], (b || y == "loop"), Hb, rfl, sb.trans s7', tu, be, by
            rw [eq0, List.map_append, List.map_append]
            rfl, by
            rw [List.length_append, List.length_append]
            show ps.length + 1 + 1 + 2 * n ≤ 100
            omega, by omega, fun F2 H8 rows2 s8 nF2 eF2 tr8 => ?_⟩
          have l8 := tr8.len
          have eF8 := s8 _ _ eF7'
          have nFF : F2 ≠ F := fun z => by
            rw [z, eF7'] at nF2
            cases nF2
          have p9 := TS_.put (ys := rows' ++ rows2) eF8
          refine ⟨F, F2, rows', rows2, rfl, rfl, eF8, eF2, by omega, ⟨_, rows' ++ rows2, rfl, fun c o h => by
            rw [upd_ne (ne_of_none h nF)]
            exact s8 _ _ (s7' _ _ h), upd_same, by
            rw [upd_ne nDF]
            exact s8 _ _ eD7', p9 _ _ (s8 _ _ et7'), ?_⟩⟩
          have r9 := (((tr7'.mono (TS_.same s8)).mono p9)).app (tr8.mono p9)
          rw [List.take_succ, he]
          show RowsAt K Hb _ _ (_ ++ (_ ++ List.flatMap _ (_ ++ [e])))
          rw [List.flatMap_append, List.flatMap_singleton, ← List.append_assoc, ← List.append_assoc]
          rw [← List.append_assoc] at r9
          exact r9
        · rintro σ H7 ⟨v8, rows', rfl, s7, eF7, eD7, et7, tr7⟩
          refine ⟨_, _, _, _, _, rows', rfl, s7, eF7, ?_⟩
          rw [eLn, List.take_length] at tr7
          rw [List.range_succ, List.flatMap_append, List.flatMap_singleton, eGi]
          exact tr7
      · rintro σ H1 ⟨v4, v5, v6, v7, v8, rows, rfl, s1, eF, tr⟩
        rw [lx] at tr
        exact ⟨_, rfl, q F H1 rows s1 nF eF tr⟩
end
end Z

set_option Elab.async false
set_option linter.all false
set_option maxRecDepth 100000
set_option maxHeartbeats 4000000
/-! rules with the written part named, for use within comprehensions -/
namespace KX
open PySem PySem.Spec PyProof.Rows L2 GG
theorem ix_tupK {X : Cx} {K : PySem.W.Frag} (hK : X.K = K) : IxR X (rIxT K) := by
  subst hK
  exact ix_tup
theorem ix_listK {X : Cx} {K : PySem.W.Frag} (hK : X.K = K) : IxR X (rIxL K) := by
  subst hK
  exact ix_list
theorem call_tupK {X : Cx} {K : PySem.W.Frag} (hK : X.K = K) : CallR X (.type "tuple") (fun vs H Q => ∃ p ys, vs = [.ref p] ∧ ((SqL K H p ys ∧ ∀ l, H l = none → Q (.ref l) (upd H l (.tup ys))) ∨ (SqT K H p ys ∧ Q (.ref p) H))) := by
  subst hK
  exact call_tuple_of
theorem call_listK {X : Cx} {K : PySem.W.Frag} (hK : X.K = K) : CallR X (.type "list") (fun xs H Q => ∃ p ys, xs = [.ref p] ∧ (SqL K H p ys ∨ SqT K H p ys) ∧ ∀ l, H l = none → Q (.ref l) (upd H l (.lst ys))) := by
  subst hK
  exact call_list_of
theorem op_inK {X : Cx} {K : PySem.W.Frag} (hK : X.K = K) : OpR X (compareOp .In) (rIn K false) := by
  subst hK
  exact op_in_seq
theorem op_notInK {X : Cx} {K : PySem.W.Frag} (hK : X.K = K) : OpR X (compareOp .NotIn) (rIn K true) := by
  subst hK
  exact op_notIn_seq
end KX

set_option Elab.async false
set_option linter.all false
set_option maxRecDepth 100000
set_option maxHeartbeats 4000000
namespace KX
open PySem PySem.Spec PyProof.Rows L2 GG
theorem pi_listK {X : Cx} {K : PySem.W.Frag} {tg e : Expr} {te : TE} (hK : X.K = K) (he : PE X e te) : PI X tg e (iList K te) := by
  subst hK
  exact pi_list he
theorem pi_tupK {X : Cx} {K : PySem.W.Frag} {tg e : Expr} {te : TE} (hK : X.K = K) (he : PE X e te) : PI X tg e (iTup K te) := by
  subst hK
  exact pi_tup he
/-- over a list or a tuple -/
def SeqIt (K : PySem.W.Frag) (H : Hp) (a : Addr) (J : It) : Prop := ((∃ xs, SqL K H a xs) ∧ J = Itl K a) ∨ ((∃ xs, SqT K H a xs) ∧ J = Itt K a)
def iSeq (K : PySem.W.Frag) (tl : TE) : TI := fun σ H R => tl σ H fun x H1 => ∃ a J, x = .ref a ∧ SeqIt K H1 a J ∧ R J H1
theorem pi_seqK {X : Cx} {K : PySem.W.Frag} {tg l : Expr} {tl : TE} (hK : X.K = K) (hl : PE X l tl) : PI X tg l (iSeq K tl) := by
  subst hK
  refine ⟨fun pins s σ H R I h => ?_⟩
  refine thn (hl.run pins s σ H _ I h) fun v s1 ⟨x, H1, I1, r1, q1⟩ => ?_
  obtain ⟨a, J, e, hJ, q⟩ := q1
  subst e
  cases r1
  rcases hJ with ⟨⟨xs, hq⟩, rfl⟩ | ⟨⟨xs, hq⟩, rfl⟩
  · obtain ⟨its, rv, p, hz⟩ := I1.list hq
    refine wpAny_pyIter_list p.isList ?_
    refine ⟨s1.heap.objs.size, [s1.heap.objs.size], _, _, H1, rfl, I1.kept (t' := s1.toks) fun b o e => Heap.get?_push_of_some _ e, turn_list a _, ⟨_, Heap.get?_push_size _ rfl, rfl, rfl⟩, fun b hb => ?_, q⟩
    have e : b = s1.heap.objs.size := by simpa using hb
    subst e
    exact I1.fpOk (Nat.le_refl _) (I1.hok.fresh (Nat.le_refl _))
  · obtain ⟨its, rv, p, hz⟩ := I1.tuple hq
    refine wpAny_pyIter_tuple (show s1.heap.IsTuple a its.toArray from p) ?_
    refine ⟨s1.heap.objs.size, [s1.heap.objs.size], _, _, H1, rfl, I1.kept (t' := s1.toks) fun b o e => Heap.get?_push_of_some _ e, turn_tuple a _, ⟨_, Heap.get?_push_size _ rfl, rfl, rfl⟩, fun b hb => ?_, q⟩
    have e : b = s1.heap.objs.size := by simpa using hb
    subst e
    exact I1.fpOk (Nat.le_refl _) (I1.hok.fresh (Nat.le_refl _))
end KX

set_option Elab.async false
set_option linter.all false
set_option maxRecDepth 100000
set_option maxHeartbeats 1000000
namespace Z
open PySem PySem.Spec PyProof.Rows L2 GG TPD EQD INX
abbrev sLS : Stmt := top 19
abbrev sCW : Stmt := top 23
def blockOf (p : PyData) : PyData := itD p 1
def listP (d : PyData) : List Row := listB 6 (itD d 0) [-1] false ++ (List.range (itemsD (itD d 1)).length).flatMap fun i => listB 6 (blockOf ((itemsD (itD d 1)).getD i .none)) [(i : Int)] false
theorem defs_of : ∀ {ds : List PyData} {ws : List Str}, defsD ws ds = true → ∀ p ∈ ds, ∃ x c, p = .tuple [.str x, c] ∧ wordD (.str x) = true ∧ blockD 6 c = true
  | [], _, _, p, hp => by cases hp
  | d :: r, ws, h, p, hp => by
    unfold defsD at h
    split at h
    · rename_i x b
      rw [Bool.and_eq_true, Bool.and_eq_true, Bool.and_eq_true] at h
      rcases List.mem_cons.mp hp with rfl | hp
      · exact ⟨x, b, rfl, h.1.1, h.1.2⟩
      · exact defs_of h.2.2 p hp
    · cases h
theorem form_of {d : PyData} (h : formD d = true) : ∃ b ds, d = .tuple [b, .tuple ds] ∧ blockD 6 b = true ∧ ds.length ≤ 6 ∧ defsD [] ds = true := by
  unfold formD at h
  split at h
  · rename_i b ds
    rw [Bool.and_eq_true, Bool.and_eq_true, decide_eq_true_eq] at h
    exact ⟨b, ds, rfl, h.1, h.2.1, h.2.2⟩
  · cases h
section
variable {P : Program} {w : World} {K : PySem.W.Frag} {mg : Str → Option Value} {base : Heap}
def spLS (K : PySem.W.Frag) : Sp := fun vs H Q _ => ∃ (v : V) (d : PyData) (H0 : Hp), vs = [v] ∧ Same H0 H ∧ Tp K H0 v d ∧ formD d = true ∧ (listP d).length ≤ 1000000 ∧
  ∀ F H' rows, Same H H' → H F = none → H' F = some (.lst rows) → RowsAt K H0 H' rows (listP d) → Q (.ref F) H'
theorem scLS : FnScope ["program", "found", "index", "_", "block"] ["program"] (defScope sLS) := ⟨rfl, rfl, rfl, by decide +kernel, rfl, by decide +kernel, by decide +kernel⟩
theorem ok_ls {f g : Addr} {fd gd : FuncData} (F : Fun K "list_statements" "list_statements" sLS f fd) (nE : mg "enumerate" = none) (GL : FnOk P w K mg base CX0 8 g gd ["block", "path", "looped"] (spLB K 6)) (PL_ : Def K mg "list_in_block" g gd ["block", "path", "looped"]) : FnOk P w K mg base CX0 9 f fd ["program"] (spLS K) := by
  refine F.ok scLS (fun vs H Q E h => ?_) (fun cdv A outer s H vs Q E hr h => ?_)
  · obtain ⟨v, d, H0, rfl, _⟩ := h
    rfl
  · obtain ⟨v, d, Hb, rfl, sb, hd, hf, hll, q⟩ := h
    refine ⟨_, (pss_cons (ps_set (i := 1) scLS.nd rfl (.inl rfl) (pe_call GL (hr.mono (by first | decide | omega)) (by rfl) PL_.is PL_.kp PL_.bi .nil pass0 (pa_cons (pe_ix ix_tup (pv 0) pe_int (fun _ _ => rfl)) (pa_cons (pe_tup (pa_cons (pe_un un_neg pe_int) pa_nil)) (pa_cons pe_bl pa_nil)))))
      (pss_cons (ps_for PassesOwn.never rfl (EN.pi_pairs (by rfl) nE (pa_cons (pe_ix ix_tup (pv 0) pe_int (fun _ _ => rfl)) pa_nil)) (pg_tup rfl (pgs_cons (pg_name (i := 2) scLS.nd rfl (.inl rfl)) (pgs_cons (pg_tup rfl (pgs_cons (pg_name (i := 3) scLS.nd rfl (.inl rfl)) (pgs_cons (pg_name (i := 4) scLS.nd rfl (.inl rfl)) pgs_nil))) pgs_nil))) (pss_one (ps_expr (pe_bm PySem.F.plainAttrs_list PySem.F.slot_list_extend PySem.F.type_list_extend mt_extend (pv 1) (pa_cons (pe_call GL (hr.mono (by first | decide | omega)) (by rfl) PL_.is PL_.kp PL_.bi .nil pass0 (pa_cons (pv 4) (pa_cons (pe_tup (pa_cons (pv 2) pa_nil)) (pa_cons pe_bl pa_nil)))) pa_nil)))))
      (pss_one (ps_ret (pv 1))))), ?_⟩
    have line : sizeLine = 16777216 := by decide
    obtain ⟨b, ds, rfl, hb, h6, hds⟩ := form_of hf
    obtain ⟨a, xs, rfl, hs, ha⟩ := tp_tup hd
    cases ha with
    | @cons u0 _ _ _ t0 ha =>
      cases ha with
      | @cons u1 _ _ _ t1 ha =>
        cases ha
        obtain ⟨c, ys, rfl, hc, hys⟩ := tp_tup t1
        have ly := tpLen hys
        have eP : listP (.tuple [b, .tuple ds]) = listB 6 b [-1] false ++ (List.range ds.length).flatMap fun i => listB 6 (blockOf (ds.getD i .none)) [(i : Int)] false := rfl
        rw [eP] at q hll
        rw [List.length_append] at hll
        refine ⟨_, rfl, a, _, 0, u0, rfl, rfl, sqt_same sb hs, atI_nat (j := 0) rfl, _, rfl, by show 1 ≤ sizeLine; decide, fun t nt => ?_⟩
        have st := Same.upd (o := .tup [V.int (-1)]) nt
        have et : upd H t (.tup [V.int (-1)]) t = some (.tup [V.int (-1)]) := upd_same
        generalize upd H t (.tup [V.int (-1)]) = H1 at st et ⊢
        refine ⟨u0, b, t, [-1], false, Hb, rfl, sb.trans st, t0, hb, et, by decide, by omega, fun F0 H2 rows s2 nF eF tr => ?_⟩
        have nF0 := st.free nF
        have s02 := st.trans s2
        refine ⟨_, rfl, a, _, 1, _, rfl, rfl, sqt_same (sb.trans s02) hs, atI_nat (j := 1) rfl, c, ys, rfl, sqt_same (sb.trans s02) hc, ?_⟩
        refine EN.for_pairs (D := { nx := tRet (tVar 1) { nx := fun x H' => Q V.non H', rt := Q }, rt := Q }) (xs := ys) (fun i σ Hx => ∃ (v2 v3 v4 : Option V) (rows : List V), σ = [some (.ref a), some (.ref F0), v2, v3, v4] ∧ Same H Hx ∧ Hx F0 = some (.lst rows) ∧ RowsAt K Hb Hx rows (listB 6 b [-1] false ++ (List.range i).flatMap fun i => listB 6 (blockOf (ds.getD i .none)) [(i : Int)] false)) ⟨none, none, none, rows, rfl, s02, eF, by
          rw [show List.range 0 = [] from rfl, List.flatMap_nil, List.append_nil]
          exact tr⟩ (fun i σ Hx _ ⟨_, _, _, _, _, h, _⟩ => sqt_same (sb.trans h) hc) ?_ ?_
        · rintro i x σ H3 T1 hx ⟨v2, v3, v4, rows3, rfl, s3, eF3, tr3⟩ nT1
          obtain ⟨p, hp, tp⟩ := tpGet hys hx
          obtain ⟨y, e, rfl, hy, he⟩ := defs_of hds p (List.mem_of_getElem? hp)
          obtain ⟨pa, ps, rfl, hps, hpa⟩ := tp_tup tp
          cases hpa with
          | @cons w0 _ _ _ tw hpa =>
            cases hpa with
            | @cons w1 _ _ _ te hpa =>
              cases hpa
              have hi : i < ds.length := (List.getElem?_eq_some_iff.mp hp).1
              have gi : ds.getD i .none = .tuple [.str y, e] := by rw [List.getD_eq_getElem?_getD, hp]; rfl
              have l3 := tr3.len
              rw [List.length_append] at l3
              have pre := flat_mono (fun i : Nat => listB 6 (blockOf (ds.getD i .none)) [(i : Int)] false) (List.range ds.length) i
              have one := flat_one (fun i : Nat => listB 6 (blockOf (ds.getD i .none)) [(i : Int)] false) (List.mem_range.mpr hi)
              rw [List.take_range, Nat.min_eq_left (by omega)] at pre
              have one : (listB 6 e [(i : Int)] false).length ≤ ((List.range ds.length).flatMap fun i : Nat => listB 6 (blockOf (ds.getD i .none)) [(i : Int)] false).length := by
                have one : (listB 6 (blockOf (ds.getD i .none)) [(i : Int)] false).length ≤ _ := one
                rw [gi] at one
                exact one
              have sT := Same.upd (o := .tup [V.int (i : Nat), V.ref pa]) nT1
              have eT : upd H3 T1 (.tup [V.int (i : Nat), V.ref pa]) T1 = some (.tup [V.int (i : Nat), V.ref pa]) := upd_same
              have s4 := s3.trans sT
              have eF4 := sT _ _ eF3
              have tr4 := tr3.mono (TS_.same sT)
              generalize upd H3 T1 (.tup [V.int (i : Nat), V.ref pa]) = H4 at s4 eT eF4 tr4 ⊢
              refine ⟨T1, _, rfl, SqT.of eT, rfl, _, _, rfl, _, _, rfl, pa, _, rfl, sqt_same (sb.trans s4) hps, rfl, _, _, rfl, _, _, rfl, rfl, rfl, ?_⟩
              refine ⟨_, rfl, .inl ⟨rfl, _, SqL.of eF4⟩, _, rfl, _, rfl, by show 1 ≤ sizeLine; decide, fun t5 nt5 => ?_⟩
              have s5 := Same.upd (o := .tup [V.int (i : Nat)]) nt5
              have et5 : upd H4 t5 (.tup [V.int (i : Nat)]) t5 = some (.tup [V.int (i : Nat)]) := upd_same
              have s45 := s4.trans s5
              have eF5 := s5 _ _ eF4
              have tr5 := tr4.mono (TS_.same s5)
              generalize upd H4 t5 (.tup [V.int (i : Nat)]) = H5 at s45 et5 eF5 tr5 ⊢
              refine ⟨w1, e, t5, [(i : Int)], false, Hb, rfl, sb.trans s45, te, he, et5, by show 1 + 2 * 6 ≤ 100; decide, by omega, fun F2 H8 rows2 s8 nF2 eF2 tr8 => ?_⟩
              have l8 := tr8.len
              have eF8 := s8 _ _ eF5
              have p9 := TS_.put (ys := rows3 ++ rows2) eF8
              refine ⟨F0, F2, rows3, rows2, rfl, rfl, eF8, eF2, by omega, ⟨_, _, _, rows3 ++ rows2, rfl, fun c o h => by
                rw [upd_ne (ne_of_none h nF0)]
                exact s8 _ _ (s45 _ _ h), upd_same, ?_⟩⟩
              have r9 := ((tr5.mono (TS_.same s8)).mono p9).app (tr8.mono p9)
              rw [List.range_succ, List.flatMap_append, List.flatMap_singleton, gi, ← List.append_assoc]
              exact r9
        · rintro σ H3 ⟨v2, v3, v4, rows3, rfl, s3, eF3, tr3⟩
          rw [ly] at tr3
          exact ⟨_, rfl, q F0 H3 rows3 s3 nF0 eF3 tr3⟩
theorem tpApp {K : PySem.W.Frag} {H : Hp} : ∀ {vs ws : List V} {ds es : List PyData}, TpAll K H vs ds → TpAll K H ws es → TpAll K H (vs ++ ws) (ds ++ es)
  | _, _, _, _, .nil, h => h
  | _, _, _, _, .cons a t, h => .cons a (tpApp t h)
/-- the words that a block calls -/
def calleeD (d : PyData) : Str := match itD d 1 with
  | .str x => x
  | _ => ""
def callsR (rs : List Row) : List Str := (rs.filter fun r => headD r.2.1 == "call").map fun r => calleeD r.2.1
def callsB (d : PyData) : List Str := callsR (listB 6 d [] false)
theorem call_of {n : Nat} {s : PyData} (h : statD (blockD n) s = true) (e : headD s = "call") : ∃ x, s = .tuple [.str "call", .str x] ∧ wordD (.str x) = true := by
  obtain ⟨x, z, r, rfl, hx, hl, _⟩ := stat_elem h
  have e : x = "call" := e
  subst e
  have hz : shape "call" = some "W" := by decide +kernel
  rw [hz] at hx
  cases hx
  have hl : r.length = 1 := hl
  match r, hl, h with
  | [d], _, h =>
    have h : (match shape "call" with
      | none => false
      | some z => decide ([d].length = z.length) && all2 (partD (blockD n)) z.cps.toList [d]) = true := h
    rw [hz] at h
    have h : (decide ([d].length = ("W" : Str).length) && all2 (partD (blockD n)) ("W" : Str).cps.toList [d]) = true := h
    rw [Bool.and_eq_true] at h
    have h2 : (partD (blockD n) 87 d && true) = true := h.2
    rw [Bool.and_true] at h2
    have h3 : wordD d = true := h2
    obtain ⟨y, rfl⟩ := word_of h3
    exact ⟨y, rfl, h3⟩
theorem stats_of : ∀ (n : Nat) (d : PyData) (p : List Int) (b : Bool), blockD n d = true → ∀ r ∈ listB n d p b, ∃ m, statD (blockD m) r.2.1 = true
  | 0, _, _, _, _, r, hr => by cases hr
  | n + 1, d, p, b, h, r, hr => by
    obtain ⟨l, rfl, _, hall⟩ := block_of h
    obtain ⟨i, hi, hr⟩ := List.mem_flatMap.mp (show r ∈ (List.range l.length).flatMap fun i => rowsD (listB n) p b i (l.getD i .none) from hr)
    have hi := List.mem_range.mp hi
    have hs := hall (l.getD i .none) (by
      rw [List.getD_eq_getElem?_getD, List.getElem?_eq_getElem hi]
      exact List.getElem_mem hi)
    rcases List.mem_cons.mp hr with rfl | hr
    · exact ⟨n, hs⟩
    · obtain ⟨e, he, hr⟩ := List.mem_flatMap.mp hr
      obtain ⟨x, z, q, es, hx, _, hel⟩ := stat_elem hs
      rw [es, elems_of hx] at he
      exact stats_of n _ _ _ (hel e he).1 r hr
def spCW (K : PySem.W.Frag) : Sp := fun vs H Q _ => ∃ (v : V) (d : PyData) (H0 : Hp), vs = [v] ∧ Same H0 H ∧ Tp K H0 v d ∧ blockD 6 d = true ∧ (listB 6 d [] false).length ≤ 1000000 ∧ ∀ F H', Same H H' → H F = none → H' F = some (.lst ((callsB d).map V.str)) → Q (.ref F) H'
theorem scCW : FnScope ["block", "statements", "_", "statement"] ["block"] (defScope sCW) := ⟨rfl, rfl, rfl, by decide +kernel, rfl, by decide +kernel, by decide +kernel⟩
theorem ok_cw {f g : Addr} {fd gd : FuncData} (F : Fun K "called_words" "called_words" sCW f fd) (GL : FnOk P w K mg base CX0 8 g gd ["block", "path", "looped"] (spLB K 6)) (PL_ : Def K mg "list_in_block" g gd ["block", "path", "looped"]) : FnOk P w K mg base CX0 9 f fd ["block"] (spCW K) := by
  refine F.ok scCW (fun vs H Q E h => ?_) (fun cdv A outer s H vs Q E hr h => ?_)
  · obtain ⟨v, d, H0, rfl, _⟩ := h
    rfl
  · obtain ⟨v, d, Hb, rfl, sb, hd, hb, hll, q⟩ := h
    refine ⟨_, (pss_cons (ps_setLc (i := 1) (own := [("_", 2), ("statement", 3)]) (g := gTup K 3 (gCons (gName 2) (gCons (gName 3) (gCons (gName 2) gNil)))) (tt := tYes) rfl scCW.nd rfl rfl (sw_true rfl rfl rfl (by decide +kernel)) (pi_list (pe_call GL (hr.mono (by first | decide | omega)) (by rfl) PL_.is PL_.kp PL_.bi .nil pass0 (pa_cons (pv 0) (pa_cons (pe_tup pa_nil) (pa_cons pe_bl pa_nil))))) (blkOk_by (N := ["block", "statements", "_", "statement"]) (sc := defScope sCW) (own := [("_", 2), ("statement", 3)]) (by decide +kernel)) (fun _ _ _ _ _ => (pg_tup rfl (pgs_cons (pg_name (i := 2) scCW.nd rfl (.inl rfl) (Or.inr rfl)) (pgs_cons (pg_name (i := 3) scCW.nd rfl (.inl rfl) (Or.inr rfl)) (pgs_cons (pg_name (i := 2) scCW.nd rfl (.inl rfl) (Or.inr rfl)) pgs_nil))))) (fun _ _ _ _ _ => pts_nil) (fun _ _ _ _ _ => (pv 3)))
      (pss_one (ps_ret (pe_lc (own := [("statement", 3)]) (g := gName 3) rfl scCW.nd (pi_list (pv 1)) (blkOk_by (N := ["block", "statements", "_", "statement"]) (sc := defScope sCW) (own := [("statement", 3)]) (by decide +kernel)) (fun _ _ _ _ _ => (pg_name (i := 3) scCW.nd rfl (.inl rfl))) (fun _ _ _ _ _ => (pts_one (pt_cmpR op_eq (pe_ix (KX.ix_tupK (K := K) rfl) (pv 3) pe_int (fun _ _ => rfl)) pe_str (nomark _)))) (fun _ _ _ _ _ => (pe_ix (KX.ix_tupK (K := K) rfl) (pv 3) pe_int (fun _ _ => rfl))))))), ?_⟩
    have line : sizeLine = 16777216 := by decide
    refine ⟨_, rfl, by show 0 ≤ sizeLine; decide, fun t nt => ?_⟩
    have st := Same.upd (o := .tup []) nt
    have et : upd H t (.tup []) t = some (.tup []) := upd_same
    generalize upd H t (.tup []) = H1 at st et ⊢
    refine ⟨v, d, t, [], false, Hb, rfl, sb.trans st, hd, hb, et, by decide, hll, fun F1 H2 rows s2 nF1 eF1 tr => ?_⟩
    have lr := tr.len
    have sts := stats_of 6 d [] false hb
    have eq_ : callsB d = callsR (listB 6 d [] false) := rfl
    rw [eq_] at q
    generalize listB 6 d [] false = R at hll tr lr sts q
    have s02 := st.trans s2
    refine ⟨F1, rfl, ⟨_, SqL.of eF1⟩, fun D nD => ?_⟩
    refine lc_it (walk_list (K := K) (a := F1) (xs := rows)) (fun j Hx => Same H2 Hx ∧ ∃ ss, Hx D = some (.lst ss) ∧ TpAll K Hb ss ((R.take j).map fun r => r.2.1)) ⟨Same.upd nD, [], upd_same, .nil⟩ (fun _ _ _ h => SqL.of (h.1 _ _ eF1)) ?_ ?_
    · rintro j x H3 H4 hj ⟨s3, ss, eD, tss⟩ ⟨rfl, hx⟩
      obtain ⟨r, hr_, t1, pt, sv, rfl, g1, g2, g3⟩ := tr.get hx
      refine ⟨t1, _, rfl, SqT.of (s3 _ _ g1), rfl, _, _, rfl, _, _, rfl, _, _, rfl, rfl, rfl, ?_⟩
      dsimp only [tYes]
      have lss := tpLen tss
      rw [List.length_map, List.length_take] at lss
      refine iteT ⟨_, rfl, _, eD, by omega, fun c o h => by rw [upd_ne (ne_of_none h nD)]; exact s3 _ _ h, _, upd_same, ?_⟩
      rw [List.take_succ, hr_, List.map_append]
      exact tpApp tss (.cons g3 .nil)
    · rintro H3 ⟨s3, ss, eD, tss⟩
      rw [lr, List.take_length] at tss
      have lss := tpLen tss
      rw [List.length_map] at lss
      refine ⟨_, rfl, D, rfl, ⟨_, SqL.of eD⟩, fun E_ nE_ => ?_⟩
      refine lc_it (walk_list (K := K) (a := D) (xs := ss)) (fun j Hx => Same H3 Hx ∧ Hx E_ = some (.lst ((callsR (R.take j)).map V.str))) ⟨Same.upd nE_, upd_same⟩ (fun _ _ _ h => SqL.of (h.1 _ _ eD)) ?_ ?_
      · rintro j x H4 H5 hj ⟨s4, eE⟩ ⟨rfl, hx⟩
        obtain ⟨dj, hdj, tj⟩ := tpGet tss hx
        rw [List.getElem?_map] at hdj
        obtain ⟨r, hr_, rfl⟩ := Option.map_eq_some_iff.mp hdj
        obtain ⟨m, hm⟩ := sts r (List.mem_of_getElem? hr_)
        obtain ⟨y, z, rr, er, hy, hl, _⟩ := stat_elem hm
        refine ⟨rfl, ?_⟩
        rw [er] at tj
        obtain ⟨ax, zs, rfl, hzs, haz⟩ := tp_tup tj
        have sx : Same Hb H5 := sb.trans (s02.trans (s3.trans s4))
        have lim : (callsR (R.take j)).length ≤ 1000000 := by
          unfold callsR
          rw [List.length_map]
          have h1 := List.length_filter_le (fun r : Row => headD r.2.1 == "call") (R.take j)
          rw [List.length_take] at h1
          omega
        have ek : callsR (R.take (j + 1)) = callsR (R.take j) ++ callsR [r] := by
          unfold callsR
          rw [List.take_succ, hr_, List.filter_append, List.map_append]
          rfl
        rw [ek]
        cases haz with
        | @cons u0 us _ _ h1 h2 =>
          cases h1
          refine ⟨_, rfl, ax, _, 0, _, rfl, rfl, sqt_same sx hzs, atI_nat (j := 0) rfl, rfl, _, rfl, ?_⟩
          rw [str_dec]
          cases ec : (y == ("call" : Str)) with
          | true =>
            have e1 := eq_of_beq ec
            subst e1
            obtain ⟨c, ec2, _⟩ := call_of hm (by rw [er]; rfl)
            have ec3 := ec2
            rw [er] at ec3
            cases ec3
            cases h2 with
            | cons g1 g2 =>
              cases g1
              cases g2
              have e5 : callsR [r] = [c] := by
                unfold callsR
                rw [List.filter_cons_of_pos (by
                  rw [er]
                  show (("call" : Str) == ("call" : Str)) = true
                  decide +kernel)]
                show [calleeD r.2.1] = [c]
                rw [er]
                rfl
              rw [e5]
              refine iteT ⟨_, rfl, ax, _, 1, _, rfl, rfl, sqt_same sx hzs, atI_nat (j := 1) rfl, _, eE, by rw [List.length_map]; omega, fun a o h => by rw [upd_ne (ne_of_none h nE_)]; exact s4 _ _ h, ?_⟩
              rw [upd_same, List.map_append]
              rfl
          | false =>
            have e5 : callsR [r] = [] := by
              unfold callsR
              rw [List.filter_cons_of_neg (by
                rw [er]
                show ¬ ((y == ("call" : Str)) = true)
                rw [ec]
                decide)]
              rfl
            rw [e5, List.append_nil]
            exact iteF ⟨s4, eE⟩
      · rintro H4 ⟨s4, eE⟩
        rw [show ss.length = R.length from lss, List.take_length] at eE
        exact q E_ H4 (s02.trans (s3.trans s4)) ((s02.trans s3).free nE_) eE
end
end Z

set_option Elab.async false
set_option linter.all false
set_option maxRecDepth 100000
set_option maxHeartbeats 4000000
/-! dict comprehensions: as a statement of their own, over any walk; dicts of int keys by a function -/
namespace DCX
open PySem PySem.Spec PyProof.Rows L2 GG
section
variable {X : Cx}
theorem ps_setDc {i : Nat} {y : Str} {py : Pos} {kx vx tg iter : Expr} {ifs : List Expr} {scope : Scope} {own : List (Str × Nat)} {pos spos : Pos} {wi : TI} {g : TG} {tt : TT} {tk tv : TE} (hc : X.calm = true) (hN : X.N.Nodup) (hy : X.N[i]? = some y) (hyl : X.env.scope.names.lookup y = some .local)
    (hsw : swapsWith (.DictComp kx vx [⟨tg, iter, ifs, 0⟩] scope pos) (some (.Name y py)) spos.line X.env = pure true) (hi : PI X tg iter wi) (ok : BlkOk X.N X.env.scope scope own)
    (hg : ∀ (s : Shared) (H : Hp) (C : Addr) (cl : List (Str × Addr)) (fp : List Addr), PG (X.blk s H scope (compEnvC scope cl C X.env) fp) tg g) (ht : ∀ (s : Shared) (H : Hp) (C : Addr) (cl : List (Str × Addr)) (fp : List Addr), PTs (X.blk s H scope (compEnvC scope cl C X.env) fp) ifs tt)
    (hk : ∀ (s : Shared) (H : Hp) (C : Addr) (cl : List (Str × Addr)) (fp : List Addr), PE (X.blk s H scope (compEnvC scope cl C X.env) fp) kx tk)
    (he : ∀ (s : Shared) (H : Hp) (C : Addr) (cl : List (Str × Addr)) (fp : List Addr), PE (X.blk s H scope (compEnvC scope cl C X.env) fp) vx tv) (hs : ∀ x, foldedSetIterable iter X.env x = pure x := by intro _; rfl) :
    PS X (.Assign [.Name y py] (.DictComp kx vx [⟨tg, iter, ifs, 0⟩] scope pos) spos) (tAsg (tDc wi g tt tk tv (own.map (·.2))) (gName i)) := by
  refine ⟨fun pins s σ H D I h => ?_⟩
  rw [exec_Assign_Name_used _ _ _ _ hsw]
  refine wpAny_bind (wpAny_standAt (wpAny_bind ?_))
  show wpAny _ X.A (do let _ ← comprehension (.DictComp kx vx [⟨tg, iter, ifs, 0⟩] scope pos) scope X.env (firstIterPos [⟨tg, iter, ifs, 0⟩] pos) newDict false (eval iter X.env) (some (assign (.Name y py) X.env))) _ _ s
  have h : tDc wi g tt tk tv (own.map (·.2)) σ H (fun x H1 => gName i x σ H1 D.nx) := h
  refine wpAny_bind (thn (dc_core (Qf := fun _ s' => SP X pins D .next s') hc hN I hi ok hg ht hk he hs h fun L C s' m H' I' q hn f => ?_) fun _ s' hq => wpAny_pure (wpAny_pure hq))
  show wpAny _ _ (assign (.Name y py) X.env (.ref L)) _ _ _
  refine wpAny_assign_Name (store_ok2 (v := V.ref L) I' hN hy (.inl hyl) rfl (fun s2 I2 ⟨a, sb, ha⟩ => ?_) (.inr hyl))
  obtain ⟨f0, f1, f2, f3, f4, f5⟩ := f
  have haC : C ≠ a := by
    rcases ha with z | z
    · rw [z]; exact f1
    · exact fun e => f4 y a z e.symm
  refine ⟨m, hn.sameBut sb haC, fun h3 sb3 => ?_⟩
  exact ⟨_, H', I2.turned (t' := s2.toks) (fun b o hb e => (sb3.2 b hb).trans e) f0 f1 f3 f4 f5, q⟩
theorem sw_trueD {kx vx : Expr} {gs : List Comprehension} {scope : Scope} {pos py : Pos} {y : Str} {l : Nat} {env : Env} (hk : env.scope.kind = .function) (hy : env.scope.names.lookup y = some .local) (hl : (py.line == pos.line) = true)
    (ha : (scope.names.any fun (n, k) => n == y && (k == .local || k == .cell)) = false) : swapsWith (.DictComp kx vx gs scope pos) (some (.Name y py)) l env = pure true := by
  have ky : env.kindOf y = some .local := hy
  have hb : env.blockKind = .function := by unfold Env.blockKind; rw [hk]; rfl
  unfold swapsWith
  simp only [hb, ky, ha, Expr.pos, hl]
  rfl
end
section
variable {J : It} {n : Nat} {G : Hp → Prop} {Y : Nat → Hp → V → Hp → Prop}
theorem dc_it (w : Walk J n G Y) {g : TG} {tt : TT} {tk tv : TE} {vs : List Nat} {σ : L2.St} {H1 : Hp} {D : Addr} {Qd : Hp → Prop} (Pv : Nat → Hp → Prop) (h0 : Pv 0 (upd H1 D (.dK []))) (hG : ∀ i H, i ≤ n → Pv i H → G H)
    (hs : ∀ i x H H', i < n → Pv i H → Y i H x H' → g x (wipe σ vs) H' fun σ2 H2 => wipe σ2 vs = wipe σ vs ∧ tt σ2 H2 fun b H3 =>
      if b = true then tk σ2 H3 fun y H4 => tv σ2 H4 fun z H5 => ∃ kvs k, y = kV k ∧ H5 D = some (.dK kvs) ∧ kvs.length < sizeLine ∧ Pv (i + 1) (upd H5 D (.dK (putK kvs k z))) else Pv (i + 1) H3) (hd : ∀ H, Pv n H → Qd H) :
    ∃ W : Nat → Nat → Hp → Prop, (∃ m, W 0 m (upd H1 D (.dK []))) ∧ ∀ i m H, W i m H →
      (J.stop i H ∧ Qd H) ∨ (J.go i H ∧ ∃ Nx : Hp → Prop, (∀ H', Nx H' → ∃ m', m' < m ∧ W (i + 1) m' H') ∧ ∀ x H', J.yld i H x H' → g x (wipe σ vs) H' fun σ2 H2 => wipe σ2 vs = wipe σ vs ∧ tt σ2 H2 fun b H3 =>
        if b = true then tk σ2 H3 fun y H4 => tv σ2 H4 fun z H5 => ∃ kvs k, y = kV k ∧ H5 D = some (.dK kvs) ∧ kvs.length < sizeLine ∧ Nx (upd H5 D (.dK (putK kvs k z))) else Nx H3) := by
  refine ⟨fun i m H => m = n - i ∧ i ≤ n ∧ Pv i H, ⟨n, by simp, Nat.zero_le _, h0⟩, ?_⟩
  rintro i m H ⟨rfl, hi, p⟩
  have q := hG i H hi p
  by_cases hlt : i < n
  · refine .inr ⟨w.goes i H hlt q, Pv (i + 1), fun H' p' => ⟨n - (i + 1), by omega, rfl, hlt, p'⟩, fun x H' y => hs i x H H' hlt p (w.yields i H x H' hlt q y)⟩
  · have e : i = n := by omega
    subst e
    exact .inl ⟨w.stops H q, hd H p⟩
end
/-! dicts of int keys -/
def kd (ks : List Int) (f : Int → V) : List (Key × V) := ks.map fun k => ((.inl k : Key), f k)
theorem kd_len (ks : List Int) (f : Int → V) : (kd ks f).length = ks.length := by simp [kd]
theorem kd_congr {ks : List Int} {f g : Int → V} (h : ∀ k ∈ ks, f k = g k) : kd ks f = kd ks g := List.map_congr_left fun k hk => by rw [h k hk]
theorem kd_get {ks : List Int} {f : Int → V} {i : Nat} {k : Key} {v : V} (h : (kd ks f)[i]? = some (k, v)) : ∃ z, ks[i]? = some z ∧ k = .inl z ∧ v = f z := by
  unfold kd at h
  rw [List.getElem?_map] at h
  obtain ⟨z, hz, e⟩ := Option.map_eq_some_iff.mp h
  cases e
  exact ⟨z, hz, rfl, rfl⟩
theorem kd_val (z : Int) (f : Int → V) : ∀ ks : List Int, valV (kd ks f) (.inl z) = if z ∈ ks then some (f z) else none
  | [] => rfl
  | k :: r => by
    by_cases e : k = z
    · subst e
      rw [if_pos List.mem_cons_self]
      exact valV_pos (p := ((.inl k : Key), f k)) rfl
    · show valV (((.inl k : Key), f k) :: kd r f) _ = _
      rw [valV_neg (p := ((.inl k : Key), f k)) (fun h => e (Sum.inl.inj h)), kd_val z f r]
      by_cases m : z ∈ r
      · rw [if_pos m, if_pos (List.mem_cons_of_mem _ m)]
      · rw [if_neg m, if_neg (fun h => by rcases List.mem_cons.mp h with h | h; exact e h.symm; exact m h)]
def ov (z : Int) (v : V) (f : Int → V) : Int → V := fun k => if k = z then v else f k
theorem kd_new {ks : List Int} {f : Int → V} {z : Int} {v : V} (h : z ∉ ks) : putK (kd ks f) (.inl z) v = kd (ks ++ [z]) (ov z v f) := by
  rw [putK_new v (by rw [kd_val, if_neg h])]
  unfold kd
  rw [List.map_append]
  congr 1
  · refine List.map_congr_left fun k hk => ?_
    unfold ov
    rw [if_neg (fun e => h (by rw [← e]; exact hk))]
  · show [((.inl z : Key), v)] = [((.inl z : Key), ov z v f z)]
    unfold ov
    rw [if_pos rfl]
theorem kd_old {ks : List Int} {f : Int → V} {z : Int} {v : V} (h : z ∈ ks) : putK (kd ks f) (.inl z) v = kd ks (ov z v f) := by
  unfold putK
  rw [valV_any, kd_val, if_pos h, if_pos (show (some (f z)).isSome = true from rfl)]
  unfold kd
  rw [List.map_map]
  refine List.map_congr_left fun k _ => ?_
  unfold ov
  by_cases e : k = z
  · subst e
    simp
  · show (if (Sum.inl k : Key) = Sum.inl z then _ else _) = _
    rw [if_neg (fun q => e (Sum.inl.inj q)), if_neg e]
theorem kd_put (ks : List Int) (f : Int → V) (z : Int) (v : V) : putK (kd ks f) (.inl z) v = kd (if z ∈ ks then ks else ks ++ [z]) (ov z v f) := by
  by_cases h : z ∈ ks
  · rw [if_pos h, kd_old h]
  · rw [if_neg h, kd_new h]
end DCX

set_option Elab.async false
set_option linter.all false
set_option maxRecDepth 100000
set_option maxHeartbeats 1000000
namespace Z
open PySem PySem.Spec PyProof.Rows L2 GG TPD EQD INX
abbrev sFC : Stmt := top 22
def nameD (p : PyData) : Str := match itD p 0 with
  | .str x => x
  | _ => ""
def defsOf (d : PyData) : List PyData := itemsD (itD d 1)
def wordsP (d : PyData) : List Str := (defsOf d).map nameD
/-- no statement leaves or calls -/
def quiet (rs : List Row) : Prop := ∀ r ∈ rs, headD r.2.1 ≠ "leave" ∧ headD r.2.1 ≠ "call"
theorem putK_len (kvs : List (Key × V)) (k : Key) (v : V) : (putK kvs k v).length ≤ kvs.length + 1 := by
  unfold putK
  split
  · rw [List.length_map]
    omega
  · rw [List.length_append]
    exact Nat.le_refl _
section
variable {P : Program} {w : World} {K : PySem.W.Frag} {mg : Str → Option Value} {base : Heap}
def spFC (K : PySem.W.Frag) : Sp := fun vs H Q _ => ∃ (v : V) (d : PyData) (x : Str) (H0 : Hp), vs = [v, .str x] ∧ Same H0 H ∧ Tp K H0 v d ∧ formD d = true ∧ x ∈ wordsP d ∧ (∀ p ∈ defsOf d, (listB 6 (blockOf p) [] false).length ≤ 1000000 ∧ callsB (blockOf p) = []) ∧ ∀ F H', Same H H' → H F = none → H' F = some (.lst []) → Q (.ref F) H'
theorem scFC : FnScope ["program", "word", "direct", "found", "at", "name", "block"] ["program", "word"] (defScope sFC) := ⟨rfl, rfl, rfl, by decide +kernel, rfl, by decide +kernel, by decide +kernel⟩
theorem ok_fc {f g : Addr} {fd gd : FuncData} (F : Fun K "find_called" "find_called" sFC f fd) (T : NamesI mg) (GC : FnOk P w K mg base CX0 9 g gd ["block"] (spCW K)) (PC_ : Def K mg "called_words" g gd ["block"]) : FnOk P w K mg base CX0 10 f fd ["program", "word"] (spFC K) := by
  refine F.ok scFC (fun vs H Q E h => ?_) (fun cdv A outer s H vs Q E hr h => ?_)
  · obtain ⟨v, d, x, H0, rfl, _⟩ := h
    rfl
  · obtain ⟨v, d, x, Hb, rfl, sb, hd, hf, hx, hq, q⟩ := h
    have hu64 : A.units + 3 + 64 < cLine := hr.units
    have hu : A.units + 3 + 1 < cLine := by omega
    refine ⟨_, (pss_cons (DCX.ps_setDc (i := 2) (own := [("name", 5), ("block", 6)]) (g := gTup K 2 (gCons (gName 5) (gCons (gName 6) gNil))) (tt := tYes) rfl scFC.nd rfl rfl (DCX.sw_trueD rfl rfl rfl (by decide +kernel)) (pi_tup (pe_ix ix_tup (pv 0) pe_int (fun _ _ => rfl))) (blkOk_by (N := ["program", "word", "direct", "found", "at", "name", "block"]) (sc := defScope sFC) (own := [("name", 5), ("block", 6)]) (by decide +kernel)) (fun _ _ _ _ _ => (pg_tup rfl (pgs_cons (pg_name (i := 5) scFC.nd rfl (.inl rfl) (Or.inr rfl)) (pgs_cons (pg_name (i := 6) scFC.nd rfl (.inl rfl) (Or.inr rfl)) pgs_nil)))) (fun _ _ _ _ _ => pts_nil) (fun _ _ _ _ _ => (pv 5)) (fun _ _ _ _ _ => (pe_call GC (hr.mono (by first | decide | omega)) (by rfl) PC_.is PC_.kp PC_.bi .nil pass0 (pa_cons (pv 6) pa_nil))))
      (pss_cons (ps_set (i := 3) scFC.nd rfl (.inr rfl) (pe_callTy call_list_of (by rfl) T.list (by decide +kernel) (pa_cons (pe_dget hu (pv 2) (pv 1) (fun _ _ => rfl)) pa_nil)))
      (pss_cons (ps_set (i := 4) scFC.nd rfl (.inl rfl) pe_int)
      (pss_cons (ps_while PassesOwn.never (pt_cmpR op_lt (pv 4) (pe_callB call_len_seq (by rfl) T.len PySem.boot_len (pa_cons (pv 3) pa_nil)) (nomark _)) (pss_cons ABS.ps_never
      (pss_one (ps_aug (i := 4) scFC.nd rfl (.inl rfl) pe_int ip_add))))
      (pss_one (ps_ret (pv 3))))))), ?_⟩
    have line : sizeLine = 16777216 := by decide
    obtain ⟨b, ds, rfl, hb, h6, hds⟩ := form_of hf
    obtain ⟨a, xs, rfl, hs, ha⟩ := tp_tup hd
    have hx : x ∈ ds.map nameD := hx
    have hq : ∀ p ∈ ds, (listB 6 (blockOf p) [] false).length ≤ 1000000 ∧ callsB (blockOf p) = [] := hq
    cases ha with
    | @cons u0 _ _ _ t0 ha =>
      cases ha with
      | @cons u1 _ _ _ t1 ha =>
        cases ha
        obtain ⟨c, ys, rfl, hc, hys⟩ := tp_tup t1
        have ly := tpLen hys
        refine ⟨_, rfl, a, _, 1, _, rfl, rfl, sqt_same sb hs, atI_nat (j := 1) rfl, c, rfl, ⟨_, sqt_same sb hc⟩, fun D nD => ?_⟩
        refine DCX.dc_it (walk_tup (K := K) (a := c) (xs := ys)) (fun j Hx => Same H Hx ∧ ∃ kvs : List (Key × V), Hx D = some (.dK kvs) ∧ kvs.length ≤ j ∧ ∀ z ∈ (ds.take j).map nameD, ∃ l, valV kvs (.inr z) = some (.ref l) ∧ Hx l = some (.lst [])) ⟨Same.upd nD, [], upd_same, Nat.le_refl _, fun z hz => by cases hz⟩ (fun _ _ _ h => sqt_same (sb.trans h.1) hc) ?_ ?_
        · rintro j y H3 H4 hj ⟨s3, kvs, eD, lk, hk⟩ ⟨rfl, hy⟩
          obtain ⟨p, hp, tp⟩ := tpGet hys hy
          obtain ⟨n, e, rfl, hn, he⟩ := defs_of hds p (List.mem_of_getElem? hp)
          obtain ⟨pa, ps, rfl, hps, hpa⟩ := tp_tup tp
          obtain ⟨ll, cc⟩ := hq _ (List.mem_of_getElem? hp)
          cases hpa with
          | @cons w0 _ _ _ tw hpa =>
            cases hpa with
            | @cons w1 _ _ _ te hpa =>
              cases hpa
              cases tw
              refine ⟨pa, _, rfl, sqt_same (sb.trans s3) hps, rfl, _, _, rfl, _, _, rfl, rfl, rfl, ?_⟩
              dsimp only [tYes]
              refine iteT ⟨_, rfl, _, rfl, w1, e, Hb, rfl, sb.trans s3, te, he, ll, fun F2 H5 s5 nF2 eF2 => ?_⟩
              have cc : callsB e = [] := cc
              rw [cc] at eF2
              have eD5 := s5 _ _ eD
              have nFD : F2 ≠ D := fun z => by
                rw [z, eD] at nF2
                cases nF2
              refine ⟨kvs, .inr n, rfl, eD5, by omega, fun q o h => by rw [upd_ne (ne_of_none h nD)]; exact s5 _ _ (s3 _ _ h), putK kvs (.inr n) (.ref F2), upd_same, Nat.le_trans (putK_len _ _ _) (by omega), fun z hz => ?_⟩
              rw [List.take_succ, hp, List.map_append] at hz
              by_cases ez : z = n
              · subst ez
                exact ⟨F2, by rw [valV_put, if_pos rfl], by rw [upd_ne nFD]; exact eF2⟩
              · have hz : z ∈ (ds.take j).map nameD := by
                  rcases List.mem_append.mp hz with h | h
                  · exact h
                  · exact absurd (List.mem_singleton.mp h) ez
                obtain ⟨l, h1, h2⟩ := hk z hz
                refine ⟨l, by rw [valV_put, if_neg (fun h => ez (Sum.inr.inj h))]; exact h1, ?_⟩
                rw [upd_ne (fun h => by
                  subst h
                  rw [eD] at h2
                  cases h2)]
                exact s5 _ _ h2
        · rintro H3 ⟨s3, kvs, eD, lk, hk⟩
          rw [ly, List.take_length] at hk
          obtain ⟨l, h1, h2⟩ := hk x hx
          refine ⟨_, rfl, _, rfl, D, .ref l, rfl, .inl ⟨kvs, .inr x, .inl eD, rfl, h1.symm⟩, l, [], rfl, .inl (SqL.of h2), fun F nF => ?_⟩
          have sF := Same.upd (o := .lst []) nF
          have eF : upd H3 F (.lst []) F = some (.lst []) := upd_same
          generalize upd H3 F (.lst []) = H4 at sF eF ⊢
          refine ⟨fun m σ' H' => m = 0 ∧ σ' = _ ∧ H' = H4, ⟨0, rfl, rfl, rfl⟩, ?_⟩
          rintro m σ' H' ⟨rfl, rfl, rfl⟩
          refine ⟨_, rfl, _, rfl, F, [], rfl, .inl (SqL.of eF), _, _, rfl, rfl, _, rfl, iteF ?_⟩
          exact ⟨_, rfl, q F _ (s3.trans sF) (s3.free nF) eF⟩
end
end Z

set_option Elab.async false
set_option linter.all false
set_option maxRecDepth 100000
set_option maxHeartbeats 1000000
namespace Z
open PySem PySem.Spec PyProof.Rows L2 GG TPD EQD INX
abbrev sPE : Stmt := top 13
theorem stm_eq : ∀ (n : Nat) (d : PyData) (p q : List Int) (b c : Bool), (listB n d p b).map (fun r => r.2.1) = (listB n d q c).map (fun r => r.2.1)
  | 0, _, _, _, _, _ => rfl
  | n + 1, d, p, q, b, c => by
    show ((List.range (itemsD d).length).flatMap fun i => rowsD (listB n) p b i ((itemsD d).getD i .none)).map _ = ((List.range (itemsD d).length).flatMap fun i => rowsD (listB n) q c i ((itemsD d).getD i .none)).map _
    rw [List.map_flatMap, List.map_flatMap]
    congr 1
    funext i
    unfold rowsD
    rw [List.map_cons, List.map_cons, List.map_flatMap, List.map_flatMap]
    congr 1
    congr 1
    funext e
    exact stm_eq n _ _ _ _ _
theorem stm_len (n : Nat) (d : PyData) (p q : List Int) (b c : Bool) : (listB n d p b).length = (listB n d q c).length := by
  have := congrArg List.length (stm_eq n d p q b c)
  rwa [List.length_map, List.length_map] at this
theorem quiet_calls {rs : List Row} (h : quiet rs) : callsR rs = [] := by
  unfold callsR
  rw [List.filter_eq_nil_iff.mpr (fun r hr e => (h r hr).2 (eq_of_beq e))]
  rfl
theorem quiet_of {d : PyData} (h : quiet (listP d)) (hl : (listP d).length ≤ 1000000) : ∀ p ∈ defsOf d, (listB 6 (blockOf p) [] false).length ≤ 1000000 ∧ callsB (blockOf p) = [] := by
  intro p hp
  obtain ⟨i, hi, e⟩ := List.getElem_of_mem hp
  have one := flat_one (fun i : Nat => listB 6 (blockOf ((defsOf d).getD i .none)) [(i : Int)] false) (List.mem_range.mpr hi)
  have ge : (defsOf d).getD i .none = p := by rw [List.getD_eq_getElem?_getD, List.getElem?_eq_getElem hi, e]; rfl
  have one : (listB 6 (blockOf ((defsOf d).getD i .none)) [(i : Int)] false).length ≤ _ := one
  rw [ge] at one
  have lp : (listP d).length = (listB 6 (itD d 0) [-1] false).length + ((List.range (defsOf d).length).flatMap fun i : Nat => listB 6 (blockOf ((defsOf d).getD i .none)) [(i : Int)] false).length := List.length_append
  refine ⟨by rw [stm_len 6 _ [] [(i : Int)] false false]; omega, ?_⟩
  refine quiet_calls fun r hr => ?_
  have hm : r.2.1 ∈ (listB 6 (blockOf p) [] false).map (fun r => r.2.1) := List.mem_map.mpr ⟨r, hr, rfl⟩
  rw [stm_eq 6 _ [] [(i : Int)] false false] at hm
  obtain ⟨r2, h2, e2⟩ := List.mem_map.mp hm
  have := h r2 (List.mem_append_right _ (List.mem_flatMap.mpr ⟨i, List.mem_range.mpr hi, by
    show r2 ∈ listB 6 (blockOf ((defsOf d).getD i .none)) _ _
    rw [ge]
    exact h2⟩))
  rw [e2] at this
  exact this
theorem statsP {d : PyData} (hf : formD d = true) : ∀ r ∈ listP d, ∃ m, statD (blockD m) r.2.1 = true := by
  obtain ⟨b, ds, rfl, hb, h6, hds⟩ := form_of hf
  intro r hr
  rcases List.mem_append.mp hr with h | h
  · exact stats_of 6 b _ _ hb r h
  · obtain ⟨i, hi, h⟩ := List.mem_flatMap.mp h
    have hi : i < ds.length := List.mem_range.mp hi
    have h : r ∈ listB 6 (blockOf (ds.getD i .none)) [(i : Int)] false := h
    rw [List.getD_eq_getElem?_getD, List.getElem?_eq_getElem hi] at h
    obtain ⟨x, c, e, _, hc⟩ := defs_of hds ds[i] (List.getElem_mem hi)
    have h : r ∈ listB 6 (blockOf ds[i]) [(i : Int)] false := h
    rw [e] at h
    exact stats_of 6 c _ _ hc r h
section
variable {P : Program} {w : World} {K : PySem.W.Frag} {mg : Str → Option Value} {base : Heap}
def spPE (K : PySem.W.Frag) : Sp := fun vs H Q _ => ∃ (v : V) (d : PyData), vs = [v] ∧ Tp K H v d ∧ strD d = true ∧ ((formD d = false ∧ ∀ H', Same H H' → Q (.str "form") H') ∨ (formD d = true ∧ (listP d).length ≤ 1000000 ∧ quiet (listP d) ∧ ∀ H', Same H H' → Q .non H'))
theorem scPE : FnScope ["value", "words", "path", "statement", "looped", "word", "_"] ["value"] (defScope sPE) := ⟨rfl, rfl, rfl, by decide +kernel, rfl, by decide +kernel, by decide +kernel⟩
theorem ok_pe {f i l c : Addr} {fd id_ ld cd : FuncData} (F : Fun K "program_error" "program_error" sPE f fd) (GI : FnOk P w K mg base CX0 29 i id_ ["value"] (spFm K)) (PI_ : Def K mg "is_form" i id_ ["value"]) (GL : FnOk P w K mg base CX0 9 l ld ["program"] (spLS K)) (PL_ : Def K mg "list_statements" l ld ["program"])
    (GC : FnOk P w K mg base CX0 10 c cd ["program", "word"] (spFC K)) (PC_ : Def K mg "find_called" c cd ["program", "word"]) : FnOk P w K mg base CX0 30 f fd ["value"] (spPE K) := by
  refine F.ok scPE (fun vs H Q E h => ?_) (fun cdv A outer s H vs Q E hr h => ?_)
  · obtain ⟨v, d, rfl, _⟩ := h
    rfl
  · obtain ⟨v, d, rfl, hd, hz, q⟩ := h
    refine ⟨_, (pss_cons (ps_if (pt_not (pt_val (pe_call GI (hr.mono (by first | decide | omega)) (by rfl) PI_.is PI_.kp PI_.bi .nil pass0 (pa_cons (pv 0) pa_nil)))) (pss_one (ps_ret pe_str)) pss_nil)
      (pss_cons (ps_setLc (i := 1) (own := [("word", 5), ("_", 6)]) (g := gTup K 2 (gCons (gName 5) (gCons (gName 6) gNil))) (tt := tYes) rfl scPE.nd rfl rfl (sw_true rfl rfl rfl (by decide +kernel)) (pi_tup (pe_ix ix_tup (pv 0) pe_int (fun _ _ => rfl))) (blkOk_by (N := ["value", "words", "path", "statement", "looped", "word", "_"]) (sc := defScope sPE) (own := [("word", 5), ("_", 6)]) (by decide +kernel)) (fun _ _ _ _ _ => (pg_tup rfl (pgs_cons (pg_name (i := 5) scPE.nd rfl (.inl rfl) (Or.inr rfl)) (pgs_cons (pg_name (i := 6) scPE.nd rfl (.inl rfl) (Or.inr rfl)) pgs_nil)))) (fun _ _ _ _ _ => pts_nil) (fun _ _ _ _ _ => (pv 5)))
      (pss_cons (ps_for PassesOwn.never rfl (pi_list (pe_call GL (hr.mono (by first | decide | omega)) (by rfl) PL_.is PL_.kp PL_.bi .nil pass0 (pa_cons (pv 0) pa_nil))) (pg_tup rfl (pgs_cons (pg_name (i := 2) scPE.nd rfl (.inl rfl)) (pgs_cons (pg_name (i := 3) scPE.nd rfl (.inl rfl)) (pgs_cons (pg_name (i := 4) scPE.nd rfl (.inl rfl)) pgs_nil)))) (pss_cons (ps_if (PW.pt (pw_and (pt_cmpR op_eq (pe_ix ix_tup (pv 3) pe_int (fun _ _ => rfl)) pe_str (nomark _)) (pw_and1 (pt_not (pt_val (pv 4)))))) (pss_one (ps_ret (pe_tup (pa_cons pe_str (pa_cons (pv 2) pa_nil))))) pss_nil)
      (pss_one (ps_if (PW.pt (pw_and (pt_cmpR op_eq (pe_ix ix_tup (pv 3) pe_int (fun _ _ => rfl)) pe_str (nomark _)) (pw_and1 (pt_cmpR op_notIn_seq (pe_ix ix_tup (pv 3) pe_int (fun _ _ => rfl)) (pv 1) (by rfl))))) (pss_one (ps_ret (pe_tup (pa_cons pe_str (pa_cons (pv 2) pa_nil))))) pss_nil))))
      (pss_cons (ps_for PassesOwn.never rfl (pi_list (pv 1)) (pg_name (i := 5) scPE.nd rfl (.inl rfl)) (pss_one (ps_if (pt_cmpR op_in_seq (pv 5) (pe_call GC (hr.mono (by first | decide | omega)) (by rfl) PC_.is PC_.kp PC_.bi .nil pass0 (pa_cons (pv 0) (pa_cons (pv 5) pa_nil))) (by rfl)) (pss_one (ps_ret (pe_tup (pa_cons pe_str (pa_cons (pv 5) pa_nil))))) pss_nil)))
      (pss_one (ps_ret pe_non)))))), ?_⟩
    have line : sizeLine = 16777216 := by decide
    refine ⟨_, rfl, v, d, rfl, hd, hz, fun H1 s1 => ⟨_, rfl, ?_⟩⟩
    rcases q with ⟨hf, q⟩ | ⟨hf, hl, hq, q⟩
    · rw [hf]
      exact iteT (q _ s1)
    · rw [hf]
      obtain ⟨b, ds, rfl, hb, h6, hds⟩ := form_of hf
      have hd1 := Tp.same s1 _ _ hd
      obtain ⟨a, xs, rfl, hs, ha⟩ := tp_tup hd1
      cases ha with
      | @cons u0 _ _ _ t0 ha =>
        cases ha with
        | @cons u1 _ _ _ t1 ha =>
          cases ha
          obtain ⟨c, ys, rfl, hc, hys⟩ := tp_tup t1
          have ly := tpLen hys
          refine iteF ⟨_, rfl, a, _, 1, _, rfl, rfl, hs, atI_nat (j := 1) rfl, c, rfl, ⟨_, hc⟩, fun D nD => ?_⟩
          refine lc_tup (K := K) (a := c) (xs := ys) (fun j Hx => Same H1 Hx ∧ Hx D = some (.lst (((ds.take j).map nameD).map V.str))) ⟨Same.upd nD, upd_same⟩ (fun _ _ _ h => sqt_same h.1 hc) ?_ ?_
          · rintro j y H3 hy ⟨s3, eD⟩
            obtain ⟨p, hp, tp⟩ := tpGet hys hy
            obtain ⟨n, e, rfl, hn, he⟩ := defs_of hds p (List.mem_of_getElem? hp)
            obtain ⟨pa, ps, rfl, hps, hpa⟩ := tp_tup tp
            cases hpa with
            | @cons w0 _ _ _ tw hpa =>
              cases tw
              cases hpa with
              | @cons w1 _ _ _ te hpa =>
                cases hpa
                refine ⟨pa, _, rfl, sqt_same s3 hps, rfl, _, _, rfl, _, _, rfl, rfl, rfl, ?_⟩
                dsimp only [tYes]
                refine iteT ⟨_, rfl, _, eD, by rw [List.length_map, List.length_map, List.length_take]; omega, fun q o h => by rw [upd_ne (ne_of_none h nD)]; exact s3 _ _ h, ?_⟩
                rw [upd_same, List.take_succ, hp, List.map_append, List.map_append]
                rfl
          · rintro H3 ⟨s3, eD⟩
            rw [ly, List.take_length] at eD
            have s03 := s1.trans s3
            refine ⟨_, rfl, _, .tuple [b, .tuple ds], H1, rfl, s3, hd1, hf, hl, fun F0 H4 rows s4 nF eF tr => ?_⟩
            refine ⟨F0, rfl, ⟨_, SqL.of eF⟩, ?_⟩
            have st4 : Same H H4 := s03.trans s4
            have eD4 := s4 _ _ eD
            have sts := statsP hf
            refine for_it (walk_list (K := K) (a := F0) (xs := rows)) (D := { nx := tSeq (tFor (iList K (tVar 1)) (gName 5) (tIfS (tTest (tOp (rIn K false) (tVar 5) (tCall (spFC K) [] E0 (tCons (tVar 0) (tCons (tVar 5) tNil))))) (tRet (tTup (tCons (tC (V.str "ring")) (tCons (tVar 5) tNil)))) tNext)) (tRet (tC V.non)) { nx := fun x H' => Q V.non H', rt := Q }, rt := Q }) (fun j σ Hx => ∃ v2 v3 v4 v5 v6 : Option V, σ = [some (.ref a), some (.ref D), v2, v3, v4, v5, v6] ∧ Same H4 Hx) ⟨_, _, _, _, _, rfl, Same.refl _⟩ (fun _ _ _ _ ⟨_, _, _, _, _, _, h⟩ => SqL.of (h _ _ eF)) ?_ ?_
            · rintro j x σ H5 H6 hj ⟨v2, v3, v4, v5, v6, rfl, s5⟩ ⟨rfl, hx⟩
              obtain ⟨r, hr_, t9, pt, sv, rfl, g1, g2, g3⟩ := tr.get hx
              have hm := List.mem_of_getElem? hr_
              obtain ⟨m, hm2⟩ := sts r hm
              obtain ⟨y, z, rr, er, _⟩ := stat_elem hm2
              have qy := hq r hm
              rw [er] at g3 qy
              have y1 : y ≠ "leave" := qy.1
              have y2 : y ≠ "call" := qy.2
              obtain ⟨ax, zs, rfl, hzs, haz⟩ := tp_tup g3
              have sx := s3.trans (s4.trans s5)
              refine ⟨t9, _, rfl, SqT.of (s5 _ _ g1), rfl, _, _, rfl, _, _, rfl, _, _, rfl, rfl, ?_⟩
              cases haz with
              | @cons u0 us _ _ h1 h2 =>
                cases h1
                refine ⟨_, rfl, ax, _, 0, _, rfl, rfl, sqt_same sx hzs, atI_nat (j := 0) rfl, rfl, _, rfl, ?_⟩
                rw [str_dec, beq_eq_false_iff_ne.mpr y1]
                refine iteF (iteF ⟨_, rfl, ax, _, 0, _, rfl, rfl, sqt_same sx hzs, atI_nat (j := 0) rfl, rfl, _, rfl, ?_⟩)
                rw [str_dec, beq_eq_false_iff_ne.mpr y2]
                exact iteF (iteF ⟨_, _, _, _, _, rfl, s5⟩)
            · rintro σ H5 ⟨v2, v3, v4, v5, v6, rfl, s5⟩
              have eD5 := s5 _ _ eD4
              refine ⟨_, rfl, D, rfl, ⟨_, SqL.of eD5⟩, ?_⟩
              have qf := quiet_of hq hl
              refine for_it (walk_list (K := K) (a := D) (xs := (ds.map nameD).map V.str)) (D := { nx := tRet (tC V.non) { nx := fun x H' => Q V.non H', rt := Q }, rt := Q }) (fun j σ Hx => ∃ v2 v3 v4 v5 v6 : Option V, σ = [some (.ref a), some (.ref D), v2, v3, v4, v5, v6] ∧ Same H5 Hx) ⟨_, _, _, _, _, rfl, Same.refl _⟩ (fun _ _ _ _ ⟨_, _, _, _, _, _, h⟩ => SqL.of (h _ _ eD5)) ?_ ?_
              · rintro j x σ H6 H7 hj ⟨v2, v3, v4, v5, v6, rfl, s6⟩ ⟨rfl, hx⟩
                rw [List.getElem?_map] at hx
                obtain ⟨n, hn, rfl⟩ := Option.map_eq_some_iff.mp hx
                have s7 := s3.trans (s4.trans (s5.trans s6))
                refine ⟨_, rfl, _, rfl, _, rfl, .ref a, .tuple [b, .tuple ds], n, H1, rfl, s7, hd1, hf, List.mem_of_getElem? hn, qf, fun F2 H8 s8 nF2 eF2 => ?_⟩
                refine ⟨F2, [], rfl, .inl (SqL.of eF2), rfl, rfl, _, rfl, ?_⟩
                exact iteF ⟨_, _, _, _, _, rfl, s6.trans s8⟩
              · rintro σ H6 ⟨v2, v3, v4, v5, v6, rfl, s6⟩
                exact q _ (st4.trans (s5.trans s6))
end
end Z

set_option Elab.async false
set_option linter.all false
set_option maxRecDepth 100000
set_option maxHeartbeats 1000000
namespace Z
open PySem PySem.Spec PyProof.Rows L2 GG TPD EQD INX DSD
/-! what the law builds: pure -/
theorem stat_val {bk : PyData → Bool} {x z : Str} {r : List PyData} (hx : shape x = some z) : statD bk (.tuple (.str x :: r)) = (decide (r.length = z.length) && all2 (partD bk) z.cps.toList r) := by
  show (match shape x with
    | none => false
    | some z => decide (r.length = z.length) && all2 (partD bk) z.cps.toList r) = _
  rw [hx]
theorem sh_loop : shape "loop" = some "B" := by decide +kernel
theorem sh_toss : shape "toss" = some "BB" := by decide +kernel
theorem sh_if : shape "if" = some "EBB" := by decide +kernel
theorem sh_set : shape "set" = some "WE" := by decide +kernel
theorem sh_end : shape "end" = some "E" := by decide +kernel
theorem sh_call : shape "call" = some "W" := by decide +kernel
theorem sh_leave : shape "leave" = some "" := by decide +kernel
theorem cp_loop : ("B" : Str).cps.toList = [66] := by decide +kernel
theorem cp_toss : ("BB" : Str).cps.toList = [66, 66] := by decide +kernel
theorem cp_if : ("EBB" : Str).cps.toList = [69, 66, 66] := by decide +kernel
theorem cp_set : ("WE" : Str).cps.toList = [87, 69] := by decide +kernel
theorem cp_end : ("E" : Str).cps.toList = [69] := by decide +kernel
theorem cp_call : ("W" : Str).cps.toList = [87] := by decide +kernel
section
variable {bk : PyData → Bool} {c d e : PyData}
theorem stat_loop : statD bk (.tuple [.str "loop", d]) = bk d := by
  rw [stat_val sh_loop, cp_loop, show decide ([d].length = ("B" : Str).length) = true from decide_eq_true rfl]
  show (true && (partD bk 66 d && true)) = _
  rw [Bool.and_true, Bool.true_and]
  rfl
theorem stat_toss : statD bk (.tuple [.str "toss", d, e]) = (bk d && bk e) := by
  rw [stat_val sh_toss, cp_toss, show decide ([d, e].length = ("BB" : Str).length) = true from decide_eq_true rfl]
  show (true && (partD bk 66 d && (partD bk 66 e && true))) = _
  rw [Bool.and_true, Bool.true_and]
  rfl
theorem stat_if : statD bk (.tuple [.str "if", c, d, e]) = (exprD 6 c && (bk d && bk e)) := by
  rw [stat_val sh_if, cp_if, show decide ([c, d, e].length = ("EBB" : Str).length) = true from decide_eq_true rfl]
  show (true && (partD bk 69 c && (partD bk 66 d && (partD bk 66 e && true)))) = _
  rw [Bool.and_true, Bool.true_and]
  rfl
theorem stat_set : statD bk (.tuple [.str "set", d, e]) = (wordD d && exprD 6 e) := by
  rw [stat_val sh_set, cp_set, show decide ([d, e].length = ("WE" : Str).length) = true from decide_eq_true rfl]
  show (true && (partD bk 87 d && (partD bk 69 e && true))) = _
  rw [Bool.and_true, Bool.true_and]
  rfl
theorem stat_end : statD bk (.tuple [.str "end", d]) = exprD 6 d := by
  rw [stat_val sh_end, cp_end, show decide ([d].length = ("E" : Str).length) = true from decide_eq_true rfl]
  show (true && (partD bk 69 d && true)) = _
  rw [Bool.and_true, Bool.true_and]
  rfl
theorem stat_call : statD bk (.tuple [.str "call", d]) = wordD d := by
  rw [stat_val sh_call, cp_call, show decide ([d].length = ("W" : Str).length) = true from decide_eq_true rfl]
  show (true && (partD bk 87 d && true)) = _
  rw [Bool.and_true, Bool.true_and]
  rfl
end
theorem el_loop {d : PyData} : elemsD (.tuple [.str "loop", d]) = [1] := (elems_of sh_loop).trans (by decide +kernel)
theorem el_toss {d e : PyData} : elemsD (.tuple [.str "toss", d, e]) = [1, 2] := (elems_of sh_toss).trans (by decide +kernel)
theorem el_if {c d e : PyData} : elemsD (.tuple [.str "if", c, d, e]) = [2, 3] := (elems_of sh_if).trans (by decide +kernel)
theorem el_set {d e : PyData} : elemsD (.tuple [.str "set", d, e]) = [] := (elems_of sh_set).trans (by decide +kernel)
theorem el_end {d : PyData} : elemsD (.tuple [.str "end", d]) = [] := (elems_of sh_end).trans (by decide +kernel)
/-- a block with few statements, none of which leaves or calls -/
structure Cl (d : PyData) (k : Nat) : Prop where
  q : ∀ n p b, quiet (listB n d p b)
  l : ∀ n p b, (listB n d p b).length ≤ k
structure St (s : PyData) (k : Nat) : Prop where
  q : ∀ n p b i, quiet (rowsD (listB n) p b i s)
  l : ∀ n p b i, (rowsD (listB n) p b i s).length ≤ k
theorem flat_le {α β : Type} (G : α → List β) {k : Nat} : ∀ {xs : List α}, (∀ x ∈ xs, (G x).length ≤ k) → (xs.flatMap G).length ≤ xs.length * k
  | [], _ => Nat.zero_le _
  | x :: xs, h => by
    rw [List.flatMap_cons, List.length_append, List.length_cons, Nat.succ_mul]
    have h1 := h x (List.mem_cons_self ..)
    have h2 := flat_le G (fun y hy => h y (List.mem_cons_of_mem _ hy))
    omega
theorem Cl.mono {d : PyData} {k k' : Nat} (c : Cl d k) (h : k ≤ k') : Cl d k' := ⟨c.q, fun n p b => Nat.le_trans (c.l n p b) h⟩
theorem St.mono {d : PyData} {k k' : Nat} (c : St d k) (h : k ≤ k') : St d k' := ⟨c.q, fun n p b i => Nat.le_trans (c.l n p b i) h⟩
theorem getD_mem {l : List PyData} {i : Nat} (h : i < l.length) : l.getD i .none ∈ l := by
  rw [List.getD_eq_getElem?_getD, List.getElem?_eq_getElem h]
  exact List.getElem_mem h
theorem Cl.tup {l : List PyData} {k : Nat} (h : ∀ s ∈ l, St s k) : Cl (.tuple l) (l.length * k) := by
  refine ⟨fun n p b => ?_, fun n p b => ?_⟩
  · cases n with
    | zero => exact fun r hr => by cases hr
    | succ n =>
      intro r hr
      obtain ⟨i, hi, hr⟩ := List.mem_flatMap.mp (show r ∈ (List.range l.length).flatMap fun i => rowsD (listB n) p b i (l.getD i .none) from hr)
      exact (h _ (getD_mem (List.mem_range.mp hi))).q n p b i r hr
  · cases n with
    | zero => exact Nat.zero_le _
    | succ n =>
      have := flat_le (fun i => rowsD (listB n) p b i (l.getD i .none)) (xs := List.range l.length) (k := k) (fun i hi => (h _ (getD_mem (List.mem_range.mp hi))).l n p b i)
      rw [List.length_range] at this
      exact this
theorem St.of {s : PyData} {k : Nat} (h1 : headD s ≠ "leave") (h2 : headD s ≠ "call") (he : ∀ e ∈ elemsD s, Cl (itD s e) k) : St s (1 + (elemsD s).length * k) := by
  refine ⟨fun n p b i r hr => ?_, fun n p b i => ?_⟩
  · rcases List.mem_cons.mp hr with rfl | hr
    · exact ⟨h1, h2⟩
    · obtain ⟨e, he', hr⟩ := List.mem_flatMap.mp hr
      exact (he e he').q _ _ _ r hr
  · show (_ :: (elemsD s).flatMap _).length ≤ _
    rw [List.length_cons]
    have := flat_le (fun e => listB n (itD s e) (p ++ [(i : Int)] ++ [(e : Int)]) (b || headD s == "loop")) (xs := elemsD s) (k := k) (fun e h => (he e h).l _ _ _)
    omega
theorem st_loop {d : PyData} {k : Nat} (h : Cl d k) : St (.tuple [.str "loop", d]) (k + 1) := by
  have := St.of (s := .tuple [.str "loop", d]) (k := k) (by decide +kernel : ("loop" : Str) ≠ "leave") (by decide +kernel : ("loop" : Str) ≠ "call") (fun e he => by
    rw [el_loop] at he
    cases List.mem_singleton.mp he
    exact h)
  rw [el_loop] at this
  exact this.mono (by simp; omega)
theorem st_toss {d e : PyData} {k : Nat} (h : Cl d k) (g : Cl e k) : St (.tuple [.str "toss", d, e]) (2 * k + 1) := by
  have := St.of (s := .tuple [.str "toss", d, e]) (k := k) (by decide +kernel : ("toss" : Str) ≠ "leave") (by decide +kernel : ("toss" : Str) ≠ "call") (fun i he => by
    rw [el_toss] at he
    rcases List.mem_cons.mp he with rfl | he
    · exact h
    · cases List.mem_singleton.mp he
      exact g)
  rw [el_toss] at this
  exact this.mono (by simp; omega)
theorem st_if {c d e : PyData} {k : Nat} (h : Cl d k) (g : Cl e k) : St (.tuple [.str "if", c, d, e]) (2 * k + 1) := by
  have := St.of (s := .tuple [.str "if", c, d, e]) (k := k) (by decide +kernel : ("if" : Str) ≠ "leave") (by decide +kernel : ("if" : Str) ≠ "call") (fun i he => by
    rw [el_if] at he
    rcases List.mem_cons.mp he with rfl | he
    · exact h
    · cases List.mem_singleton.mp he
      exact g)
  rw [el_if] at this
  exact this.mono (by simp; omega)
theorem st_set {d e : PyData} : St (.tuple [.str "set", d, e]) 1 := by
  have := St.of (s := .tuple [.str "set", d, e]) (k := 0) (by decide +kernel : ("set" : Str) ≠ "leave") (by decide +kernel : ("set" : Str) ≠ "call") (fun i he => by
    rw [el_set] at he
    cases he)
  exact this.mono (by simp)
theorem st_end {d : PyData} : St (.tuple [.str "end", d]) 1 := by
  have := St.of (s := .tuple [.str "end", d]) (k := 0) (by decide +kernel : ("end" : Str) ≠ "leave") (by decide +kernel : ("end" : Str) ≠ "call") (fun i he => by
    rw [el_end] at he
    cases he)
  exact this.mono (by simp)
theorem cl_nil : Cl (.tuple []) 0 := Cl.tup (l := []) (k := 0) (fun s h => by cases h)
theorem cl_one {s : PyData} {k : Nat} (h : St s k) : Cl (.tuple [s]) k := (Cl.tup (l := [s]) (k := k) (fun x hx => by
  cases List.mem_singleton.mp hx
  exact h)).mono (by simp)
/-- a program of such blocks -/
theorem clean {b : PyData} {ds : List PyData} {k : Nat} (hk : k ≤ 100000) (hb : Cl b k) (h6 : ds.length ≤ 6) (hd : ∀ p ∈ ds, Cl (blockOf p) k) : quiet (listP (.tuple [b, .tuple ds])) ∧ (listP (.tuple [b, .tuple ds])).length ≤ 1000000 := by
  constructor
  · intro r hr
    rcases List.mem_append.mp hr with h | h
    · exact hb.q _ _ _ r h
    · obtain ⟨i, hi, h⟩ := List.mem_flatMap.mp h
      exact (hd _ (getD_mem (List.mem_range.mp hi))).q _ _ _ r h
  · show (_ ++ _ : List Row).length ≤ _
    rw [List.length_append]
    have h1 := hb.l 6 [-1] false
    have h2 := flat_le (fun i : Nat => listB 6 (blockOf (ds.getD i .none)) [(i : Int)] false) (xs := List.range ds.length) (k := k) (fun i hi => (hd _ (getD_mem (List.mem_range.mp hi))).l _ _ _)
    rw [List.length_range] at h2
    have h3 : ds.length * k ≤ 6 * 100000 := Nat.mul_le_mul h6 hk
    have h4 : (itemsD (itD (PyData.tuple [b, .tuple ds]) 1)) = ds := rfl
    rw [h4]
    have h5 : itD (PyData.tuple [b, .tuple ds]) 0 = b := rfl
    rw [h5]
    omega
/-- expressions of nested tuples -/
inductive DeepE : Nat → PyData → Prop
  | int {i : Int} : 0 ≤ i → i < 10 → DeepE 0 (.int i)
  | left {m : Nat} {x : Str} {d : PyData} : isOp (.str x) = true → x.length ≤ 5 → DeepE m d → DeepE (m + 1) (.tuple [.str x, d, .int 1])
  | right {m : Nat} {x : Str} {d : PyData} : isOp (.str x) = true → x.length ≤ 5 → DeepE m d → DeepE (m + 1) (.tuple [.str x, .str "x", d])
theorem expr_x (n : Nat) : exprD n (.str "x") = true := by
  rw [expr_leaf rfl]
  decide +kernel
theorem expr_int (n : Nat) {i : Int} (h0 : 0 ≤ i) (h1 : i < 10) : exprD n (.int i) = true := by
  rw [expr_leaf rfl]
  show (false || (decide (0 ≤ i) && decide (i < 10))) = true
  rw [decide_eq_true h0, decide_eq_true h1]
  rfl
theorem DeepE.val {m : Nat} {d : PyData} (h : DeepE m d) : ∀ n, exprD n d = decide (m ≤ n) := by
  induction h with
  | int h0 h1 =>
    intro n
    rw [expr_int n h0 h1, decide_eq_true (Nat.zero_le _)]
  | @left m x d hx _ _ ih =>
    intro n
    cases n with
    | zero => rfl
    | succ n =>
      show (decide (3 = 3) && (isOp (.str x) && (exprD n d && exprD n (.int 1)))) = _
      rw [hx, ih n, expr_int n (by decide) (by decide), decide_eq_true rfl, Bool.true_and, Bool.true_and, Bool.and_true]
      exact decide_eq_decide.mpr (by omega)
  | @right m x d hx _ _ ih =>
    intro n
    cases n with
    | zero => rfl
    | succ n =>
      show (decide (3 = 3) && (isOp (.str x) && (exprD n (.str "x") && exprD n d))) = _
      rw [hx, ih n, expr_x, decide_eq_true rfl, Bool.true_and, Bool.true_and, Bool.true_and]
      exact decide_eq_decide.mpr (by omega)
theorem DeepE.strs {m : Nat} {d : PyData} (h : DeepE m d) : strD d = true := by
  induction h with
  | int => rfl
  | @left m x d _ hx _ ih =>
    show (decide (x.length ≤ 1000) && (strD d && true)) = true
    rw [ih, decide_eq_true (by omega)]
    rfl
  | @right m x d _ hx _ ih =>
    show (decide (x.length ≤ 1000) && (strD (.str "x") && (strD d && true))) = true
    rw [ih, decide_eq_true (by omega)]
    decide +kernel
/-- blocks of nested blocks -/
inductive DeepB : Nat → PyData → Prop
  | nil : DeepB 1 (.tuple [])
  | end_ : DeepB 1 (.tuple [.tuple [.str "end", .int 1]])
  | loop {m : Nat} {d : PyData} : DeepB m d → DeepB (m + 1) (.tuple [.tuple [.str "loop", d]])
  | toss {m : Nat} {d : PyData} : DeepB m d → DeepB (m + 1) (.tuple [.tuple [.str "toss", .tuple [], d]])
  | set {m : Nat} {d : PyData} : DeepB m d → DeepB (m + 1) (.tuple [.tuple [.str "set", .str "x", .int 1], .tuple [.str "toss", d, .tuple []]])
  | if_ {m : Nat} {d : PyData} : DeepB m d → DeepB (m + 1) (.tuple [.tuple [.str "if", .str "x", .tuple [], d]])
theorem DeepB.pos {m : Nat} {d : PyData} (h : DeepB m d) : 1 ≤ m := by cases h <;> omega
theorem block_nil (n : Nat) : blockD n (.tuple []) = decide (1 ≤ n) := by
  cases n with
  | zero => rfl
  | succ n => rw [decide_eq_true (by omega)]; rfl
theorem block_one {n : Nat} {s : PyData} : blockD (n + 1) (.tuple [s]) = statD (blockD n) s := by
  show (decide (1 ≤ 20) && (statD (blockD n) s && true)) = _
  rw [decide_eq_true (by decide), Bool.true_and, Bool.and_true]
theorem word_x : wordD (.str "x") = true := by decide +kernel
theorem DeepB.val {m : Nat} {d : PyData} (h : DeepB m d) : ∀ n, blockD n d = decide (m ≤ n) := by
  induction h with
  | nil => exact fun n => block_nil n
  | end_ =>
    intro n
    cases n with
    | zero => rfl
    | succ n => rw [block_one, stat_end, expr_int 6 (by decide) (by decide), decide_eq_true (by omega)]
  | @loop m d hd ih =>
    intro n
    cases n with
    | zero => rfl
    | succ n =>
      rw [block_one, stat_loop, ih]
      exact decide_eq_decide.mpr (by omega)
  | @toss m d hd ih =>
    intro n
    have := hd.pos
    cases n with
    | zero => rfl
    | succ n =>
      rw [block_one, stat_toss, ih, block_nil, ← Bool.decide_and]
      exact decide_eq_decide.mpr (by omega)
  | @set m d hd ih =>
    intro n
    have := hd.pos
    cases n with
    | zero => rfl
    | succ n =>
      show (decide (2 ≤ 20) && (statD (blockD n) (.tuple [.str "set", .str "x", .int 1]) && (statD (blockD n) (.tuple [.str "toss", d, .tuple []]) && true))) = _
      rw [stat_set, stat_toss, ih, block_nil, word_x, expr_int 6 (by decide) (by decide), decide_eq_true (by decide), Bool.true_and, Bool.true_and, Bool.true_and, Bool.and_true, ← Bool.decide_and]
      exact decide_eq_decide.mpr (by omega)
  | @if_ m d hd ih =>
    intro n
    have := hd.pos
    cases n with
    | zero => rfl
    | succ n =>
      rw [block_one, stat_if, ih, block_nil, expr_x, Bool.true_and, ← Bool.decide_and]
      exact decide_eq_decide.mpr (by omega)
theorem DeepB.cl {m : Nat} {d : PyData} (h : DeepB m d) : Cl d (4 ^ m) := by
  induction h with
  | nil => exact cl_nil.mono (by omega)
  | end_ => exact (cl_one st_end).mono (by decide)
  | @loop m d hd ih => exact (cl_one (st_loop ih)).mono (by have : 1 ≤ 4 ^ m := Nat.one_le_pow m 4 (by decide); rw [Nat.pow_succ]; omega)
  | @toss m d hd ih => exact (cl_one (st_toss (cl_nil.mono (Nat.zero_le _)) ih)).mono (by have : 1 ≤ 4 ^ m := Nat.one_le_pow m 4 (by decide); rw [Nat.pow_succ]; omega)
  | @set m d hd ih =>
    have hp : 4 ^ 1 ≤ 4 ^ m := Nat.pow_le_pow_right (show 4 > 0 by decide) hd.pos
    refine ((Cl.tup (l := [_, _]) (k := 2 * 4 ^ m) fun s hs => ?_).mono (by rw [Nat.pow_succ]; show 2 * _ ≤ _; omega))
    rcases List.mem_cons.mp hs with rfl | hs
    · exact st_set.mono (by omega)
    · cases List.mem_singleton.mp hs
      refine ⟨(st_toss ih (cl_nil.mono (Nat.zero_le _))).q, fun n p b i => ?_⟩
      unfold rowsD
      rw [el_toss, List.length_cons]
      have h1 := ih.l n (p ++ [(i : Int)] ++ [((1 : Nat) : Int)]) (b || headD (PyData.tuple [.str "toss", d, .tuple []]) == "loop")
      have h2 := cl_nil.l n (p ++ [(i : Int)] ++ [((2 : Nat) : Int)]) (b || headD (PyData.tuple [.str "toss", d, .tuple []]) == "loop")
      rw [List.flatMap_cons, List.flatMap_cons, List.flatMap_nil, List.append_nil, List.length_append]
      have h1 : (listB n (itD (PyData.tuple [.str "toss", d, .tuple []]) 1) (p ++ [(i : Int)] ++ [((1 : Nat) : Int)]) (b || headD (PyData.tuple [.str "toss", d, .tuple []]) == "loop")).length ≤ _ := h1
      have h2 : (listB n (itD (PyData.tuple [.str "toss", d, .tuple []]) 2) (p ++ [(i : Int)] ++ [((2 : Nat) : Int)]) (b || headD (PyData.tuple [.str "toss", d, .tuple []]) == "loop")).length ≤ _ := h2
      omega
  | @if_ m d hd ih => exact (cl_one (st_if (cl_nil.mono (Nat.zero_le _)) ih)).mono (by have : 1 ≤ 4 ^ m := Nat.one_le_pow m 4 (by decide); rw [Nat.pow_succ]; omega)
theorem DeepB.strs {m : Nat} {d : PyData} (h : DeepB m d) : strD d = true := by
  induction h with
  | nil => rfl
  | end_ => decide +kernel
  | @loop m d _ ih =>
    show ((strD (.str "loop") && (strD d && true)) && true) = true
    rw [ih]
    decide +kernel
  | @toss m d _ ih =>
    show ((strD (.str "toss") && (true && (strD d && true))) && true) = true
    rw [ih]
    decide +kernel
  | @set m d _ ih =>
    show ((strD (.str "set") && (strD (.str "x") && (true && true))) && ((strD (.str "toss") && (strD d && (true && true))) && true)) = true
    rw [ih]
    decide +kernel
  | @if_ m d _ ih =>
    show ((strD (.str "if") && (strD (.str "x") && (true && (strD d && true)))) && true) = true
    rw [ih]
    decide +kernel
end Z

set_option Elab.async false
set_option linter.all false
set_option maxRecDepth 100000
set_option maxHeartbeats 4000000
/-! z.count(one sign); tapes as texts -/
namespace CO
open PySem PySem.StrLaws PySem.Builtin PySem.Builtin.Str
theorem walk (x : Str) (c : Nat) : ∀ (n a : Nat) (st : Array Nat × Nat), st.fst.size ≤ a → st.snd ≤ a → a + n ≤ x.length + 1 →
    ((forIn (List.range' a n) st (occBody x ⟨#[c]⟩ x.length (x.length + 1))).run.fst).size = st.fst.size + ((x.cps.toList.drop a).take n).count c
  | 0, a, st, _, _, _ => by simp
  | n + 1, a, st, h1, h2, h3 => by
    rw [List.range'_succ, List.forIn_cons]
    have one := subAt_one x c a
    have len : (⟨#[c]⟩ : Str).length = 1 := rfl
    have step : ((x.cps.toList.drop a).take (n + 1)).count c = (if x.cps.toList[a]? = some c then 1 else 0) + ((x.cps.toList.drop (a + 1)).take n).count c := by
      cases e : x.cps.toList[a]? with
      | none =>
        have ge : x.cps.toList.length ≤ a := by simpa using e
        rw [List.drop_eq_nil_of_le ge, List.drop_eq_nil_of_le (by omega)]
        simp
      | some d =>
        obtain ⟨lt, ed⟩ := List.getElem?_eq_some_iff.mp e
        rw [List.drop_eq_getElem_cons lt, List.take_succ_cons, List.count_cons, ed]
        by_cases hd : d = c
        · subst hd
          simp
          omega
        · simp [hd]
    rw [step]
    unfold occBody
    by_cases hc : x.cps.toList[a]? = some c
    · obtain ⟨q1, q2⟩ := one.mpr hc
      rw [if_pos ⟨⟨⟨by omega, h2⟩, q1⟩, q2⟩, if_pos hc]
      show ((forIn (List.range' (a + 1) n) (st.fst.push a, a + (⟨#[c]⟩ : Str).length) (occBody x ⟨#[c]⟩ x.length (x.length + 1))).run.fst).size = _
      rw [walk x c n (a + 1) _ (by show (st.fst.push a).size ≤ _; rw [Array.size_push]; omega) (by show a + 1 ≤ a + 1; exact Nat.le_refl _) (by omega)]
      show (st.fst.push a).size + _ = _
      rw [Array.size_push]
      omega
    · rw [if_neg (fun z => hc (one.mp ⟨z.1.2, z.2⟩)), if_neg hc]
      show ((forIn (List.range' (a + 1) n) (st.fst, st.snd) (occBody x ⟨#[c]⟩ x.length (x.length + 1))).run.fst).size = _
      rw [walk x c n (a + 1) _ (by show st.fst.size ≤ _; omega) (by show st.snd ≤ _; omega) (by omega)]
      show st.fst.size + _ = _
      simp only [if_neg hc, Nat.zero_add]
theorem count_one (x : Str) (c : Nat) : Txt.count x ⟨#[c]⟩ = (x.cps.toList.count c : Nat) := by
  unfold Txt.count
  rw [occ_eq]
  have h := walk x c (x.length + 1 - 0) 0 (#[], 0) (Nat.le_refl _) (Nat.le_refl _) (by omega)
  have e : (x.cps.toList.drop 0).take (x.length + 1 - 0) = x.cps.toList := by
    rw [List.drop_zero]
    exact List.take_of_length_le (by rw [Array.length_toList]; show x.length ≤ _; omega)
  rw [e] at h
  rw [Array.length_toList, h]
  simp
end CO

set_option Elab.async false
set_option linter.all false
set_option maxRecDepth 100000
set_option maxHeartbeats 4000000
/-! a comprehension over zip of two lists; binomials -/
namespace ZC
open PySem PySem.Spec PyProof.Rows L2 GG
theorem lc_zL {K : PySem.W.Frag} {a b : Addr} {xs ys : List V} {g : TG} {tt : TT} {te : TE} {vs : List Nat} {σ : L2.St} {H1 : Hp} {D : Addr} {Qd : Hp → Prop} (len : xs.length = ys.length) (Pv : Nat → Hp → Prop) (h0 : Pv 0 (upd H1 D (.lst []))) (hl : ∀ i H, Pv i H → SqL K H a xs ∧ SqL K H b ys)
    (turn : ∀ i x y H T, xs[i]? = some x → ys[i]? = some y → Pv i H → H T = none → g (.ref T) (wipe σ vs) (upd H T (.tup [x, y])) fun σ2 H2 => wipe σ2 vs = wipe σ vs ∧ tt σ2 H2 fun c H3 =>
      if c = true then te σ2 H3 fun y H4 => ∃ acc, H4 D = some (.lst acc) ∧ acc.length < sizeLine ∧ Pv (i + 1) (upd H4 D (.lst (acc ++ [y]))) else Pv (i + 1) H3) (done : ∀ H, Pv xs.length H → Qd H) :
    ∃ W : Nat → Nat → Hp → Prop, (∃ m, W 0 m (upd H1 D (.lst []))) ∧ ∀ i m H, W i m H →
      ((Itz K a b).stop i H ∧ Qd H) ∨ ((Itz K a b).go i H ∧ ∃ Nx : Hp → Prop, (∀ H', Nx H' → ∃ m', m' < m ∧ W (i + 1) m' H') ∧
        ∀ x H', (Itz K a b).yld i H x H' → g x (wipe σ vs) H' fun σ2 H2 => wipe σ2 vs = wipe σ vs ∧ tt σ2 H2 fun c H3 =>
          if c = true then te σ2 H3 fun y H4 => ∃ acc, H4 D = some (.lst acc) ∧ acc.length < sizeLine ∧ Nx (upd H4 D (.lst (acc ++ [y]))) else Nx H3) := by
  refine ⟨fun i m H => m = xs.length - i ∧ i ≤ xs.length ∧ Pv i H, ⟨_, rfl, Nat.zero_le _, h0⟩, ?_⟩
  rintro i m H ⟨rfl, le, pv⟩
  obtain ⟨qx, qy⟩ := hl i H pv
  rcases Nat.lt_or_ge i xs.length with lt | ge
  · have hx : xs[i]? = some xs[i] := List.getElem?_eq_getElem lt
    have lt2 : i < ys.length := by omega
    have hy : ys[i]? = some ys[i] := List.getElem?_eq_getElem lt2
    refine .inr ⟨⟨xs, ys, _, _, qx, qy, hx, hy⟩, Pv (i + 1), fun H' n => ⟨xs.length - (i + 1), by omega, rfl, lt, n⟩, ?_⟩
    rintro v H' ⟨T, x, y, rfl, nT, rfl, f1, f2⟩
    exact turn i x y H T (f1 xs qx) (f2 ys qy) pv nT
  · have e : i = xs.length := by omega
    subst e
    exact .inl ⟨⟨xs, ys, qx, qy, .inl (Nat.le_refl _)⟩, done H pv⟩

/-- the binomial number -/
def ch : Nat → Nat → Nat
  | _, 0 => 1
  | 0, _ + 1 => 0
  | n + 1, k + 1 => ch n k + ch n (k + 1)
theorem ch_over : ∀ (n k : Nat), n < k → ch n k = 0
  | 0, k + 1, _ => rfl
  | n + 1, k + 1, h => by
    show ch n k + ch n (k + 1) = 0
    rw [ch_over n k (by omega), ch_over n (k + 1) (by omega)]
theorem ch_zero (n : Nat) : ch n 0 = 1 := by cases n <;> rfl
theorem ch_le : ∀ (n k : Nat), ch n k ≤ 2 ^ n
  | n, 0 => by
    rw [ch_zero]
    exact Nat.one_le_two_pow
  | 0, k + 1 => Nat.zero_le _
  | n + 1, k + 1 => by
    show ch n k + ch n (k + 1) ≤ 2 ^ (n + 1)
    have := ch_le n k
    have := ch_le n (k + 1)
    rw [Nat.pow_succ]
    omega
def bin (n : Nat) : List Int := (List.range (n + 1)).map fun k => (ch n k : Int)
theorem bin_len (n : Nat) : (bin n).length = n + 1 := by simp [bin]
theorem bin_get {n k : Nat} (h : k ≤ n) : (bin n)[k]? = some (ch n k : Int) := by
  unfold bin
  rw [List.getElem?_map, List.getElem?_range (by omega)]
  rfl
/-- the two summands at a place -/
theorem bin_left {n k : Nat} (h : k ≤ n + 1) : (bin n ++ [0])[k]? = some (ch n k : Int) := by
  rcases Nat.lt_or_ge k (n + 1) with lt | ge
  · rw [List.getElem?_append_left (by rw [bin_len]; exact lt), bin_get (by omega)]
  · have e : k = n + 1 := by omega
    subst e
    rw [List.getElem?_append_right (by rw [bin_len]; exact Nat.le_refl _), bin_len, Nat.sub_self, ch_over n (n + 1) (by omega)]
    rfl
def low (n : Nat) : Nat → Int
  | 0 => 0
  | j + 1 => (ch n j : Int)
theorem bin_right {n k : Nat} (h : k ≤ n + 1) : ((0 : Int) :: bin n)[k]? = some (low n k) := by
  cases k with
  | zero => rfl
  | succ j =>
    rw [List.getElem?_cons_succ, bin_get (by omega)]
    rfl
theorem bin_step (n k : Nat) : (ch (n + 1) k : Int) = (ch n k : Int) + low n k := by
  cases k with
  | zero => simp [ch_zero, low]
  | succ j =>
    show ((ch n j + ch n (j + 1) : Nat) : Int) = _
    rw [Int.natCast_add]
    exact Int.add_comm _ _
end ZC

set_option Elab.async false
set_option linter.all false
set_option maxRecDepth 100000
set_option maxHeartbeats 4000000
/-! tapes as lists of tosses -/
namespace Z
open PySem PySem.Spec PyProof.Rows L2 ZC
def sg (b : Bool) : Str := if b then "H" else "T"
def word (t : List Bool) : Str := ⟨(t.map fun b => if b then 72 else 84).toArray⟩
theorem sg_len (b : Bool) : (sg b).length = 1 := by cases b <;> decide +kernel
theorem sg_cps (b : Bool) : (sg b).cps.toList = [if b then 72 else 84] := by cases b <;> decide +kernel
theorem sg_one (b : Bool) : sg b = ⟨#[if b then 72 else 84]⟩ := by cases b <;> decide +kernel
theorem sg_inj {b c : Bool} (h : sg b = sg c) : b = c := by
  cases b <;> cases c
  · rfl
  · exact absurd h (by decide +kernel)
  · exact absurd h (by decide +kernel)
  · rfl
theorem word_list (t : List Bool) : (word t).cps.toList = t.map fun b => if b then 72 else 84 := by
  unfold word
  rw [List.toList_toArray]
theorem word_len (t : List Bool) : (word t).length = t.length := by
  show (word t).cps.size = _
  rw [← Array.length_toList, word_list, List.length_map]
theorem word_at {t : List Bool} {i c : Nat} (h : (word t).cps[i]? = some c) : ∃ b, t[i]? = some b ∧ (⟨#[c]⟩ : Str) = sg b := by
  have h' : (word t).cps.toList[i]? = some c := by rw [Array.getElem?_toList]; exact h
  rw [word_list, List.getElem?_map] at h'
  cases e : t[i]? with
  | none => rw [e] at h'; cases h'
  | some b =>
    rw [e] at h'
    refine ⟨b, rfl, ?_⟩
    have ec : (if b then 72 else 84) = c := Option.some.inj h'
    rw [← ec, ← sg_one]
theorem str_ext {x y : Str} (e : x.cps.toList = y.cps.toList) : x = y := by
  obtain ⟨x⟩ := x
  obtain ⟨y⟩ := y
  exact congrArg Str.mk (Array.toList_inj.mp e)
theorem word_app (t u : List Bool) : word t ++ word u = word (t ++ u) := by
  refine str_ext ?_
  show ((word t).cps ++ (word u).cps).toList = _
  rw [Array.toList_append, word_list, word_list, word_list, List.map_append]
theorem word_one (b : Bool) : word [b] = sg b := str_ext (by rw [word_list, sg_cps]; rfl)
theorem word_snoc (t : List Bool) (b : Bool) : word t ++ sg b = word (t ++ [b]) := by rw [← word_one, word_app]
theorem word_cons (t : List Bool) (b : Bool) : sg b ++ word t = word (b :: t) := by rw [← word_one, word_app]; rfl
theorem cut_word {t : List Bool} {j k : Nat} (h : j ≤ k) (h' : k ≤ t.length) : cutS (word t) (some (j : Int)) (some (k : Int)) = word ((t.drop j).take (k - j)) := by
  have e1 : HT.sIx (word t).length 0 (some (j : Int)) = j := by
    rw [HT.sIx_nat, word_len]
    omega
  have e2 : HT.sIx (word t).length (word t).length (some (k : Int)) = k := by
    rw [HT.sIx_nat, word_len]
    omega
  refine str_ext ?_
  unfold cutS
  rw [e1, e2, List.toList_toArray, word_list, word_list, List.map_take, List.map_drop]
def hd (t : List Bool) : Nat := t.count true
theorem count_H (t : List Bool) : Txt.count (word t) "H" = (hd t : Int) := by
  have e : (("H" : String) : Str) = ⟨#[72]⟩ := by decide +kernel
  rw [e, CO.count_one, word_list]
  unfold hd
  congr 1
  induction t with
  | nil => rfl
  | cons b t ih =>
    rw [List.map_cons, List.count_cons, List.count_cons, ih]
    cases b <;> rfl
theorem hd_le (t : List Bool) : hd t ≤ t.length := List.count_le_length
/-- the rank of a tape among those with as many heads -/
def rk : List Bool → Nat
  | [] => 0
  | true :: t => rk t
  | false :: t => (if 0 < hd t then ch t.length (hd t - 1) else 0) + rk t
end Z

set_option Elab.async false
set_option linter.all false
set_option maxRecDepth 100000
set_option maxHeartbeats 1000000
namespace Z
open PySem PySem.Spec PyProof.Rows L2 GG TPD EQD INX DSD
abbrev sDE : Stmt := top 28
abbrev sDB : Stmt := top 29
/-! tuples that are made: what they hold -/
section
variable {N : Addr → Prop} {H0 : Hp} {σ : L2.St}
def Ev (N : Addr → Prop) (H0 : Hp) (σ : L2.St) (te : TE) (d : PyData) : Prop := ∀ (H : Hp) (Q : VK), Same H0 H → (∀ v H', Same H H' → Ds N H' v d → Q v H') → te σ H Q
def EvA (N : Addr → Prop) (H0 : Hp) (σ : L2.St) (ta : TA) (ds : List PyData) : Prop := ∀ (H : Hp) (Q : List V → Hp → Prop), Same H0 H → (∀ vs H', Same H H' → DsAll N H' vs ds → Q vs H') → ta σ H Q
theorem BN.of_ {H H' : Hp} (s : Same H H') : BN N H H' := fun b o h _ => s b o h
theorem ev_str {x : Str} : Ev N H0 σ (tC (.str x)) (.str x) := fun H Q _ q => q _ H (Same.refl _) (.str x)
theorem ev_int {i : Int} : Ev N H0 σ (tC (.int i)) (.int i) := fun H Q _ q => q _ H (Same.refl _) (.int i)
theorem ev_var {i : Nat} {v : V} {d : PyData} (h : σ[i]? = some (some v)) (hd : Ds N H0 v d) : Ev N H0 σ (tVar i) d := fun H Q s q => ⟨v, h, q v H (Same.refl _) (Ds.bn (BN.of_ s) d v hd)⟩
theorem eva_nil : EvA N H0 σ tNil [] := fun H Q _ q => q _ H (Same.refl _) .nil
theorem eva_cons {te : TE} {ta : TA} {d : PyData} {ds : List PyData} (h : Ev N H0 σ te d) (g : EvA N H0 σ ta ds) : EvA N H0 σ (tCons te ta) (d :: ds) := fun H Q s q =>
  h H _ s fun v H1 s1 hv => g H1 _ (s.trans s1) fun vs H2 s2 hvs => q _ H2 (s1.trans s2) (.cons (Ds.bn (BN.of_ s2) d v hv) hvs)
theorem ev_tup {ta : TA} {ds : List PyData} (occ : ∀ b, N b → H0 b ≠ none) (hl : ds.length ≤ 16777216) (h : EvA N H0 σ ta ds) : Ev N H0 σ (tTup ta) (.tuple ds) := fun H Q s q =>
  h H _ s fun vs H1 s1 hvs => ⟨by rw [hvs.len]; exact hl, fun t nt => by
    have st := Same.upd (o := .tup vs) nt
    refine q _ _ (s1.trans st) (.tup upd_same (fun hN => ?_) (Ds.bnAll (BN.of_ st) ds vs hvs))
    exact occ t hN ((s.trans s1).free nt)⟩
end
section
variable {P : Program} {w : World} {K : PySem.W.Frag} {mg : Str → Option Value} {base : Heap}
def spDE : Sp := fun vs H Q _ => ∃ (p l : Addr) (m : Nat), vs = [.ref p, .int (m : Nat)] ∧ m ≤ 7 ∧ Pen H p l ∧ ∀ v d H', But p H H' → Pen H' p l → DeepE m d → Ds (fun b => b = p) H' v d → Q v H'
theorem scDE : FnScope ["pen", "many", "found", "k", "word"] ["pen", "many"] (defScope sDE) := ⟨rfl, rfl, rfl, by decide +kernel, rfl, by decide +kernel, by decide +kernel⟩
theorem ok_de {f g : Addr} {fd gd : FuncData} (F : Fun K "_law_deep_e" "_law_deep_e" sDE f fd) (T : NamesI mg) (GD : FnOk P w K mg base CX0 2 g gd ["pen", "many"] spDraw) (PD : Def K mg "_law_draw" g gd ["pen", "many"]) : FnOk P w K mg base CX0 3 f fd ["pen", "many"] spDE := by
  refine F.ok scDE (fun vs H Q E h => ?_) (fun cdv A outer s H vs Q E hr h => ?_)
  · obtain ⟨p, l, m, rfl, _⟩ := h
    rfl
  · obtain ⟨p, l, m, rfl, hm, pn, q⟩ := h
    refine ⟨_, (pss_cons (ps_set (i := 2) scDE.nd rfl (.inl rfl) (pe_call GD (hr.mono (by first | decide | omega)) (by rfl) PD.is PD.kp PD.bi .nil pass0 (pa_cons (pv 0) (pa_cons pe_int pa_nil))))
      (pss_cons (ps_for PassesOwn.never rfl (pi_range1 rfl T.range (pa_cons (pv 1) pa_nil)) (pg_name (i := 3) scDE.nd rfl (.inl rfl)) (pss_cons (ps_set (i := 4) scDE.nd rfl (.inl rfl) (pe_ix ix_list (pe_lst (pa_cons pe_str (pa_cons pe_str (pa_cons pe_str (pa_cons pe_str pa_nil))))) (pe_call GD (hr.mono (by first | decide | omega)) (by rfl) PD.is PD.kp PD.bi .nil pass0 (pa_cons (pv 0) (pa_cons pe_int pa_nil))) (fun _ _ => rfl)))
      (pss_one (ps_set (i := 2) scDE.nd rfl (.inl rfl) (pe_ifExp (pt_cmpR op_eq (pe_call GD (hr.mono (by first | decide | omega)) (by rfl) PD.is PD.kp PD.bi .nil pass0 (pa_cons (pv 0) (pa_cons pe_int pa_nil))) pe_int (nomark _)) (pe_tup (pa_cons (pv 4) (pa_cons (pv 2) (pa_cons pe_int pa_nil)))) (pe_tup (pa_cons (pv 4) (pa_cons pe_str (pa_cons (pv 2) pa_nil)))))))))
      (pss_one (ps_ret (pv 2))))), ?_⟩
    refine ⟨_, rfl, p, l, 10, rfl, pn, by decide, by decide +kernel, fun i H1 i0 i1 b1 p1 => ?_⟩
    have occ : ∀ {Hx : Hp}, Pen Hx p l → ∀ b, (fun b => b = p) b → Hx b ≠ none := fun px b hb e => by
      have hb : b = p := hb
      subst hb
      obtain ⟨_, _, _, h, _⟩ := px
      rw [h] at e
      cases e
    have np : ∀ {Hx Hy : Hp}, But p Hx Hy → BN (fun b => b = p) Hx Hy := fun b c o h hn => b c o h hn
    refine ⟨_, rfl, (m : Nat), rfl, by omega, by omega, for_range (D := { nx := tRet (tVar 2) { nx := fun x H' => Q V.non H', rt := Q }, rt := Q }) (lo := 0) (n := ((m : Nat) : Int).toNat) (fun j σ Hx => ∃ (v : V) (d : PyData) (v3 v4 : Option V), σ = [some (V.ref p), some (V.int (m : Nat)), some v, v3, v4] ∧ But p H Hx ∧ Pen Hx p l ∧ DeepE j d ∧ Ds (fun b => b = p) Hx v d) ⟨.int i, .int i, none, none, rfl, b1, p1, .int i0 i1, .int i⟩ ?_ ?_⟩
    · rintro j σ H2 hj ⟨v, d, v3, v4, rfl, b2, p2, de, dv⟩
      refine ⟨by show 4 ≤ sizeLine; decide, fun L nL => ?_⟩
      have sL := Same.upd (o := .lst [V.str "plus", V.str "less", V.str "alike", V.str "least"]) nL
      have eL : upd H2 L (.lst [V.str "plus", V.str "less", V.str "alike", V.str "least"]) L = some (.lst [V.str "plus", V.str "less", V.str "alike", V.str "least"]) := upd_same
      have p3 := p2.same sL
      have b3 := b2.trans (But.of sL)
      have dv3 := Ds.bn (BN.of_ sL) d v dv
      have nLp : L ≠ p := (p2.apart nL).1
      generalize upd H2 L (.lst [V.str "plus", V.str "less", V.str "alike", V.str "least"]) = H3 at sL eL p3 b3 dv3 ⊢
      refine ⟨_, rfl, p, l, 4, rfl, p3, by decide, by decide +kernel, fun k H4 k0 k1 b4 p4 => ?_⟩
      obtain ⟨kn, rfl⟩ : ∃ kn : Nat, k = (kn : Int) := ⟨k.toNat, by omega⟩
      obtain ⟨x, hx, ox, lx⟩ : ∃ x : Str, [V.str "plus", V.str "less", V.str "alike", V.str "least"][kn]? = some (V.str x) ∧ isOp (.str x) = true ∧ x.length ≤ 5 := by
        match kn, k1 with
        | 0, _ => exact ⟨_, rfl, by decide +kernel, by decide +kernel⟩
        | 1, _ => exact ⟨_, rfl, by decide +kernel, by decide +kernel⟩
        | 2, _ => exact ⟨_, rfl, by decide +kernel, by decide +kernel⟩
        | 3, _ => exact ⟨_, rfl, by decide +kernel, by decide +kernel⟩
        | n + 4, h => exact absurd h (by omega)
      have dv4 := Ds.bn (np b4) d v dv3
      refine ⟨L, _, (kn : Int), .str x, rfl, rfl, SqL.of (b4 _ _ eL nLp), atI_nat hx, ?_⟩
      refine ⟨_, rfl, p, l, 2, rfl, p4, by decide, by decide +kernel, fun c H5 c0 c1 b5 p5 => ⟨rfl, _, rfl, ?_⟩⟩
      have dv5 := Ds.bn (np b5) d v dv4
      have b05 := b3.trans (b4.trans b5)
      by_cases hc : c = 0
      · rw [decide_eq_true (congrArg V.int hc)]
        refine iteT (ev_tup (occ p5) (of_decide_eq_true rfl) (eva_cons (ev_var rfl (.str x)) (eva_cons (ev_var rfl dv5) (eva_cons ev_int eva_nil))) H5 _ (Same.refl _) fun v' H6 s6 dv6 => ?_)
        exact ⟨v', _, _, _, rfl, b05.trans (But.of s6), p5.same s6, .left ox lx de, dv6⟩
      · rw [decide_eq_false (fun h => hc (V.int.inj h))]
        refine iteF (ev_tup (occ p5) (of_decide_eq_true rfl) (eva_cons (ev_var rfl (.str x)) (eva_cons ev_str (eva_cons (ev_var rfl dv5) eva_nil))) H5 _ (Same.refl _) fun v' H6 s6 dv6 => ?_)
        exact ⟨v', _, _, _, rfl, b05.trans (But.of s6), p5.same s6, .right ox lx de, dv6⟩
    · rintro σ H2 ⟨v, d, v3, v4, rfl, b2, p2, de, dv⟩
      exact ⟨_, rfl, q v d H2 b2 p2 (by rw [Int.toNat_natCast] at de; exact de) dv⟩
def spDB : Sp := fun vs H Q _ => ∃ (p l : Addr) (m : Nat) (v : V) (d : PyData), vs = [.ref p, .int ((m + 1 : Nat) : Int), v] ∧ m ≤ 6 ∧ Pen H p l ∧ DeepB 1 d ∧ Ds (fun b => b = p) H v d ∧ ∀ v d H', But p H H' → Pen H' p l → DeepB (m + 1) d → Ds (fun b => b = p) H' v d → Q v H'
theorem scDB : FnScope ["pen", "many", "last", "found", "k", "option"] ["pen", "many", "last"] (defScope sDB) := ⟨rfl, rfl, rfl, by decide +kernel, rfl, by decide +kernel, by decide +kernel⟩
theorem ok_db {f g : Addr} {fd gd : FuncData} (F : Fun K "_law_deep_block" "_law_deep_block" sDB f fd) (T : NamesI mg) (GD : FnOk P w K mg base CX0 2 g gd ["pen", "many"] spDraw) (PD : Def K mg "_law_draw" g gd ["pen", "many"]) : FnOk P w K mg base CX0 3 f fd ["pen", "many", "last"] spDB := by
  refine F.ok scDB (fun vs H Q E h => ?_) (fun cdv A outer s H vs Q E hr h => ?_)
  · obtain ⟨p, l, m, v, d, rfl, _⟩ := h
    rfl
  · obtain ⟨p, l, m, v0, d0, rfl, hm, pn, dd, dv0, q⟩ := h
    refine ⟨_, (pss_cons (ps_set (i := 3) scDB.nd rfl (.inl rfl) (pv 2))
      (pss_cons (ps_for PassesOwn.never rfl (pi_range1 rfl T.range (pa_cons (pe_op op_sub (pv 1) pe_int) pa_nil)) (pg_name (i := 4) scDB.nd rfl (.inl rfl)) (pss_cons (ps_set (i := 5) scDB.nd rfl (.inl rfl) (pe_call GD (hr.mono (by first | decide | omega)) (by rfl) PD.is PD.kp PD.bi .nil pass0 (pa_cons (pv 0) (pa_cons pe_int pa_nil))))
      (pss_one (ps_if (pt_cmpR op_eq (pv 5) pe_int (nomark _)) (pss_one (ps_set (i := 3) scDB.nd rfl (.inl rfl) (pe_tup (pa_cons (pe_tup (pa_cons pe_str (pa_cons (pv 3) pa_nil))) pa_nil)))) (pss_one (ps_if (pt_cmpR op_eq (pv 5) pe_int (nomark _)) (pss_one (ps_set (i := 3) scDB.nd rfl (.inl rfl) (pe_tup (pa_cons (pe_tup (pa_cons pe_str (pa_cons (pe_tup pa_nil) (pa_cons (pv 3) pa_nil)))) pa_nil)))) (pss_one (ps_if (pt_cmpR op_eq (pv 5) pe_int (nomark _)) (pss_one (ps_set (i := 3) scDB.nd rfl (.inl rfl) (pe_tup (pa_cons (pe_tup (pa_cons pe_str (pa_cons pe_str (pa_cons pe_int pa_nil)))) (pa_cons (pe_tup (pa_cons pe_str (pa_cons (pv 3) (pa_cons (pe_tup pa_nil) pa_nil)))) pa_nil))))) (pss_one (ps_set (i := 3) scDB.nd rfl (.inl rfl) (pe_tup (pa_cons (pe_tup (pa_cons pe_str (pa_cons pe_str (pa_cons (pe_tup pa_nil) (pa_cons (pv 3) pa_nil))))) pa_nil))))))))))))
      (pss_one (ps_ret (pv 3))))), ?_⟩
    have occ : ∀ {Hx : Hp}, Pen Hx p l → ∀ b, (fun b => b = p) b → Hx b ≠ none := fun px b hb e => by
      have hb : b = p := hb
      subst hb
      obtain ⟨_, _, _, h, _⟩ := px
      rw [h] at e
      cases e
    have np : ∀ {Hx Hy : Hp}, But p Hx Hy → BN (fun b => b = p) Hx Hy := fun b c o h hn => b c o h hn
    refine ⟨_, rfl, _, rfl, _, _, rfl, rfl, (m : Nat), by show [V.int (((m + 1 : Nat) : Int) - 1)] = _; congr 2; omega, by omega, by omega, for_range (D := { nx := tRet (tVar 3) { nx := fun x H' => Q V.non H', rt := Q }, rt := Q }) (lo := 0) (n := ((m : Nat) : Int).toNat) (fun j σ Hx => ∃ (v : V) (d : PyData) (v4 v5 : Option V), σ = [some (V.ref p), some (V.int ((m + 1 : Nat) : Int)), some v0, some v, v4, v5] ∧ But p H Hx ∧ Pen Hx p l ∧ DeepB (j + 1) d ∧ Ds (fun b => b = p) Hx v d) ⟨v0, d0, none, none, rfl, But.refl _ _, pn, dd, dv0⟩ ?_ ?_⟩
    · rintro j σ H2 hj ⟨v, d, v4, v5, rfl, b2, p2, de, dv⟩
      refine ⟨_, rfl, p, l, 4, rfl, p2, by decide, by decide +kernel, fun k H3 k0 k1 b3 p3 => ?_⟩
      have dv3 := Ds.bn (np b3) d v dv
      have b03 := b2.trans b3
      have vd : ∀ {σ : L2.St} {i : Nat}, σ[i]? = some (some v) → Ev (fun b => b = p) H3 σ (tVar i) d := fun h => ev_var h dv3
      have en : ∀ {σ : L2.St}, Ev (fun b => b = p) H3 σ (tTup tNil) (.tuple []) := ev_tup (occ p3) (of_decide_eq_true rfl) eva_nil
      have fin : ∀ (d' : PyData) v' H6, Same H3 H6 → DeepB (j + 1 + 1) d' → Ds (fun b => b = p) H6 v' d' → But p H H6 ∧ Pen H6 p l ∧ DeepB (j + 1 + 1) d' ∧ Ds (fun b => b = p) H6 v' d' := fun d' v' H6 s6 h1 h2 => ⟨b03.trans (But.of s6), p3.same s6, h1, h2⟩
      refine ⟨_, rfl, rfl, _, rfl, ?_⟩
      by_cases z0 : k = 0
      · rw [decide_eq_true (congrArg V.int z0)]
        refine iteT (ev_tup (occ p3) (of_decide_eq_true rfl) (eva_cons (ev_tup (occ p3) (of_decide_eq_true rfl) (eva_cons ev_str (eva_cons (vd rfl) eva_nil))) eva_nil) H3 _ (Same.refl _) fun v' H6 s6 dv6 => ?_)
        exact ⟨v', _, _, _, rfl, fin _ v' H6 s6 (.loop de) dv6⟩
      · rw [decide_eq_false (fun h => z0 (V.int.inj h))]
        refine iteF ⟨_, rfl, rfl, _, rfl, ?_⟩
        by_cases z1 : k = 1
        · rw [decide_eq_true (congrArg V.int z1)]
          refine iteT (ev_tup (occ p3) (of_decide_eq_true rfl) (eva_cons (ev_tup (occ p3) (of_decide_eq_true rfl) (eva_cons ev_str (eva_cons en (eva_cons (vd rfl) eva_nil)))) eva_nil) H3 _ (Same.refl _) fun v' H6 s6 dv6 => ?_)
          exact ⟨v', _, _, _, rfl, fin _ v' H6 s6 (.toss de) dv6⟩
        · rw [decide_eq_false (fun h => z1 (V.int.inj h))]
          refine iteF ⟨_, rfl, rfl, _, rfl, ?_⟩
          by_cases z2 : k = 2
          · rw [decide_eq_true (congrArg V.int z2)]
            refine iteT (ev_tup (occ p3) (of_decide_eq_true rfl) (eva_cons (ev_tup (occ p3) (of_decide_eq_true rfl) (eva_cons ev_str (eva_cons ev_str (eva_cons ev_int eva_nil)))) (eva_cons (ev_tup (occ p3) (of_decide_eq_true rfl) (eva_cons ev_str (eva_cons (vd rfl) (eva_cons en eva_nil)))) eva_nil)) H3 _ (Same.refl _) fun v' H6 s6 dv6 => ?_)
            exact ⟨v', _, _, _, rfl, fin _ v' H6 s6 (.set de) dv6⟩
          · rw [decide_eq_false (fun h => z2 (V.int.inj h))]
            refine iteF (ev_tup (occ p3) (of_decide_eq_true rfl) (eva_cons (ev_tup (occ p3) (of_decide_eq_true rfl) (eva_cons ev_str (eva_cons ev_str (eva_cons en (eva_cons (vd rfl) eva_nil))))) eva_nil) H3 _ (Same.refl _) fun v' H6 s6 dv6 => ?_)
            exact ⟨v', _, _, _, rfl, fin _ v' H6 s6 (.if_ de) dv6⟩
    · rintro σ H2 ⟨v, d, v4, v5, rfl, b2, p2, de, dv⟩
      exact ⟨_, rfl, q v d H2 b2 p2 (by rw [Int.toNat_natCast] at de; exact de) dv⟩
end
end Z

set_option Elab.async false
set_option linter.all false
set_option maxRecDepth 100000
set_option maxHeartbeats 400000
namespace Z
open PySem PySem.Spec PyProof.Rows L2 GG TPD EQD INX DSD
abbrev sWR : Stmt := top 30
/-! what is asked of the program -/
def dueV (b : Bool) : V := if b = true then .non else .str "form"
def dueD (b : Bool) : PyData := if b = true then .none else .str "form"
/-- a program of whose answer the proof knows -/
structure Known (d : PyData) : Prop where
  z : strD d = true
  c : formD d = true → quiet (listP d) ∧ (listP d).length ≤ 1000000
theorem Known.not {d : PyData} (z : strD d = true) (h : formD d = false) : Known d := ⟨z, fun e => by rw [h] at e; cases e⟩
section
variable {K : PySem.W.Frag} {N : Addr → Prop}
theorem tupE {H0 : Hp} {σ : L2.St} {ta : TA} {ds : List PyData} (occ : ∀ b, N b → H0 b ≠ none) (h : EvA N H0 σ ta ds) (hl : ds.length ≤ 16777216 := by exact of_decide_eq_true rfl) : Ev N H0 σ (tTup ta) (.tuple ds) := ev_tup occ hl h
theorem lst_by {σ : L2.St} {H : Hp} {Q : VK} {ta : TA} {ds : List PyData} (h : EvA N H σ ta ds) (hl : ds.length ≤ 16777216) (q : ∀ W vs H', Same H H' → H W = none → H' W = some (.lst vs) → DsAll N H' vs ds → Q (.ref W) H') : tLst ta σ H Q := by
  refine h H _ (Same.refl _) fun vs H1 s1 hv => ⟨by rw [hv.len]; exact hl, fun W nW => ?_⟩
  have sW := Same.upd (o := .lst vs) nW
  exact q W vs _ (s1.trans sW) (s1.free nW) upd_same (Ds.bnAll (BN.of_ sW) _ _ hv)
theorem dp_due (H : Hp) (b : Bool) : Dp K H (dueV b) (dueD b) := by
  cases b
  · exact .str _
  · exact .non
theorem dp_dues (H : Hp) : ∀ bs : List Bool, DpAll K H (bs.map dueV) (bs.map dueD)
  | [] => .nil
  | b :: bs => .cons (dp_due H b) (dp_dues H bs)
theorem dp_list {H : Hp} {a : Addr} {bs : List Bool} (e : H a = some (.lst (bs.map dueV))) : Dp K H (.ref a) (.list (bs.map dueD)) := .lst (SqL.of e) (dp_dues H bs)
theorem ask {te : TE} {σ : L2.St} {H : Hp} {Q : VK} {d : PyData} (hE : Ev N H σ te d) (hk : Known d) (q : ∀ H', Same H H' → Q (dueV (formD d)) H') : tCall (spPE K) [] E0 (tCons te tNil) σ H Q := by
  refine hE H _ (Same.refl _) fun v H1 s1 dv => ?_
  refine ⟨v, d, rfl, Ds.tp d v dv, hk.z, ?_⟩
  cases hf : formD d with
  | false =>
    rw [hf] at q
    exact .inl ⟨rfl, fun H' s' => q H' (s1.trans s')⟩
  | true =>
    rw [hf] at q
    exact .inr ⟨rfl, (hk.c hf).2, (hk.c hf).1, fun H' s' => q H' (s1.trans s')⟩
theorem dsGet {H : Hp} : ∀ {vs : List V} {ds : List PyData}, DsAll N H vs ds → ∀ {j : Nat} {x : V}, vs[j]? = some x → ∃ d, ds[j]? = some d ∧ Ds N H x d
  | _, _, .nil, j, x, h => by simp at h
  | _, _, .cons a t, 0, x, h => by
    cases h
    exact ⟨_, rfl, a⟩
  | _, _, .cons a t, j + 1, x, h => dsGet t h
theorem ask_all {W : Addr} {i k : Nat} {σ : L2.St} {H : Hp} {Q : VK} {vs : List V} {ds : List PyData} (hi : σ[i]? = some (some (.ref W))) (eW : H W = some (.lst vs)) (hds : DsAll N H vs ds) (hk : ∀ d ∈ ds, Known d) (hl : ds.length ≤ 1000)
    (h1 : ∀ x, ((wipe σ [k]).set k (some x))[k]? = some (some x)) (h2 : ∀ x, wipe ((wipe σ [k]).set k (some x)) [k] = wipe σ [k])
    (q : ∀ D H', Same H H' → H D = none → H' D = some (.lst (ds.map fun d => dueV (formD d))) → Q (.ref D) H') : tLc (iList K (tVar i)) (gName k) tYes (tCall (spPE K) [] E0 (tCons (tVar k) tNil)) [k] σ H Q := by
  have line : sizeLine = 16777216 := by decide
  have lv := hds.len
  refine ⟨_, hi, W, rfl, ⟨_, SqL.of eW⟩, fun D nD => ?_⟩
  refine lc_it (walk_list (K := K) (a := W) (xs := vs)) (fun j Hx => Same H Hx ∧ Hx D = some (.lst ((ds.take j).map fun d => dueV (formD d)))) ⟨Same.upd nD, upd_same⟩ (fun _ _ _ h => SqL.of (h.1 _ _ eW)) ?_ ?_
  · rintro j x H1 H2 hj ⟨s1, eD⟩ ⟨rfl, hx⟩
    obtain ⟨d, hd, dx⟩ := dsGet hds hx
    refine ⟨h2 x, ?_⟩
    dsimp only [tYes]
    refine iteT (ask (N := N) (d := d) (ev_var (h1 x) (Ds.bn (BN.of_ s1) _ _ dx)) (hk d (List.mem_of_getElem? hd)) fun H3 s3 => ?_)
    refine ⟨_, s3 _ _ eD, by rw [List.length_map, List.length_take]; omega, fun b o h => by rw [upd_ne (ne_of_none h nD)]; exact s3 _ _ (s1 _ _ h), ?_⟩
    rw [upd_same, List.take_succ, hd, List.map_append]
    rfl
  · rintro H1 ⟨s1, eD⟩
    rw [lv, List.take_length] at eD
    exact q D H1 s1 nD eD
end
theorem notLow {x y z : Str} {c : Nat} (hy : y.cps.toList = [c]) (hc : isLow c = false) : wordD (.str (x ++ y ++ z)) = false := by
  have e : (x ++ y ++ z).cps.toList = x.cps.toList ++ y.cps.toList ++ z.cps.toList := by
    show ((x.cps ++ y.cps) ++ z.cps).toList = _
    rw [Array.toList_append, Array.toList_append]
  show ((_ && _) && (x ++ y ++ z).cps.toList.all isLow) = false
  rw [e, hy, List.all_append, List.all_append, List.all_cons, hc]
  simp
section
variable {P : Program} {w : World} {K : PySem.W.Frag} {mg : Str → Option Value} {base : Heap}
def spWR : Sp := fun vs H Q _ => ∃ (p l : Addr), vs = [.ref p] ∧ Pen H p l ∧ ∀ H', But p H H' → Pen H' p l → Q (.bl true) H'
theorem scWR : FnScope ["pen", "sign", "at", "odd", "wrong", "one"] ["pen"] (defScope sWR) := ⟨rfl, rfl, rfl, by decide +kernel, rfl, by decide +kernel, by decide +kernel⟩
theorem ok_wr {f g e : Addr} {fd gd ed : FuncData} (F : Fun K "_law_words_right" "_law_words_right" sWR f fd) (T : NamesI mg) (GD : FnOk P w K mg base CX0 2 g gd ["pen", "many"] spDraw) (PD : Def K mg "_law_draw" g gd ["pen", "many"]) (GE : FnOk P w K mg base CX0 30 e ed ["value"] (spPE K)) (PE_ : Def K mg "program_error" e ed ["value"]) : FnOk P w K mg base CX0 31 f fd ["pen"] spWR := by
  refine F.ok scWR (fun vs H Q E h => ?_) (fun cdv A outer s H vs Q E hr h => ?_)
  · obtain ⟨p, l, rfl, _⟩ := h
    rfl
  · obtain ⟨p, l, rfl, pn, q⟩ := h
    have hu64 : A.units + 3 + 64 < cLine := hr.units
    refine ⟨_, (pss_cons (ps_set (i := 1) scWR.nd rfl (.inl rfl) (pe_ix ix_str pe_str (pe_call GD (hr.mono (by first | decide | omega)) (by rfl) PD.is PD.kp PD.bi .nil pass0 (pa_cons (pv 0) (pa_cons pe_int pa_nil))) (fun _ _ => rfl)))
      (pss_cons (ps_set (i := 2) scWR.nd rfl (.inl rfl) (pe_call GD (hr.mono (by first | decide | omega)) (by rfl) PD.is PD.kp PD.bi .nil pass0 (pa_cons (pv 0) (pa_cons pe_int pa_nil))))
      (pss_cons (ps_set (i := 3) scWR.nd rfl (.inl rfl) (pe_op op_add_str (pe_op op_add_str (pe_slice sl_str pe_str po_none (po_some (pv 2))) (pv 1)) (pe_slice sl_str pe_str (po_some (pv 2)) po_none)))
      (pss_cons (ps_set (i := 4) scWR.nd rfl (.inl rfl) (pe_lst (pa_cons (pe_tup (pa_cons (pe_tup (pa_cons (pe_tup (pa_cons pe_str (pa_cons (pv 3) (pa_cons pe_int pa_nil)))) pa_nil)) (pa_cons (pe_tup pa_nil) pa_nil))) (pa_cons (pe_tup (pa_cons (pe_tup (pa_cons (pe_tup (pa_cons pe_str (pa_cons (pv 3) pa_nil))) pa_nil)) (pa_cons (pe_tup pa_nil) pa_nil))) (pa_cons (pe_tup (pa_cons (pe_tup (pa_cons (pe_tup (pa_cons pe_str (pa_cons (pv 3) pa_nil))) pa_nil)) (pa_cons (pe_tup (pa_cons (pe_tup (pa_cons (pv 3) (pa_cons (pe_tup pa_nil) pa_nil))) pa_nil)) pa_nil))) (pa_cons (pe_tup (pa_cons (pe_tup pa_nil) (pa_cons (pe_tup (pa_cons (pe_tup (pa_cons (pv 3) (pa_cons (pe_tup pa_nil) pa_nil))) pa_nil)) pa_nil))) pa_nil))))))
      (pss_one (ps_ret (pe_cmpR (op_eqD hu64) (pe_lc (own := [("one", 5)]) (g := gName 5) (tt := tYes) rfl scWR.nd (pi_list (pv 4)) (blkOk_by (N := ["pen", "sign", "at", "odd", "wrong", "one"]) (sc := defScope sWR) (own := [("one", 5)]) (by decide +kernel)) (fun _ _ _ _ _ => (pg_name (i := 5) scWR.nd rfl (.inl rfl))) (fun _ _ _ _ _ => pts_nil) (fun _ _ _ _ _ => (pe_call GE (hr.mono (by first | decide | omega)) (by rfl) PE_.is PE_.kp PE_.bi .nil pass0 (pa_cons (pv 5) pa_nil)))) (pe_op op_rep (pe_lst (pa_cons pe_str pa_nil)) pe_int) (nomark _)))))))), ?_⟩
    refine ⟨_, rfl, p, l, 18, rfl, pn, by decide, by decide +kernel, fun k H1 k0 k1 b1 p1 => ?_⟩
    have line : sizeLine = 16777216 := by decide
    obtain ⟨kn, rfl⟩ : ∃ kn : Nat, k = (kn : Int) := ⟨k.toNat, by omega⟩
    have sg : ∀ i c, ("_0123456789 -,()'A" : Str).cps.toList[i]? = some c → isLow c = false := fun i c h => by
      have a : ("_0123456789 -,()'A" : Str).cps.toList.all (fun c => !isLow c) = true := by decide +kernel
      have := List.all_eq_true.mp a c (List.mem_of_getElem? h)
      simpa using this
    have ln : ("_0123456789 -,()'A" : Str).cps.toList.length = 18 := by decide +kernel
    have hget : ("_0123456789 -,()'A" : Str).cps.toList[kn]? = some (("_0123456789 -,()'A" : Str).cps.toList[kn]'(by omega)) := List.getElem?_eq_getElem _
    have hlow := sg _ _ hget
    generalize ("_0123456789 -,()'A" : Str).cps.toList[kn]'(by omega) = c at hget hlow
    refine ⟨_, _, c, rfl, rfl, by decide +kernel, atI_nat hget, ?_⟩
    refine ⟨_, rfl, p, l, 5, rfl, p1, by decide, by decide +kernel, fun a H2 a0 a1 b2 p2 => ?_⟩
    obtain ⟨an, rfl⟩ : ∃ an : Nat, a = (an : Int) := ⟨a.toNat, by omega⟩
    have hcl : (cutS "abcd" none (some (an : Int))).length ≤ 4 ∧ (cutS "abcd" (some (an : Int)) none).length ≤ 4 := by
      match an, a1 with
      | 0, _ => decide +kernel
      | 1, _ => decide +kernel
      | 2, _ => decide +kernel
      | 3, _ => decide +kernel
      | 4, _ => decide +kernel
      | n + 5, h => exact absurd h (by omega)
    have l4 : ("abcd" : Str).length ≤ sizeLine := by decide +kernel
    have lapp : ∀ x y : Str, (x ++ y).length = x.length + y.length := fun x y => by
      show (x.cps ++ y.cps).size = _
      rw [Array.size_append]
      rfl
    have l1 : (⟨#[c]⟩ : Str).length = 1 := rfl
    refine ⟨_, rfl, _, rfl, "abcd", rfl, l4, _, rfl, _, _, rfl, rfl, by omega, _, rfl, _, rfl, "abcd", rfl, l4, _, _, rfl, rfl, by rw [lapp]; omega, ?_⟩
    have hw : wordD (.str (cutS "abcd" none (some (an : Int)) ++ ⟨#[c]⟩ ++ cutS "abcd" (some (an : Int)) none)) = false := notLow (c := c) rfl hlow
    have hz : (cutS "abcd" none (some (an : Int)) ++ ⟨#[c]⟩ ++ cutS "abcd" (some (an : Int)) none).length ≤ 1000 := by rw [lapp, lapp]; omega
    generalize cutS "abcd" none (some (an : Int)) ++ ⟨#[c]⟩ ++ cutS "abcd" (some (an : Int)) none = x at hw hz ⊢
    have b12 := b1.trans b2
    have occ : ∀ b, (fun b => b = p) b → H2 b ≠ none := fun b hb e => by
      have hb : b = p := hb
      subst hb
      obtain ⟨_, _, _, h, _⟩ := p2
      rw [h] at e
      cases e
    have vx : ∀ {σ : L2.St}, σ[3]? = some (some (V.str x)) → Ev (fun b => b = p) H2 σ (tVar 3) (.str x) := fun h => ev_var h (.str x)
    have en : ∀ {σ : L2.St}, Ev (fun b => b = p) H2 σ (tTup tNil) (.tuple []) := tupE occ eva_nil
    dsimp only [tSeq, tAsg, gName]
    refine lst_by (N := fun b => b = p) (ds := [.tuple [.tuple [.tuple [.str "set", .str x, .int 1]], .tuple []], .tuple [.tuple [.tuple [.str "end", .str x]], .tuple []], .tuple [.tuple [.tuple [.str "call", .str x]], .tuple [.tuple [.str x, .tuple []]]], .tuple [.tuple [], .tuple [.tuple [.str x, .tuple []]]]]) ?_ (of_decide_eq_true rfl) fun W vs H4 s34 nW eW dvs4 => ?_
    · exact (eva_cons (tupE occ (eva_cons (tupE occ (eva_cons (tupE occ (eva_cons ev_str (eva_cons (vx rfl) (eva_cons ev_int eva_nil)))) eva_nil)) (eva_cons en eva_nil)))
      (eva_cons (tupE occ (eva_cons (tupE occ (eva_cons (tupE occ (eva_cons ev_str (eva_cons (vx rfl) eva_nil))) eva_nil)) (eva_cons en eva_nil)))
      (eva_cons (tupE occ (eva_cons (tupE occ (eva_cons (tupE occ (eva_cons ev_str (eva_cons (vx rfl) eva_nil))) eva_nil)) (eva_cons (tupE occ (eva_cons (tupE occ (eva_cons (vx rfl) (eva_cons en eva_nil))) eva_nil)) eva_nil)))
      (eva_cons (tupE occ (eva_cons en (eva_cons (tupE occ (eva_cons (tupE occ (eva_cons (vx rfl) (eva_cons en eva_nil))) eva_nil)) eva_nil))) eva_nil))))
    have expx : ∀ n, exprD n (.str x) = false := fun n => by
      rw [expr_leaf rfl, hw]
      rfl
    have zx : strD (.str x) = true := decide_eq_true hz
    have f1 : formD (.tuple [.tuple [.tuple [.str "set", .str x, .int 1]], .tuple []]) = false := form_nob (by rw [block_one, stat_set, hw]; rfl)
    have f2 : formD (.tuple [.tuple [.tuple [.str "end", .str x]], .tuple []]) = false := form_nob (by rw [block_one, stat_end, expx])
    have f3 : formD (.tuple [.tuple [.tuple [.str "call", .str x]], .tuple [.tuple [.str x, .tuple []]]]) = false := form_nob (by rw [block_one, stat_call, hw])
    have f4 : formD (.tuple [.tuple [], .tuple [.tuple [.str x, .tuple []]]]) = false := by
      show (blockD 6 (.tuple []) && (decide (1 ≤ 6) && ((wordD (.str x) && _) && _))) = false
      rw [hw, Bool.false_and, Bool.false_and, Bool.and_false, Bool.and_false]
    dsimp only [tRet, tOp, List.map]
    refine ask_all (K := K) (N := fun b => b = p) (i := 4) (k := 5) (W := W) ?_ eW dvs4 (fun d hd => ?_) (of_decide_eq_true rfl) ?_ ?_ fun D H5 s5 nD eD => ?_
    · rfl
    rotate_left
    · exact fun _ => rfl
    · exact fun _ => rfl
    rotate_left
    · simp only [List.mem_cons, List.not_mem_nil, or_false] at hd
      rcases hd with rfl | rfl | rfl | rfl
      · refine .not ?_ f1
        show (((strD (.str "set") && (strD (.str x) && true)) && true) && true) = true
        rw [zx]
        decide +kernel
      · refine .not ?_ f2
        show (((strD (.str "end") && (strD (.str x) && true)) && true) && true) = true
        rw [zx]
        decide +kernel
      · refine .not ?_ f3
        show (((strD (.str "call") && (strD (.str x) && true)) && true) && (((strD (.str x) && true) && true) && true)) = true
        rw [zx]
        decide +kernel
      · refine .not ?_ f4
        show (((strD (.str x) && true) && true) && true) = true
        rw [zx]
        rfl
    · simp only [List.map_cons, List.map_nil, f1, f2, f3, f4] at eD
      refine ⟨by show 1 ≤ sizeLine; omega, fun L nL => ?_⟩
      have sL := Same.upd (o := .lst [V.str "form"]) nL
      have eL : upd H5 L (.lst [V.str "form"]) L = some (.lst [V.str "form"]) := upd_same
      have eD6 := sL _ _ eD
      generalize upd H5 L (.lst [V.str "form"]) = H6 at sL eL eD6 ⊢
      refine ⟨L, 4, _, rfl, rfl, eL, by decide, by decide, by show 1 * 4 ≤ sizeLine; omega, fun M nM => ?_⟩
      have sM := Same.upd (o := .lst [V.str "form", V.str "form", V.str "form", V.str "form"]) nM
      have eM : upd H6 M (.lst [V.str "form", V.str "form", V.str "form", V.str "form"]) M = some (.lst [V.str "form", V.str "form", V.str "form", V.str "form"]) := upd_same
      have eD7 := sM _ _ eD6
      show rEqD K (V.ref D) (V.ref M) (upd H6 M (.lst [V.str "form", V.str "form", V.str "form", V.str "form"])) Q
      generalize upd H6 M (.lst [V.str "form", V.str "form", V.str "form", V.str "form"]) = H7 at sM eM eD7 ⊢
      refine ⟨.list [.str "form", .str "form", .str "form", .str "form"], .list [.str "form", .str "form", .str "form", .str "form"], dp_list (bs := [false, false, false, false]) eD7, dp_list (bs := [false, false, false, false]) eM, by decide +kernel, by decide +kernel, ?_⟩
      rw [show PyData.eqv (.list [.str "form", .str "form", .str "form", .str "form"]) (.list [.str "form", .str "form", .str "form", .str "form"]) = true by decide +kernel]
      have sall := s34.trans (s5.trans (sL.trans sM))
      exact q H7 (b12.trans (But.of sall)) (p2.same sall)
end
end Z

set_option Elab.async false
set_option linter.all false
set_option maxRecDepth 100000
set_option maxHeartbeats 4000000
/-! t * k, k 0 or more -/
namespace TR
open PySem PySem.Spec PyProof.Rows L2
theorem mul_one_ (l : Addr) (items : Array Value) (n : Nat) (dd : Option Addr) (sl : Array (Option Value)) (x : Int) (u : Tok) (h1 : x = 1) :
    Meets (Builtin.«tuple.__mul__» ⟨[.ref l, .int x u], []⟩) (fun _ R s => s.heap.get? l = some { cls := .type "tuple", dict := dd, data := .seq items n, slots := sl } ∧ R (.ok (.ret (.ref l))) s) := by
  refine .of_wp fun prog w A R s h => ?_
  obtain ⟨hp, g, d, tk, os⟩ := s
  obtain ⟨hl, h⟩ := h
  subst h1
  have ix := AutoSeq1.idx_int
  have c0 : ¬ ((decide ((1 : Int) < -(2 ^ 63)) || decide ((1 : Int) ≥ 2 ^ 63)) = true) := by decide
  have c1 : (items.isEmpty || (1 : Int) == 1) = true := by simp
  wp_walk using wpAny_loadPart' hl
  repeat (first
    | (refine wpAny_ite_false (decide_eq_false c0) ?_; wp_walk using wpAny_loadPart' hl)
    | (refine wpAny_ite_true (decide_eq_true c1) ?_; wp_walk using wpAny_loadPart' hl))
  exact ⟨_, rfl, h⟩
theorem mul_none_ (l : Addr) (items : Array Value) (n : Nat) (dd : Option Addr) (sl : Array (Option Value)) (x : Int) (u : Tok) (h1 : x = 0) (ne : items.isEmpty = false) :
    Meets (Builtin.«tuple.__mul__» ⟨[.ref l, .int x u], []⟩) (fun _ R s => s.heap.get? l = some { cls := .type "tuple", dict := dd, data := .seq items n, slots := sl } ∧
      R (.ok (.ret (.ref s.heap.objs.size))) { s with heap := s.heap.push { cls := .type "tuple", data := .seq #[] }, toks := s.toks }) := by
  refine .of_wp fun prog w A R s h => ?_
  obtain ⟨hp, g, d, tk, os⟩ := s
  obtain ⟨hl, h⟩ := h
  subst h1
  have ix := AutoSeq1.idx_int
  have c0 : ¬ ((decide ((0 : Int) < -(2 ^ 63)) || decide ((0 : Int) ≥ 2 ^ 63)) = true) := by decide
  have c1 : ¬ ((items.isEmpty || (0 : Int) == 1) = true) := by rw [ne]; decide
  have c2 : (decide ((0 : Int) ≤ 0) || items.isEmpty) = true := by simp
  wp_walk using wpAny_loadPart' hl
  repeat (first
    | (refine wpAny_ite_false (decide_eq_false c0) ?_; wp_walk using wpAny_loadPart' hl)
    | (refine wpAny_ite_false (decide_eq_false c1) ?_; wp_walk using wpAny_loadPart' hl)
    | (refine wpAny_ite_true (decide_eq_true c2) ?_; wp_walk using wpAny_loadPart' hl))
  exact ⟨_, rfl, h⟩
section
variable {X : Cx}
def rRepA (K : PySem.W.Frag) : R2 := fun x y H Q => ∃ (l : Addr) (k : Int) (xs : List V), x = .ref l ∧ y = .int k ∧ SqT K H l xs ∧ xs ≠ [] ∧ 0 ≤ k ∧ k ≤ 1000 ∧ xs.length ≤ 1000 ∧ (k = 1 → Q (.ref l) H) ∧ (k ≠ 1 → ∀ p, H p = none → Q (.ref p) (upd H p (.tup (List.replicate k.toNat xs).flatten)))
theorem op_repA : OpR X (binaryOp .Mult) (rRepA X.K) := by
  intro pins s σ H x y v u Q I rx ry h
  obtain ⟨l, k, xs, rfl, rfl, hT, hne, h1, h2, hz, q1, q2⟩ := h
  by_cases two : 2 ≤ k
  · exact op_repT pins s σ H _ _ v u Q I rx ry ⟨l, k, xs, rfl, rfl, hT, hne, two, h2, hz, q2 (by omega)⟩
  · cases rx
    obtain ⟨t, rfl⟩ := ry
    obtain ⟨its, r, ⟨⟨cls, dd, data, sl⟩, ho, hc, n, hd⟩, hs⟩ := I.tuple hT
    simp only at hc hd
    subst hc hd
    by_cases one : k = 1
    · refine wpAny_binaryOp_repeat_ref (T := "tuple") (U := "int") (by decide) ⟨_, ho, rfl⟩ (fun s' => typeIs_int s' k t) noFill_tuple_mul F.fills_int_mul F.slot_int_rmul repeat_tuple F.slot_int_index.lookup ?_
      refine call_meets F.slot_int_rmul (typeIs_int s k t) F.entry_int_rmul (F.args_int_rmul_2 _ _) (int_rmul_tuple k t l its.toArray n dd sl) ⟨ho, rfl, ⟨_, ho, rfl⟩, ?_⟩
      exact call_meets F.slot_tuple_mul ⟨_, ho, rfl⟩ F.entry_tuple_mul (F.args_tuple_mul_2 _ _) (mul_one_ l its.toArray n dd sl k t one) ⟨ho, ⟨.ref l, H, I, rfl, q1 one⟩⟩
    · have ne : its.toArray.isEmpty = false := by
        have len := r.length
        cases its with
        | nil => exact absurd (List.eq_nil_of_length_eq_zero len) hne
        | cons a b => rfl
      have zero : k = 0 := by omega
      refine wpAny_binaryOp_repeat_ref (T := "tuple") (U := "int") (by decide) ⟨_, ho, rfl⟩ (fun s' => typeIs_int s' k t) noFill_tuple_mul F.fills_int_mul F.slot_int_rmul repeat_tuple F.slot_int_index.lookup ?_
      refine call_meets F.slot_int_rmul (typeIs_int s k t) F.entry_int_rmul (F.args_int_rmul_2 _ _) (int_rmul_tuple k t l its.toArray n dd sl) ⟨ho, rfl, ⟨_, ho, rfl⟩, ?_⟩
      refine call_meets F.slot_tuple_mul ⟨_, ho, rfl⟩ F.entry_tuple_mul (F.args_tuple_mul_2 _ _) (mul_none_ l its.toArray n dd sl k t zero ne) ⟨ho, ?_⟩
      have q := q2 one
      rw [zero] at q
      refine ⟨.ref s.heap.objs.size, _, I.laid (t' := s.toks) (o := .tup []) (fun b ob q => Heap.get?_push_of_some _ q) (Nat.le_refl _) ?_, rfl, q _ (I.hok.fresh (Nat.le_refl _))⟩
      exact ⟨Nat.zero_le _, _, .nil, IsTup.new _ _⟩
end
end TR

set_option Elab.async false
set_option linter.all false
set_option maxRecDepth 100000
set_option maxHeartbeats 400000
namespace Z
open PySem PySem.Spec PyProof.Rows L2 GG TPD EQD INX DSD
section
variable {K : PySem.W.Frag} {N : Addr → Prop} {p l : Addr}
theorem bnp {H H' : Hp} (b : But p H H') : BN (fun b => b = p) H H' := fun c o h hn => b c o h hn
theorem occp {H : Hp} (px : Pen H p l) : ∀ b, (fun b => b = p) b → H b ≠ none := fun b hb e => by
  have hb : b = p := hb
  subst hb
  obtain ⟨_, _, _, h, _⟩ := px
  rw [h] at e
  cases e
theorem ev_by {te : TE} {σ : L2.St} {H : Hp} {Q : VK} {d : PyData} (h : Ev N H σ te d) (q : ∀ v H', Same H H' → Ds N H' v d → Q v H') : te σ H Q := h H Q (Same.refl _) q
theorem ds_rep {H : Hp} {v : V} {d : PyData} (h : Ds N H v d) : ∀ m, DsAll N H (List.replicate m v) (List.replicate m d)
  | 0 => .nil
  | m + 1 => .cons h (ds_rep h m)
theorem flat_rep (v : V) : ∀ m : Nat, (List.replicate m [v]).flatten = List.replicate m v
  | 0 => rfl
  | m + 1 => by rw [List.replicate_succ, List.flatten_cons, flat_rep v m]; rfl
theorem rep_by {H : Hp} {Q : VK} {x : V} {d : PyData} {m : Nat} (dx : Ds N H x (.tuple [d])) (occ : ∀ b, N b → H b ≠ none) (hm : m ≤ 1000) (q : ∀ S H', Same H H' → Ds N H' S (.tuple (List.replicate m d)) → Q S H') : TR.rRepA K x (.int (m : Nat)) H Q := by
  cases dx with
  | @tup a xs _ h1 h2 h3 =>
    cases h3 with
    | @cons v _ _ _ g1 g2 =>
      cases g2
      refine ⟨a, (m : Nat), [v], rfl, rfl, SqT.of h1, by simp, by omega, by omega, (show 1 ≤ 1000 by decide), fun e => ?_, fun e t nt => ?_⟩
      · have : m = 1 := by omega
        subst this
        exact q _ H (Same.refl _) (.tup h1 h2 (.cons g1 .nil))
      · have st := Same.upd (o := .tup (List.replicate m v)) nt
        have e2 : (List.replicate ((m : Nat) : Int).toNat [v]).flatten = List.replicate m v := by
          rw [Int.toNat_natCast]
          exact flat_rep v m
        rw [e2]
        exact q _ _ st (.tup upd_same (fun hN => occ t hN nt) (ds_rep (Ds.bn (BN.of_ st) _ _ g1) m))
theorem cat_by {H : Hp} {Q : VK} {a b : Addr} {xs ys : List V} {ds es : List PyData} (ha : H a = some (.lst xs)) (hb : H b = some (.lst ys)) (dx : DsAll N H xs ds) (dy : DsAll N H ys es) (hl : ds.length + es.length ≤ 16777216) (q : ∀ W H', Same H H' → H W = none → H' W = some (.lst (xs ++ ys)) → DsAll N H' (xs ++ ys) (ds ++ es) → Q (.ref W) H') : rCat (.ref a) (.ref b) H Q := by
  refine ⟨a, b, xs, ys, rfl, rfl, ha, hb, by rw [dx.len, dy.len]; exact hl, fun W nW => ?_⟩
  have sW := Same.upd (o := .lst (xs ++ ys)) nW
  exact q W _ sW nW upd_same (Ds.bnAll (BN.of_ sW) _ _ (dx.app dy))
theorem lst_by2 {σ : L2.St} {H : Hp} {Q : VK} {ta : TA} {ds : List PyData} (h : EvA N H σ ta ds) (hl : ds.length ≤ 16777216) (q : ∀ W vs H', Same H H' → H W = none → H' W = some (.lst vs) → DsAll N H' vs ds → Q (.ref W) H') : tLst ta σ H Q := lst_by h hl q
theorem dsGet2 {H : Hp} : ∀ {vs : List V} {ds : List PyData}, DsAll N H vs ds → ∀ {j : Nat} {x : V}, vs[j]? = some x → ∃ d, ds[j]? = some d ∧ Ds N H x d := dsGet
/-- a loop over a written list of data -/
theorem forL {ta : TA} {g : TG} {tb : TS} {D : Ends} {σ : L2.St} {H : Hp} (ds : List PyData) (hp : Pen H p l) (hE : EvA (fun b => b = p) H σ ta ds) (hl : ds.length ≤ 16777216) (J : L2.St → Hp → Prop) (h0 : ∀ Hx, Same H Hx → J σ Hx)
    (body : ∀ σ Hx (x : V) (d : PyData), d ∈ ds → Ds (fun b => b = p) Hx x d → J σ Hx → ∀ N : L2.St → Hp → Prop, (∀ σ' H', J σ' H' → But p Hx H' → N σ' H') → g x σ Hx fun σ2 H2 => tb { D with nx := N, ct := N, bk := D.nx } σ2 H2)
    (done : ∀ σ Hx, J σ Hx → D.nx σ Hx) : tFor (iList K (tLst ta)) g tb D σ H := by
  dsimp only [tFor, iList]
  refine lst_by2 hE hl fun L vs H2 s2 nL eL dv => ?_
  have nLp := (hp.apart nL).1
  refine ⟨L, rfl, ⟨_, SqL.of eL⟩, ?_⟩
  refine for_it (walk_list (K := K) (a := L) (xs := vs)) (D := D) (fun j σ Hx => J σ Hx ∧ But p H2 Hx) ⟨h0 H2 s2, But.refl _ _⟩ (fun _ _ _ _ h => SqL.of (h.2 _ _ eL nLp)) ?_ ?_
  · rintro j x σ' H3 H4 hj ⟨hJ, b3⟩ ⟨rfl, hx⟩
    obtain ⟨d, hd, dx⟩ := dsGet2 dv hx
    exact body σ' _ x d (List.mem_of_getElem? hd) (Ds.bn (bnp b3) _ _ dx) hJ _ fun σ2 H5 hJ5 b5 => ⟨hJ5, b3.trans b5⟩
  · rintro σ' H3 ⟨hJ, _⟩
    exact done σ' H3 hJ
/-- a loop over three pairs of a number and what is due -/
theorem for3 {te : TE} {tb : TS} {D : Ends} {σ : L2.St} {H : Hp} {c n : Nat} {lo : Nat} (J : L2.St → Hp → Prop) (hp : Pen H p l) (hn : n = 2) (hlo : lo ≤ c)
    (ht : ∀ H1 (Q : VK), Same H H1 → (∀ (k : Nat) H2, lo ≤ k → k ≤ c → But p H1 H2 → Pen H2 p l → Q (.int (k : Nat)) H2) → te σ H1 Q) (h0 : ∀ Hx, But p H Hx → Pen Hx p l → J σ Hx) (hJ : ∀ σ Hx, J σ Hx → Pen Hx p l)
    (body : ∀ σ Hx (m : Nat) (b : Bool), J σ Hx → lo ≤ m → m ≤ c + 1 → b = decide (m ≤ c) → ∀ N : L2.St → Hp → Prop, (∀ σ' H', J σ' H' → But p Hx H' → N σ' H') → tb { D with nx := N, ct := N, bk := D.nx } ((σ.set 3 (some (.int (m : Nat)))).set 4 (some (dueV b))) Hx)
    (done : ∀ σ Hx, J σ Hx → D.nx σ Hx) :
    tFor (iList K (tLst (tCons (tTup (tCons (tC (.int (c : Nat))) (tCons (tC .non) tNil))) (tCons (tTup (tCons (tC (.int ((c + 1 : Nat) : Int))) (tCons (tC (.str "form")) tNil))) (tCons (tTup (tCons te (tCons (tC .non) tNil))) tNil))))) (gTup K n (gCons (gName 3) (gCons (gName 4) gNil))) tb D σ H := by
  subst hn
  refine ⟨by show 2 ≤ 16777216; omega, fun t1 n1 => ⟨by show 2 ≤ 16777216; omega, fun t2 n2 => ?_⟩⟩
  have s1 := Same.upd (o := .tup [V.int (c : Nat), V.non]) n1
  have e1 : upd H t1 (.tup [V.int (c : Nat), V.non]) t1 = some (.tup [V.int (c : Nat), V.non]) := upd_same
  generalize upd H t1 (.tup [V.int (c : Nat), V.non]) = H1 at n2 s1 e1 ⊢
  have s2 := Same.upd (o := .tup [V.int ((c + 1 : Nat) : Int), V.str "form"]) n2
  have e2 : upd H1 t2 (.tup [V.int ((c + 1 : Nat) : Int), V.str "form"]) t2 = some (.tup [V.int ((c + 1 : Nat) : Int), V.str "form"]) := upd_same
  generalize upd H1 t2 (.tup [V.int ((c + 1 : Nat) : Int), V.str "form"]) = H2 at s2 e2 ⊢
  have s12 := s1.trans s2
  have p2 := hp.same s12
  refine ht H2 _ s12 fun k H3 k0 k1 b3 p3 => ⟨by show 2 ≤ 16777216; omega, fun t3 n3 => ⟨by show 3 ≤ 16777216; omega, fun L nL => ?_⟩⟩
  have np1 : t1 ≠ p := (hp.apart n1).1
  have np2 : t2 ≠ p := ((hp.same s1).apart n2).1
  have f1 := b3 _ _ (s2 _ _ e1) np1
  have f2 := b3 _ _ e2 np2
  have np3 : t3 ≠ p := (p3.apart n3).1
  have s3 := Same.upd (o := .tup [V.int (k : Nat), V.non]) n3
  have e3 : upd H3 t3 (.tup [V.int (k : Nat), V.non]) t3 = some (.tup [V.int (k : Nat), V.non]) := upd_same
  generalize upd H3 t3 (.tup [V.int (k : Nat), V.non]) = H4 at nL s3 e3 ⊢
  have p4 := p3.same s3
  have npL : L ≠ p := (p4.apart nL).1
  have sL := Same.upd (o := .lst [V.ref t1, V.ref t2, V.ref t3]) nL
  have eL : upd H4 L (.lst [V.ref t1, V.ref t2, V.ref t3]) L = some (.lst [V.ref t1, V.ref t2, V.ref t3]) := upd_same
  generalize upd H4 L (.lst [V.ref t1, V.ref t2, V.ref t3]) = H5 at sL eL ⊢
  have s35 := s3.trans sL
  have g1 := s35 _ _ f1
  have g2 := s35 _ _ f2
  have g3 := sL _ _ e3
  have p5 := p4.same sL
  have b5 : But p H H5 := (But.of s12).trans (b3.trans (But.of s35))
  refine ⟨L, rfl, ⟨_, SqL.of eL⟩, ?_⟩
  refine for_it (walk_list (K := K) (a := L) (xs := [V.ref t1, V.ref t2, V.ref t3])) (D := D) (fun j σ Hx => J σ Hx ∧ But p H5 Hx) ⟨h0 H5 b5 p5, But.refl _ _⟩ (fun _ _ _ _ h => SqL.of (h.2 _ _ eL npL)) ?_ ?_
  · rintro j x σ' H6 H7 hj ⟨hJ6, b6⟩ ⟨rfl, hx⟩
    obtain ⟨t, m, b, rfl, et, nt, hb, h1, h2⟩ : ∃ (t : Addr) (m : Nat) (b : Bool), x = .ref t ∧ H5 t = some (.tup [V.int (m : Nat), dueV b]) ∧ t ≠ p ∧ b = decide (m ≤ c) ∧ lo ≤ m ∧ m ≤ c + 1 := by
      match j, hx with
      | 0, h => cases h; exact ⟨t1, c, true, rfl, g1, np1, (decide_eq_true (Nat.le_refl _)).symm, hlo, by omega⟩
      | 1, h => cases h; exact ⟨t2, c + 1, false, rfl, g2, np2, (decide_eq_false (by omega)).symm, by omega, by omega⟩
      | 2, h => cases h; exact ⟨t3, k, true, rfl, g3, np3, (decide_eq_true k1).symm, k0, by omega⟩
      | j + 3, h => cases h
    refine ⟨t, _, rfl, SqT.of (b6 _ _ et nt), rfl, _, _, rfl, _, _, rfl, rfl, ?_⟩
    exact body σ' _ m b hJ6 h1 h2 hb _ fun σ2 H8 hJ8 b8 => ⟨hJ8, b6.trans b8⟩
  · rintro σ' H6 ⟨hJ6, _⟩
    exact done σ' H6 hJ6
theorem ev_rep {te : TE} {σ : L2.St} {H0 : Hp} {d : PyData} {m : Nat} (occ : ∀ b, N b → H0 b ≠ none) (hm : m ≤ 1000) (h : Ev N H0 σ te (.tuple [d])) : Ev N H0 σ (tOp (TR.rRepA K) te (tC (.int (m : Nat)))) (.tuple (List.replicate m d)) := fun H Q s q =>
  h H _ s fun v H1 s1 dv => rep_by dv (fun b hb e => occ b hb ((s.trans s1).free e)) hm fun S H2 s2 dS => q S H2 (s1.trans s2) dS
theorem if_ne {te tb : TE} {u : TS} {D : Ends} {σ : L2.St} {H : Hp} {d : PyData} {b : Bool} (hE : Ev N H σ te d) (hk : Known d) (hf : formD d = b) (hv : ∀ H' (Q : VK), Q (dueV b) H' → tb σ H' Q) (next : ∀ H', Same H H' → D.nx σ H') : tIfS (tTest (tOp rNe (tCall (spPE K) [] E0 (tCons te tNil)) tb)) u tNext D σ H := by
  refine ask (N := N) hE hk fun H1 s1 => ?_
  rw [hf]
  refine hv H1 _ ⟨by cases b <;> rfl, _, rfl, ?_⟩
  rw [decide_eq_true rfl]
  exact iteF (next H1 s1)
end
end Z

set_option Elab.async false
set_option linter.all false
set_option maxRecDepth 100000
set_option maxHeartbeats 1000000
namespace Z
open PySem PySem.Spec PyProof.Rows L2 GG TPD EQD INX
/-! the module's tables, as they are written -/
def strOf : Value → Option Str
  | .str x _ => some x
  | _ => none
def kvOf (l : List DictEntry) : List (Option Str × Option Str) := l.map fun e => (strOf e.key, strOf e.val)
theorem strOf_of {v : Value} {x : Str} (h : strOf v = some x) : ∃ t, v = .str x t := by
  cases v with
  | str y t =>
    have : y = x := Option.some.inj h
    subst this
    exact ⟨t, rfl⟩
  | _ => cases h
theorem find_kv (z : Str) : ∀ (l : List DictEntry) (sh : List (Str × Str)), kvOf l = sh.map (fun p => (some p.1, some p.2)) →
    (match sh.find? (fun p => p.1 == z) with
      | none => l.find? (·.key.isStr z) = none
      | some p => ∃ e, l.find? (·.key.isStr z) = some e ∧ ∃ t, e.val = .str p.2 t) ∧ l.any (·.refKey) = false
  | [], [], _ => ⟨rfl, rfl⟩
  | [], p :: sh, h => by cases h
  | e :: l, [], h => by cases h
  | e :: l, p :: sh, h => by
    have h : (strOf e.key, strOf e.val) :: kvOf l = (some p.1, some p.2) :: sh.map (fun p => (some p.1, some p.2)) := h
    obtain ⟨h1, h2⟩ := List.cons.inj h
    obtain ⟨t1, ek⟩ := strOf_of (Prod.mk.inj h1).1
    obtain ⟨t2, ev⟩ := strOf_of (Prod.mk.inj h1).2
    obtain ⟨ih, ia⟩ := find_kv z l sh h2
    have e1 : e.key.isStr z = (p.1 == z) := by rw [ek]; rfl
    have e2 : e.refKey = false := by unfold DictEntry.refKey; rw [ek]
    refine ⟨?_, by rw [List.any_cons, e2, ia]; rfl⟩
    rw [List.find?_cons, List.find?_cons, e1]
    cases hp : (p.1 == z) with
    | true => exact ⟨e, rfl, t2, ev⟩
    | false => exact ih
theorem shp_of {K : PySem.W.Frag} {w : World} {a : Addr} {es : Array DictEntry} {n : Nat} (h1 : K.lookup a = some ⟨.type "dict", none, .dict es n, #[]⟩) (h2 : PySem.W.KeysLit w.params es.toList) (h3 : (a == sysModules) = false) (h4 : kvOf es.toList = shapes.map (fun p => (some p.1, some p.2))) : Shp K w a es n := by
  refine ⟨⟨h1, h2, h3⟩, fun z => ?_⟩
  obtain ⟨f, g⟩ := find_kv z es.toList shapes h4
  unfold shape
  unfold PySem.W.nsIn
  rw [h1]
  dsimp only
  cases hs : shapes.find? (fun p => p.1 == z) with
  | none =>
    rw [hs] at f
    have f : es.toList.find? (·.key.isStr z) = none := f
    rw [f, g]
    rfl
  | some p =>
    rw [hs] at f
    obtain ⟨e, fe, t, ev⟩ := f
    rw [fe]
    exact ⟨t, by show some (some e.val) = _; rw [ev]⟩
theorem ops_of {K : PySem.W.Frag} {a : Addr} {t0 t1 t2 t3 : Tok} {n : Nat} (h : K.lookup a = some ⟨.type "tuple", none, .seq #[.str "plus" t0, .str "less" t1, .str "alike" t2, .str "least" t3] n, #[]⟩) : Ops K a ["plus", "less", "alike", "least"] :=
  ⟨fun H => .inr ⟨_, _, _, h, rfl, rfl, by show 4 ≤ sizeLine; decide, .cons ⟨_, rfl⟩ (.cons ⟨_, rfl⟩ (.cons ⟨_, rfl⟩ (.cons ⟨_, rfl⟩ .nil)))⟩⟩
end Z

set_option Elab.async false
set_option linter.all false
namespace KY
open PySem PySem.Spec PyProof.Rows L2 GG
theorem op_neDK {X : Cx} {K : PySem.W.Frag} (hK : X.K = K) (hu : X.A.units + 64 < cLine) : OpR X (compareOp .NotEq) (rNeD K) := by
  subst hK
  exact op_neD hu
theorem op_eqDK {X : Cx} {K : PySem.W.Frag} (hK : X.K = K) (hu : X.A.units + 64 < cLine) : OpR X (compareOp .Eq) (rEqD K) := by
  subst hK
  exact op_eqD hu
end KY

set_option Elab.async false
set_option linter.all false
set_option maxRecDepth 100000
set_option maxHeartbeats 1000000
namespace Z
open PySem PySem.Spec PyProof.Rows L2 GG TPD EQD INX DSD
abbrev sLaw : Stmt := top 31
/-! the law: pure -/
theorem for_abs {wi : TI} {g : TG} {tb : TS} {D : Ends} {σ : L2.St} {H : Hp} (W : L2.St → Hp → Prop) (tail : ∀ σ H, W σ H → D.nx σ H) (go : ∀ D' : Ends, (∀ σ H, W σ H → D'.nx σ H) → tFor wi g tb D' σ H) : tFor wi g tb D σ H := go D tail
theorem if_abs {c : TT} {a b : TS} {D : Ends} {σ : L2.St} {H : Hp} (W : L2.St → Hp → Prop) (tail : ∀ σ H, W σ H → D.nx σ H) (go : ∀ D' : Ends, (∀ σ H, W σ H → D'.nx σ H) → tIfS c a b D' σ H) : tIfS c a b D σ H := go D tail
def W0 (sv : V) (p l : Addr) : L2.St → Hp → Prop := fun σ H => ∃ a2 a3 a4 a5 a6 a7 a8 a9 a10 a11 a12 a13 a14 : Option V, σ = [some sv, some (V.ref p), a2, a3, a4, a5, a6, a7, a8, a9, a10, a11, a12, a13, a14] ∧ Pen H p l
/-- a statement that stands alone -/
structure Deed (d : PyData) : Prop where
  s : ∀ n, statD (blockD (n + 1)) d = true
  t : St d 1
  z : strD d = true
theorem deeds : ∀ d ∈ ([.tuple [.str "set", .str "x", .int 1], .tuple [.str "toss", .tuple [], .tuple []], .tuple [.str "end", .int 3], .tuple [.str "loop", .tuple []]] : List PyData), Deed d := by
  intro d hd
  simp only [List.mem_cons, List.not_mem_nil, or_false] at hd
  rcases hd with rfl | rfl | rfl | rfl
  · exact ⟨fun n => by rw [stat_set, word_x, expr_int 6 (by decide) (by decide)]; rfl, st_set, by decide +kernel⟩
  · exact ⟨fun n => by rw [stat_toss, block_nil, decide_eq_true (by omega)]; rfl, st_toss cl_nil cl_nil, by decide +kernel⟩
  · exact ⟨fun n => by rw [stat_end, expr_int 6 (by decide) (by decide)], st_end, by decide +kernel⟩
  · exact ⟨fun n => by rw [stat_loop, block_nil, decide_eq_true (by omega)], st_loop cl_nil, by decide +kernel⟩
theorem rep_block {dd : PyData} (h : Deed dd) (m n : Nat) : blockD (n + 2) (.tuple (List.replicate m dd)) = decide (m ≤ 20) := by
  show (decide ((List.replicate m dd).length ≤ 20) && (List.replicate m dd).all (statD (blockD (n + 1)))) = _
  rw [List.length_replicate, List.all_replicate, h.s n]
  simp
theorem rep_cl {dd : PyData} (h : Deed dd) {m : Nat} (hm : m ≤ 21) : Cl (.tuple (List.replicate m dd)) 21 := (Cl.tup (l := List.replicate m dd) (k := 1) fun s hs => by
  rw [(List.mem_replicate.mp hs).2]
  exact h.t).mono (by rw [List.length_replicate]; omega)
theorem rep_z {dd : PyData} (h : Deed dd) (m : Nat) : strD (.tuple (List.replicate m dd)) = true := by
  show strA _ = true
  rw [strA_all, List.all_eq_true]
  intro s hs
  rw [(List.mem_replicate.mp hs).2]
  exact h.z
theorem no_defs {b : PyData} : formD (.tuple [b, .tuple []]) = blockD 6 b := by
  show (blockD 6 b && (decide (0 ≤ 6) && true)) = _
  rw [decide_eq_true (by decide), Bool.true_and, Bool.and_true]
theorem one_def {b : PyData} : formD (.tuple [.tuple [], .tuple [.tuple [.str "d", b]]]) = blockD 6 b := by
  have e : formD (.tuple [.tuple [], .tuple [.tuple [.str "d", b]]]) = (blockD 6 (.tuple []) && (decide (1 ≤ 6) && ((wordD (.str "d") && blockD 6 b) && true))) := rfl
  rw [e, block_nil, show wordD (.str "d") = true by decide +kernel]
  simp
/-- one block, at the top or in a def -/
theorem known_top {b : PyData} {k : Nat} (hk : k ≤ 100000) (z : strD b = true) (c : Cl b k) : Known (.tuple [b, .tuple []]) := ⟨by
  show (strD b && (true && true)) = true
  rw [z]
  rfl, fun _ => clean hk c (Nat.zero_le _) (fun p hp => by cases hp)⟩
theorem known_def {b : PyData} {k : Nat} (hk : k ≤ 100000) (z : strD b = true) (c : Cl b k) : Known (.tuple [.tuple [], .tuple [.tuple [.str "d", b]]]) := ⟨by
  show (true && (((strD (.str "d") && (strD b && true)) && true) && true)) = true
  rw [z]
  decide +kernel, fun _ => clean hk (cl_nil.mono (Nat.zero_le _)) (show 1 ≤ 6 by decide) (fun p hp => by
    cases List.mem_singleton.mp hp
    exact c)⟩
theorem five {dd : PyData} (h : Deed dd) {m : Nat} (hm : m ≤ 21) : (∀ d ∈ ([.tuple [.tuple (List.replicate m dd), .tuple []], .tuple [.tuple [.tuple [.str "toss", .tuple (List.replicate m dd), .tuple []]], .tuple []], .tuple [.tuple [.tuple [.str "loop", .tuple (List.replicate m dd)]], .tuple []]] : List PyData) ++ [.tuple [.tuple [], .tuple [.tuple [.str "d", .tuple (List.replicate m dd)]]], .tuple [.tuple [.tuple [.str "if", .int 1, .tuple [], .tuple (List.replicate m dd)]], .tuple []]], Known d) ∧
    formD (.tuple [.tuple (List.replicate m dd), .tuple []]) = decide (m ≤ 20) ∧ formD (.tuple [.tuple [.tuple [.str "toss", .tuple (List.replicate m dd), .tuple []]], .tuple []]) = decide (m ≤ 20) ∧ formD (.tuple [.tuple [.tuple [.str "loop", .tuple (List.replicate m dd)]], .tuple []]) = decide (m ≤ 20) ∧
    formD (.tuple [.tuple [], .tuple [.tuple [.str "d", .tuple (List.replicate m dd)]]]) = decide (m ≤ 20) ∧ formD (.tuple [.tuple [.tuple [.str "if", .int 1, .tuple [], .tuple (List.replicate m dd)]], .tuple []]) = decide (m ≤ 20) := by
  have c := rep_cl h hm
  have z := rep_z h m
  refine ⟨fun d hd => ?_, ?_, ?_, ?_, ?_, ?_⟩
  · simp only [List.cons_append, List.nil_append, List.mem_cons, List.not_mem_nil, or_false] at hd
    rcases hd with rfl | rfl | rfl | rfl | rfl
    · exact known_top (k := 21) (by decide) z c
    · refine known_top (k := 43) (by decide) ?_ (cl_one (st_toss (k := 21) c (cl_nil.mono (Nat.zero_le _))))
      show ((strD (.str "toss") && (strD (.tuple (List.replicate m dd)) && (true && true))) && true) = true
      rw [z]
      decide +kernel
    · refine known_top (k := 22) (by decide) ?_ (cl_one (st_loop (k := 21) c))
      show ((strD (.str "loop") && (strD (.tuple (List.replicate m dd)) && true)) && true) = true
      rw [z]
      decide +kernel
    · exact known_def (k := 21) (by decide) z c
    · refine known_top (k := 43) (by decide) ?_ (cl_one (st_if (k := 21) (cl_nil.mono (Nat.zero_le _)) c))
      show ((strD (.str "if") && (true && (true && (strD (.tuple (List.replicate m dd)) && true)))) && true) = true
      rw [z]
      decide +kernel
  · rw [no_defs, rep_block h m 4]
  · rw [no_defs, block_one, stat_toss, rep_block h m 3, block_nil, decide_eq_true (by decide : 1 ≤ 5), Bool.and_true]
  · rw [no_defs, block_one, stat_loop, rep_block h m 3]
  · rw [one_def, rep_block h m 4]
  · rw [no_defs, block_one, stat_if, rep_block h m 3, block_nil, decide_eq_true (by decide : 1 ≤ 5), Bool.true_and, expr_int 6 (by decide) (by decide), Bool.true_and]
theorem scal_due (b : Bool) : scal (dueV b) (dueV b) = true := by cases b <;> rfl
theorem oneE {m : Nat} {e : PyData} (h : DeepE m e) : ∀ d ∈ ([.tuple [.str "set", .str "x", e], .tuple [.str "end", e], .tuple [.str "if", e, .tuple [], .tuple []]] : List PyData), Known (.tuple [.tuple [d], .tuple []]) ∧ formD (.tuple [.tuple [d], .tuple []]) = decide (m ≤ 6) := by
  have z := h.strs
  intro d hd
  simp only [List.mem_cons, List.not_mem_nil, or_false] at hd
  rcases hd with rfl | rfl | rfl
  · refine ⟨known_top (k := 1) (by decide) ?_ (cl_one st_set), by rw [no_defs, block_one, stat_set, word_x, h.val, Bool.true_and]⟩
    show ((strD (.str "set") && (strD (.str "x") && (strD e && true))) && true) = true
    rw [z]
    decide +kernel
  · refine ⟨known_top (k := 1) (by decide) ?_ (cl_one st_end), by rw [no_defs, block_one, stat_end, h.val]⟩
    show ((strD (.str "end") && (strD e && true)) && true) = true
    rw [z]
    decide +kernel
  · refine ⟨known_top (k := 1) (by decide) ?_ (cl_one (st_if (k := 0) cl_nil cl_nil)), by rw [no_defs, block_one, stat_if, block_nil, h.val, decide_eq_true (by decide : 1 ≤ 5), Bool.and_true, Bool.and_true]⟩
    show ((strD (.str "if") && (strD e && (true && (true && true)))) && true) = true
    rw [z]
    decide +kernel
/-! defs with letters as words -/
def letter (k : Nat) : Str := ⟨#[97 + k]⟩
def letD (m : Nat) : List PyData := (List.range m).map fun k => .tuple [.str (letter k), .tuple []]
def LetAt (p : Addr) (H : Hp) (vs : List V) (m : Nat) : Prop := vs.length = m ∧ ∀ (i : Nat) x, vs[i]? = some x → ∃ t u : Addr, x = .ref t ∧ H t = some (.tup [.str (letter i), .ref u]) ∧ H u = some (.tup []) ∧ t ≠ p ∧ u ≠ p
theorem LetAt.nil {p : Addr} {H : Hp} : LetAt p H [] 0 := ⟨rfl, fun i x h => by simp at h⟩
theorem LetAt.put {p : Addr} {H H' : Hp} {vs : List V} {m : Nat} (h : LetAt p H vs m) (s : TS_ H H') : LetAt p H' vs m := ⟨h.1, fun i x hx => by
  obtain ⟨t, u, e, h1, h2, h3⟩ := h.2 i x hx
  exact ⟨t, u, e, s _ _ h1, s _ _ h2, h3⟩⟩
theorem LetAt.same {p : Addr} {H H' : Hp} {vs : List V} {m : Nat} (h : LetAt p H vs m) (s : Same H H') : LetAt p H' vs m := h.put (TS_.same s)
theorem LetAt.snoc {p : Addr} {H : Hp} {vs : List V} {m : Nat} {x : V} (h : LetAt p H vs m) (g : ∃ t u : Addr, x = .ref t ∧ H t = some (.tup [.str (letter m), .ref u]) ∧ H u = some (.tup []) ∧ t ≠ p ∧ u ≠ p) : LetAt p H (vs ++ [x]) (m + 1) := ⟨by rw [List.length_append, h.1]; rfl, fun i y hy => by
  rcases Nat.lt_or_ge i vs.length with lt | ge
  · rw [List.getElem?_append_left lt] at hy
    exact h.2 i y hy
  · rw [List.getElem?_append_right ge] at hy
    have hi : i - vs.length = 0 := by
      by_cases z : i - vs.length = 0
      · exact z
      · rw [List.getElem?_eq_none (by simp; omega)] at hy
        cases hy
    rw [hi] at hy
    cases hy
    have : i = m := by rw [← h.1]; omega
    rw [this]
    exact g⟩
theorem LetAt.ds {p : Addr} {H : Hp} {vs : List V} {m : Nat} (h : LetAt p H vs m) : DsAll (fun b => b = p) H vs (letD m) := by
  obtain ⟨hl, h⟩ := h
  induction m generalizing vs with
  | zero =>
    rw [List.length_eq_zero_iff.mp hl]
    exact .nil
  | succ m ih =>
    obtain ⟨ws, x, rfl⟩ : ∃ ws x, vs = ws ++ [x] := by
      rcases List.eq_nil_or_concat vs with e | ⟨r, b, e⟩
      · subst e; cases hl
      · exact ⟨r, b, by rw [e, List.concat_eq_append]⟩
    have hw : ws.length = m := by
      rw [List.length_append] at hl
      exact Nat.succ.inj hl
    have e : letD (m + 1) = letD m ++ [.tuple [.str (letter m), .tuple []]] := by
      unfold letD
      rw [List.range_succ, List.map_append]
      rfl
    rw [e]
    refine (ih hw fun i y hy => h i y (by rw [List.getElem?_append_left (List.getElem?_eq_some_iff.mp hy).1]; exact hy)).app ?_
    obtain ⟨t, u, rfl, h1, h2, h3, h4⟩ := h m x (by rw [List.getElem?_append_right (by omega), hw, Nat.sub_self]; rfl)
    exact .cons (.tup h1 h3 (.cons (.str _) (.cons (.tup h2 h4 .nil) .nil))) .nil
theorem let_form : ∀ m, m ≤ 7 → Known (.tuple [.tuple [], .tuple (letD m)]) ∧ formD (.tuple [.tuple [], .tuple (letD m)]) = decide (m ≤ 6)
  | m, h => by
    have f : formD (.tuple [.tuple [], .tuple (letD m)]) = decide (m ≤ 6) := by
      match m, h with
      | 0, _ => decide +kernel
      | 1, _ => decide +kernel
      | 2, _ => decide +kernel
      | 3, _ => decide +kernel
      | 4, _ => decide +kernel
      | 5, _ => decide +kernel
      | 6, _ => decide +kernel
      | 7, _ => decide +kernel
      | n + 8, h => exact absurd h (by omega)
    have z : strD (.tuple [.tuple [], .tuple (letD m)]) = true := by
      match m, h with
      | 0, _ => decide +kernel
      | 1, _ => decide +kernel
      | 2, _ => decide +kernel
      | 3, _ => decide +kernel
      | 4, _ => decide +kernel
      | 5, _ => decide +kernel
      | 6, _ => decide +kernel
      | 7, _ => decide +kernel
      | n + 8, h => exact absurd h (by omega)
    refine ⟨⟨z, fun e => ?_⟩, f⟩
    rw [f] at e
    have e := of_decide_eq_true e
    refine clean (k := 0) (Nat.zero_le _) cl_nil (by unfold letD; rw [List.length_map, List.length_range]; exact e) fun q hq => ?_
    unfold letD at hq
    obtain ⟨k, _, rfl⟩ := List.mem_map.mp hq
    exact cl_nil
/-! words of small letters -/
def Lows (ys : List Str) : Prop := ∀ y ∈ ys, ∃ c, y = ⟨#[c]⟩ ∧ isLow c = true
theorem low_sum : ∀ {ys : List Str}, Lows ys → (ys.map fun x => x.length).sum = ys.length
  | [], _ => rfl
  | y :: ys, h => by
    obtain ⟨c, rfl, _⟩ := h y (List.mem_cons_self ..)
    rw [List.map_cons, List.sum_cons, low_sum (fun z hz => h z (List.mem_cons_of_mem _ hz)), List.length_cons]
    show 1 + _ = _
    omega
theorem low_joinL : ∀ {ys : List Str}, Lows ys → (TL.joinL [] (ys.map TL.tl)).length = ys.length ∧ (TL.joinL [] (ys.map TL.tl)).all isLow = true
  | [], _ => ⟨rfl, rfl⟩
  | [y], h => by
    obtain ⟨c, rfl, hc⟩ := h y (List.mem_cons_self ..)
    exact ⟨rfl, by show (isLow c && true) = true; rw [hc]; rfl⟩
  | y :: z :: r, h => by
    obtain ⟨c, rfl, hc⟩ := h y (List.mem_cons_self ..)
    obtain ⟨h1, h2⟩ := low_joinL (ys := z :: r) (fun x hx => h x (List.mem_cons_of_mem _ hx))
    have e : TL.joinL [] (((⟨#[c]⟩ : Str) :: z :: r).map TL.tl) = c :: TL.joinL [] ((z :: r).map TL.tl) := rfl
    rw [e]
    exact ⟨by rw [List.length_cons, h1]; rfl, by rw [List.all_cons, hc, h2]; rfl⟩
theorem low_join {ys : List Str} (h : Lows ys) : (Txt.join "" ys).cps.toList.length = ys.length ∧ (Txt.join "" ys).cps.toList.all isLow = true := by
  have e : (Txt.join "" ys).cps.toList = TL.joinL [] (ys.map TL.tl) := by
    rw [TL.join_eq]
    have := TL.tl_join "" ys
    rw [show TL.tl "" = [] by decide +kernel] at this
    exact this
  rw [e]
  exact low_joinL h
theorem cut_list {L : Str} {m : Nat} (hL : L.length = 7) (h : m ≤ 7) : (cutS L none (some (m : Int))).cps.toList = L.cps.toList.take m := by
  unfold cutS
  rw [HT.sIx_none, HT.sIx_nat, List.drop_zero, Nat.sub_zero, List.toList_toArray, Nat.min_eq_left (by omega)]
theorem cut_len {L : Str} {m : Nat} (hL : L.length = 7) (h : m ≤ 7) : (cutS L none (some (m : Int))).length = m := by
  show (cutS L none (some (m : Int))).cps.size = m
  rw [← Array.length_toList, cut_list hL h, List.length_take, Array.length_toList]
  have : L.cps.size = 7 := hL
  omega
theorem word_cut {L : Str} {m : Nat} (la : L.cps.toList.all isLow = true) (hL : L.length = 7) (h : m ≤ 7) : wordD (.str (cutS L none (some (m : Int)))) = (decide (1 ≤ m) && decide (m ≤ 6)) := by
  show ((decide (1 ≤ (cutS L none (some (m : Int))).length) && decide ((cutS L none (some (m : Int))).length ≤ 6)) && (cutS L none (some (m : Int))).cps.toList.all isLow) = _
  rw [cut_len hL h, cut_list hL h]
  have : (L.cps.toList.take m).all isLow = true := by
    rw [List.all_eq_true] at la ⊢
    exact fun c hc => la c (List.mem_of_mem_take hc)
  rw [this, Bool.and_true]
theorem three {x : Str} (hz : x.length ≤ 1000) : (∀ d ∈ ([.tuple [.tuple [.tuple [.str "set", .str x, .int 1]], .tuple []], .tuple [.tuple [.tuple [.str "end", .str x]], .tuple []], .tuple [.tuple [], .tuple [.tuple [.str x, .tuple []]]]] : List PyData), Known d) ∧ (∀ d ∈ ([.tuple [.tuple [.tuple [.str "set", .str x, .int 1]], .tuple []], .tuple [.tuple [.tuple [.str "end", .str x]], .tuple []], .tuple [.tuple [], .tuple [.tuple [.str x, .tuple []]]]] : List PyData), formD d = wordD (.str x)) := by
  have zx : strD (.str x) = true := decide_eq_true hz
  refine ⟨fun d hd => ?_, fun d hd => ?_⟩
  · simp only [List.mem_cons, List.not_mem_nil, or_false] at hd
    rcases hd with rfl | rfl | rfl
    · refine known_top (k := 1) (by decide) ?_ (cl_one st_set)
      show ((strD (.str "set") && (strD (.str x) && true)) && true) = true
      rw [zx]
      decide +kernel
    · refine known_top (k := 1) (by decide) ?_ (cl_one st_end)
      show ((strD (.str "end") && (strD (.str x) && true)) && true) = true
      rw [zx]
      decide +kernel
    · refine ⟨?_, fun _ => clean (k := 0) (Nat.zero_le _) cl_nil (show 1 ≤ 6 by decide) (fun q hq => by
        cases List.mem_singleton.mp hq
        exact cl_nil)⟩
      show (((strD (.str x) && true) && true) && true) = true
      rw [zx]
      rfl
  · simp only [List.mem_cons, List.not_mem_nil, or_false] at hd
    rcases hd with rfl | rfl | rfl
    · rw [no_defs, block_one, stat_set, expr_int 6 (by decide) (by decide), Bool.and_true]
    · rw [no_defs, block_one, stat_end, expr_leaf rfl]
      show (wordD (.str x) || false) = _
      rw [Bool.or_false]
    · have e : formD (.tuple [.tuple [], .tuple [.tuple [.str x, .tuple []]]]) = (blockD 6 (.tuple []) && (decide (1 ≤ 6) && ((wordD (.str x) && blockD 6 (.tuple [])) && true))) := rfl
      rw [e, block_nil]
      simp
theorem Pen.putL {H : Hp} {p l D : Addr} {ys : List V} (h : Pen H p l) (n : D ≠ p) (m : D ≠ l) : Pen (upd H D (.lst ys)) p l := by
  obtain ⟨cs, q, v, h1, h2, h3⟩ := h
  exact ⟨cs, q, v, by rw [upd_ne n.symm]; exact h1, by rw [upd_ne m.symm]; exact h2, h3⟩
section
variable {P : Program} {w : World} {K : PySem.W.Frag} {mg : Str → Option Value} {base : Heap}
theorem scLaw : FnScope ["script", "pen", "deed", "many", "due", "some", "blocks", "last", "found", "e", "one", "defs", "letters", "word", "k"] ["script"] (defScope sLaw) := ⟨rfl, rfl, rfl, by decide +kernel, rfl, by decide +kernel, by decide +kernel⟩
def spLaw (K : PySem.W.Frag) : Sp := fun vs H Q _ => ∃ (a : Addr) (ns : List Int), vs = [.ref a] ∧ SqL K H a (ns.map V.int) ∧ ns.length ≤ 63 ∧ ∀ H', Q (.bl true) H'
theorem ok_law {f fP fD fE fB fW fX : Addr} {fd dP dD dE dB dW dX : FuncData} (F : Fun K "law" "law" sLaw f fd) (T : NamesI mg)
    (GP : FnOk P w K mg base CX0 1 fP dP ["script"] (spPen K)) (P1 : Def K mg "_law_pen" fP dP ["script"])
    (GD : FnOk P w K mg base CX0 2 fD dD ["pen", "many"] spDraw) (P2 : Def K mg "_law_draw" fD dD ["pen", "many"])
    (GE : FnOk P w K mg base CX0 3 fE dE ["pen", "many"] spDE) (P3 : Def K mg "_law_deep_e" fE dE ["pen", "many"])
    (GB : FnOk P w K mg base CX0 3 fB dB ["pen", "many", "last"] spDB) (P4 : Def K mg "_law_deep_block" fB dB ["pen", "many", "last"])
    (GW : FnOk P w K mg base CX0 31 fW dW ["pen"] spWR) (P5 : Def K mg "_law_words_right" fW dW ["pen"])
    (GX : FnOk P w K mg base CX0 30 fX dX ["value"] (spPE K)) (P6 : Def K mg "program_error" fX dX ["value"]) :
    FnG P w K mg base 32 f fd ["script"] (spLaw K) := by
  refine fnG_of F scLaw (fun vs H Q E h => ?_) (fun cdv A outer s H vs Q E hg hr h => ?_)
  · obtain ⟨a, ns, rfl, _⟩ := h
    rfl
  · obtain ⟨a, ns, rfl, hq, hn, q⟩ := h
    have hu64 : A.units + 3 + 64 < cLine := hr.units
    refine ⟨_, (pss_cons (ps_set (i := 1) scLaw.nd rfl (.inr rfl) (pe_call GP (hr.mono (by first | decide | omega)) (by rfl) P1.is P1.kp P1.bi .nil pass0 (pa_cons (pv 0) pa_nil)))
      (pss_cons (ps_set (i := 2) scLaw.nd rfl (.inl rfl) (pe_ix ix_list (pe_lst (pa_cons (pe_tup (pa_cons pe_str (pa_cons pe_str (pa_cons pe_int pa_nil)))) (pa_cons (pe_tup (pa_cons pe_str (pa_cons (pe_tup pa_nil) (pa_cons (pe_tup pa_nil) pa_nil)))) (pa_cons (pe_tup (pa_cons pe_str (pa_cons pe_int pa_nil))) (pa_cons (pe_tup (pa_cons pe_str (pa_cons (pe_tup pa_nil) pa_nil))) pa_nil))))) (pe_call GD (hr.mono (by first | decide | omega)) (by rfl) P2.is P2.kp P2.bi .nil pass0 (pa_cons (pv 1) (pa_cons pe_int pa_nil))) (fun _ _ => rfl)))
      (pss_cons (ps_for PassesOwn.never rfl (pi_list (pe_lst (pa_cons (pe_tup (pa_cons pe_int (pa_cons pe_non pa_nil))) (pa_cons (pe_tup (pa_cons pe_int (pa_cons pe_str pa_nil))) (pa_cons (pe_tup (pa_cons (pe_call GD (hr.mono (by first | decide | omega)) (by rfl) P2.is P2.kp P2.bi .nil pass0 (pa_cons (pv 1) (pa_cons pe_int pa_nil))) (pa_cons pe_non pa_nil))) pa_nil))))) (pg_tup rfl (pgs_cons (pg_name (i := 3) scLaw.nd rfl (.inl rfl)) (pgs_cons (pg_name (i := 4) scLaw.nd rfl (.inl rfl)) pgs_nil))) (pss_cons (ps_set (i := 5) scLaw.nd rfl (.inl rfl) (pe_op TR.op_repA (pe_tup (pa_cons (pv 2) pa_nil)) (pv 3)))
      (pss_cons (ps_set (i := 6) scLaw.nd rfl (.inl rfl) (pe_lst (pa_cons (pe_tup (pa_cons (pv 5) (pa_cons (pe_tup pa_nil) pa_nil))) (pa_cons (pe_tup (pa_cons (pe_tup (pa_cons (pe_tup (pa_cons pe_str (pa_cons (pv 5) (pa_cons (pe_tup pa_nil) pa_nil)))) pa_nil)) (pa_cons (pe_tup pa_nil) pa_nil))) (pa_cons (pe_tup (pa_cons (pe_tup (pa_cons (pe_tup (pa_cons pe_str (pa_cons (pv 5) pa_nil))) pa_nil)) (pa_cons (pe_tup pa_nil) pa_nil))) pa_nil)))))
      (pss_cons (ps_set (i := 6) scLaw.nd rfl (.inl rfl) (pe_op op_cat (pv 6) (pe_lst (pa_cons (pe_tup (pa_cons (pe_tup pa_nil) (pa_cons (pe_tup (pa_cons (pe_tup (pa_cons pe_str (pa_cons (pv 5) pa_nil))) pa_nil)) pa_nil))) (pa_cons (pe_tup (pa_cons (pe_tup (pa_cons (pe_tup (pa_cons pe_str (pa_cons pe_int (pa_cons (pe_tup pa_nil) (pa_cons (pv 5) pa_nil))))) pa_nil)) (pa_cons (pe_tup pa_nil) pa_nil))) pa_nil)))))
      (pss_one (ps_if (pt_cmpR (op_neD hu64) (pe_lc (own := [("one", 10)]) (g := gName 10) (tt := tYes) rfl scLaw.nd (pi_list (pv 6)) (blkOk_by (N := ["script", "pen", "deed", "many", "due", "some", "blocks", "last", "found", "e", "one", "defs", "letters", "word", "k"]) (sc := defScope sLaw) (own := [("one", 10)]) (by decide +kernel)) (fun _ _ _ _ _ => (pg_name (i := 10) scLaw.nd rfl (.inl rfl))) (fun _ _ _ _ _ => pts_nil) (fun _ _ _ _ _ => (pe_call GX (hr.mono (by first | decide | omega)) (by rfl) P6.is P6.kp P6.bi .nil pass0 (pa_cons (pv 10) pa_nil)))) (pe_op op_rep (pe_lst (pa_cons (pv 4) pa_nil)) pe_int) (nomark _)) (pss_one (ps_ret pe_bl)) pss_nil))))))
      (pss_cons (ps_for PassesOwn.never rfl (pi_list (pe_lst (pa_cons (pe_tup pa_nil) (pa_cons (pe_tup (pa_cons (pe_tup (pa_cons pe_str (pa_cons pe_int pa_nil))) pa_nil)) pa_nil)))) (pg_name (i := 7) scLaw.nd rfl (.inl rfl)) (pss_one (ps_for PassesOwn.never rfl (pi_list (pe_lst (pa_cons (pe_tup (pa_cons pe_int (pa_cons pe_non pa_nil))) (pa_cons (pe_tup (pa_cons pe_int (pa_cons pe_str pa_nil))) (pa_cons (pe_tup (pa_cons (pe_op op_add pe_int (pe_call GD (hr.mono (by first | decide | omega)) (by rfl) P2.is P2.kp P2.bi .nil pass0 (pa_cons (pv 1) (pa_cons pe_int pa_nil)))) (pa_cons pe_non pa_nil))) pa_nil))))) (pg_tup rfl (pgs_cons (pg_name (i := 3) scLaw.nd rfl (.inl rfl)) (pgs_cons (pg_name (i := 4) scLaw.nd rfl (.inl rfl)) pgs_nil))) (pss_cons (ps_set (i := 8) scLaw.nd rfl (.inl rfl) (pe_call GB (hr.mono (by first | decide | omega)) (by rfl) P4.is P4.kp P4.bi .nil pass0 (pa_cons (pv 1) (pa_cons (pv 3) (pa_cons (pv 7) pa_nil)))))
      (pss_one (ps_if (PW.pt (pw_or (pt_cmpR op_ne (pe_call GX (hr.mono (by first | decide | omega)) (by rfl) P6.is P6.kp P6.bi .nil pass0 (pa_cons (pe_tup (pa_cons (pv 8) (pa_cons (pe_tup pa_nil) pa_nil))) pa_nil)) (pv 4) (nomark _)) (pw_or1 (pt_cmpR op_ne (pe_call GX (hr.mono (by first | decide | omega)) (by rfl) P6.is P6.kp P6.bi .nil pass0 (pa_cons (pe_tup (pa_cons (pe_tup pa_nil) (pa_cons (pe_tup (pa_cons (pe_tup (pa_cons pe_str (pa_cons (pv 8) pa_nil))) pa_nil)) pa_nil))) pa_nil)) (pv 4) (nomark _))))) (pss_one (ps_ret pe_bl)) pss_nil))))))
      (pss_cons (ps_for PassesOwn.never rfl (pi_list (pe_lst (pa_cons (pe_tup (pa_cons pe_int (pa_cons pe_non pa_nil))) (pa_cons (pe_tup (pa_cons pe_int (pa_cons pe_str pa_nil))) (pa_cons (pe_tup (pa_cons (pe_call GD (hr.mono (by first | decide | omega)) (by rfl) P2.is P2.kp P2.bi .nil pass0 (pa_cons (pv 1) (pa_cons pe_int pa_nil))) (pa_cons pe_non pa_nil))) pa_nil))))) (pg_tup rfl (pgs_cons (pg_name (i := 3) scLaw.nd rfl (.inl rfl)) (pgs_cons (pg_name (i := 4) scLaw.nd rfl (.inl rfl)) pgs_nil))) (pss_cons (ps_set (i := 9) scLaw.nd rfl (.inl rfl) (pe_call GE (hr.mono (by first | decide | omega)) (by rfl) P3.is P3.kp P3.bi .nil pass0 (pa_cons (pv 1) (pa_cons (pv 3) pa_nil))))
      (pss_one (ps_for PassesOwn.never rfl (pi_list (pe_lst (pa_cons (pe_tup (pa_cons pe_str (pa_cons pe_str (pa_cons (pv 9) pa_nil)))) (pa_cons (pe_tup (pa_cons pe_str (pa_cons (pv 9) pa_nil))) (pa_cons (pe_tup (pa_cons pe_str (pa_cons (pv 9) (pa_cons (pe_tup pa_nil) (pa_cons (pe_tup pa_nil) pa_nil))))) pa_nil))))) (pg_name (i := 10) scLaw.nd rfl (.inl rfl)) (pss_one (ps_if (pt_cmpR op_ne (pe_call GX (hr.mono (by first | decide | omega)) (by rfl) P6.is P6.kp P6.bi .nil pass0 (pa_cons (pe_tup (pa_cons (pe_tup (pa_cons (pv 10) pa_nil)) (pa_cons (pe_tup pa_nil) pa_nil))) pa_nil)) (pv 4) (nomark _)) (pss_one (ps_ret pe_bl)) pss_nil))))))
      (pss_cons (ps_for PassesOwn.never rfl (pi_list (pe_lst (pa_cons (pe_tup (pa_cons pe_int (pa_cons pe_non pa_nil))) (pa_cons (pe_tup (pa_cons pe_int (pa_cons pe_str pa_nil))) (pa_cons (pe_tup (pa_cons (pe_call GD (hr.mono (by first | decide | omega)) (by rfl) P2.is P2.kp P2.bi .nil pass0 (pa_cons (pv 1) (pa_cons pe_int pa_nil))) (pa_cons pe_non pa_nil))) pa_nil))))) (pg_tup rfl (pgs_cons (pg_name (i := 3) scLaw.nd rfl (.inl rfl)) (pgs_cons (pg_name (i := 4) scLaw.nd rfl (.inl rfl)) pgs_nil))) (pss_cons (ps_set (i := 11) scLaw.nd rfl (.inl rfl) (pe_callTy call_tuple_of (by rfl) T.tuple (by decide +kernel) (pa_cons (pe_lc (own := [("k", 14)]) (g := gName 14) (tt := tYes) rfl scLaw.nd (pi_range1 rfl T.range (pa_cons (pv 3) pa_nil)) (blkOk_by (N := ["script", "pen", "deed", "many", "due", "some", "blocks", "last", "found", "e", "one", "defs", "letters", "word", "k"]) (sc := defScope sLaw) (own := [("k", 14)]) (by decide +kernel)) (fun _ _ _ _ _ => (pg_name (i := 14) scLaw.nd rfl (.inl rfl))) (fun _ _ _ _ _ => pts_nil) (fun _ _ _ _ _ => (pe_tup (pa_cons (pe_ix ix_str pe_str (pv 14) (fun _ _ => rfl)) (pa_cons (pe_tup pa_nil) pa_nil))))) pa_nil)))
      (pss_one (ps_if (pt_cmpR op_ne (pe_call GX (hr.mono (by first | decide | omega)) (by rfl) P6.is P6.kp P6.bi .nil pass0 (pa_cons (pe_tup (pa_cons (pe_tup pa_nil) (pa_cons (pv 11) pa_nil))) pa_nil)) (pv 4) (nomark _)) (pss_one (ps_ret pe_bl)) pss_nil))))
      (pss_cons (ps_if (pt_cmpR op_ne (pe_call GX (hr.mono (by first | decide | omega)) (by rfl) P6.is P6.kp P6.bi .nil pass0 (pa_cons (pe_tup (pa_cons (pe_op TR.op_repA (pe_tup (pa_cons (pe_tup (pa_cons pe_str pa_nil)) pa_nil)) pe_int) (pa_cons (pe_tup pa_nil) pa_nil))) pa_nil)) pe_str (nomark _)) (pss_one (ps_ret pe_bl)) pss_nil)
      (pss_cons (ps_if (pt_cmpR op_ne (pe_call GX (hr.mono (by first | decide | omega)) (by rfl) P6.is P6.kp P6.bi .nil pass0 (pa_cons (pe_tup (pa_cons (pe_tup pa_nil) (pa_cons (pe_tup (pa_cons (pe_tup (pa_cons pe_str (pa_cons (pe_op TR.op_repA (pe_tup (pa_cons (pe_tup (pa_cons pe_str (pa_cons pe_str pa_nil))) pa_nil)) pe_int) pa_nil))) pa_nil)) pa_nil))) pa_nil)) pe_str (nomark _)) (pss_one (ps_ret pe_bl)) pss_nil)
      (pss_cons (ps_if (pt_not (pt_val (pe_call GW (hr.mono (by first | decide | omega)) (by rfl) P5.is P5.kp P5.bi .nil pass0 (pa_cons (pv 1) pa_nil)))) (pss_one (ps_ret pe_bl)) pss_nil)
      (pss_cons (ps_set (i := 12) scLaw.nd rfl (.inl rfl) (pe_join pe_str (pe_lc (own := [("k", 14)]) (g := gName 14) (tt := tYes) rfl scLaw.nd (pi_range1 rfl T.range (pa_cons pe_int pa_nil)) (blkOk_by (N := ["script", "pen", "deed", "many", "due", "some", "blocks", "last", "found", "e", "one", "defs", "letters", "word", "k"]) (sc := defScope sLaw) (own := [("k", 14)]) (by decide +kernel)) (fun _ _ _ _ _ => (pg_name (i := 14) scLaw.nd rfl (.inl rfl))) (fun _ _ _ _ _ => pts_nil) (fun _ _ _ _ _ => (pe_ix ix_str pe_str (pe_call GD (hr.mono (by first | decide | omega)) (by rfl) P2.is P2.kp P2.bi .nil pass0 (pa_cons (pv 1) (pa_cons pe_int pa_nil))) (fun _ _ => rfl))))))
      (pss_cons (ps_for PassesOwn.never rfl (pi_range1 rfl T.range (pa_cons pe_int pa_nil)) (pg_name (i := 3) scLaw.nd rfl (.inl rfl)) (pss_cons (ps_set (i := 4) scLaw.nd rfl (.inl rfl) (pe_ifExp (pt_chain op_le op_le pe_int (pv 3) pe_int) pe_non pe_str))
      (pss_cons (ps_set (i := 13) scLaw.nd rfl (.inl rfl) (pe_slice sl_str (pv 12) po_none (po_some (pv 3))))
      (pss_one (ps_for PassesOwn.never rfl (pi_list (pe_lst (pa_cons (pe_tup (pa_cons (pe_tup (pa_cons (pe_tup (pa_cons pe_str (pa_cons (pv 13) (pa_cons pe_int pa_nil)))) pa_nil)) (pa_cons (pe_tup pa_nil) pa_nil))) (pa_cons (pe_tup (pa_cons (pe_tup (pa_cons (pe_tup (pa_cons pe_str (pa_cons (pv 13) pa_nil))) pa_nil)) (pa_cons (pe_tup pa_nil) pa_nil))) (pa_cons (pe_tup (pa_cons (pe_tup pa_nil) (pa_cons (pe_tup (pa_cons (pe_tup (pa_cons (pv 13) (pa_cons (pe_tup pa_nil) pa_nil))) pa_nil)) pa_nil))) pa_nil))))) (pg_name (i := 10) scLaw.nd rfl (.inl rfl)) (pss_one (ps_if (pt_cmpR op_ne (pe_call GX (hr.mono (by first | decide | omega)) (by rfl) P6.is P6.kp P6.bi .nil pass0 (pa_cons (pv 10) pa_nil)) (pv 4) (nomark _)) (pss_one (ps_ret pe_bl)) pss_nil)))))))
      (pss_one (ps_ret (pe_and (pe_cmpR op_isN (pe_call GX (hr.mono (by first | decide | omega)) (by rfl) P6.is P6.kp P6.bi .nil pass0 (pa_cons (pe_tup (pa_cons (pe_tup (pa_cons (pe_tup (pa_cons pe_str (pa_cons pe_int pa_nil))) pa_nil)) (pa_cons (pe_tup pa_nil) pa_nil))) pa_nil)) pe_non (nomark _)) (pe_one (pe_cmpR op_eq (pe_call GX (hr.mono (by first | decide | omega)) (by rfl) P6.is P6.kp P6.bi .nil pass0 (pa_cons (pe_tup (pa_cons (pe_tup (pa_cons (pe_tup (pa_cons pe_str (pa_cons pe_int pa_nil))) pa_nil)) (pa_cons (pe_tup pa_nil) pa_nil))) pa_nil)) pe_str (nomark _))))))))))))))))), ?_⟩
    have line : sizeLine = 16777216 := by decide
    refine ⟨.ref a, rfl, a, ns, rfl, hq, hn, fun p l H1 s1 np nl p1 => ?_⟩
    have occ : ∀ {Hx : Hp}, Pen Hx p l → ∀ b, (fun b => b = p) b → Hx b ≠ none := fun px b hb e => by
      have hb : b = p := hb
      subst hb
      obtain ⟨_, _, _, h, _⟩ := px
      rw [h] at e
      cases e
    have bn : ∀ {Hx Hy : Hp}, But p Hx Hy → BN (fun b => b = p) Hx Hy := fun b c o h hn => b c o h hn
    dsimp only [tSeq, tAsg, tOp, gName]
    refine lst_by (N := fun b => b = p) (ds := [.tuple [.str "set", .str "x", .int 1], .tuple [.str "toss", .tuple [], .tuple []], .tuple [.str "end", .int 3], .tuple [.str "loop", .tuple []]]) ?_ (of_decide_eq_true rfl) fun L vs H2 s2 nL eL dvs => ?_
    · have en : ∀ {σ : L2.St}, Ev (fun b => b = p) H1 σ (tTup tNil) (.tuple []) := tupE (occ p1) eva_nil
      exact eva_cons (tupE (occ p1) (eva_cons ev_str (eva_cons ev_str (eva_cons ev_int eva_nil)))) (eva_cons (tupE (occ p1) (eva_cons ev_str (eva_cons en (eva_cons en eva_nil)))) (eva_cons (tupE (occ p1) (eva_cons ev_str (eva_cons ev_int eva_nil))) (eva_cons (tupE (occ p1) (eva_cons ev_str (eva_cons en eva_nil))) eva_nil)))
    have p2 := p1.same s2
    refine ⟨_, rfl, p, l, 4, rfl, p2, by decide, by decide +kernel, fun k H3 k0 k1 b3 p3 => ?_⟩
    obtain ⟨kn, rfl⟩ : ∃ kn : Nat, k = (kn : Int) := ⟨k.toNat, by omega⟩
    obtain ⟨dv, hdv⟩ : ∃ dv, vs[kn]? = some dv := ⟨vs[kn]'(by rw [dvs.len]; show kn < 4; omega), List.getElem?_eq_getElem _⟩
    obtain ⟨dd, hdd, ddv⟩ := dsGet dvs hdv
    have deed : Deed dd := deeds dd (List.mem_of_getElem? hdd)
    have ddv3 := Ds.bn (bn b3) _ _ ddv
    refine ⟨L, vs, (kn : Int), dv, rfl, rfl, SqL.of (b3 _ _ eL (p1.apart nL).1), atI_nat hdv, ?_⟩
    dsimp only
    refine for_abs (W0 (.ref a) p l) ?rest1 fun D1 t1 => ?_
    rotate_left
    · refine for3 (K := K) (p := p) (l := l) (c := 20) (lo := 0) (fun σ Hx => ∃ a3 a4 a5 a6 a7 a8 a9 a10 a11 a12 a13 a14 : Option V, σ = [some (V.ref a), some (V.ref p), some dv, a3, a4, a5, a6, a7, a8, a9, a10, a11, a12, a13, a14] ∧ Pen Hx p l ∧ Ds (fun b => b = p) Hx dv dd) p3 rfl (Nat.zero_le _) ?_ ?_ (fun _ _ ⟨_, _, _, _, _, _, _, _, _, _, _, _, _, h, _⟩ => h) ?_ ?_
      · exact fun H4 Q4 s4 q4 => ⟨_, rfl, p, l, 21, rfl, p3.same s4, by decide, by decide +kernel, fun k H5 k0 k1 b5 p5 => by
          obtain ⟨kn, rfl⟩ : ∃ kn : Nat, k = (kn : Int) := ⟨k.toNat, by omega⟩
          exact q4 kn H5 (Nat.zero_le _) (by omega) b5 p5⟩
      · exact fun Hx bx px => ⟨_, _, _, _, _, _, _, _, _, _, _, _, rfl, px, Ds.bn (bn bx) _ _ ddv3⟩
      · rintro σ H4 m b ⟨a3, a4, a5, a6, a7, a8, a9, a10, a11, a12, a13, a14, rfl, p4, dd4⟩ m0 m1 hb N hN
        dsimp only [tSeq, tAsg, tOp, gName, tIfS, tTest]
        refine ev_by (N := fun b => b = p) (d := .tuple [dd]) (tupE (occ p4) (eva_cons (ev_var rfl dd4) eva_nil)) fun v5 H5 s5 dv5 => ?_
        have p5 := p4.same s5
        refine ⟨_, rfl, rep_by (K := K) dv5 (occ p5) (by omega) fun S H6 s6 dS => ?_⟩
        have p6 := p5.same s6
        have s46 := s5.trans s6
        have en : ∀ {σ : L2.St}, Ev (fun b => b = p) H6 σ (tTup tNil) (.tuple []) := tupE (occ p6) eva_nil
        have vS : ∀ {σ : L2.St}, σ[5]? = some (some S) → Ev (fun b => b = p) H6 σ (tVar 5) (.tuple (List.replicate m dd)) := fun h => ev_var h dS
        try dsimp only
        refine lst_by (N := fun b => b = p) (ds := [.tuple [.tuple (List.replicate m dd), .tuple []], .tuple [.tuple [.tuple [.str "toss", .tuple (List.replicate m dd), .tuple []]], .tuple []], .tuple [.tuple [.tuple [.str "loop", .tuple (List.replicate m dd)]], .tuple []]]) ?_ (of_decide_eq_true rfl) fun L7 vs7 H7 s7 nL7 eL7 dv7 => ?_
        · exact eva_cons (tupE (occ p6) (eva_cons (vS rfl) (eva_cons en eva_nil))) (eva_cons (tupE (occ p6) (eva_cons (tupE (occ p6) (eva_cons (tupE (occ p6) (eva_cons ev_str (eva_cons (vS rfl) (eva_cons en eva_nil)))) eva_nil)) (eva_cons en eva_nil))) (eva_cons (tupE (occ p6) (eva_cons (tupE (occ p6) (eva_cons (tupE (occ p6) (eva_cons ev_str (eva_cons (vS rfl) eva_nil))) eva_nil)) (eva_cons en eva_nil))) eva_nil))
        have p7 := p6.same s7
        have dS7 := Ds.bn (BN.of_ s7) _ _ dS
        have en7 : ∀ {σ : L2.St}, Ev (fun b => b = p) H7 σ (tTup tNil) (.tuple []) := tupE (occ p7) eva_nil
        have vS7 : ∀ {σ : L2.St}, σ[5]? = some (some S) → Ev (fun b => b = p) H7 σ (tVar 5) (.tuple (List.replicate m dd)) := fun h => ev_var h dS7
        refine ⟨_, rfl, ?_⟩
        try dsimp only
        refine lst_by (N := fun b => b = p) (ds := [.tuple [.tuple [], .tuple [.tuple [.str "d", .tuple (List.replicate m dd)]]], .tuple [.tuple [.tuple [.str "if", .int 1, .tuple [], .tuple (List.replicate m dd)]], .tuple []]]) ?_ (of_decide_eq_true rfl) fun L8 vs8 H8 s8 nL8 eL8 dv8 => ?_
        · exact eva_cons (tupE (occ p7) (eva_cons en7 (eva_cons (tupE (occ p7) (eva_cons (tupE (occ p7) (eva_cons ev_str (eva_cons (vS7 rfl) eva_nil))) eva_nil)) eva_nil))) (eva_cons (tupE (occ p7) (eva_cons (tupE (occ p7) (eva_cons (tupE (occ p7) (eva_cons ev_str (eva_cons ev_int (eva_cons en7 (eva_cons (vS7 rfl) eva_nil))))) eva_nil)) (eva_cons en7 eva_nil))) eva_nil)
        refine cat_by (N := fun b => b = p) (s8 _ _ eL7) eL8 (Ds.bnAll (BN.of_ s8) _ _ dv7) dv8 (of_decide_eq_true rfl) fun L9 H9 s9 nL9 eL9 dv9 => ?_
        dsimp only [List.map]
        obtain ⟨kn1, f1, f2, f3, f4, f5⟩ := five deed (m := m) (by omega)
        rw [← hb] at f1 f2 f3 f4 f5
        refine ask_all (K := K) (N := fun b => b = p) (i := 6) (k := 10) (W := L9) ?_ eL9 dv9 kn1 (of_decide_eq_true rfl) ?_ ?_ fun D HA sA nD eD => ?_
        · rfl
        · exact fun _ => rfl
        · exact fun _ => rfl
        · have eD : HA D = some (.lst [dueV b, dueV b, dueV b, dueV b, dueV b]) := by
            rw [eD]
            simp only [List.cons_append, List.nil_append, List.map_cons, List.map_nil, f1, f2, f3, f4, f5]
          refine ⟨_, rfl, by show 1 ≤ sizeLine; omega, fun M nM => ?_⟩
          have sM := Same.upd (o := .lst [dueV b]) nM
          have eM : upd HA M (.lst [dueV b]) M = some (.lst [dueV b]) := upd_same
          have eD2 := sM _ _ eD
          generalize upd HA M (.lst [dueV b]) = HB at sM eM eD2 ⊢
          refine ⟨M, 5, _, rfl, rfl, eM, by decide, by decide, by show 1 * 5 ≤ sizeLine; omega, fun R nR => ?_⟩
          have sR := Same.upd (o := .lst [dueV b, dueV b, dueV b, dueV b, dueV b]) nR
          have eR : upd HB R (.lst [dueV b, dueV b, dueV b, dueV b, dueV b]) R = some (.lst [dueV b, dueV b, dueV b, dueV b, dueV b]) := upd_same
          have eD3 := sR _ _ eD2
          have sall := s46.trans (s7.trans (s8.trans (s9.trans (sA.trans (sM.trans sR)))))
          refine ⟨.list ([b, b, b, b, b].map dueD), .list ([b, b, b, b, b].map dueD), dp_list eD3, dp_list (bs := [b, b, b, b, b]) eR, by cases b <;> decide +kernel, by cases b <;> decide +kernel, ?_⟩
          rw [show PyData.eqv (.list ([b, b, b, b, b].map dueD)) (.list ([b, b, b, b, b].map dueD)) = true by cases b <;> decide +kernel]
          refine ⟨_, rfl, iteF ?_⟩
          exact hN _ _ ⟨_, _, _, _, _, _, _, _, _, _, _, _, rfl, p4.same sall, Ds.bn (BN.of_ sall) _ _ dd4⟩ (But.of sall)
      · rintro σ H4 ⟨a3, a4, a5, a6, a7, a8, a9, a10, a11, a12, a13, a14, rfl, p4, dd4⟩
        exact t1 _ H4 ⟨_, _, _, _, _, _, _, _, _, _, _, _, _, rfl, p4⟩
    · rintro σ H1 ⟨a2, a3, a4, a5, a6, a7, a8, a9, a10, a11, a12, a13, a14, rfl, p1⟩
      dsimp only
      refine on (for_abs (W0 (.ref a) p l) ?rest2 fun D2 t2 => ?_)
      rotate_left
      · refine forL (K := K) (p := p) (l := l) [.tuple [], .tuple [.tuple [.str "end", .int 1]]] p1 ?_ (of_decide_eq_true rfl) (W0 (.ref a) p l) (fun Hx sx => ⟨_, _, _, _, _, _, _, _, _, _, _, _, _, rfl, p1.same sx⟩) ?_ t2
        · exact eva_cons (tupE (occ p1) eva_nil) (eva_cons (tupE (occ p1) (eva_cons (tupE (occ p1) (eva_cons ev_str (eva_cons ev_int eva_nil))) eva_nil)) eva_nil)
        · rintro σ H4 x dl hdl ddl4 ⟨a2, a3, a4, a5, a6, a7, a8, a9, a10, a11, a12, a13, a14, rfl, p3⟩ N0 hN0
          have deep : DeepB 1 dl := by
            rcases List.mem_cons.mp hdl with rfl | h
            · exact .nil
            · cases List.mem_singleton.mp h
              exact .end_
          dsimp only [gName]
          refine for3 (K := K) (p := p) (l := l) (c := 6) (lo := 1) (fun σ Hx => ∃ a2 a3 a4 a5 a6 a8 a9 a10 a11 a12 a13 a14 : Option V, σ = [some (V.ref a), some (V.ref p), a2, a3, a4, a5, a6, some x, a8, a9, a10, a11, a12, a13, a14] ∧ Pen Hx p l ∧ Ds (fun b => b = p) Hx x dl ∧ But p H4 Hx) p3 rfl (by decide) ?_ ?_ (fun _ _ ⟨_, _, _, _, _, _, _, _, _, _, _, _, _, h, _⟩ => h) ?_ ?_
          · exact fun H5 Q5 s5 q5 => ⟨_, rfl, p, l, 6, rfl, p3.same s5, by decide, by decide +kernel, fun k H6 k0 k1 b6 p6 => by
              obtain ⟨kn, rfl⟩ : ∃ kn : Nat, k = (kn : Int) := ⟨k.toNat, by omega⟩
              refine ⟨_, _, rfl, rfl, ?_⟩
              have := q5 (1 + kn) H6 (by omega) (by omega) b6 p6
              rwa [show ((1 + kn : Nat) : Int) = 1 + (kn : Int) by omega] at this⟩
          · exact fun Hx bx px => ⟨_, _, _, _, _, _, _, _, _, _, _, _, rfl, px, Ds.bn (bn bx) _ _ ddl4, bx⟩
          · rintro σ H5 m b ⟨a2, a3, a4, a5, a6, a8, a9, a10, a11, a12, a13, a14, rfl, p5, ddl5, b25⟩ m0 m1 hb N hN
            obtain ⟨m', rfl⟩ : ∃ m', m = m' + 1 := ⟨m - 1, by omega⟩
            refine ⟨_, rfl, _, rfl, _, rfl, p, l, m', x, dl, rfl, by omega, p5, deep, ddl5, fun v6 d6 H6 b6 p6 de6 dv6 => ?_⟩
            have z6 := de6.strs
            have c6 := de6.cl
            have k6 : 4 ^ (m' + 1) ≤ 100000 := Nat.le_trans (Nat.pow_le_pow_right (by decide) (show m' + 1 ≤ 7 by omega)) (by decide)
            have f1 : formD (.tuple [d6, .tuple []]) = b := by rw [no_defs, de6.val, hb]
            have f2 : formD (.tuple [.tuple [], .tuple [.tuple [.str "d", d6]]]) = b := by rw [one_def, de6.val, hb]
            dsimp only [gName, tIfS, tOr, tTest, tOp]
            refine ask (N := fun b => b = p) (d := .tuple [d6, .tuple []]) ?_ (known_top k6 z6 c6) fun H7 s7 => ?_
            · exact tupE (occ p6) (eva_cons (ev_var rfl dv6) (eva_cons (tupE (occ p6) eva_nil) eva_nil))
            rw [f1]
            refine ⟨_, rfl, scal_due b, _, rfl, ?_⟩
            rw [decide_eq_true rfl]
            have dv7 := Ds.bn (BN.of_ s7) _ _ dv6
            have p7 := p6.same s7
            refine iteF (ask (N := fun b => b = p) (d := .tuple [.tuple [], .tuple [.tuple [.str "d", d6]]]) ?_ (known_def k6 z6 c6) fun H8 s8 => ?_)
            · exact tupE (occ p7) (eva_cons (tupE (occ p7) eva_nil) (eva_cons (tupE (occ p7) (eva_cons (tupE (occ p7) (eva_cons ev_str (eva_cons (ev_var rfl dv7) eva_nil))) eva_nil)) eva_nil))
            rw [f2]
            refine ⟨_, rfl, scal_due b, _, rfl, ?_⟩
            rw [decide_eq_true rfl]
            have b58 := b6.trans (But.of (s7.trans s8))
            exact iteF (hN _ _ ⟨_, _, _, _, _, _, _, _, _, _, _, _, rfl, p7.same s8, Ds.bn (bn b58) _ _ ddl5, b25.trans b58⟩ b58)
          · rintro σ H5 ⟨a2, a3, a4, a5, a6, a8, a9, a10, a11, a12, a13, a14, rfl, p5, ddl5, b25⟩
            exact hN0 _ _ ⟨_, _, _, _, _, _, _, _, _, _, _, _, _, rfl, p5⟩ b25
      · rintro σ H1 ⟨a2, a3, a4, a5, a6, a7, a8, a9, a10, a11, a12, a13, a14, rfl, p1⟩
        dsimp only
        refine on (for_abs (W0 (.ref a) p l) ?rest3 fun D3 t3 => ?_)
        rotate_left
        · refine for3 (K := K) (p := p) (l := l) (c := 6) (lo := 0) (W0 (.ref a) p l) p1 rfl (Nat.zero_le _) ?_ (fun Hx bx px => ⟨_, _, _, _, _, _, _, _, _, _, _, _, _, rfl, px⟩) (fun _ _ ⟨_, _, _, _, _, _, _, _, _, _, _, _, _, _, h⟩ => h) ?_ t3
          · exact fun H5 Q5 s5 q5 => ⟨_, rfl, p, l, 7, rfl, p1.same s5, by decide, by decide +kernel, fun k H6 k0 k1 b6 p6 => by
              obtain ⟨kn, rfl⟩ : ∃ kn : Nat, k = (kn : Int) := ⟨k.toNat, by omega⟩
              exact q5 kn H6 (Nat.zero_le _) (by omega) b6 p6⟩
          · rintro σ H4 m b ⟨a2, a3, a4, a5, a6, a7, a8, a9, a10, a11, a12, a13, a14, rfl, p4⟩ m0 m1 hb N hN
            refine ⟨_, rfl, _, rfl, p, l, m, rfl, by omega, p4, fun v5 d5 H5 b5 p5 de dv5 => ?_⟩
            dsimp only [gName]
            refine forL (K := K) (p := p) (l := l) [.tuple [.str "set", .str "x", d5], .tuple [.str "end", d5], .tuple [.str "if", d5, .tuple [], .tuple []]] p5 ?_ (of_decide_eq_true rfl) (fun σ Hx => ∃ a10 : Option V, σ = [some (V.ref a), some (V.ref p), a2, some (V.int (m : Nat)), some (dueV b), a5, a6, a7, a8, some v5, a10, a11, a12, a13, a14] ∧ Pen Hx p l ∧ But p H4 Hx) (fun Hx sx => ⟨_, rfl, p5.same sx, b5.trans (But.of sx)⟩) ?_ ?_
            · exact eva_cons (tupE (occ p5) (eva_cons ev_str (eva_cons ev_str (eva_cons (ev_var rfl dv5) eva_nil)))) (eva_cons (tupE (occ p5) (eva_cons ev_str (eva_cons (ev_var rfl dv5) eva_nil))) (eva_cons (tupE (occ p5) (eva_cons ev_str (eva_cons (ev_var rfl dv5) (eva_cons (tupE (occ p5) eva_nil) (eva_cons (tupE (occ p5) eva_nil) eva_nil))))) eva_nil))
            · rintro σ H6 x d hd dx ⟨a10, rfl, p6, b6⟩ N1 hN1
              obtain ⟨kn, fo⟩ := oneE de d hd
              rw [← hb] at fo
              dsimp only [gName, tIfS, tTest, tOp]
              refine ask (N := fun b => b = p) (d := .tuple [.tuple [d], .tuple []]) ?_ kn fun H7 s7 => ?_
              · exact tupE (occ p6) (eva_cons (tupE (occ p6) (eva_cons (ev_var rfl dx) eva_nil)) (eva_cons (tupE (occ p6) eva_nil) eva_nil))
              rw [fo]
              refine ⟨_, rfl, scal_due b, _, rfl, ?_⟩
              rw [decide_eq_true rfl]
              exact iteF (hN1 _ _ ⟨_, rfl, p6.same s7, b6.trans (But.of s7)⟩ (But.of s7))
            · rintro σ H6 ⟨a10, rfl, p6, b6⟩
              exact hN _ _ ⟨_, _, _, _, _, _, _, _, _, _, _, _, _, rfl, p6⟩ b6
        · rintro σ H1 ⟨a2, a3, a4, a5, a6, a7, a8, a9, a10, a11, a12, a13, a14, rfl, p1⟩
          dsimp only
          refine on (for_abs (W0 (.ref a) p l) ?rest4 fun D4 t4 => ?_)
          rotate_left
          · refine for3 (K := K) (p := p) (l := l) (c := 6) (lo := 0) (W0 (.ref a) p l) p1 rfl (Nat.zero_le _) ?_ (fun Hx bx px => ⟨_, _, _, _, _, _, _, _, _, _, _, _, _, rfl, px⟩) (fun _ _ ⟨_, _, _, _, _, _, _, _, _, _, _, _, _, _, h⟩ => h) ?_ t4
            · exact fun H5 Q5 s5 q5 => ⟨_, rfl, p, l, 7, rfl, p1.same s5, by decide, by decide +kernel, fun k H6 k0 k1 b6 p6 => by
                obtain ⟨kn, rfl⟩ : ∃ kn : Nat, k = (kn : Int) := ⟨k.toNat, by omega⟩
                exact q5 kn H6 (Nat.zero_le _) (by omega) b6 p6⟩
            · rintro σ H4 m b ⟨a2, a3, a4, a5, a6, a7, a8, a9, a10, a11, a12, a13, a14, rfl, p4⟩ m0 m1 hb N hN
              refine ⟨_, rfl, (m : Nat), rfl, by omega, by omega, fun D nD => ?_⟩
              have nDp := (p4.apart nD).1
              refine lc_it (walk_range (lo := 0) (n := ((m : Nat) : Int).toNat)) (fun j Hx => Same H4 Hx ∧ ∃ vs, Hx D = some (.lst vs) ∧ LetAt p Hx vs j) ⟨Same.upd nD, [], upd_same, LetAt.nil⟩ (fun _ _ _ _ => trivial) ?_ ?_
              · rintro j x H5 H6 hj ⟨s5, vs, eD, la⟩ ⟨rfl, rfl⟩
                have hj7 : j < 7 := by
                  rw [Int.toNat_natCast] at hj
                  omega
                have hat : ("abcdefg" : Str).cps.toList[j]? = some (97 + j) := by
                  match j, hj7 with
                  | 0, _ => decide +kernel
                  | 1, _ => decide +kernel
                  | 2, _ => decide +kernel
                  | 3, _ => decide +kernel
                  | 4, _ => decide +kernel
                  | 5, _ => decide +kernel
                  | 6, _ => decide +kernel
                  | n + 7, h => exact absurd h (by omega)
                have p5 := p4.same s5
                refine ⟨rfl, ?_⟩
                dsimp only [tYes]
                refine iteT ⟨_, rfl, "abcdefg", (j : Int), 97 + j, rfl, by show V.int (0 + (j : Int)) = _; rw [Int.zero_add], by decide +kernel, atI_nat hat, by show 0 ≤ sizeLine; omega, fun u nu => ?_⟩
                have su := Same.upd (o := .tup []) nu
                have eu : upd _ u (.tup []) u = some (.tup []) := upd_same (H := H6)
                have nup := (p5.apart nu).1
                have eD2 := su _ _ eD
                have la2 := la.same su
                generalize upd H6 u (.tup []) = H7 at su eu eD2 la2 ⊢
                refine ⟨by show 2 ≤ sizeLine; omega, fun t nt => ?_⟩
                have st := Same.upd (o := .tup [V.str ⟨#[97 + j]⟩, V.ref u]) nt
                have et : upd H7 t (.tup [V.str ⟨#[97 + j]⟩, V.ref u]) t = some (.tup [V.str ⟨#[97 + j]⟩, V.ref u]) := upd_same
                have ntp := ((p5.same su).apart nt).1
                have eD3 := st _ _ eD2
                have eu3 := st _ _ eu
                have la3 := la2.same st
                have s7 := s5.trans (su.trans st)
                generalize upd H7 t (.tup [V.str ⟨#[97 + j]⟩, V.ref u]) = H8 at st et eD3 eu3 la3 s7 ⊢
                have pD := TS_.put (ys := vs ++ [V.ref t]) eD3
                refine ⟨vs, eD3, by rw [la.1]; omega, fun c o h => by rw [upd_ne (ne_of_none h nD)]; exact s7 _ _ h, vs ++ [.ref t], upd_same, (la3.put pD).snoc ⟨t, u, rfl, pD _ _ et, pD _ _ eu3, ntp, nup⟩⟩
              · rintro H5 ⟨s5, vs, eD, la⟩
                rw [Int.toNat_natCast] at la
                have p5 := p4.same s5
                refine ⟨D, vs, rfl, .inl ⟨SqL.of eD, fun S nS => ?_⟩⟩
                have sS := Same.upd (o := .tup vs) nS
                have eS : upd H5 S (.tup vs) S = some (.tup vs) := upd_same
                have nSp := (p5.apart nS).1
                have la2 := la.same sS
                generalize upd H5 S (.tup vs) = H6 at sS eS la2 ⊢
                have p6 := p5.same sS
                obtain ⟨kn, fo⟩ := let_form m (by omega)
                rw [← hb] at fo
                dsimp only [gName]
                refine if_ne (K := K) (N := fun b => b = p) (d := .tuple [.tuple [], .tuple (letD m)]) (b := b) ?_ kn fo ?_ fun H7 s7 => ?_
                · exact tupE (occ p6) (eva_cons (tupE (occ p6) eva_nil) (eva_cons (ev_var rfl (.tup eS nSp la2.ds)) eva_nil))
                · exact fun H' Q' h => ⟨_, rfl, h⟩
                · exact hN _ _ ⟨_, _, _, _, _, _, _, _, _, _, _, _, _, rfl, p6.same s7⟩ (But.of (s5.trans (sS.trans s7)))
          · rintro σ H1 ⟨a2, a3, a4, a5, a6, a7, a8, a9, a10, a11, a12, a13, a14, rfl, p1⟩
            dsimp only
            refine on (if_ne (K := K) (N := fun b => b = p) (d := .tuple [.tuple (List.replicate 21 (.tuple [.str "leave"])), .tuple []]) (b := false) ?_ (.not (by decide +kernel) (by decide +kernel)) (by decide +kernel) (fun H' Q' h => h) fun H2 s2 => ?_)
            · exact tupE (occ p1) (eva_cons (ev_rep (occ p1) (m := 21) (by decide) (tupE (occ p1) (eva_cons (tupE (occ p1) (eva_cons ev_str eva_nil)) eva_nil))) (eva_cons (tupE (occ p1) eva_nil) eva_nil))
            have p2 := p1.same s2
            dsimp only
            refine on (if_ne (K := K) (N := fun b => b = p) (d := .tuple [.tuple [], .tuple [.tuple [.str "d", .tuple (List.replicate 21 (.tuple [.str "call", .str "q"]))]]]) (b := false) ?_ (.not (by decide +kernel) (by decide +kernel)) (by decide +kernel) (fun H' Q' h => h) fun H3 s3 => ?_)
            · exact tupE (occ p2) (eva_cons (tupE (occ p2) eva_nil) (eva_cons (tupE (occ p2) (eva_cons (tupE (occ p2) (eva_cons ev_str (eva_cons (ev_rep (occ p2) (m := 21) (by decide) (tupE (occ p2) (eva_cons (tupE (occ p2) (eva_cons ev_str (eva_cons ev_str eva_nil))) eva_nil))) eva_nil))) eva_nil)) eva_nil))
            have p3 := p2.same s3
            dsimp only
            refine on ⟨_, rfl, p, l, rfl, p3, fun H4 b4 p4 => ⟨_, rfl, iteF ?_⟩⟩
            dsimp only [tNext]
            refine on ⟨⟨_, rfl⟩, 7, rfl, by omega, by omega, fun D nD => ?_⟩
            have nDp := (p4.apart nD).1
            have nDl := (p4.apart nD).2
            refine lc_it (walk_range (lo := 0) (n := (7 : Int).toNat)) (fun j Hx => But p H4 Hx ∧ Pen Hx p l ∧ ∃ ys : List Str, Hx D = some (.lst (ys.map V.str)) ∧ ys.length = j ∧ Lows ys) ⟨But.of (Same.upd nD), p4.same (Same.upd nD), [], upd_same, rfl, fun y hy => by cases hy⟩ (fun _ _ _ _ => trivial) ?_ ?_
            · rintro j x H5 H6 hj ⟨b5, p5, ys, eD, ly, low⟩ ⟨rfl, rfl⟩
              refine ⟨rfl, ?_⟩
              dsimp only [tYes]
              refine iteT ⟨_, rfl, p, l, 26, rfl, p5, by decide, by decide +kernel, fun k H7 k0 k1 b7 p7 => ?_⟩
              obtain ⟨kn, rfl⟩ : ∃ kn : Nat, k = (kn : Int) := ⟨k.toNat, by omega⟩
              have ln : ("abcdefghijklmnopqrstuvwxyz" : Str).cps.toList.length = 26 := by decide +kernel
              have hget : ("abcdefghijklmnopqrstuvwxyz" : Str).cps.toList[kn]? = some (("abcdefghijklmnopqrstuvwxyz" : Str).cps.toList[kn]'(by omega)) := List.getElem?_eq_getElem _
              have hlow : isLow (("abcdefghijklmnopqrstuvwxyz" : Str).cps.toList[kn]'(by omega)) = true := by
                have a : ("abcdefghijklmnopqrstuvwxyz" : Str).cps.toList.all isLow = true := by decide +kernel
                exact List.all_eq_true.mp a _ (List.mem_of_getElem? hget)
              generalize ("abcdefghijklmnopqrstuvwxyz" : Str).cps.toList[kn]'(by omega) = c at hget hlow
              have eD7 := b7 _ _ eD nDp
              have hj7 : j < 7 := hj
              refine ⟨_, _, c, rfl, rfl, by decide +kernel, atI_nat hget, _, eD7, by rw [List.length_map, ly]; omega, fun q o h hq => by rw [upd_ne (ne_of_none h nD)]; exact b7 _ _ (b5 _ _ h hq) hq, p7.putL nDp nDl, ys ++ [⟨#[c]⟩], by rw [upd_same, List.map_append]; rfl, by rw [List.length_append, ly]; rfl, fun y hy => ?_⟩
              rcases List.mem_append.mp hy with h | h
              · exact low y h
              · cases List.mem_singleton.mp h
                exact ⟨c, rfl, hlow⟩
            · rintro H5 ⟨b5, p5, ys, eD, ly, low⟩
              have ly : ys.length = 7 := ly
              obtain ⟨ll, la⟩ := low_join low
              refine ⟨"", D, ys, rfl, rfl, .inl (SqL.of eD), by rw [low_sum low, ly]; decide +kernel, ?_⟩
              rw [ly] at ll
              generalize Txt.join "" ys = L at ll la
              have hL : L.length = 7 := by
                rw [← ll, Array.length_toList]
                rfl
              dsimp only [gName]
              refine on (for_abs (W0 (.ref a) p l) ?fin fun D5 t5 => ?_)
              rotate_left
              · refine ⟨8, rfl, by omega, by omega, for_range (D := D5) (lo := 0) (n := (8 : Int).toNat) (fun i σ Hx => ∃ a2 a3 a4 a5 a6 a7 a8 a9 a10 a11 a13 a14 : Option V, σ = [some (V.ref a), some (V.ref p), a2, a3, a4, a5, a6, a7, a8, a9, a10, a11, some (V.str L), a13, a14] ∧ Pen Hx p l) ⟨_, _, _, _, _, _, _, _, _, _, _, _, rfl, p5⟩ ?_ ?_⟩
                · rintro m σ H6 hm ⟨a2, a3, a4, a5, a6, a7, a8, a9, a10, a11, a13, a14, rfl, p6⟩
                  have hm : m < 8 := hm
                  rw [Int.zero_add]
                  have wd := word_cut la hL (show m ≤ 7 by omega)
                  have wl : (cutS L none (some (m : Int))).length ≤ 1000 := by rw [cut_len hL (show m ≤ 7 by omega)]; omega
                  dsimp only [gName, tSeq, tAsg]
                  have key : ∀ (σ : L2.St) (Q' : VK), σ[3]? = some (some (V.int (m : Nat))) → Q' (dueV (decide (1 ≤ m) && decide (m ≤ 6))) H6 → tIf (tTest (tChain (rI0 fun i j => V.bl (decide (i ≤ j))) (rI0 fun i j => V.bl (decide (i ≤ j))) (tC (V.int 1)) (tVar 3) (tC (V.int 6)))) (tC V.non) (tC (V.str "form")) σ H6 Q' := fun σ Q' h3 h => by
                    refine ⟨_, h3, _, _, rfl, rfl, _, rfl, ?_⟩
                    by_cases m1 : 1 ≤ m
                    · rw [decide_eq_true (show (1 : Int) ≤ (m : Nat) by omega)]
                      rw [decide_eq_true m1, Bool.true_and] at h
                      refine iteT ⟨_, _, rfl, rfl, _, rfl, ?_⟩
                      by_cases m6 : m ≤ 6
                      · rw [decide_eq_true (show ((m : Nat) : Int) ≤ 6 by omega)]
                        rw [decide_eq_true m6] at h
                        exact iteT h
                      · rw [decide_eq_false (show ¬ ((m : Nat) : Int) ≤ 6 by omega)]
                        rw [decide_eq_false m6] at h
                        exact iteF h
                    · rw [decide_eq_false (show ¬ (1 : Int) ≤ (m : Nat) by omega)]
                      rw [decide_eq_false m1, Bool.false_and] at h
                      exact iteF ⟨_, rfl, iteF h⟩
                  refine key _ _ rfl ?_
                  rw [← wd]
                  try dsimp only [tPart, tNoPart]
                  refine ⟨_, rfl, _, rfl, _, rfl, L, rfl, by omega, ?_⟩
                  generalize cutS L none (some (m : Int)) = x at wd wl ⊢
                  obtain ⟨k3, f3⟩ := three wl
                  have en : ∀ {σ : L2.St}, Ev (fun b => b = p) H6 σ (tTup tNil) (.tuple []) := tupE (occ p6) eva_nil
                  have vx : ∀ {σ : L2.St}, σ[13]? = some (some (V.str x)) → Ev (fun b => b = p) H6 σ (tVar 13) (.str x) := fun h => ev_var h (.str x)
                  try dsimp only
                  refine forL (K := K) (p := p) (l := l) [.tuple [.tuple [.tuple [.str "set", .str x, .int 1]], .tuple []], .tuple [.tuple [.tuple [.str "end", .str x]], .tuple []], .tuple [.tuple [], .tuple [.tuple [.str x, .tuple []]]]] p6 ?_ (of_decide_eq_true rfl) (fun σ Hx => ∃ a10 : Option V, σ = [some (V.ref a), some (V.ref p), a2, some (V.int (m : Nat)), some (dueV (wordD (.str x))), a5, a6, a7, a8, a9, a10, a11, some (V.str L), some (V.str x), a14] ∧ Pen Hx p l) (fun Hx sx => ⟨_, rfl, p6.same sx⟩) ?_ ?_
                  · exact eva_cons (tupE (occ p6) (eva_cons (tupE (occ p6) (eva_cons (tupE (occ p6) (eva_cons ev_str (eva_cons (vx rfl) (eva_cons ev_int eva_nil)))) eva_nil)) (eva_cons en eva_nil))) (eva_cons (tupE (occ p6) (eva_cons (tupE (occ p6) (eva_cons (tupE (occ p6) (eva_cons ev_str (eva_cons (vx rfl) eva_nil))) eva_nil)) (eva_cons en eva_nil))) (eva_cons (tupE (occ p6) (eva_cons en (eva_cons (tupE (occ p6) (eva_cons (tupE (occ p6) (eva_cons (vx rfl) (eva_cons en eva_nil))) eva_nil)) eva_nil))) eva_nil))
                  · rintro σ H7 y d hd dy ⟨a10, rfl, p7⟩ N1 hN1
                    dsimp only [gName]
                    refine if_ne (K := K) (N := fun b => b = p) (d := d) (b := wordD (.str x)) (ev_var rfl dy) (k3 d hd) (f3 d hd) (fun H' Q' h => ⟨_, rfl, h⟩) fun H8 s8 => ?_
                    exact hN1 _ _ ⟨_, rfl, p7.same s8⟩ (But.of s8)
                  · rintro σ H7 ⟨a10, rfl, p7⟩
                    exact ⟨_, _, _, _, _, _, _, _, _, _, _, _, rfl, p7⟩
                · rintro σ H6 ⟨a2, a3, a4, a5, a6, a7, a8, a9, a10, a11, a13, a14, rfl, p6⟩
                  exact t5 _ _ ⟨_, _, _, _, _, _, _, _, _, _, _, _, _, rfl, p6⟩
              · rintro σ H6 ⟨a2, a3, a4, a5, a6, a7, a8, a9, a10, a11, a12, a13, a14, rfl, p6⟩
                dsimp only [tRet, tAndV, tOp]
                refine ask (N := fun b => b = p) (d := .tuple [.tuple [.tuple [.str "end", .int 9]], .tuple []]) ?_ (known_top (k := 1) (by decide) (by decide +kernel) (cl_one st_end)) fun H7 s7 => ?_
                · exact tupE (occ p6) (eva_cons (tupE (occ p6) (eva_cons (tupE (occ p6) (eva_cons ev_str (eva_cons ev_int eva_nil))) eva_nil)) (eva_cons (tupE (occ p6) eva_nil) eva_nil))
                have p7 := p6.same s7
                rw [show formD (.tuple [.tuple [.tuple [.str "end", .int 9]], .tuple []]) = true by decide +kernel]
                refine ⟨rfl, _, rfl, ?_⟩
                rw [show decide (dueV true = V.non) = true from decide_eq_true rfl]
                refine iteT (ask (N := fun b => b = p) (d := .tuple [.tuple [.tuple [.str "end", .int 10]], .tuple []]) ?_ (.not (by decide +kernel) (by decide +kernel)) fun H8 s8 => ?_)
                · exact tupE (occ p7) (eva_cons (tupE (occ p7) (eva_cons (tupE (occ p7) (eva_cons ev_str (eva_cons ev_int eva_nil))) eva_nil)) (eva_cons (tupE (occ p7) eva_nil) eva_nil))
                rw [show formD (.tuple [.tuple [.tuple [.str "end", .int 10]], .tuple []]) = false by decide +kernel]
                refine ⟨rfl, ?_⟩
                rw [show decide (dueV false = V.str "form") = true from decide_eq_true rfl]
                exact q H8
end
theorem all_mk {w : World} {K : PySem.W.Frag} {h : Heap} {mg : Str → Option Value} {fa f0 f1 f2 f3 f4 f5 f6 f7 f8 f9 f10 f11 f12 f13 f14 f15 f16 f17 f18 f19 f20 f21 : Addr} (X : K.In h) (G : h.Ns mainGlobals mg) (hfa : mg "law" = some (.ref fa))
    {od0 an0 od1 an1 od2 an2 od3 an3 od4 an4 od5 an5 od6 an6 od7 an7 od8 an8 od9 an9 od10 an10 od11 an11 od12 an12 od13 an13 od14 an14 od15 an15 od16 an16 od17 an17 od18 an18 od19 an19 od20 an20 od21 an21 : Option Addr} {sl0 sl1 sl2 sl3 sl4 sl5 sl6 sl7 sl8 sl9 sl10 sl11 sl12 sl13 sl14 sl15 sl16 sl17 sl18 sl19 sl20 sl21 : Array (Option Value)} {oc0 kV0 dc0 pm0 cd0 ct0 oc1 kV1 dc1 pm1 cd1 ct1 oc2 kV2 dc2 pm2 cd2 ct2 oc3 kV3 dc3 pm3 cd3 ct3 oc4 kV4 dc4 pm4 cd4 ct4 oc5 kV5 dc5 pm5 cd5 ct5 oc6 kV6 dc6 pm6 cd6 ct6 oc7 kV7 dc7 pm7 cd7 ct7 oc8 kV8 dc8 pm8 cd8 ct8 oc9 kV9 dc9 pm9 cd9 ct9 oc10 kV10 dc10 pm10 cd10 ct10 oc11 kV11 dc11 pm11 cd11 ct11 oc12 kV12 dc12 pm12 cd12 ct12 oc13 kV13 dc13 pm13 cd13 ct13 oc14 kV14 dc14 pm14 cd14 ct14 oc15 kV15 dc15 pm15 cd15 ct15 oc16 kV16 dc16 pm16 cd16 ct16 oc17 kV17 dc17 pm17 cd17 ct17 oc18 kV18 dc18 pm18 cd18 ct18 oc19 kV19 dc19 pm19 cd19 ct19 oc20 kV20 dc20 pm20 cd20 ct20 oc21 kV21 dc21 pm21 cd21 ct21 : Value}
    {tL tM tD tN tG t0 t1 t2 t3 : Tok} {sa oa : Addr} {ses : Array DictEntry} {sn on : Nat}
    (a0 : PySem.W.nsIn K mainGlobals "_law_pen" = some (some (.ref f0))) (l0 : K.lookup f0 = some ⟨oc0, od0, .func (PySem.W.fnOf "_law_pen" "_law_pen" (defArgs sPen) (defBody sPen) (defScope sPen) .none kV0 dc0 pm0 an0 cd0 ct0), sl0⟩) (c0 : PySem.W.codeIn K cd0 "_law_pen" = true) (k0 : PySem.W.keepIn K (.ref f0) = true)
    (a1 : PySem.W.nsIn K mainGlobals "_law_fresh" = some (some (.ref f1))) (l1 : K.lookup f1 = some ⟨oc1, od1, .func (PySem.W.fnOf "_law_fresh" "_law_fresh" (defArgs sFresh) (defBody sFresh) (defScope sFresh) .none kV1 dc1 pm1 an1 cd1 ct1), sl1⟩) (c1 : PySem.W.codeIn K cd1 "_law_fresh" = true) (k1 : PySem.W.keepIn K (.ref f1) = true)
    (a2 : PySem.W.nsIn K mainGlobals "_law_draw" = some (some (.ref f2))) (l2 : K.lookup f2 = some ⟨oc2, od2, .func (PySem.W.fnOf "_law_draw" "_law_draw" (defArgs sDraw) (defBody sDraw) (defScope sDraw) .none kV2 dc2 pm2 an2 cd2 ct2), sl2⟩) (c2 : PySem.W.codeIn K cd2 "_law_draw" = true) (k2 : PySem.W.keepIn K (.ref f2) = true)
    (a3 : PySem.W.nsIn K mainGlobals "is_integer" = some (some (.ref f3))) (l3 : K.lookup f3 = some ⟨oc3, od3, .func (PySem.W.fnOf "is_integer" "is_integer" (defArgs sII) (defBody sII) (defScope sII) .none kV3 dc3 pm3 an3 cd3 ct3), sl3⟩) (c3 : PySem.W.codeIn K cd3 "is_integer" = true) (k3 : PySem.W.keepIn K (.ref f3) = true)
    (a4 : PySem.W.nsIn K mainGlobals "is_index" = some (some (.ref f4))) (l4 : K.lookup f4 = some ⟨oc4, od4, .func (PySem.W.fnOf "is_index" "is_index" (defArgs sIX) (defBody sIX) (defScope sIX) .none kV4 dc4 pm4 an4 cd4 ct4), sl4⟩) (c4 : PySem.W.codeIn K cd4 "is_index" = true) (k4 : PySem.W.keepIn K (.ref f4) = true)
    (a5 : PySem.W.nsIn K mainGlobals "is_tuple" = some (some (.ref f5))) (l5 : K.lookup f5 = some ⟨oc5, od5, .func (PySem.W.fnOf "is_tuple" "is_tuple" (defArgs sIT) (defBody sIT) (defScope sIT) .none kV5 dc5 pm5 an5 cd5 ct5), sl5⟩) (c5 : PySem.W.codeIn K cd5 "is_tuple" = true) (k5 : PySem.W.keepIn K (.ref f5) = true)
    (a6 : PySem.W.nsIn K mainGlobals "is_word" = some (some (.ref f6))) (l6 : K.lookup f6 = some ⟨oc6, od6, .func (PySem.W.fnOf "is_word" "is_word" (defArgs sIW) (defBody sIW) (defScope sIW) .none kV6 dc6 pm6 an6 cd6 ct6), sl6⟩) (c6 : PySem.W.codeIn K cd6 "is_word" = true) (k6 : PySem.W.keepIn K (.ref f6) = true)
    (a7 : PySem.W.nsIn K mainGlobals "is_expression" = some (some (.ref f7))) (l7 : K.lookup f7 = some ⟨oc7, od7, .func (PySem.W.fnOf "is_expression" "is_expression" (defArgs sIE) (defBody sIE) (defScope sIE) .none kV7 dc7 pm7 an7 cd7 ct7), sl7⟩) (c7 : PySem.W.codeIn K cd7 "is_expression" = true) (k7 : PySem.W.keepIn K (.ref f7) = true)
    (a8 : PySem.W.nsIn K mainGlobals "is_block" = some (some (.ref f8))) (l8 : K.lookup f8 = some ⟨oc8, od8, .func (PySem.W.fnOf "is_block" "is_block" (defArgs sIB) (defBody sIB) (defScope sIB) .none kV8 dc8 pm8 an8 cd8 ct8), sl8⟩) (c8 : PySem.W.codeIn K cd8 "is_block" = true) (k8 : PySem.W.keepIn K (.ref f8) = true)
    (a9 : PySem.W.nsIn K mainGlobals "is_statement" = some (some (.ref f9))) (l9 : K.lookup f9 = some ⟨oc9, od9, .func (PySem.W.fnOf "is_statement" "is_statement" (defArgs sIS) (defBody sIS) (defScope sIS) .none kV9 dc9 pm9 an9 cd9 ct9), sl9⟩) (c9 : PySem.W.codeIn K cd9 "is_statement" = true) (k9 : PySem.W.keepIn K (.ref f9) = true)
    (a10 : PySem.W.nsIn K mainGlobals "is_part" = some (some (.ref f10))) (l10 : K.lookup f10 = some ⟨oc10, od10, .func (PySem.W.fnOf "is_part" "is_part" (defArgs sPt) (defBody sPt) (defScope sPt) .none kV10 dc10 pm10 an10 cd10 ct10), sl10⟩) (c10 : PySem.W.codeIn K cd10 "is_part" = true) (k10 : PySem.W.keepIn K (.ref f10) = true)
    (a11 : PySem.W.nsIn K mainGlobals "is_form" = some (some (.ref f11))) (l11 : K.lookup f11 = some ⟨oc11, od11, .func (PySem.W.fnOf "is_form" "is_form" (defArgs sFm) (defBody sFm) (defScope sFm) .none kV11 dc11 pm11 an11 cd11 ct11), sl11⟩) (c11 : PySem.W.codeIn K cd11 "is_form" = true) (k11 : PySem.W.keepIn K (.ref f11) = true)
    (a12 : PySem.W.nsIn K mainGlobals "block_indices" = some (some (.ref f12))) (l12 : K.lookup f12 = some ⟨oc12, od12, .func (PySem.W.fnOf "block_indices" "block_indices" (defArgs sBI) (defBody sBI) (defScope sBI) .none kV12 dc12 pm12 an12 cd12 ct12), sl12⟩) (c12 : PySem.W.codeIn K cd12 "block_indices" = true) (k12 : PySem.W.keepIn K (.ref f12) = true)
    (a13 : PySem.W.nsIn K mainGlobals "list_in_block" = some (some (.ref f13))) (l13 : K.lookup f13 = some ⟨oc13, od13, .func (PySem.W.fnOf "list_in_block" "list_in_block" (defArgs sLB) (defBody sLB) (defScope sLB) .none kV13 dc13 pm13 an13 cd13 ct13), sl13⟩) (c13 : PySem.W.codeIn K cd13 "list_in_block" = true) (k13 : PySem.W.keepIn K (.ref f13) = true)
    (a14 : PySem.W.nsIn K mainGlobals "list_statements" = some (some (.ref f14))) (l14 : K.lookup f14 = some ⟨oc14, od14, .func (PySem.W.fnOf "list_statements" "list_statements" (defArgs sLS) (defBody sLS) (defScope sLS) .none kV14 dc14 pm14 an14 cd14 ct14), sl14⟩) (c14 : PySem.W.codeIn K cd14 "list_statements" = true) (k14 : PySem.W.keepIn K (.ref f14) = true)
    (a15 : PySem.W.nsIn K mainGlobals "called_words" = some (some (.ref f15))) (l15 : K.lookup f15 = some ⟨oc15, od15, .func (PySem.W.fnOf "called_words" "called_words" (defArgs sCW) (defBody sCW) (defScope sCW) .none kV15 dc15 pm15 an15 cd15 ct15), sl15⟩) (c15 : PySem.W.codeIn K cd15 "called_words" = true) (k15 : PySem.W.keepIn K (.ref f15) = true)
    (a16 : PySem.W.nsIn K mainGlobals "find_called" = some (some (.ref f16))) (l16 : K.lookup f16 = some ⟨oc16, od16, .func (PySem.W.fnOf "find_called" "find_called" (defArgs sFC) (defBody sFC) (defScope sFC) .none kV16 dc16 pm16 an16 cd16 ct16), sl16⟩) (c16 : PySem.W.codeIn K cd16 "find_called" = true) (k16 : PySem.W.keepIn K (.ref f16) = true)
    (a17 : PySem.W.nsIn K mainGlobals "program_error" = some (some (.ref f17))) (l17 : K.lookup f17 = some ⟨oc17, od17, .func (PySem.W.fnOf "program_error" "program_error" (defArgs sPE) (defBody sPE) (defScope sPE) .none kV17 dc17 pm17 an17 cd17 ct17), sl17⟩) (c17 : PySem.W.codeIn K cd17 "program_error" = true) (k17 : PySem.W.keepIn K (.ref f17) = true)
    (a18 : PySem.W.nsIn K mainGlobals "_law_deep_e" = some (some (.ref f18))) (l18 : K.lookup f18 = some ⟨oc18, od18, .func (PySem.W.fnOf "_law_deep_e" "_law_deep_e" (defArgs sDE) (defBody sDE) (defScope sDE) .none kV18 dc18 pm18 an18 cd18 ct18), sl18⟩) (c18 : PySem.W.codeIn K cd18 "_law_deep_e" = true) (k18 : PySem.W.keepIn K (.ref f18) = true)
    (a19 : PySem.W.nsIn K mainGlobals "_law_deep_block" = some (some (.ref f19))) (l19 : K.lookup f19 = some ⟨oc19, od19, .func (PySem.W.fnOf "_law_deep_block" "_law_deep_block" (defArgs sDB) (defBody sDB) (defScope sDB) .none kV19 dc19 pm19 an19 cd19 ct19), sl19⟩) (c19 : PySem.W.codeIn K cd19 "_law_deep_block" = true) (k19 : PySem.W.keepIn K (.ref f19) = true)
    (a20 : PySem.W.nsIn K mainGlobals "_law_words_right" = some (some (.ref f20))) (l20 : K.lookup f20 = some ⟨oc20, od20, .func (PySem.W.fnOf "_law_words_right" "_law_words_right" (defArgs sWR) (defBody sWR) (defScope sWR) .none kV20 dc20 pm20 an20 cd20 ct20), sl20⟩) (c20 : PySem.W.codeIn K cd20 "_law_words_right" = true) (k20 : PySem.W.keepIn K (.ref f20) = true)
    (a21 : PySem.W.nsIn K mainGlobals "law" = some (some (.ref f21))) (l21 : K.lookup f21 = some ⟨oc21, od21, .func (PySem.W.fnOf "law" "law" (defArgs sLaw) (defBody sLaw) (defScope sLaw) .none kV21 dc21 pm21 an21 cd21 ct21), sl21⟩) (c21 : PySem.W.codeIn K cd21 "law" = true) (k21 : PySem.W.keepIn K (.ref f21) = true)
    (z_list : PySem.W.nsIn K mainGlobals "list" = some none)
    (z_tuple : PySem.W.nsIn K mainGlobals "tuple" = some none)
    (z_len : PySem.W.nsIn K mainGlobals "len" = some none)
    (z_range : PySem.W.nsIn K mainGlobals "range" = some none)
    (z_zip : PySem.W.nsIn K mainGlobals "zip" = some none)
    (z_enumerate : PySem.W.nsIn K mainGlobals "enumerate" = some none)
    (z_int : PySem.W.nsIn K mainGlobals "int" = some none)
    (z_bool : PySem.W.nsIn K mainGlobals "bool" = some none)
    (z_str : PySem.W.nsIn K mainGlobals "str" = some none)
    (z_isinstance : PySem.W.nsIn K mainGlobals "isinstance" = some none)
    (z_all : PySem.W.nsIn K mainGlobals "all" = some none)
    (x_MAX_LETTERS : PySem.W.nsIn K mainGlobals "MAX_LETTERS" = some (some (.int 6 tL)))
    (x_MAX_STATEMENTS : PySem.W.nsIn K mainGlobals "MAX_STATEMENTS" = some (some (.int 20 tM)))
    (x_MAX_DEFS : PySem.W.nsIn K mainGlobals "MAX_DEFS" = some (some (.int 6 tD)))
    (x_MAX_NESTING : PySem.W.nsIn K mainGlobals "MAX_NESTING" = some (some (.int 6 tN)))
    (x_MAX_DIGIT : PySem.W.nsIn K mainGlobals "MAX_DIGIT" = some (some (.int 9 tG)))
    (x_SHAPES : PySem.W.nsIn K mainGlobals "SHAPES" = some (some (.ref sa)))
    (x_OPERATIONS : PySem.W.nsIn K mainGlobals "OPERATIONS" = some (some (.ref oa)))
    (y_S : K.lookup sa = some ⟨.type "dict", none, .dict ses sn, #[]⟩)
    (y_O : K.lookup oa = some ⟨.type "tuple", none, .seq #[.str "plus" t0, .str "less" t1, .str "alike" t2, .str "least" t3] on, #[]⟩)
    (y_L : PySem.W.KeysLit w.params ses.toList)
    (y_W : (sa == sysModules) = false)
    (y_V : Z.kvOf ses.toList = Z.shapes.map (fun p => (some p.1, some p.2)))
    : ∃ fd : FuncData, (∀ (s : Shared) (v : Value), BindsTo s fd ⟨[v], []⟩ [("script", v)]) ∧ ∀ base : Heap, K.In base → base.Ns mainGlobals mg → FnG (PySem.Challenge.rw_bentcoin_k62_bounds_of_programs).prog w K mg base 32 fa fd ["script"] (spLaw K) := by
  have e := hfa.symm.trans (PySem.W.mg_of X G a21)
  cases e
  have F0 := fun_mk (st := sPen) l0 c0 k0
  have b0 := F0.binds (ps := ["script"]) fun _ _ _ _ _ _ us hl => match us, hl with | [_], _ => rfl
  have F1 := fun_mk (st := sFresh) l1 c1 k1
  have b1 := F1.binds (ps := ["pen"]) fun _ _ _ _ _ _ us hl => match us, hl with | [_], _ => rfl
  have F2 := fun_mk (st := sDraw) l2 c2 k2
  have b2 := F2.binds (ps := ["pen", "many"]) fun _ _ _ _ _ _ us hl => match us, hl with | [_, _], _ => rfl
  have F3 := fun_mk (st := sII) l3 c3 k3
  have b3 := F3.binds (ps := ["value"]) fun _ _ _ _ _ _ us hl => match us, hl with | [_], _ => rfl
  have F4 := fun_mk (st := sIX) l4 c4 k4
  have b4 := F4.binds (ps := ["value", "size"]) fun _ _ _ _ _ _ us hl => match us, hl with | [_, _], _ => rfl
  have F5 := fun_mk (st := sIT) l5 c5 k5
  have b5 := F5.binds (ps := ["value", "size"]) fun _ _ _ _ _ _ us hl => match us, hl with | [_, _], _ => rfl
  have F6 := fun_mk (st := sIW) l6 c6 k6
  have b6 := F6.binds (ps := ["value"]) fun _ _ _ _ _ _ us hl => match us, hl with | [_], _ => rfl
  have F7 := fun_mk (st := sIE) l7 c7 k7
  have b7 := F7.binds (ps := ["value", "depth"]) fun _ _ _ _ _ _ us hl => match us, hl with | [_, _], _ => rfl
  have F8 := fun_mk (st := sIB) l8 c8 k8
  have b8 := F8.binds (ps := ["value", "depth"]) fun _ _ _ _ _ _ us hl => match us, hl with | [_, _], _ => rfl
  have F9 := fun_mk (st := sIS) l9 c9 k9
  have b9 := F9.binds (ps := ["value", "depth"]) fun _ _ _ _ _ _ us hl => match us, hl with | [_, _], _ => rfl
  have F10 := fun_mk (st := sPt) l10 c10 k10
  have b10 := F10.binds (ps := ["value", "letter", "depth"]) fun _ _ _ _ _ _ us hl => match us, hl with | [_, _, _], _ => rfl
  have F11 := fun_mk (st := sFm) l11 c11 k11
  have b11 := F11.binds (ps := ["value"]) fun _ _ _ _ _ _ us hl => match us, hl with | [_], _ => rfl
  have F12 := fun_mk (st := sBI) l12 c12 k12
  have b12 := F12.binds (ps := ["statement"]) fun _ _ _ _ _ _ us hl => match us, hl with | [_], _ => rfl
  have F13 := fun_mk (st := sLB) l13 c13 k13
  have b13 := F13.binds (ps := ["block", "path", "looped"]) fun _ _ _ _ _ _ us hl => match us, hl with | [_, _, _], _ => rfl
  have F14 := fun_mk (st := sLS) l14 c14 k14
  have b14 := F14.binds (ps := ["program"]) fun _ _ _ _ _ _ us hl => match us, hl with | [_], _ => rfl
  have F15 := fun_mk (st := sCW) l15 c15 k15
  have b15 := F15.binds (ps := ["block"]) fun _ _ _ _ _ _ us hl => match us, hl with | [_], _ => rfl
  have F16 := fun_mk (st := sFC) l16 c16 k16
  have b16 := F16.binds (ps := ["program", "word"]) fun _ _ _ _ _ _ us hl => match us, hl with | [_, _], _ => rfl
  have F17 := fun_mk (st := sPE) l17 c17 k17
  have b17 := F17.binds (ps := ["value"]) fun _ _ _ _ _ _ us hl => match us, hl with | [_], _ => rfl
  have F18 := fun_mk (st := sDE) l18 c18 k18
  have b18 := F18.binds (ps := ["pen", "many"]) fun _ _ _ _ _ _ us hl => match us, hl with | [_, _], _ => rfl
  have F19 := fun_mk (st := sDB) l19 c19 k19
  have b19 := F19.binds (ps := ["pen", "many", "last"]) fun _ _ _ _ _ _ us hl => match us, hl with | [_, _, _], _ => rfl
  have F20 := fun_mk (st := sWR) l20 c20 k20
  have b20 := F20.binds (ps := ["pen"]) fun _ _ _ _ _ _ us hl => match us, hl with | [_], _ => rfl
  have F21 := fun_mk (st := sLaw) l21 c21 k21
  refine ⟨PySem.W.fnOf "law" "law" (defArgs sLaw) (defBody sLaw) (defScope sLaw) .none kV21 dc21 pm21 an21 cd21 ct21, fun s v => .of_eq rfl, fun base _ _ => ?_⟩
  have N : Names mg := ⟨(PySem.W.mg_none_of X G z_list), (PySem.W.mg_none_of X G z_tuple), (PySem.W.mg_none_of X G z_len), (PySem.W.mg_none_of X G z_range)⟩
  have NI : NamesI mg := ⟨N, (PySem.W.mg_none_of X G z_isinstance)⟩
  have kS := shp_of y_S y_L y_W y_V
  have kO := ops_of y_O
  have m : ∀ {x : Str} {u : Value}, PySem.W.nsIn K mainGlobals x = some (some u) → mg x = some u := fun e => PySem.W.mg_of X G e
  have G0 := ok_pen (P := PySem.Challenge.pw_bentcoin_k62_bounds_of_programs) (w := w) (mg := mg) (base := base) F0 N
  have G1 := ok_fresh (P := PySem.Challenge.pw_bentcoin_k62_bounds_of_programs) (w := w) (mg := mg) (base := base) F1 N
  have G2 := ok_draw F2 G1 (m a1) k1 b1
  have G3 := ok_ii (P := PySem.Challenge.pw_bentcoin_k62_bounds_of_programs) (w := w) (mg := mg) (base := base) F3 NI (PySem.W.mg_none_of X G z_int) (PySem.W.mg_none_of X G z_bool)
  have G4 := ok_ix F4 G3 ⟨m a3, k3, b3⟩
  have G5 := ok_it (P := PySem.Challenge.pw_bentcoin_k62_bounds_of_programs) (w := w) (mg := mg) (base := base) F5 NI
  have G6 := ok_iw (P := PySem.Challenge.pw_bentcoin_k62_bounds_of_programs) (w := w) (mg := mg) (base := base) F6 NI (PySem.W.mg_none_of X G z_str) (PySem.W.mg_none_of X G z_all) (m x_MAX_LETTERS)
  have G7 := ok_ie F7 NI (m x_MAX_NESTING) (m x_MAX_DIGIT) (m x_OPERATIONS) kO G6 ⟨m a6, k6, b6⟩ G4 ⟨m a4, k4, b4⟩ ⟨m a7, k7, b7⟩
  have GB := ok_bk F8 F9 F10 NI (PySem.W.mg_none_of X G z_all) (PySem.W.mg_none_of X G z_str) (PySem.W.mg_none_of X G z_zip) (m x_MAX_NESTING) (m x_MAX_STATEMENTS) (m x_SHAPES) kS ⟨m a8, k8, b8⟩ ⟨m a9, k9, b9⟩ ⟨m a10, k10, b10⟩ G6 ⟨m a6, k6, b6⟩ (G7 6) ⟨m a7, k7, b7⟩
  have G11 := ok_fm F11 NI (m x_MAX_DEFS) G5 ⟨m a5, k5, b5⟩ (GB 6) ⟨m a8, k8, b8⟩ G6 ⟨m a6, k6, b6⟩
  have G12 := ok_bi (P := PySem.Challenge.pw_bentcoin_k62_bounds_of_programs) (w := w) (mg := mg) (base := base) F12 (PySem.W.mg_none_of X G z_enumerate) (m x_SHAPES) kS
  have G13 := ok_lb F13 NI (PySem.W.mg_none_of X G z_enumerate) ⟨m a13, k13, b13⟩ G12 ⟨m a12, k12, b12⟩
  have G14 := ok_ls F14 (PySem.W.mg_none_of X G z_enumerate) (G13 6) ⟨m a13, k13, b13⟩
  have G15 := ok_cw F15 (G13 6) ⟨m a13, k13, b13⟩
  have G16 := ok_fc F16 NI G15 ⟨m a15, k15, b15⟩
  have G17 := ok_pe F17 G11 ⟨m a11, k11, b11⟩ G14 ⟨m a14, k14, b14⟩ G16 ⟨m a16, k16, b16⟩
  have G18 := ok_de F18 NI G2 ⟨m a2, k2, b2⟩
  have G19 := ok_db F19 NI G2 ⟨m a2, k2, b2⟩
  have G20 := ok_wr F20 NI G2 ⟨m a2, k2, b2⟩ G17 ⟨m a17, k17, b17⟩
  exact ok_law F21 NI G0 ⟨m a0, k0, b0⟩ G2 ⟨m a2, k2, b2⟩ G18 ⟨m a18, k18, b18⟩ G19 ⟨m a19, k19, b19⟩ G20 ⟨m a20, k20, b20⟩ G17 ⟨m a17, k17, b17⟩
end Z
open PySem PySem.W PyProof.Rows
set_option maxRecDepth 100000 in
set_option maxHeartbeats 0 in
theorem PySem.Challenge.cw_bentcoin_k62_bounds_of_programs_holds : PySem.Challenge.rw_bentcoin_k62_bounds_of_programs.Holds := by
  w_on; o_law; k_head; (case hw => w_witness2)
  k_fill
  refine GG.walkG (l := PySem.Challenge.rw_bentcoin_k62_bounds_of_programs) (n := 63) (k := 32) (x := "script") (sp := Z.spLaw) rfl (by decide) rfl ⟨rfl, by decide, by decide⟩ (fun w h Y => PySem.W.kIn_of Y) ?F (fun _ _ a ns hl hS => ⟨a, ns, rfl, hS, hl, fun _ => rfl⟩)
  case F =>
    intro w mg fa h KX G hmg
    refine' Z.all_mk KX G hmg ?a0 ?l0 ?c0 ?k0 ?a1 ?l1 ?c1 ?k1 ?a2 ?l2 ?c2 ?k2 ?a3 ?l3 ?c3 ?k3 ?a4 ?l4 ?c4 ?k4 ?a5 ?l5 ?c5 ?k5 ?a6 ?l6 ?c6 ?k6 ?a7 ?l7 ?c7 ?k7 ?a8 ?l8 ?c8 ?k8 ?a9 ?l9 ?c9 ?k9 ?a10 ?l10 ?c10 ?k10 ?a11 ?l11 ?c11 ?k11 ?a12 ?l12 ?c12 ?k12 ?a13 ?l13 ?c13 ?k13 ?a14 ?l14 ?c14 ?k14 ?a15 ?l15 ?c15 ?k15 ?a16 ?l16 ?c16 ?k16 ?a17 ?l17 ?c17 ?k17 ?a18 ?l18 ?c18 ?k18 ?a19 ?l19 ?c19 ?k19 ?a20 ?l20 ?c20 ?k20 ?a21 ?l21 ?c21 ?k21 ?z_list ?z_tuple ?z_len ?z_range ?z_zip ?z_enumerate ?z_int ?z_bool ?z_str ?z_isinstance ?z_all ?x_MAX_LETTERS ?x_MAX_STATEMENTS ?x_MAX_DEFS ?x_MAX_NESTING ?x_MAX_DIGIT ?x_SHAPES ?x_OPERATIONS ?y_S ?y_O ?y_L ?y_W ?y_V
    (case a0 => k_is)
    (case l0 => k_is)
    (case c0 => k_is)
    (case k0 => k_is)
    (case a1 => k_is)
    (case l1 => k_is)
    (case c1 => k_is)
    (case k1 => k_is)
    (case a2 => k_is)
    (case l2 => k_is)
    (case c2 => k_is)
    (case k2 => k_is)
    (case a3 => k_is)
    (case l3 => k_is)
    (case c3 => k_is)
    (case k3 => k_is)
    (case a4 => k_is)
    (case l4 => k_is)
    (case c4 => k_is)
    (case k4 => k_is)
    (case a5 => k_is)
    (case l5 => k_is)
    (case c5 => k_is)
    (case k5 => k_is)
    (case a6 => k_is)
    (case l6 => k_is)
    (case c6 => k_is)
    (case k6 => k_is)
    (case a7 => k_is)
    (case l7 => k_is)
    (case c7 => k_is)
    (case k7 => k_is)
    (case a8 => k_is)
    (case l8 => k_is)
    (case c8 => k_is)
    (case k8 => k_is)
    (case a9 => k_is)
    (case l9 => k_is)
    (case c9 => k_is)
    (case k9 => k_is)
    (case a10 => k_is)
    (case l10 => k_is)
    (case c10 => k_is)
    (case k10 => k_is)
    (case a11 => k_is)
    (case l11 => k_is)
    (case c11 => k_is)
    (case k11 => k_is)
    (case a12 => k_is)
    (case l12 => k_is)
    (case c12 => k_is)
    (case k12 => k_is)
    (case a13 => k_is)
    (case l13 => k_is)
    (case c13 => k_is)
    (case k13 => k_is)
    (case a14 => k_is)
    (case l14 => k_is)
    (case c14 => k_is)
    (case k14 => k_is)
    (case a15 => k_is)
    (case l15 => k_is)
    (case c15 => k_is)
    (case k15 => k_is)
    (case a16 => k_is)
    (case l16 => k_is)
    (case c16 => k_is)
    (case k16 => k_is)
    (case a17 => k_is)
    (case l17 => k_is)
    (case c17 => k_is)
    (case k17 => k_is)
    (case a18 => k_is)
    (case l18 => k_is)
    (case c18 => k_is)
    (case k18 => k_is)
    (case a19 => k_is)
    (case l19 => k_is)
    (case c19 => k_is)
    (case k19 => k_is)
    (case a20 => k_is)
    (case l20 => k_is)
    (case c20 => k_is)
    (case k20 => k_is)
    (case a21 => k_is)
    (case l21 => k_is)
    (case c21 => k_is)
    (case k21 => k_is)
    (case z_list => k_is)
    (case z_tuple => k_is)
    (case z_len => k_is)
    (case z_range => k_is)
    (case z_zip => k_is)
    (case z_enumerate => k_is)
    (case z_int => k_is)
    (case z_bool => k_is)
    (case z_str => k_is)
    (case z_isinstance => k_is)
    (case z_all => k_is)
    (case x_MAX_LETTERS => k_is)
    (case x_MAX_STATEMENTS => k_is)
    (case x_MAX_DEFS => k_is)
    (case x_MAX_NESTING => k_is)
    (case x_MAX_DIGIT => k_is)
    (case x_SHAPES => k_is)
    (case x_OPERATIONS => k_is)
    (case y_S => k_is)
    (case y_O => k_is)
    (case y_L => exact ⟨⟨_, _, rfl, rfl⟩, ⟨_, _, rfl, rfl⟩, ⟨_, _, rfl, rfl⟩, ⟨_, _, rfl, rfl⟩, ⟨_, _, rfl, rfl⟩, ⟨_, _, rfl, rfl⟩, ⟨_, _, rfl, rfl⟩, trivial⟩)
    (case y_W => rfl)
    (case y_V => rfl)
