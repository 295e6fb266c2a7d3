import PyProof.Rows.All
import Wide.All
import OpenK.AllK
import Wide.FinOn
import HandS.ForMost
import HandS.Defaults
import HandS.Wide
import HandS.Rev
import HandS.Flow
import KE.GoesEnum
import KE.DataAny
import HandS.TupAny
import HandS.RevRange
import HandS.Zip
import HandS.Star
import HandS.IsInst
import HandS.WideBits
import HandS.Gcd
import KE.DataEq
import KE.DataMinMax
import HandS.List
import HandS.StrMore
import HandS.Conv
import HandS.TupMul
import PySem.Challenge.RW_bentcoin_k44_chances_of_recipes
set_option Elab.async false
set_option maxRecDepth 100000
set_option maxHeartbeats 4000000
/-! Defs that are run where no text of an object is being made: so that repr gives the whole text. -/
namespace GG
open PySem PySem.Spec PyProof.Rows L2
section
variable {P : Program} {w : World} {K : PySem.W.Frag} {mg : Str → Option Value} {base : Heap}
structure FnG (P : Program) (w : World) (K : PySem.W.Frag) (mg : Str → Option Value) (base : Heap) (k : Nat) (f : Addr) (fd : FuncData) (ps : List Str) (sp : Sp) : Prop where
  size : ∀ vs H Q E, sp vs H Q E → vs.length = ps.length
  goes : ∀ (A : Around) (o : List Env) (s : Shared) (H : Hp) (ar : Args) (us : List Value) (vs : List V) (Q : VK) (E : XK),
    A.guards = some [] → Room k A → Env0 P w K mg base A o s H → BindsTo s fd ar (ps.zip us) → Vals vs us → sp vs H Q E →
    codeAny (model P w) A (.call (.ref f) ar) (CR CX0 o P w H s Q E) s

theorem fnG_of {x qual : Str} {st : Stmt} {f : Addr} {fd : FuncData} {N ps : List Str} {k : Nat} {sp : Sp}
    (F : Fun K x qual st f fd) (S : FnScope N ps (defScope st)) (size : ∀ vs H Q E, sp vs H Q E → vs.length = ps.length)
    (body : ∀ (cd : Value) (A : Around) (o : List Env) (s : Shared) (H : Hp) (vs : List V) (Q : VK) (E : XK),
      A.guards = some [] → Room k (A.deeper (envOfC qual (defScope st) s.heap.objs.size f cd)) → sp vs H Q E →
      ∃ t, PSs (cxOf CX0 P w K mg base N qual (defScope st) f cd A o s H E).nox (defBody st) t ∧
        t { nx := fun _ H' => Q .non H', rt := Q } (start N vs) H) :
    FnG P w K mg base (k + 1) f fd ps sp := by
  obtain ⟨oc, od, kV, doc, pm, an, cd, ct, slots, rfl, found, code⟩ := F.ex
  refine ⟨size, ?_⟩
  intro A o s H ar us vs Q E gA room e0 hbind given asked
  have inK : K.In s.heap := e0.mod.kin.keeps fun b u e => (e0.bs b u e).1
  have free : s.heap.NoLimit := e0.mod.nolimit.keeps fun b u e => (e0.bs b u e).1
  have many := size vs H Q E asked
  have kinds : ∀ y ∈ ps.zip us, (defScope st).names.lookup y.1 = some .local ∨ ((defScope st).names.lookup y.1 = some .cell ∧
      ((cellsFrom (s.heap.objs.size + 1) (defScope st).names []).lookup y.1).isSome = true) := by
    rintro ⟨n, v⟩ hy
    cases S.par n (List.of_mem_zip hy).1 with
    | inl q => exact Or.inl q
    | inr q => exact Or.inr ⟨q, PySem.W.cellsFrom_some _ _ _ (Or.inl q)⟩
  apply codeAny_call_function room.depth (inK _ _ found) rfl S.co S.gen rfl (PySem.W.codeRec_of inK code)
  apply hbind
  apply wpAny_newFunctionEnv_cells S.kind kinds
  intro env he s1 ready
  subst he
  refine ⟨free.keeps ready.toInCall.keep, ?_⟩
  apply codeAny_func
  obtain ⟨t, ht, hq⟩ := body cd A o s H vs Q E gA (room.deeper _) asked
  have first := inv_start (E := E) (CX := CX0) S room.hd e0 many given ready
  refine wpAny_mono (ht.nox.run [] s1 (start N vs) H _ first hq) (fun fl s' hs => ?_) (fun e s' hs => hs)
  cases fl with
  | next =>
    obtain ⟨σ', H', J, q⟩ := hs
    exact ⟨V.non, H', J.os, J.bare, J.base, J.hok, rfl, q⟩
  | ret u =>
    obtain ⟨v, σ', H', J, rv, q⟩ := hs
    exact ⟨v, H', J.os, J.bare, J.base, J.hok, rv, q⟩
  | brk => exact hs.elim fun _ z => z.elim fun _ z => z.elim fun _ z => z.elim
  | cont => exact hs.elim fun _ z => z.elim fun _ z => z.elim fun _ z => z.elim

/-- what is left of the heap when the script stands alone in it -/
def one (a : Addr) (o : HO) : Hp := fun b => if b = a then some o else none
theorem one_at {a : Addr} {o : HO} : one a o a = some o := if_pos rfl
theorem one_no {a b : Addr} {o : HO} (h : b ≠ a) : one a o b = none := if_neg h

section
variable {mb : Str → Option Value} {k : Nat} {fa a : Addr} {fd : FuncData} {x : Str} {sp : Sp} {s₁ : Shared} {vs : List Value} {ns : List Int}
abbrev Fine (s₁ : Shared) (r : Result) (s' : Shared) : Prop := r = .ok (.ret (.bool true)) ∧ OldK s₁.heap s'.heap ∧ s'.os = s₁.os ∧ AllBare s'.gens

/-- from a heap in which at most the script is told of -/
theorem from_heap {H : Hp} (inK : K.In (hidT s₁.heap H)) (names : (hidT s₁.heap H).Ns mainGlobals mg) (blt : (hidT s₁.heap H).Ns builtinsNs mb)
    (known : ∀ y : Str, y ≠ "__name__" → mb y = bootBuiltins y) (free : (hidT s₁.heap H).NoLimit) (none_ : s₁.gens = #[])
    (alone : ∀ b, H b = none ∨ ∃ o xs, H b = some (.frz o (.lst xs))) (hok : HOk P w H s₁.heap) (room : Room k callerA)
    (F : FnG P w K mg (hidT s₁.heap H) k fa fd [x] sp) (binds : ∀ (s : Shared) (u : Value), BindsTo s fd ⟨[u], []⟩ [(x, u)])
    (asked : sp [.ref a] H (fun v _ => v = .bl true) fun _ _ _ => False) :
    codeAny (model P w) callerA (.call (.ref fa) ⟨[.ref a], []⟩) (Fine s₁) s₁ := by
  have entry : Env0 P w K mg (hidT s₁.heap H) callerA [] s₁ H :=
    { frames := rfl, mod := ⟨inK, names, ⟨mb, blt, known⟩, free⟩, bs := fun b u e => of_hidT e, bsz := Nat.le_of_eq (hidT_size _ _), funs := trivial,
      frf := fun b hb => absurd (show b ∈ ([] : List Addr) from hb) (by simp), hok := hok, bare := .of_eq none_ }
  have run := F.goes callerA [] s₁ H ⟨[.ref a], []⟩ [.ref a] [.ref a] _ _ rfl room entry (binds s₁ (.ref a)) (.cons rfl .nil) asked
  refine codeAny_mono run fun r s' got => ?_
  cases r with
  | error e => exact False.elim got
  | ok fl =>
    cases fl with
    | ret u =>
      obtain ⟨v, H', os, bare, un, hok', ru, yes⟩ := got
      have yes' : v = .bl true := yes
      subst yes'
      have eu : u = Value.bool true := ru
      subst eu
      refine ⟨rfl, OldK.of_keep ?_, os, bare⟩
      intro b u e
      rcases alone b with q | ⟨ob, xs, q⟩
      · exact un.keep b u e q (fun z => absurd (show b ∈ ([] : List Addr) from z) (by simp)) (by simp)
      · have e1 := (hok b _ q).1
        have e2 := (hok' b _ (un.frzs b ob _ q)).1
        rw [e] at e1
        cases e1
        exact e2
    | next => exact False.elim got
    | brk => exact False.elim got
    | cont => exact False.elim got
/-- the law's call, its promise once -/
theorem lawG (inK : K.In s₁.heap) (names : s₁.heap.Ns mainGlobals mg) (blt : s₁.heap.Ns builtinsNs mb) (known : ∀ y : Str, y ≠ "__name__" → mb y = bootBuiltins y)
    (free : s₁.heap.NoLimit) (none_ : s₁.gens = #[]) (script : s₁.heap.get? a = some { cls := .type "list", data := .seq vs.toArray }) (nums : IntsAre vs ns)
    (few : ns.length ≤ sizeLine) (room : Room k callerA) (F : ∀ base : Heap, K.In base → base.Ns mainGlobals mg → FnG P w K mg base k fa fd [x] sp)
    (binds : ∀ (s : Shared) (u : Value), BindsTo s fd ⟨[u], []⟩ [(x, u)]) (asked : ∀ H : Hp, SqL K H a (ns.map V.int) → sp [.ref a] H (fun v _ => v = .bl true) fun _ _ _ => False) :
    codeAny (model P w) callerA (.call (.ref fa) ⟨[.ref a], []⟩) (Fine s₁) s₁ := by
  have rel := vals_ints nums
  have len := nums.length
  cases look : K.lookup a with
  | some o =>
    have e := inK a o look
    rw [script] at e
    cases e
    have keep : ∀ {b : Addr} {u : Obj}, s₁.heap.get? b = some u → (hidT s₁.heap fun _ => none).get? b = some u := fun e => hidT_get e rfl
    have ns' : ∀ {b : Addr} {m : Str → Option Value}, s₁.heap.Ns b m → (hidT s₁.heap fun _ => none).Ns b m := fun ⟨o, es, ep, e, d, r⟩ => ⟨o, es, ep, keep e, d, r⟩
    have inK' : K.In (hidT s₁.heap fun _ => none) := fun b u e => keep (inK b u e)
    refine from_heap inK' (ns' names) (ns' blt) known (let ⟨mc, h1, h2⟩ := free; ⟨mc, ns' h1, h2⟩) none_ (fun _ => .inl rfl) (fun b u z => nomatch z) room (F _ inK' (ns' names)) binds ?_
    exact asked _ (.inr ⟨_, vs.toArray, _, look, rfl, rfl, rfl, by rw [List.size_toArray, len]; exact few, by simpa using rel⟩)
  | none =>
    have keep : ∀ {b : Addr} {u : Obj}, b ≠ a → s₁.heap.get? b = some u → (hidT s₁.heap (one a (.frz { cls := .type "list", data := .seq vs.toArray } (.lst (ns.map V.int))))).get? b = some u := fun n e => hidT_get e (one_no n)
    have ns' : ∀ {b : Addr} {m : Str → Option Value}, s₁.heap.Ns b m → (hidT s₁.heap (one a (.frz { cls := .type "list", data := .seq vs.toArray } (.lst (ns.map V.int))))).Ns b m := by
      rintro b m ⟨o, es, ep, e, d, r⟩
      refine ⟨o, es, ep, keep (fun z => ?_) e, d, r⟩
      rw [z, script] at e
      cases e
      cases d
    have inK' : K.In (hidT s₁.heap (one a (.frz { cls := .type "list", data := .seq vs.toArray } (.lst (ns.map V.int))))) := fun b u e => keep (fun z => by rw [z, look] at e; cases e) (inK b u e)
    refine from_heap inK' (ns' names) (ns' blt) known (let ⟨mc, h1, h2⟩ := free; ⟨mc, ns' h1, h2⟩) none_ (fun b => ?_) (fun b u z => ?_) room (F _ inK' (ns' names)) binds (asked _ (.inl (.inr ⟨_, one_at⟩)))
    · by_cases e : b = a
      · exact .inr ⟨_, _, by rw [e]; exact one_at⟩
      · exact .inl (one_no e)
    · by_cases e : b = a
      · subst e
        have z' := one_at.symm.trans z
        cases z'
        exact ⟨script, by rw [List.length_map]; exact few, vs, _, rel, script⟩
      · have z' := (one_no e).symm.trans z
        cases z'
end
end
/-- the end of a proof: as the layer's own, for such a promise -/
theorem walkG {l : PySem.W.OpenLaw} {n k : Nat} {q : Program} {loose : List Str} {XP : (Str → Option Value) → Heap → Prop} {YP : World → Heap → Prop} {d : DefRec} {K : Params → PySem.W.Frag}
    {sp : PySem.W.Frag → Sp} {x : Str} (most : l.most = some n) (few : n ≤ sizeLine) (plain : d.params.defaults = []) (room : Room k callerA) (inY : ∀ (w : World) (h : Heap), YP w h → (K w.params).In h)
    (F : ∀ (w : World) (mg : Str → Option Value) (fa : Addr) (h : Heap), (K w.params).In h → h.Ns mainGlobals mg → mg d.name = some (.ref fa) →
      ∃ fd : FuncData, (∀ (s : Shared) (u : Value), BindsTo s fd ⟨[u], []⟩ [(x, u)]) ∧
        ∀ base : Heap, (K w.params).In base → base.Ns mainGlobals mg → FnG l.prog w (K w.params) mg base k fa fd [x] (sp (K w.params)))
    (asked : ∀ (K : PySem.W.Frag) (H : Hp) (a : Addr) (ns : List Int), ns.length ≤ n → SqL K H a (ns.map V.int) → sp K [.ref a] H (fun v _ => v = .bl true) fun _ _ _ => False) :
    PySem.W.WalkO q loose XP YP l.row.toRowW d [] (fun f vs => PySem.call f vs) := by
  apply Att.attach_call most plain
  intro w s₀ s₁ mg mb fa o pm cd doc a vs ns G Y _ _ _ named script nums size none_
  have inK := inY w _ Y
  obtain ⟨fd, binds, hF⟩ := F w mg fa _ inK G.T.g named
  exact lawG inK G.T.g G.T.b G.T.builtins G.T.nolimit none_ script nums (Nat.le_trans size few) room hF binds fun H hs => asked _ H a ns size hs

/-! the text of data -/
/-- data whose text is made: no dict, no int too long, not too deep, not too many -/
structure Shows (d : PyData) (deep many : Nat) : Prop where
  s : d.showable = true
  l : d.leavesShort 1922 = true
  h : d.hasDict = false
  p : d.depth ≤ deep
  b : d.bulk ≤ many
theorem Shows.mono {d : PyData} {a b a' b' : Nat} (x : Shows d a b) (h1 : a ≤ a') (h2 : b ≤ b') : Shows d a' b' := ⟨x.s, x.l, x.h, Nat.le_trans x.p h1, Nat.le_trans x.b h2⟩
theorem Shows.room {d : PyData} (x : Shows d 50 8000) : d.shown.length ≤ sizeLine := by
  have h := PyData.shown_le_bulk 1922 (by decide) d x.l
  have hb := x.b
  have e : sizeLine = 16777216 := by decide
  have := Nat.mul_le_mul_left 1924 hb
  omega
theorem short_int {i : Int} (h : i.natAbs.log2 < 1920) : (PyData.int i).leavesShort 1922 = true := by
  simp only [PyData.leavesShort, decide_eq_true_eq]
  have e := int_text_length_le (k := 1920) (by decide) h
  rw [PyData.shown_int, PySem.ofString_length]
  omega
theorem ints_show : ∀ {ns : List Int}, (∀ n ∈ ns, n.natAbs.log2 < 1920) → PyData.showableAll (ns.map PyData.int) = true ∧ PyData.leavesShortAll 1922 (ns.map PyData.int) = true ∧ PyData.hasDictAll (ns.map PyData.int) = false ∧ PyData.depthAll (ns.map PyData.int) = 0 ∧ PyData.bulkAll (ns.map PyData.int) = ns.length
  | [], _ => ⟨rfl, rfl, rfl, rfl, rfl⟩
  | n :: r, h => by
    obtain ⟨h1, h2, h3, h4, h5⟩ := ints_show (ns := r) fun m hm => h m (List.mem_cons_of_mem _ hm)
    have hn := h n List.mem_cons_self
    have hs := short_int hn
    refine ⟨?_, ?_, ?_, ?_, ?_⟩
    · simp [PyData.showableAll, PyData.showable, h1, hn]
    · simp [PyData.leavesShortAll, h2, hs]
    · simp [PyData.hasDictAll, PyData.hasDict, h3]
    · simp [PyData.depthAll, PyData.depth, h4]
    · simp [PyData.bulkAll, PyData.bulk, h5]; omega
theorem shows_ints {ns : List Int} (h : ∀ n ∈ ns, n.natAbs.log2 < 1920) : Shows (.tuple (ns.map PyData.int)) 1 ns.length := by
  obtain ⟨h1, h2, h3, h4, h5⟩ := ints_show h
  exact ⟨by simp [PyData.showable, h1], by simp [PyData.leavesShort, h2], by simp [PyData.hasDict, h3], by simp [PyData.depth, h4], by simp [PyData.bulk, h5]⟩
section
variable {X : Cx}
def rRepr (K : PySem.W.Frag) : List V → Hp → VK → Prop := fun vs H Q => ∃ (a : Addr) (d : PyData), vs = [.ref a] ∧ Dp K H (.ref a) d ∧ Shows d 50 8000 ∧ Q (.str d.shown) H
theorem call_repr {k : Nat} (hg : X.A.guards = some []) (room : Room k X.A) : CallR X (.builtin "repr") (rRepr X.K) := by
  intro pins s σ H vs us Q I r h
  obtain ⟨a, d, rfl, hd, hs, q⟩ := h
  obtain ⟨u, rfl, ru⟩ := vals1 r
  have eu : u = Value.ref a := ru
  subst eu
  obtain ⟨as, reads⟩ := Dp.reads I d (.ref a) (.ref a) hd rfl
  have hu := room.un
  have hp := hs.p
  refine repr_of_reads' reads hs.s (fun e => by rw [hs.h] at e; cases e) hg (by omega) (fun _ _ e => e) (fun h' u tk hk => ?_) hs.room
  exact ⟨.str d.shown, H, I.kept hk, ⟨u, rfl⟩, q⟩
/-! x *= e of ints -/
theorem ip_mulW : PIp X .Mult (fun x y H Q => ∃ i j : Int, x = .int i ∧ y = .int j ∧ IntMulOk i j ∧ Q (.int (i * j)) H) := by
  intro pins s σ H x y v u Q I rx ry h
  obtain ⟨i, j, ex, ey, ok, q⟩ := h
  subst ex ey
  obtain ⟨t, et⟩ := rx
  obtain ⟨t', et'⟩ := ry
  subst et et'
  exact imul_int ⟨V.int (i * j), H, I.tok _, ⟨_, rfl⟩, q⟩ ok
/-! f(k = v, ..): all by their names -/
variable {CX : CXT} {k : Nat} {f : Addr} {fd : FuncData} {ps ks : List Str} {sp : Sp} {E : XK} {x : Str} {p pos : Pos} {kws : List Keyword} {t tk : TA}
  {g : List Value → List Value → List Value} {gV : List V → List V → List V}
def tNamed (sp : Sp) (gV : List V → List V → List V) (E : XK) (m : Nat) (tk : TA) : TE := fun σ H Q => tk σ H fun zs H1 => zs.length = m ∧ sp (gV [] zs) H1 Q E
theorem pe_named (F : FnOk X.prog X.w X.K X.mg X.base CX k f fd ps sp) (room : Room k X.A) (glob : Gl X x) (is : X.mg x = some (.ref f)) (keep : PySem.W.keepIn X.K (.ref f) = true)
    (bound : KBn X.K fd ps 0 ks g gV) (pass : Passes CX X E) (args : PK X kws tk) (all : (backToKw pos (keywordEach kws X.env)).all (·.1.isSome) = true := by rfl)
    (names : (backToKw pos (keywordEach kws X.env)).filterMap (·.1) = ks := by rfl) (nodebug : (x == ("__debug__" : Str)) = false := by decide)
    (plain : ((backTo pos (starEach [] X.env)).any (·.1) || (backToKw pos (keywordEach kws X.env)).any (·.1.isNone)) = false := by rfl) :
    PE X (.Call (.Name x p) [] kws pos) (tNamed sp gV E ks.length tk) := by
  constructor
  intro pins s σ H Q I h
  apply wpAny_Call_Name_kw
  refine ld_glob I glob is ?_ nodebug
  apply PySem.W.callWith_KW0 I.ok.mod.kin keep all _ plain
  have run := args.run pos pins s σ H _ I h
  refine thn run fun ws s2 done => ?_
  obtain ⟨zs, H2, I2, rz, many, q⟩ := done
  refine ⟨I2.kIn, ?_⟩
  rw [names]
  have few : ws.length = ks.length := by rw [← rz.length]; exact many
  first
  | exact run_fnN (us := []) (vs := []) F room bound pass I2 .nil rz rfl few q
  | exact run_fnN (us := []) (vs := []) F room bound pass I2 .nil rz rfl many q
def turned {α : Type} : List α → List α
  | [u, v] => [v, u]
  | l => l
theorem turned_vals : ∀ {zs : List V} {ws : List Value}, Vals zs ws → Vals (turned zs) (turned ws)
  | _, _, .nil => .nil
  | _, _, .cons a .nil => .cons a .nil
  | _, _, .cons a (.cons b .nil) => .cons b (.cons a .nil)
  | _, _, .cons a (.cons b (.cons c r)) => .cons a (.cons b (.cons c r))
/-- two parameters, both by name, the second ahead -/
theorem named2 {K : PySem.W.Frag} {x qual : Str} {st : Stmt} {a b : Str} (F : Fun K x qual st f fd)
    (h : ∀ (kV doc pm : Value) (an : Option Addr) (cd ct u v : Value), bindArgs (PySem.W.fnOf x qual (defArgs st) (defBody st) (defScope st) .none kV doc pm an cd ct) ⟨[], [(b, u), (a, v)]⟩ = pure [(a, v), (b, u)]) :
    KBn K fd [a, b] 0 [b, a] (fun _ ws => turned ws) (fun _ zs => turned zs) := by
  obtain ⟨oc, od, kV, doc, pm, an, cd, ct, slots, rfl, found, code⟩ := F.ex
  refine ⟨fun s us ws _ l0 l2 => ?_, fun _ r => turned_vals r⟩
  match us, ws, l0, l2 with
  | [], [u, v], _, _ => exact .of_eq (h kV doc pm an cd ct u v)
theorem max_is (calm : X.calm = true) : CallR X (.builtin "max") (fun vs H Q => ∃ i j k : Int, vs = [.int i, .int j] ∧ k = (if j > i then j else i) ∧ Q (.int k) H) := by
  intro pins s σ H vs us Q I r h
  obtain ⟨i, j, k, e, ek, q⟩ := h
  subst ek
  exact call_max2 calm pins s σ H vs us Q I r ⟨i, j, e, q⟩
/-! a def that wants that no text is being made, called -/
theorem pe_callG {F : FuncData} {es : List Expr} {e : Expr} (G : FnG X.prog X.w X.K X.mg X.base k f F ps sp) (quiet : X.A.guards = some []) (room : Room k X.A) (glob : Gl X x) (is : X.mg x = some (.ref f)) (keep : PySem.W.keepIn X.K (.ref f) = true)
    (bound : Binds X.K F ps []) (args : PA X (e :: es) t) (nodebug : (x == ("__debug__" : Str)) = false := by decide) (star : starEach (e :: es) X.env = (false, eval e X.env) :: starEach es X.env := by rfl)
    (plain : (backTo pos (starEach es X.env)).any (·.1) = false := by rfl) : PE X (.Call (.Name x p) (e :: es) [] pos) (tCall sp [] E0 t) := by
  constructor
  intro pins s σ H Q I h
  apply wpAny_Call_Name_kw
  refine ld_glob I glob is ?_ nodebug
  refine PySem.W.callWith_K (h₀ := X.base) I.ok.mod.kin keep (thn (args.run pos pins s σ H _ I h) fun us s1 got => ?_) star plain
  obtain ⟨vs, H1, I1, r, asked⟩ := got
  refine ⟨I1.kIn, ?_⟩
  have asked' : sp vs H1 Q E0 := by simpa using asked
  have many : (us ++ []).length = ps.length := by rw [List.append_nil, ← r.length]; exact G.size _ _ _ _ asked'
  have bind := bound s1 us I1.kIn many
  rw [List.append_nil] at bind
  apply wpAny_call
  refine codeAny_mono (G.goes X.A X.stack s1 H1 ⟨us, []⟩ us vs Q E0 quiet room I1.env0 bind r asked') fun res s' hq => ?_
  cases res with
  | error e => exact False.elim hq
  | ok fl =>
    cases fl with
    | ret u => exact I1.after hq
    | next => exact False.elim hq
    | brk => exact False.elim hq
    | cont => exact False.elim hq
/-! repr of None, or of data -/
def rRepr2 (K : PySem.W.Frag) : List V → Hp → VK → Prop := fun vs H Q => (vs = [.non] ∧ Q (.str "None") H) ∨ rRepr K vs H Q
theorem call_repr2 {k : Nat} (hg : X.A.guards = some []) (room : Room k X.A) : CallR X (.builtin "repr") (rRepr2 X.K) := by
  intro pins s σ H vs us Q I r h
  rcases h with ⟨ev, q⟩ | h
  · subst ev
    obtain ⟨u, eu, ru⟩ := vals1 r
    subst eu
    have e : u = Value.none := ru
    subst e
    exact PySem.P.repr_of_none ⟨.str _, H, I.tok _, ⟨_, rfl⟩, q⟩
  · exact call_repr hg room pins s σ H vs us Q I r h
end
end GG

set_option Elab.async false
set_option linter.all false
set_option maxRecDepth 100000
set_option maxHeartbeats 4000000
namespace Z
open PySem PySem.Spec PyProof.Rows L2 GG
def top (i : Nat) : Stmt := PySem.Challenge.pw_bentcoin_k44_chances_of_recipes.main.body.getD i (.Pass ⟨0, 0, 0, 0⟩)
abbrev sPen : Stmt := top 29
abbrev sFresh : Stmt := top 30
abbrev sDraw : Stmt := top 31
/-- what follows an if, once for all ways to it -/
theorem if_tail {c : TT} {a b : TS} {D : Ends} {σ : L2.St} {H : Hp} (W : L2.St → Hp → Prop) (tail : ∀ σ H, W σ H → D.nx σ H) (go : (∀ σ H, W σ H → D.nx σ H) → tIfS c a b D σ H) : tIfS c a b D σ H := go tail
theorem on {t u : TS} {D : Ends} {σ : L2.St} {H : Hp} (h : t { D with nx := u D } σ H) : tSeq t u D σ H := h
theorem put_c {v : V} {i : Nat} {D : Ends} {σ : L2.St} {H : Hp} (h : D.nx (σ.set i (some v)) H) : tAsg (tC v) (gName i) D σ H := h
/-! heaps -/
theorem Same.upd {H : Hp} {p : Addr} {o : HO} (h : H p = none) : Same H (L2.upd H p o) := fun b x e => by
  rw [upd_ne (ne_of_none e h)]
  exact e
/-- all that was told of stands, but what is at a -/
def But (a : Addr) (H H' : Hp) : Prop := ∀ b o, H b = some o → b ≠ a → H' b = some o
theorem But.refl (a : Addr) (H : Hp) : But a H H := fun _ _ e _ => e
theorem But.trans {a : Addr} {H H1 H2 : Hp} (x : But a H H1) (y : But a H1 H2) : But a H H2 := fun b o e n => y b o (x b o e n) n
theorem But.of {a : Addr} {H H1 : Hp} (x : Same H H1) : But a H H1 := fun b o e _ => x b o e
theorem But.put {a : Addr} {H : Hp} {o : HO} : But a H (L2.upd H a o) := fun b u e n => by
  rw [upd_ne n]
  exact e
theorem But.free {a : Addr} {H H' : Hp} {l : Addr} (e : But a H H') (n : l ≠ a) (h : H' l = none) : H l = none := by
  cases q : H l with
  | none => rfl
  | some o =>
    rw [e l o q n] at h
    cases h
theorem But.same {a : Addr} {H H0 H' : Hp} (s : Same H0 H) (n : H0 a = none) (b : But a H H') : Same H0 H' := fun c o e => b c o (s c o e) (ne_of_none e n)
theorem But.seq {a c : Addr} {K : PySem.W.Frag} {H H' : Hp} {xs : List V} (e : But a H H') (n : c ≠ a) (h : SqL K H c xs) : SqL K H' c xs := by
  rcases h with (h | ⟨o, h⟩) | h
  · exact .inl (.inl (e _ _ h n))
  · exact .inl (.inr ⟨o, e _ _ h n⟩)
  · exact .inr h
/-- a pen stands at a -/
def Pen (H : Hp) (a l : Addr) : Prop := ∃ (cs : List Int) (pos val : Int), H a = some (.lst [.ref l, .int pos, .int val]) ∧ H l = some (.lst (cs.map V.int)) ∧ 0 ≤ pos
theorem Pen.ne {H : Hp} {a l : Addr} {cs : List Int} {p v : Int} (h : H a = some (.lst [.ref l, .int p, .int v])) (e : H l = some (.lst (cs.map V.int))) : l ≠ a := by
  intro z
  subst z
  rw [h] at e
  cases cs with
  | nil => cases e
  | cons x r => cases e
theorem Pen.put {H : Hp} {a l : Addr} {cs : List Int} {p v q u : Int} (h : H a = some (.lst [.ref l, .int p, .int v])) (e : H l = some (.lst (cs.map V.int))) (hq : 0 ≤ q) : Pen (upd H a (.lst [.ref l, .int q, .int u])) a l :=
  ⟨cs, q, u, upd_same, by rw [upd_ne (Pen.ne h e)]; exact e, hq⟩
theorem Pen.same {H H' : Hp} {a l : Addr} (p : Pen H a l) (s : Same H H') : Pen H' a l := by
  obtain ⟨cs, q, v, h1, h2, h3⟩ := p
  exact ⟨cs, q, v, s _ _ h1, s _ _ h2, h3⟩
theorem dpInts {K : PySem.W.Frag} {H : Hp} : ∀ ns : List Int, DpAll K H (ns.map V.int) (ns.map PyData.int)
  | [] => .nil
  | n :: r => .cons (.int n) (dpInts r)
theorem cut_to {α : Type} (xs : List V) (n : Nat) : ∃ m, cutV xs none (some (n : Int)) = xs.take m := ⟨_, by unfold cutV; rw [HT.sIx_none]; rfl⟩
/-- a row without the zeros at its end -/
def strip (l : List Int) : List Int := (l.reverse.dropWhile (· == 0)).reverse
theorem strip_nil : strip [] = [] := rfl
theorem strip_zero (l : List Int) : strip (l ++ [0]) = strip l := by
  unfold strip
  rw [List.reverse_append]
  rfl
theorem strip_last {l : List Int} {z : Int} (h : z ≠ 0) : strip (l ++ [z]) = l ++ [z] := by
  unfold strip
  rw [List.reverse_append]
  show (List.dropWhile (· == 0) (z :: l.reverse)).reverse = _
  rw [List.dropWhile_cons_of_neg (by simpa using h), List.reverse_cons, List.reverse_reverse]
theorem strip_mem {l : List Int} {c : Int} (h : c ∈ strip l) : c ∈ l := by
  unfold strip at h
  rw [List.mem_reverse] at h
  exact List.mem_reverse.mp ((List.dropWhile_sublist _).subset h)
theorem strip_len (l : List Int) : (strip l).length ≤ l.length := by
  unfold strip
  rw [List.length_reverse]
  have := (List.dropWhile_sublist (· == 0) (l := l.reverse)).length_le
  rwa [List.length_reverse] at this
theorem strip_strip (l : List Int) : strip (strip l) = strip l := by
  rcases List.eq_nil_or_concat (strip l) with e | ⟨r, z, e⟩
  · rw [e]; rfl
  · rw [List.concat_eq_append] at e
    by_cases h : z = 0
    · exfalso
      have e2 : l.reverse.dropWhile (· == 0) = z :: r.reverse := by
        have := congrArg List.reverse e
        unfold strip at this
        rw [List.reverse_reverse, List.reverse_append] at this
        exact this
      have := List.head?_dropWhile_not (p := fun x : Int => x == 0) (l := l.reverse)
      rw [e2] at this
      simp [h] at this
    · rw [e, strip_last h]
theorem eqv_nil : ∀ {xs : List Int}, xs ≠ [] → (!PyData.eqv (.list (xs.map PyData.int)) (.list [])) = true
  | [], h => absurd rfl h
  | _ :: _, _ => rfl
structure Names (mg : Str → Option Value) : Prop where
  list : mg "list" = none
  tuple : mg "tuple" = none
  len : mg "len" = none
  range : mg "range" = none
structure Def (K : PySem.W.Frag) (mg : Str → Option Value) (x : Str) (f : Addr) (fd : FuncData) (ps : List Str) : Prop where
  is : mg x = some (.ref f)
  kp : PySem.W.keepIn K (.ref f) = true
  bi : Binds K fd ps []
theorem Pen.apart {H : Hp} {a l e : Addr} (p : Pen H a l) (h : H e = none) : e ≠ a ∧ e ≠ l := by
  obtain ⟨cs, pos, val, ha, hl, _⟩ := p
  exact ⟨(ne_of_none ha h).symm, (ne_of_none hl h).symm⟩
theorem Pen.notTup {H : Hp} {a l e : Addr} {xs : List V} (p : Pen H a l) (h : H e = some (.tup xs)) : e ≠ a := by
  obtain ⟨cs, pos, val, ha, hl, _⟩ := p
  rintro rfl
  rw [ha] at h
  cases h
theorem But.mem {a p : Addr} {H H' : Hp} {o : HO} (b : But a H H') (n : p ≠ a) (e : H p = some o) : H' p = some o := b p o e n
/-- what follows a value, once for all ways to it -/
theorem asg_tail {te : TE} {g : TG} {D : Ends} {σ : L2.St} {H : Hp} (W : V → Hp → Prop) (tail : ∀ v H', W v H' → g v σ H' D.nx) (go : (∀ v H', W v H' → g v σ H' D.nx) → te σ H fun x H1 => g x σ H1 D.nx) : tAsg te g D σ H := go tail
theorem log_le {b : Int} (h : b.natAbs < 2 ^ 100) : b.natAbs.log2 < 9000 := Nat.lt_of_lt_of_le (PySem.Flt.log2_lt_of (k := 100) (by decide) h) (by decide)
section
variable {P : Program} {w : World} {K : PySem.W.Frag} {mg : Str → Option Value} {base : Heap}
/-! ### the pen -/
def spPen (K : PySem.W.Frag) : Sp := fun vs H Q _ => ∃ (s : Addr) (ns : List Int), vs = [.ref s] ∧ SqL K H s (ns.map V.int) ∧ ns.length ≤ 63 ∧ ∀ p l H', Same H H' → H p = none → H l = none → Pen H' p l → Q (.ref p) H'
theorem scPen : FnScope ["script"] ["script"] (defScope sPen) := ⟨rfl, rfl, rfl, by decide +kernel, rfl, by decide +kernel, by decide +kernel⟩
theorem ok_pen {f : Addr} {fd : FuncData} (F : Fun K "_law_pen" "_law_pen" sPen f fd) (T : Names mg) : FnOk P w K mg base CX0 1 f fd ["script"] (spPen K) := by
  refine F.ok scPen (fun vs H Q E h => ?_) (fun cdv A outer s H vs Q E hr h => ?_)
  · obtain ⟨a, ns, rfl, _⟩ := h
    rfl
  · obtain ⟨a, ns, rfl, hS, hlen, q⟩ := h
    refine ⟨_, pss_one (ps_ret (pe_lst (pa_cons (pe_callTy call_list_of (by rfl) T.list (by decide +kernel) (pa_cons (pe_slice sl_list (pv 0) po_none (po_some pe_int)) pa_nil)) (pa_cons pe_int (pa_cons pe_int pa_nil))))), ?_⟩
    refine ⟨.ref a, rfl, 63, rfl, a, _, rfl, hS, fun c nc => ?_⟩
    refine ⟨c, _, rfl, .inl (.inl (.inl upd_same)), fun l nl => ?_⟩
    refine ⟨by show 3 ≤ sizeLine; decide, fun p np => ?_⟩
    obtain ⟨m, em⟩ := cut_to (α := Int) (ns.map V.int) 63
    have em : cutV (ns.map V.int) none (some 63) = (ns.map V.int).take m := em
    have lp : l ≠ p := ne_of_none upd_same np
    have h1 := (Same.trans (Same.upd (o := .lst (cutV (ns.map V.int) none (some 63))) nc) (Same.trans (Same.upd (o := .lst (cutV (ns.map V.int) none (some 63))) nl) (Same.upd (o := .lst [.ref l, .int 0, .int 0]) np)))
    refine q p l _ h1 (Same.free (Same.trans (Same.upd nc) (Same.upd nl)) np) (Same.free (Same.upd nc) nl) ⟨ns.take m, 0, 0, upd_same, ?_, by decide⟩
    rw [upd_ne lp, upd_same, em, List.map_take]
/-! ### a fresh number -/
def spFresh : Sp := fun vs H Q _ => ∃ (a l : Addr), vs = [.ref a] ∧ Pen H a l ∧ ∀ (v : Int) H', But a H H' → Pen H' a l → Q (.int v) H'
theorem scFresh : FnScope ["pen", "at", "cell", "p", "one", "found", "turn"] ["pen"] (defScope sFresh) := ⟨rfl, rfl, rfl, by decide +kernel, rfl, by decide +kernel, by decide +kernel⟩
theorem ok_fresh {f : Addr} {fd : FuncData} (F : Fun K "_law_fresh" "_law_fresh" sFresh f fd) (T : Names mg) : FnOk P w K mg base CX0 1 f fd ["pen"] spFresh := by
  refine F.ok scFresh (fun vs H Q E h => ?_) (fun cdv A outer s H vs Q E hr h => ?_)
  · obtain ⟨a, l, rfl, _⟩ := h
    rfl
  · obtain ⟨a, l, rfl, ⟨cs, pos, val, ha, hl, hp⟩, q⟩ := h
    have hu : A.units + 3 + 64 < cLine := hr.units
    refine ⟨_, pss_cons (ps_set (i := 1) scFresh.nd rfl (.inl rfl) (pe_ix ix_list (pv 0) pe_int (fun _ _ => rfl)))
      (pss_cons (ps_asg (pe_op op_add (pv 1) pe_int) (pg_sub (pv 0) pe_int set_list))
      (pss_cons (ps_set (i := 2) scFresh.nd rfl (.inl rfl) pe_int)
      (pss_cons (ps_if (pt_cmpR (op_neD hu) (pe_ix ix_list (pv 0) pe_int (fun _ _ => rfl)) (pe_lst pa_nil) (nomark _))
        (pss_one (ps_set (i := 2) scFresh.nd rfl (.inl rfl) (pe_ix ix_list (pe_ix ix_list (pv 0) pe_int (fun _ _ => rfl)) (pe_op op_mod (pv 1) (pe_callB call_len_seq (by rfl) T.len PySem.boot_len (pa_cons (pe_ix ix_list (pv 0) pe_int (fun _ _ => rfl)) pa_nil))) (fun _ _ => rfl)))) pss_nil)
      (pss_cons (ps_if (PW.pt (pw_and (pt_cmpR op_lt (pv 1) (pe_callB call_len_seq (by rfl) T.len PySem.boot_len (pa_cons (pe_ix ix_list (pv 0) pe_int (fun _ _ => rfl)) pa_nil)) (nomark _)) (pw_and1 (pt_cmpR op_ge (pv 2) (pe_op op_pow pe_int pe_int) (nomark _)))))
        (pss_one (ps_ret (pe_op op_sub (pv 2) (pe_op op_pow pe_int pe_int)))) pss_nil)
      (pss_cons (ps_set (i := 3) scFresh.nd rfl (.inl rfl) pe_int)
      (pss_cons (ps_set (i := 4) scFresh.nd rfl (.inl rfl) (pe_op op_mod (pe_op op_add (pe_op op_add (pe_op op_mul (pv 2) pe_int) (pe_op op_mul pe_int (pv 1))) pe_int) (pv 3)))
      (pss_cons (ps_set (i := 5) scFresh.nd rfl (.inl rfl) (pv 4))
      (pss_cons (ps_for PassesOwn.never rfl (pi_range1 rfl T.range (pa_cons pe_int pa_nil)) (pg_name (i := 6) scFresh.nd rfl (.inl rfl))
        (pss_cons (ps_set (i := 4) scFresh.nd rfl (.inl rfl) (pe_op op_mod (pe_op op_add (pe_op op_add (pe_op op_mul (pv 4) (pv 4)) (pe_op op_mul (pe_op op_mul pe_int (pe_op op_add (pv 6) pe_int)) (pe_op op_add (pv 1) pe_int))) (pv 2)) (pv 3)))
        (pss_one (ps_set (i := 5) scFresh.nd rfl (.inl rfl) (pe_op op_add (pe_op op_mul (pv 5) (pv 3)) (pv 4))))))
      (pss_one (ps_ret (pv 5))))))))))), ?_⟩
    -- position = pen[1]; pen[1] = position + 1; cell = 0
    refine ⟨.ref a, rfl, a, _, 1, .int pos, rfl, rfl, SqL.of ha, atI_nat (j := 1) rfl, ?_⟩
    refine ⟨_, rfl, _, _, rfl, rfl, .ref a, rfl, a, _, 1, 1, rfl, rfl, ha, rfl, ?_⟩
    have ha1 : upd H a (.lst [.ref l, .int (pos + 1), .int val]) a = some (.lst [.ref l, .int (pos + 1), .int val]) := upd_same
    have hl1 : upd H a (.lst [.ref l, .int (pos + 1), .int val]) l = some (.lst (cs.map V.int)) := by
      rw [upd_ne (Pen.ne ha hl)]
      exact hl
    have b1 : But a H (upd H a (.lst [.ref l, .int (pos + 1), .int val])) := But.put
    change (_ : Hp → Prop) (upd H a (.lst [.ref l, .int (pos + 1), .int val]))
    generalize upd H a (.lst [.ref l, .int (pos + 1), .int val]) = H1 at ha1 hl1 b1 ⊢
    -- if pen[0] != []
    have ec : cs = [] ∨ ∃ x r, cs = x :: r := by
      cases cs with
      | nil => exact .inl rfl
      | cons x r => exact .inr ⟨x, r, rfl⟩
    dsimp only
    refine on (put_c ?_)
    dsimp only
    refine on (if_tail (fun σ H' => ∃ cell : Int, σ = [some (V.ref a), some (V.int pos), some (V.int cell), none, none, none, none] ∧ Same H1 H') ?_ (fun t => ?_))
    rotate_left
    · refine ⟨.ref a, rfl, a, _, 0, .ref l, rfl, rfl, SqL.of ha1, atI_nat (j := 0) rfl, Nat.zero_le _, fun e0 ne0 => ?_⟩
      have s2 : Same H1 (upd H1 e0 (.lst [])) := Same.upd ne0
      have ha2 := s2 _ _ ha1
      have hl2 := s2 _ _ hl1
      have d0 : Dp K (upd H1 e0 (.lst [])) (.ref e0) (.list []) := .lst (SqL.of upd_same) .nil
      generalize upd H1 e0 (.lst []) = H2 at s2 ha2 hl2 d0 ⊢
      refine ⟨.list (cs.map PyData.int), .list [], .lst (SqL.of hl2) (dpInts cs), d0, PySem.W.ke_shaped_ints cs, rfl, _, rfl, ?_⟩
      rcases ec with rfl | ⟨x, r, rfl⟩
      · exact iteF (t _ _ ⟨0, rfl, s2⟩)
      · refine iteT ?_
        have hpos : pos % (((x :: r).length : Nat) : Int) < ((x :: r).length : Nat) ∧ 0 ≤ pos % (((x :: r).length : Nat) : Int) := by
          have : (0 : Int) < ((x :: r).length : Nat) := by rw [List.length_cons]; omega
          exact ⟨Int.emod_lt_of_pos _ this, Int.emod_nonneg _ (by omega)⟩
        obtain ⟨j, ej⟩ : ∃ j : Nat, pos % (((x :: r).length : Nat) : Int) = (j : Int) := ⟨(pos % (((x :: r).length : Nat) : Int)).toNat, by omega⟩
        have hj : j < (x :: r).length := by omega
        refine ⟨.ref a, rfl, a, _, 0, .ref l, rfl, rfl, SqL.of ha2, atI_nat (j := 0) rfl, .int pos, rfl, .ref a, rfl, a, _, 0, .ref l, rfl, rfl, SqL.of ha2, atI_nat (j := 0) rfl, l, _, rfl, .inl (SqL.of hl2), _, _, rfl, rfl, ?_, ?_⟩
        · show (0 : Int) < _
          rw [List.length_map, List.length_cons]
          omega
        · refine ⟨l, _, _, .int (x :: r)[j], rfl, rfl, SqL.of hl2, ?_, t _ _ ⟨_, rfl, s2⟩⟩
          rw [List.length_map, ej]
          exact atI_nat (by rw [List.getElem?_map, List.getElem?_eq_getElem hj]; rfl)
    · rintro σ H' ⟨cell, rfl, s2⟩
      have ha2 := s2 _ _ ha1
      have hl2 := s2 _ _ hl1
      have b2 : But a H H' := b1.trans (But.of s2)
      have p2 : Pen H' a l := ⟨cs, pos + 1, val, ha2, hl2, by omega⟩
      -- if position < len(pen[0]) and cell >= 10 ** 18: return cell - 10 ** 18
      dsimp only
      refine on (if_tail (fun σ H3 => σ = [some (V.ref a), some (V.int pos), some (V.int cell), none, none, none, none] ∧ H3 = H') ?_ (fun t => ?_))
      rotate_left
      · refine ⟨_, rfl, .ref a, rfl, a, _, 0, .ref l, rfl, rfl, SqL.of ha2, atI_nat (j := 0) rfl, l, _, rfl, .inl (SqL.of hl2), _, _, rfl, rfl, _, rfl, ite2 (fun _ => ?_) (fun _ => iteF (t _ _ ⟨rfl, rfl⟩))⟩
        refine ⟨_, rfl, _, _, rfl, rfl, ⟨by decide, by decide, by decide⟩, _, _, rfl, rfl, _, rfl, ite2 (fun _ => ?_) (fun _ => t _ _ ⟨rfl, rfl⟩)⟩
        exact ⟨_, rfl, _, _, rfl, rfl, ⟨by decide, by decide, by decide⟩, _, _, rfl, rfl, q _ _ b2 p2⟩
      · rintro σ H3 ⟨rfl, rfl⟩
        -- state, mixed, the six turns
        refine ⟨_, rfl, _, _, rfl, rfl, .inr ⟨by decide, by decide⟩, _, rfl, _, _, rfl, rfl, .inl ⟨by decide, by decide⟩, _, _, rfl, rfl, _, _, rfl, rfl, _, rfl, _, _, rfl, rfl, (by show (0 : Int) < 2305843009213693951; decide), _, rfl,
          6, rfl, by decide, by decide, for_range (lo := 0) (n := 6) (fun i σ H4 => ∃ (st mx : Int) (v : Option V), σ = [some (V.ref a), some (V.int pos), some (V.int cell), some (V.int 2305843009213693951), some (V.int st), some (V.int mx), v] ∧ H4 = H3 ∧ 0 ≤ st ∧ st < 2305843009213693951)
            ⟨_, _, none, rfl, rfl, Int.emod_nonneg _ (by decide), Int.emod_lt_of_pos _ (by decide)⟩ ?_ ?_⟩
        · rintro i σ H4 hi ⟨st, mx, v, rfl, rfl, h0, h1⟩
          refine ⟨_, rfl, _, rfl, _, _, rfl, rfl, .inl ⟨by omega, by omega⟩, _, rfl, _, _, rfl, rfl, _, _, rfl, rfl, .inl ⟨by decide, by decide⟩, _, rfl, _, _, rfl, rfl, _, _, rfl, rfl, .inl ⟨by show -(2 ^ 64) < (69621 : Int) * (0 + (i : Int) + 1); omega, by show (69621 : Int) * (0 + (i : Int) + 1) < 2 ^ 64; omega⟩, _, _, rfl, rfl,
            _, rfl, _, _, rfl, rfl, _, rfl, _, _, rfl, rfl, (by show (0 : Int) < 2305843009213693951; decide), _, rfl, _, rfl, _, _, rfl, rfl, .inr ⟨by decide, by decide⟩, _, rfl, _, _, rfl, rfl, ?_⟩
          exact ⟨_, _, _, rfl, rfl, Int.emod_nonneg _ (by decide), Int.emod_lt_of_pos _ (by decide)⟩
        · rintro σ H4 ⟨st, mx, v, rfl, rfl, h0, h1⟩
          exact ⟨_, rfl, q _ _ b2 p2⟩
/-! ### a number below a bound -/
def spDraw : Sp := fun vs H Q _ => ∃ (a l : Addr) (b : Int), vs = [.ref a, .int b] ∧ Pen H a l ∧ 0 < b ∧ b.natAbs.log2 < 9000 ∧ ∀ (d : Int) H', 0 ≤ d → d < b → But a H H' → Pen H' a l → Q (.int d) H'
theorem scDraw : FnScope ["pen", "many", "digit"] ["pen", "many"] (defScope sDraw) := ⟨rfl, rfl, rfl, by decide +kernel, rfl, by decide +kernel, by decide +kernel⟩
theorem ok_draw {f g : Addr} {fd gd : FuncData} (F : Fun K "_law_draw" "_law_draw" sDraw f fd) (GF : FnOk P w K mg base CX0 1 g gd ["pen"] spFresh) (mF : mg "_law_fresh" = some (.ref g)) (kF : PySem.W.keepIn K (.ref g) = true) (bF : Binds K gd ["pen"] []) :
    FnOk P w K mg base CX0 2 f fd ["pen", "many"] spDraw := by
  refine F.ok scDraw (fun vs H Q E h => ?_) (fun cdv A outer s H vs Q E hr h => ?_)
  · obtain ⟨a, l, b, rfl, _⟩ := h
    rfl
  · obtain ⟨a, l, b, rfl, pn, hb, hb2, q⟩ := h
    refine ⟨_, pss_cons (ps_if (pt_cmpR op_lt (pe_ix ix_list (pv 0) pe_int (fun _ _ => rfl)) (pv 1) (nomark _))
        (pss_one (ps_asg (pe_call GF hr (by rfl) mF kF bF .nil pass0 (pa_cons (pv 0) pa_nil)) (pg_sub (pv 0) pe_int set_list))) pss_nil)
      (pss_cons (ps_set (i := 2) scDraw.nd rfl (.inl rfl) (pe_op op_mod (pe_ix ix_list (pv 0) pe_int (fun _ _ => rfl)) (pv 1)))
      (pss_cons (ps_asg (pe_op op_fdivW (pe_ix ix_list (pv 0) pe_int (fun _ _ => rfl)) (pv 1)) (pg_sub (pv 0) pe_int set_list))
      (pss_one (ps_ret (pv 2))))), ?_⟩
    refine on (if_tail (fun σ H' => σ = [some (V.ref a), some (V.int b), none] ∧ Pen H' a l ∧ But a H H') ?_ (fun t => ?_))
    rotate_left
    · obtain ⟨cs, pos, val, ha, hl, hp⟩ := id pn
      refine ⟨.ref a, rfl, a, _, 2, .int val, rfl, rfl, SqL.of ha, atI_nat (j := 2) rfl, _, rfl, _, _, rfl, rfl, _, rfl, ite2 (fun _ => ?_) (fun _ => t _ _ ⟨rfl, pn, But.refl _ _⟩)⟩
      refine ⟨.ref a, rfl, a, l, rfl, pn, fun v H1 b1 p1 => ?_⟩
      obtain ⟨cs, pos, val, ha, hl, hp⟩ := p1
      exact ⟨.ref a, rfl, a, _, 2, 2, rfl, rfl, ha, rfl, t _ _ ⟨rfl, Pen.put ha hl hp, b1.trans But.put⟩⟩
    · rintro σ H1 ⟨rfl, ⟨cs, pos, val, ha, hl, hp⟩, b1⟩
      refine ⟨.ref a, rfl, a, _, 2, .int val, rfl, rfl, SqL.of ha, atI_nat (j := 2) rfl, _, rfl, _, _, rfl, rfl, hb, .ref a, rfl, a, _, 2, .int val, rfl, rfl, SqL.of ha, atI_nat (j := 2) rfl, _, rfl, _, _, rfl, rfl, ⟨hb, hb2⟩, .ref a, rfl, a, _, 2, 2, rfl, rfl, ha, rfl, _, rfl, ?_⟩
      exact q _ _ (Int.emod_nonneg _ (by omega)) (Int.emod_lt_of_pos _ hb) (b1.trans But.put) (Pen.put ha hl hp)
end
end Z

namespace M3
/-! a row less c times another, moved -/
def subs (c : Int) : List Int → Nat → List Int → List Int
  | r, _, [] => r
  | r, a, x :: f => subs c (r.set a (r.getD a 0 - c * x)) (a + 1) f
theorem getD_set (r : List Int) (a : Nat) (v : Int) (t : Nat) (h : a < r.length) : (r.set a v).getD t 0 = if t = a then v else r.getD t 0 := by
  rw [List.getD_eq_getElem?_getD, List.getD_eq_getElem?_getD, List.getElem?_set]
  by_cases e : a = t
  · subst e; simp [h]
  · simp [e, Ne.symm e]
theorem subs_len (c : Int) : ∀ (f r : List Int) (a : Nat), (subs c r a f).length = r.length
  | [], _, _ => rfl
  | x :: f, r, a => by
    show (subs c (r.set a _) (a + 1) f).length = _
    rw [subs_len c f, List.length_set]
theorem subs_get (c : Int) : ∀ (f r : List Int) (a t : Nat), a + f.length ≤ r.length →
    (subs c r a f).getD t 0 = r.getD t 0 - c * (if a ≤ t then f.getD (t - a) 0 else 0)
  | [], r, a, t, _ => by
    show r.getD t 0 = _
    by_cases e : a ≤ t <;> simp [e]
  | x :: f, r, a, t, h => by
    rw [List.length_cons] at h
    show (subs c (r.set a (r.getD a 0 - c * x)) (a + 1) f).getD t 0 = _
    rw [subs_get c f _ _ _ (by rw [List.length_set]; omega), getD_set _ _ _ _ (by omega)]
    by_cases e : t = a
    · subst e
      rw [if_pos rfl, if_neg (by omega), if_pos (Nat.le_refl _), Nat.sub_self]
      simp
    · rw [if_neg e]
      by_cases e2 : a ≤ t
      · rw [if_pos (by omega), if_pos e2, show t - a = (t - (a + 1)) + 1 by omega]
        simp
      · rw [if_neg (by omega), if_neg e2]
theorem ext_getD {l l' : List Int} (h : l.length = l'.length) (g : ∀ t, t < l.length → l.getD t 0 = l'.getD t 0) : l = l' := by
  apply List.ext_getElem h
  intro i h1 h2
  have := g i h1
  rw [List.getD_eq_getElem?_getD, List.getD_eq_getElem?_getD, List.getElem?_eq_getElem h1, List.getElem?_eq_getElem h2] at this
  exact this
theorem subs_snoc (c x : Int) (f r : List Int) (a : Nat) (h : a + f.length + 1 ≤ r.length) :
    subs c r a (f ++ [x]) = (subs c r a f).set (a + f.length) ((subs c r a f).getD (a + f.length) 0 - c * x) := by
  apply ext_getD
  · rw [subs_len, List.length_set, subs_len]
  · intro t ht
    rw [subs_len] at ht
    rw [getD_set _ _ _ _ (by rw [subs_len]; omega), subs_get _ _ _ _ _ (by rw [List.length_append]; simp; omega), subs_get _ _ _ _ _ (by omega), subs_get _ _ _ _ _ (by omega)]
    by_cases e : t = a + f.length
    · subst e
      rw [if_pos (by omega), if_pos rfl, if_pos (by omega), show a + f.length - a = f.length by omega]
      simp [List.getD_eq_getElem?_getD]
    · rw [if_neg e]
      by_cases e2 : a ≤ t
      · rw [if_pos e2, if_pos e2]
        by_cases e3 : t - a < f.length
        · simp [List.getD_eq_getElem?_getD, List.getElem?_append_left e3]
        · have h1 : (f ++ [x]).getD (t - a) 0 = 0 := by
            rw [List.getD_eq_getElem?_getD, List.getElem?_eq_none (by rw [List.length_append]; simp; omega)]; rfl
          have h2 : f.getD (t - a) 0 = 0 := by
            rw [List.getD_eq_getElem?_getD, List.getElem?_eq_none (by omega)]; rfl
          rw [h1, h2]
      · rw [if_neg e2, if_neg e2]
theorem subs_scale (S c : Int) : ∀ (f r : List Int) (a : Nat), a + f.length ≤ r.length → subs (S * c) (r.map (S * ·)) a f = (subs c r a f).map (S * ·)
  | [], _, _, _ => rfl
  | x :: f, r, a, h => by
    rw [List.length_cons] at h
    show subs (S * c) ((r.map (S * ·)).set a ((r.map (S * ·)).getD a 0 - S * c * x)) (a + 1) f = (subs c (r.set a (r.getD a 0 - c * x)) (a + 1) f).map (S * ·)
    rw [← subs_scale S c f _ _ (by rw [List.length_set]; omega), List.map_set]
    have e : (r.map (S * ·)).getD a 0 = S * r.getD a 0 := by
      rw [List.getD_eq_getElem?_getD, List.getD_eq_getElem?_getD, List.getElem?_map, List.getElem?_eq_getElem (by omega)]
      rfl
    rw [e, Int.mul_sub, Int.mul_assoc]
/-! the two divisions -/
def divP (f : List Int) (m : Nat) (l : Int) : Nat → List Int → List Int → Option (List Int × List Int)
  | 0, r, q => some (r, q)
  | n + 1, r, q => if (r.getD (n + m - 1) 0).fmod l ≠ 0 then none else
      divP f m l n (subs ((r.getD (n + m - 1) 0).fdiv l) r n f) (q.set n ((r.getD (n + m - 1) 0).fdiv l))
def divL (f : List Int) (m : Nat) (l : Int) : Nat → List Int → List Int → List Int × List Int
  | 0, r, q => (r, q)
  | n + 1, r, q => divL f m l n (subs ((r.getD (n + m - 1) 0).fdiv l) r n f) (q.set n ((r.getD (n + m - 1) 0).fdiv l))
theorem divL_keep (f : List Int) (m : Nat) (l : Int) : ∀ (n : Nat) (r q : List Int) (t : Nat), n ≤ t → (divL f m l n r q).2.getD t 0 = q.getD t 0
  | 0, _, _, _, _ => rfl
  | n + 1, r, q, t, h => by
    show (divL f m l n _ (q.set n _)).2.getD t 0 = _
    rw [divL_keep f m l n _ _ t (by omega), List.getD_eq_getElem?_getD, List.getElem?_set_ne (by omega), ← List.getD_eq_getElem?_getD]
theorem divL_len (f : List Int) (m : Nat) (l : Int) : ∀ (n : Nat) (r q : List Int), (divL f m l n r q).1.length = r.length ∧ (divL f m l n r q).2.length = q.length
  | 0, _, _ => ⟨rfl, rfl⟩
  | n + 1, r, q => by
    have := divL_len f m l n (subs ((r.getD (n + m - 1) 0).fdiv l) r n f) (q.set n ((r.getD (n + m - 1) 0).fdiv l))
    rw [subs_len, List.length_set] at this
    exact this
theorem getD_scale (S : Int) (r : List Int) (t : Nat) : (r.map (S * ·)).getD t 0 = S * r.getD t 0 := by
  rw [List.getD_eq_getElem?_getD, List.getD_eq_getElem?_getD, List.getElem?_map]
  cases r[t]? with
  | none => simp
  | some v => rfl
theorem sim {f : List Int} {m : Nat} {l S' : Int} (hl : l ≠ 0) (hS : S' ≠ 0) (hm : f.length = m) (h1 : 1 ≤ m) : ∀ (n : Nat) (r q : List Int), n + m ≤ r.length + 1 → n ≤ q.length →
    match divP f m l n r q with
    | some (r', q') => divL f m l n (r.map (l * S' * ·)) (q.map (l * S' * ·)) = (r'.map (l * S' * ·), q'.map (l * S' * ·)) ∧ q'.length = q.length
    | none => ∃ t, t < q.length ∧ ((divL f m l n (r.map (l * S' * ·)) (q.map (l * S' * ·))).2.getD t 0).fmod (l * S') ≠ 0
  | 0, r, q, _, _ => ⟨rfl, rfl⟩
  | n + 1, r, q, hr, hq => by
    unfold divP
    have e1 : ((r.map (l * S' * ·)).getD (n + m - 1) 0).fdiv l = S' * r.getD (n + m - 1) 0 := by
      rw [getD_scale, Int.mul_assoc, Int.mul_fdiv_cancel_left _ hl]
    by_cases hx : (r.getD (n + m - 1) 0).fmod l = 0
    · rw [if_neg (by simpa using hx)]
      have hd : l ∣ r.getD (n + m - 1) 0 := Int.dvd_of_fmod_eq_zero hx
      obtain ⟨c, hc⟩ := hd
      have ec : (r.getD (n + m - 1) 0).fdiv l = c := by rw [hc, Int.mul_fdiv_cancel_left _ hl]
      have e2 : S' * r.getD (n + m - 1) 0 = l * S' * c := by rw [hc]; grind
      have ih := sim hl hS hm h1 n (subs c r n f) (q.set n c) (by rw [subs_len]; omega) (by rw [List.length_set]; omega)
      have eL : divL f m l (n + 1) (r.map (l * S' * ·)) (q.map (l * S' * ·)) = divL f m l n ((subs c r n f).map (l * S' * ·)) ((q.set n c).map (l * S' * ·)) := by
        show divL f m l n (subs (((r.map (l * S' * ·)).getD (n + m - 1) 0).fdiv l) (r.map (l * S' * ·)) n f) ((q.map (l * S' * ·)).set n (((r.map (l * S' * ·)).getD (n + m - 1) 0).fdiv l)) = _
        rw [e1, e2, subs_scale _ _ _ _ _ (by omega), List.map_set]
      rw [ec, eL]
      rw [List.length_set] at ih
      exact ih
    · rw [if_pos hx]
      refine ⟨n, by omega, ?_⟩
      show ((divL f m l n _ ((q.map (l * S' * ·)).set n (((r.map (l * S' * ·)).getD (n + m - 1) 0).fdiv l))).2.getD n 0).fmod (l * S') ≠ 0
      rw [divL_keep f m l n _ _ n (Nat.le_refl _), getD_set _ _ _ _ (by rw [List.length_map]; omega), if_pos rfl, e1]
      intro h0
      obtain ⟨k, hk⟩ := Int.dvd_of_fmod_eq_zero h0
      apply hx
      have : r.getD (n + m - 1) 0 = l * k := by
        apply Int.eq_of_mul_eq_mul_left hS
        rw [hk]
        grind
      rw [this, Int.mul_fmod_right]

def res (x : Option (List Int × List Int)) : Option (List Int) := match x with
  | none => none
  | some (r, q) => if (r.any fun a => a != 0) = true then none else some q
def resL (S : Int) (x : List Int × List Int) : Option (List Int) :=
  if (x.1.filter fun a => a != 0) ≠ [] ∨ (x.2.filter fun a => a.fmod S != 0) ≠ [] then none else some (x.2.map (·.fdiv S))
theorem pow_ne {l : Int} (h : l ≠ 0) : ∀ n : Nat, l ^ n ≠ 0
  | 0 => by simp
  | n + 1 => by rw [Int.pow_succ]; exact Int.mul_ne_zero (pow_ne h n) h
theorem any_filter (r : List Int) : (r.filter fun a => a != 0) ≠ [] ↔ (r.any fun a => a != 0) = true := by
  induction r with
  | nil => simp
  | cons x r ih => by_cases h : x = 0 <;> simp_all
theorem filter_scale {S : Int} (hS : S ≠ 0) (r : List Int) : ((r.map (S * ·)).filter fun a => a != 0) ≠ [] ↔ (r.any fun a => a != 0) = true := by
  rw [any_filter]
  induction r with
  | nil => simp
  | cons x r ih =>
    have : (S * x != 0) = (x != 0) := by
      by_cases h : x = 0
      · simp [h]
      · have h2 : S * x ≠ 0 := Int.mul_ne_zero hS h
        rw [bne_iff_ne.mpr h2, bne_iff_ne.mpr h]
    simp only [List.map_cons, List.any_cons, this, Bool.or_eq_true]
    rw [ih]
theorem res_eq {f : List Int} {m : Nat} {l : Int} (hl : l ≠ 0) (hm : f.length = m) (h1 : 1 ≤ m) (n : Nat) (p q : List Int) (hp : n + m ≤ p.length + 1 ∨ n = 0) (hq : n = q.length) :
    resL (l ^ n) (divL f m l n (p.map (l ^ n * ·)) (q.map (l ^ n * ·))) = res (divP f m l n p q) := by
  cases n with
  | zero =>
    obtain rfl : q = [] := List.eq_nil_of_length_eq_zero hq.symm
    show resL (l ^ 0) (p.map (l ^ 0 * ·), []) = res (some (p, []))
    unfold resL res
    simp only [Int.pow_zero, Int.one_mul, List.map_id', List.filter_nil, ne_eq, not_true_eq_false, or_false, List.map_nil]
    by_cases h : (p.any fun a => a != 0) = true
    · rw [if_pos ((any_filter p).mpr h), if_pos h]
    · rw [if_neg (fun e => h ((any_filter p).mp e)), if_neg h]
  | succ n =>
    have hS' := pow_ne hl n
    have hS := pow_ne hl (n + 1)
    have eS : l ^ (n + 1) = l * l ^ n := by rw [Int.pow_succ, Int.mul_comm]
    have s := sim hl hS' hm h1 (n + 1) p q (by omega) (by omega)
    rw [← eS] at s
    cases hd : divP f m l (n + 1) p q with
    | none =>
      rw [hd] at s
      obtain ⟨t, ht, hne⟩ := s
      unfold resL res
      rw [if_pos]
      right
      intro e
      have lt : t < (divL f m l (n + 1) (p.map (l ^ (n + 1) * ·)) (q.map (l ^ (n + 1) * ·))).2.length := by
        rw [(divL_len f m l _ _ _).2, List.length_map]
        exact ht
      have hx := List.filter_eq_nil_iff.mp e _ (List.getElem_mem lt)
      apply hne
      rw [List.getD_eq_getElem?_getD, List.getElem?_eq_getElem lt]
      simpa using hx
    | some rq =>
      obtain ⟨r', q'⟩ := rq
      rw [hd] at s
      obtain ⟨e, hlq⟩ := s
      rw [e]
      unfold resL res
      have z : ((q'.map (l ^ (n + 1) * ·)).filter fun a => a.fmod (l ^ (n + 1)) != 0) = [] := by
        apply List.filter_eq_nil_iff.mpr
        intro a ha
        obtain ⟨b, _, rfl⟩ := List.mem_map.mp ha
        simp [Int.mul_fmod_right]
      have e3 : (q'.map (l ^ (n + 1) * ·)).map (·.fdiv (l ^ (n + 1))) = q' := by
        rw [List.map_map]
        conv => rhs; rw [← List.map_id q']
        apply List.map_congr_left
        intro a _
        show (l ^ (n + 1) * a).fdiv (l ^ (n + 1)) = a
        exact Int.mul_fdiv_cancel_left _ hS
      dsimp only
      simp only [z, ne_eq, not_true_eq_false, or_false, e3]
      by_cases h : (r'.any fun a => a != 0) = true
      · rw [if_pos ((filter_scale hS r').mpr h), if_pos h]
      · rw [if_neg (fun e => h ((filter_scale hS r').mp e)), if_neg h]
/-! sizes -/
def Bd (M : Nat) (r : List Int) : Prop := ∀ t, (r.getD t 0).natAbs ≤ M
theorem bd_of {M : Nat} {r : List Int} (h : ∀ x ∈ r, x.natAbs ≤ M) : Bd M r := fun t => by
  rw [List.getD_eq_getElem?_getD]
  cases e : r[t]? with
  | none => simp
  | some v => exact h v (List.mem_of_getElem? e)
theorem Bd.mem {M : Nat} {r : List Int} (h : Bd M r) {x : Int} (hx : x ∈ r) : x.natAbs ≤ M := by
  obtain ⟨i, hi, rfl⟩ := List.getElem_of_mem hx
  have := h i
  rwa [List.getD_eq_getElem?_getD, List.getElem?_eq_getElem hi] at this
theorem Bd.mono {M N : Nat} {r : List Int} (h : Bd M r) (hn : M ≤ N) : Bd N r := fun t => Nat.le_trans (h t) hn
theorem Bd.set {M : Nat} {r : List Int} (h : Bd M r) {n : Nat} {c : Int} (hc : c.natAbs ≤ M) : Bd M (r.set n c) := fun t => by
  rw [List.getD_eq_getElem?_getD, List.getElem?_set]
  by_cases e : n = t
  · subst e
    by_cases l : n < r.length
    · simp [l]; exact hc
    · simp [l]
  · simp only [e, if_false]
    exact h t
theorem Bd.take {M : Nat} {r : List Int} (h : Bd M r) (k : Nat) : Bd M (r.take k) := bd_of fun _ hx => h.mem (List.mem_of_mem_take hx)
theorem subs_bd {M B : Nat} {r f : List Int} {c : Int} {a : Nat} (hr : Bd M r) (hc : c.natAbs ≤ M) (hf : Bd B f) (h : a + f.length ≤ r.length) : Bd (M * (B + 1)) (subs c r a f) := fun t => by
  rw [subs_get _ _ _ _ _ h]
  have h1 := hr t
  have h2 : (if a ≤ t then f.getD (t - a) 0 else 0).natAbs ≤ B := by
    split
    · exact hf _
    · simp
  have h3 : (c * (if a ≤ t then f.getD (t - a) 0 else 0)).natAbs ≤ M * B := by
    rw [Int.natAbs_mul]
    exact Nat.mul_le_mul hc h2
  have h4 := Int.natAbs_sub_le (r.getD t 0) (c * (if a ≤ t then f.getD (t - a) 0 else 0))
  rw [Nat.mul_add, Nat.mul_one]
  omega
theorem fdiv_le {x l : Int} (hl : l ≠ 0) : (x.fdiv l).natAbs ≤ x.natAbs := by
  rcases Int.lt_or_gt_of_ne hl with h | h
  · have e : x.fdiv l = (-x).fdiv (-l) := by rw [Int.neg_fdiv_neg]
    rw [e, Int.fdiv_eq_ediv_of_nonneg _ (by omega)]
    have := Int.natAbs_ediv_le_natAbs (-x) (-l)
    rwa [Int.natAbs_neg] at this
  · rw [Int.fdiv_eq_ediv_of_nonneg _ (by omega)]
    exact Int.natAbs_ediv_le_natAbs x l
theorem divP_bd {f : List Int} {m B : Nat} {l : Int} (hl : l ≠ 0) (hm : f.length = m) (hf : Bd B f) : ∀ (n M : Nat) (r q r' q' : List Int), n + m ≤ r.length + 1 ∨ n = 0 → Bd M r → Bd M q → divP f m l n r q = some (r', q') → Bd (M * (B + 1) ^ n) q'
  | 0, M, r, q, r', q', _, _, hq, e => by
    cases e
    simpa using hq
  | n + 1, M, r, q, r', q', h, hr, hq, e => by
    unfold divP at e
    split at e
    · cases e
    · have hc : ((r.getD (n + m - 1) 0).fdiv l).natAbs ≤ M := Nat.le_trans (fdiv_le hl) (hr _)
      have up : M ≤ M * (B + 1) := Nat.le_mul_of_pos_right _ (by omega)
      have := divP_bd hl hm hf n (M * (B + 1)) _ _ r' q' (by rw [subs_len]; omega) (subs_bd hr hc hf (by omega)) ((hq.set hc).mono up) e
      rwa [Nat.mul_assoc, ← Nat.pow_succ'] at this
/-! products -/
def pf : List Int → List Int → Nat → Int
  | [], _, _ => 0
  | x :: f, g, t => x * g.getD t 0 + (match t with | 0 => 0 | t + 1 => pf f g t)
theorem getD_snoc (g : List Int) (y : Int) (t : Nat) : (g ++ [y]).getD t 0 = g.getD t 0 + if t = g.length then y else 0 := by
  rw [List.getD_eq_getElem?_getD, List.getD_eq_getElem?_getD]
  rcases Nat.lt_trichotomy t g.length with h | h | h
  · rw [List.getElem?_append_left h, if_neg (by omega)]; simp
  · subst h; simp
  · rw [List.getElem?_eq_none (by rw [List.length_append]; simp; omega), List.getElem?_eq_none (by omega), if_neg (by omega)]; simp
theorem getD_out {g : List Int} {t : Nat} (h : g.length ≤ t) : g.getD t 0 = 0 := by
  rw [List.getD_eq_getElem?_getD, List.getElem?_eq_none h]; rfl
theorem pf_snoc_f (g : List Int) (x : Int) : ∀ (f : List Int) (t : Nat), pf (f ++ [x]) g t = pf f g t + if f.length ≤ t then x * g.getD (t - f.length) 0 else 0
  | [], t => by cases t <;> simp [pf]
  | z :: f, 0 => by simp [pf]
  | z :: f, t + 1 => by
    show z * g.getD (t + 1) 0 + pf (f ++ [x]) g t = z * g.getD (t + 1) 0 + pf f g t + _
    rw [pf_snoc_f g x f t, List.length_cons, Nat.add_sub_add_right]
    by_cases h : f.length ≤ t
    · rw [if_pos h, if_pos (by omega)]; omega
    · rw [if_neg h, if_neg (by omega)]; omega
theorem pf_snoc_g (g : List Int) (y : Int) : ∀ (f : List Int) (t : Nat), pf f (g ++ [y]) t = pf f g t + if g.length ≤ t then f.getD (t - g.length) 0 * y else 0
  | [], t => by simp [pf]
  | z :: f, 0 => by
    show z * (g ++ [y]).getD 0 0 + 0 = z * g.getD 0 0 + 0 + _
    rw [getD_snoc]
    by_cases h : g.length = 0
    · rw [if_pos h.symm, if_pos (by omega), h]; simp; rw [Int.mul_add]
    · rw [if_neg (Ne.symm h), if_neg (by omega)]; simp
  | z :: f, t + 1 => by
    show z * (g ++ [y]).getD (t + 1) 0 + pf f (g ++ [y]) t = z * g.getD (t + 1) 0 + pf f g t + _
    rw [getD_snoc, pf_snoc_g g y f t]
    by_cases h : t + 1 = g.length
    · rw [if_pos h, if_neg (by omega), if_pos (by omega), h, Nat.sub_self]
      simp
      omega
    · rw [if_neg h]
      by_cases h2 : g.length ≤ t
      · rw [if_pos h2, if_pos (by omega), show t + 1 - g.length = (t - g.length) + 1 by omega]
        simp
        omega
      · rw [if_neg h2, if_neg (by omega)]
        simp
theorem pf_zero (g : List Int) : ∀ (f : List Int) (t : Nat), f.length + g.length ≤ t + 1 → pf f g t = 0
  | [], t, _ => by simp [pf]
  | z :: f, 0, h => by
    rw [List.length_cons] at h
    have : g.length = 0 := by omega
    show z * g.getD 0 0 + 0 = 0
    rw [getD_out (by omega)]; simp
  | z :: f, t + 1, h => by
    rw [List.length_cons] at h
    show z * g.getD (t + 1) 0 + pf f g t = 0
    by_cases hf : f.length = 0
    · obtain rfl := List.eq_nil_of_length_eq_zero hf
      rw [getD_out (by simp at h; omega)]; simp [pf]
    · rw [pf_zero g f t (by omega), getD_out (by omega)]; simp
theorem pf_bd {F G : Nat} {g : List Int} (hg : Bd G g) : ∀ (f : List Int) (t : Nat), Bd F f → (pf f g t).natAbs ≤ f.length * (F * G)
  | [], t, _ => by simp [pf]
  | z :: f, t, h => by
    have hz : z.natAbs ≤ F := h.mem List.mem_cons_self
    have hf : Bd F f := bd_of fun x hx => h.mem (List.mem_cons_of_mem _ hx)
    have h1 : (z * g.getD t 0).natAbs ≤ F * G := by rw [Int.natAbs_mul]; exact Nat.mul_le_mul hz (hg t)
    rw [List.length_cons, Nat.succ_mul]
    cases t with
    | zero =>
      show (z * g.getD 0 0 + 0).natAbs ≤ _
      rw [Int.add_zero]; omega
    | succ t =>
      show (z * g.getD (t + 1) 0 + pf f g t).natAbs ≤ _
      have := pf_bd hg f t hf
      have := Int.natAbs_add_le (z * g.getD (t + 1) 0) (pf f g t)
      omega
/-- what was multiplied comes out again -/
theorem divP_pf {f : List Int} {m : Nat} {l : Int} (hl : l ≠ 0) (hm : f.length = m) (h1 : 1 ≤ m) (hlast : f.getD (m - 1) 0 = l) : ∀ (n : Nat) (g r q : List Int), g.length = n → n + m ≤ r.length + 1 → n ≤ q.length → (∀ t, r.getD t 0 = pf f g t) →
    ∃ r' q', divP f m l n r q = some (r', q') ∧ (∀ t, r'.getD t 0 = 0) ∧ ∀ t, q'.getD t 0 = if t < n then g.getD t 0 else q.getD t 0
  | 0, g, r, q, hg, _, _, hr => by
    obtain rfl := List.eq_nil_of_length_eq_zero hg
    refine ⟨r, q, rfl, fun t => ?_, fun t => by rw [if_neg (by omega)]⟩
    rw [hr t]
    have : ∀ (f : List Int) (t : Nat), pf f [] t = 0 := by
      intro f
      induction f with
      | nil => intro t; rfl
      | cons z f ih =>
        intro t
        cases t with
        | zero => simp [pf]
        | succ t => simp [pf, ih t]
    exact this f t
  | n + 1, g, r, q, hg, hrl, hq, hr => by
    have hne : g ≠ [] := fun e => by rw [e] at hg; simp at hg
    obtain ⟨g0, y, rfl⟩ : ∃ g0 y, g = g0 ++ [y] := ⟨g.dropLast, g.getLast hne, (List.dropLast_concat_getLast hne).symm⟩
    have hg0 : g0.length = n := by simpa using hg
    have top : r.getD (n + m - 1) 0 = l * y := by
      rw [hr, pf_snoc_g, pf_zero _ _ _ (by omega), if_pos (by omega), show n + m - 1 - g0.length = m - 1 by omega, hlast]
      simp
    have e1 : (l * y).fdiv l = y := Int.mul_fdiv_cancel_left _ hl
    have e2 : (l * y).fmod l = 0 := Int.mul_fmod_right ..
    obtain ⟨r', q', ed, z, w⟩ := divP_pf hl hm h1 hlast n g0 (subs y r n f) (q.set n y) hg0 (by rw [subs_len]; omega) (by rw [List.length_set]; omega) fun t => by
      rw [subs_get _ _ _ _ _ (by omega), hr t, pf_snoc_g, hg0]
      by_cases h : n ≤ t
      · rw [if_pos h, if_pos h, Int.mul_comm]; omega
      · rw [if_neg h, if_neg h]; simp
    refine ⟨r', q', ?_, z, fun t => ?_⟩
    · unfold divP
      rw [top, e1, e2, if_neg (by simp)]
      exact ed
    · rw [w t, getD_snoc, hg0, getD_set _ _ _ _ (by omega)]
      rcases Nat.lt_trichotomy t n with h | h | h
      · rw [if_pos h, if_pos (by omega), if_neg (by omega)]; simp
      · subst h
        rw [if_neg (by omega), if_pos rfl, if_pos (by omega), if_pos rfl, getD_out (by omega)]; simp
      · rw [if_neg (by omega), if_neg (by omega), if_neg (by omega)]
end M3

set_option Elab.async false
set_option linter.all false
set_option maxRecDepth 100000
set_option maxHeartbeats 4000000
namespace Z
open PySem PySem.Spec PyProof.Rows L2 GG M3
/-! ### rows of coefficients as functions -/
abbrev Fn := Nat → Int
def fn (l : List Int) : Fn := fun t => l.getD t 0
def Sh (f : Fn) : Fn := fun t => match t with
  | 0 => 0
  | t + 1 => f t
def Tl (f : Fn) : Fn := fun t => f t - Sh f t
def one1 : Fn := fun t => if t = 0 then 1 else 0
def Tn : Nat → Fn
  | 0 => one1
  | n + 1 => Tl (Tn n)
def Sk : Nat → Fn → Fn
  | 0, f => f
  | k + 1, f => Sh (Sk k f)
def Sn (k : Nat) : Fn := Sk k one1
theorem Sh_Tl (f : Fn) : Sh (Tl f) = Tl (Sh f) := by
  funext t
  cases t with
  | zero => rfl
  | succ t => rfl
theorem Sk_Tl (f : Fn) : ∀ k, Sk k (Tl f) = Tl (Sk k f)
  | 0 => rfl
  | k + 1 => by
    show Sh (Sk k (Tl f)) = Tl (Sh (Sk k f))
    rw [Sk_Tl f k, Sh_Tl]
theorem Sk_Sh (f : Fn) : ∀ k, Sk k (Sh f) = Sh (Sk k f)
  | 0 => rfl
  | k + 1 => by
    show Sh (Sk k (Sh f)) = Sh (Sh (Sk k f))
    rw [Sk_Sh f k]
theorem Sh_add (f g : Fn) : Sh (fun t => f t + g t) = fun t => Sh f t + Sh g t := by
  funext t
  cases t <;> rfl
theorem Sh_mul (c : Int) (f : Fn) : Sh (fun t => c * f t) = fun t => c * Sh f t := by
  funext t
  cases t with
  | zero => show (0 : Int) = c * 0; rw [Int.mul_zero]
  | succ t => rfl
theorem Sk_add (f g : Fn) : ∀ k, Sk k (fun t => f t + g t) = fun t => Sk k f t + Sk k g t
  | 0 => rfl
  | k + 1 => by
    show Sh (Sk k _) = fun t => Sh (Sk k f) t + Sh (Sk k g) t
    rw [Sk_add f g k, Sh_add]
theorem Sk_mul (c : Int) (f : Fn) : ∀ k, Sk k (fun t => c * f t) = fun t => c * Sk k f t
  | 0 => rfl
  | k + 1 => by
    show Sh (Sk k _) = fun t => c * Sh (Sk k f) t
    rw [Sk_mul c f k, Sh_mul]
theorem Tl_add (f g : Fn) : Tl (fun t => f t + g t) = fun t => Tl f t + Tl g t := by
  funext t
  show f t + g t - Sh (fun t => f t + g t) t = (f t - Sh f t) + (g t - Sh g t)
  rw [Sh_add]
  show f t + g t - (Sh f t + Sh g t) = _
  omega
theorem Tl_mul (c : Int) (f : Fn) : Tl (fun t => c * f t) = fun t => c * Tl f t := by
  funext t
  show c * f t - Sh (fun t => c * f t) t = c * (f t - Sh f t)
  rw [Sh_mul, Int.mul_sub]
theorem Sn_at (k t : Nat) : Sn k t = if t = k then 1 else 0 := by
  induction k generalizing t with
  | zero => rfl
  | succ k ih =>
    cases t with
    | zero => rfl
    | succ t =>
      show Sn k t = _
      rw [ih]
      by_cases h : t = k
      · rw [if_pos h, if_pos (by omega)]
      · rw [if_neg h, if_neg (by omega)]
/-- what a form comes to -/
def Ex : List Int → Fn
  | [] => fun _ => 0
  | c :: r => fun t => c * Tn r.length t + Sh (Ex r) t
theorem Sh_zero : Sh (fun _ => 0) = fun _ => 0 := by
  funext t
  cases t <;> rfl
theorem Ex_snoc (c : Int) : ∀ r : List Int, Ex (r ++ [c]) = fun t => Tl (Ex r) t + c * Sn r.length t
  | [] => by
    funext t
    show c * one1 t + Sh (fun _ => 0) t = (0 - Sh (fun _ => 0) t) + c * one1 t
    rw [Sh_zero]
    show c * one1 t + 0 = 0 - 0 + c * one1 t
    omega
  | a :: r => by
    funext t
    show a * Tn (r ++ [c]).length t + Sh (Ex (r ++ [c])) t = Tl (fun t => a * Tn r.length t + Sh (Ex r) t) t + c * Sh (Sn r.length) t
    rw [Ex_snoc c r, Sh_add, Tl_add, Tl_mul, Sh_mul, Sh_Tl, List.length_append]
    show a * Tl (Tn r.length) t + (Tl (Sh (Ex r)) t + c * Sh (Sn r.length) t) = _
    rw [Int.add_assoc]
def zp (k : Int) (x y : List Int) : List Int := List.zipWith (fun a b => a + k * b) x y
theorem Ex_zp (k : Int) : ∀ x y : List Int, x.length = y.length → Ex (zp k x y) = fun t => Ex x t + k * Ex y t
  | [], [], _ => by
    funext t
    show (0 : Int) = 0 + k * 0
    simp
  | a :: x, b :: y, h => by
    have h' : x.length = y.length := by simpa using h
    funext t
    show (a + k * b) * Tn (zp k x y).length t + Sh (Ex (zp k x y)) t = a * Tn x.length t + Sh (Ex x) t + k * (b * Tn y.length t + Sh (Ex y) t)
    rw [Ex_zp k x y h', Sh_add, Sh_mul, ← h', show (zp k x y).length = x.length by simp [zp, h']]
    grind
/-- the next degree -/
def rz (k : Int) (x : List Int) : List Int := zp k (x ++ [0]) (0 :: x)
theorem Ex_rz (x : List Int) : Ex (rz 1 x) = Ex x := by
  unfold rz
  rw [Ex_zp 1 _ _ (by simp), Ex_snoc]
  funext t
  show Ex x t - Sh (Ex x) t + 0 * Sn x.length t + 1 * (0 * Tn x.length t + Sh (Ex x) t) = Ex x t
  grind
theorem rz_len (k : Int) (x : List Int) : (rz k x).length = x.length + 1 := by simp [rz, zp]
theorem zp_get (k : Int) (x y : List Int) (h : x.length = y.length) (t : Nat) : fn (zp k x y) t = fn x t + k * fn y t := by
  unfold fn zp
  rw [List.getD_eq_getElem?_getD, List.getD_eq_getElem?_getD, List.getD_eq_getElem?_getD, List.getElem?_zipWith]
  by_cases lt : t < x.length
  · rw [List.getElem?_eq_getElem lt, List.getElem?_eq_getElem (by omega)]
    rfl
  · rw [List.getElem?_eq_none (by omega), List.getElem?_eq_none (by omega)]
    simp
theorem fn_snoc0 (x : List Int) : fn (x ++ [0]) = fn x := by
  funext t
  unfold fn
  rw [getD_snoc]
  split <;> simp
theorem fn_cons0 (x : List Int) : fn (0 :: x) = Sh (fn x) := by
  funext t
  cases t <;> rfl
theorem rz_down (x : List Int) : fn (rz (-1) x) = Tl (fn x) := by
  funext t
  unfold rz
  rw [zp_get _ _ _ (by simp), fn_snoc0, fn_cons0]
  show fn x t + -1 * Sh (fn x) t = fn x t - Sh (fn x) t
  omega
theorem Ex_ht (x : List Int) : Ex (0 :: (x ++ [0])) = Sh (Tl (Ex x)) := by
  funext t
  show 0 * Tn (x ++ [0]).length t + Sh (Ex (x ++ [0])) t = _
  rw [Ex_snoc, Sh_add, Sh_mul]
  show _ + (Sh (Tl (Ex x)) t + 0 * _) = _
  grind
/-- the last entry and a number -/
def al (x : List Int) (c : Int) : List Int := x.dropLast ++ [x.getLastD 0 + c]
theorem al_len {x : List Int} (h : x ≠ []) (c : Int) : (al x c).length = x.length := by
  unfold al
  have := List.length_pos_iff.mpr h
  simp
  omega
theorem snoc_of {x : List Int} (h : x ≠ []) : ∃ r d, x = r ++ [d] := ⟨x.dropLast, x.getLast h, (List.dropLast_concat_getLast h).symm⟩
theorem al_snoc (r : List Int) (d c : Int) : al (r ++ [d]) c = r ++ [d + c] := by
  unfold al
  simp
theorem Ex_al {x : List Int} (h : x ≠ []) (c : Int) : Ex (al x c) = fun t => Ex x t + c * Sn (x.length - 1) t := by
  obtain ⟨r, d, rfl⟩ := snoc_of h
  rw [al_snoc, Ex_snoc, Ex_snoc]
  funext t
  rw [List.length_append]
  show Tl (Ex r) t + (d + c) * Sn r.length t = Tl (Ex r) t + d * Sn r.length t + c * Sn (r.length + 1 - 1) t
  rw [Nat.add_sub_cancel]
  grind
theorem fn_al {x : List Int} (h : x ≠ []) (c : Int) : fn (al x c) = fun t => fn x t + c * Sn (x.length - 1) t := by
  obtain ⟨r, d, rfl⟩ := snoc_of h
  rw [al_snoc]
  funext t
  unfold fn
  rw [getD_snoc, getD_snoc, Sn_at, List.length_append]
  show _ = _ + c * if t = r.length + 1 - 1 then 1 else 0
  rw [Nat.add_sub_cancel]
  split <;> omega
/-! sizes -/
def Le (M : Nat) (f : Fn) : Prop := ∀ t, (f t).natAbs ≤ M
theorem Le.sh {M : Nat} {f : Fn} (h : Le M f) : Le M (Sh f) := fun t => by
  cases t with
  | zero => exact Nat.zero_le _
  | succ t => exact h t
theorem Le.tl {M : Nat} {f : Fn} (h : Le M f) : Le (2 * M) (Tl f) := fun t => by
  have h1 := h t
  have h2 := h.sh t
  show (f t - Sh f t).natAbs ≤ _
  omega
theorem Le.sk {M : Nat} {f : Fn} (h : Le M f) : ∀ k, Le M (Sk k f)
  | 0 => h
  | k + 1 => (Le.sk h k).sh
theorem Tn_le : ∀ n, Le (2 ^ n) (Tn n)
  | 0 => fun t => by
    show (if t = 0 then (1 : Int) else 0).natAbs ≤ 1
    split <;> decide
  | n + 1 => by
    have := (Tn_le n).tl
    rwa [Nat.pow_succ, Nat.mul_comm]
/-! the law's products -/
theorem strip_getD (l : List Int) : fn (strip l) = fn l := by
  suffices ∀ (k : Nat) (l : List Int), l.length = k → ∀ t, (strip l).getD t 0 = l.getD t 0 from funext fun t => this _ l rfl t
  intro k
  induction k with
  | zero =>
    intro l h t
    obtain rfl := List.eq_nil_of_length_eq_zero h
    rfl
  | succ k ih =>
    intro l h t
    rcases List.eq_nil_or_concat l with rfl | ⟨r, z, rfl⟩
    · rfl
    · rw [List.concat_eq_append] at *
      by_cases hz : z = 0
      · subst hz
        rw [strip_zero, ih r (by simpa using h), getD_snoc]
        split <;> simp
      · rw [strip_last hz]
theorem pf_one (g : List Int) : ∀ (f : List Int) (t : Nat), g = [1, -1] → pf f g t = Tl (fn f) t
  | [], t, _ => by
    cases t <;> rfl
  | x :: f, 0, h => by
    subst h
    show x * 1 + 0 = x - 0
    omega
  | x :: f, 1, h => by
    subst h
    show x * (-1) + pf f [1, -1] 0 = f.getD 0 0 - x
    rw [pf_one _ f 0 rfl]
    show x * (-1) + (f.getD 0 0 - 0) = _
    omega
  | x :: f, t + 2, h => by
    subst h
    show x * 0 + pf f [1, -1] (t + 1) = f.getD (t + 1) 0 - f.getD t 0
    rw [pf_one _ f (t + 1) rfl]
    show x * 0 + (f.getD (t + 1) 0 - f.getD t 0) = _
    omega
theorem pf_shift : ∀ (f : List Int) (t : Nat), pf f [0, 1] t = Sh (fn f) t
  | [], t => by
    cases t <;> rfl
  | x :: f, 0 => by
    show x * 0 + 0 = 0
    omega
  | x :: f, 1 => by
    show x * 1 + pf f [0, 1] 0 = x
    rw [pf_shift f 0]
    show x * 1 + 0 = x
    omega
  | x :: f, t + 2 => by
    show x * 0 + pf f [0, 1] (t + 1) = f.getD t 0
    rw [pf_shift f (t + 1)]
    show x * 0 + f.getD t 0 = _
    omega
theorem pf_num (c : Int) : ∀ (f : List Int) (t : Nat), pf f [c] t = c * fn f t
  | [], t => by
    show (0 : Int) = c * 0
    simp
  | x :: f, 0 => by
    show x * c + 0 = c * x
    rw [Int.add_zero, Int.mul_comm]
  | x :: f, t + 1 => by
    show x * 0 + pf f [c] t = c * f.getD t 0
    rw [pf_num c f t]
    show x * 0 + c * f.getD t 0 = _
    omega
theorem pf_ht (f : List Int) : ∀ (t : Nat), pf f [0, 1, -1] t = Sh (Tl (fn f)) t := by
  intro t
  have e : ([0, 1, -1] : List Int) = [0, 1] ++ [-1] := rfl
  rw [e, pf_snoc_g, pf_shift]
  match t with
  | 0 => rfl
  | 1 =>
    show f.getD 0 0 + 0 = f.getD 0 0 - 0
    omega
  | t + 2 =>
    show f.getD (t + 1) 0 + (if 2 ≤ t + 2 then f.getD (t + 2 - 2) 0 * -1 else 0) = f.getD (t + 1) 0 - f.getD t 0
    rw [if_pos (by omega), show t + 2 - 2 = t by omega]
    omega
def prod (f g : List Int) : List Int := (List.range (f.length + g.length)).map (pf f g)
theorem fn_prod (f g : List Int) : fn (prod f g) = pf f g := by
  funext t
  unfold fn prod
  rw [List.getD_eq_getElem?_getD, List.getElem?_map]
  by_cases h : t < f.length + g.length
  · rw [List.getElem?_range h]
    rfl
  · rw [List.getElem?_eq_none (by rw [List.length_range]; omega), pf_zero _ _ _ (by omega)]
    rfl
/-- two rows without zeros at the end -/
theorem row_ext {a b : List Int} (ha : strip a = a) (hb : strip b = b) (h : fn a = fn b) : a = b := by
  have key : ∀ {a b : List Int}, strip a = a → fn a = fn b → a.length ≤ b.length := by
    intro a b ha h
    rcases List.eq_nil_or_concat a with rfl | ⟨r, z, e⟩
    · exact Nat.zero_le _
    · rw [List.concat_eq_append] at e
      subst e
      by_cases hz : z = 0
      · subst hz
        rw [strip_zero] at ha
        have l1 := congrArg List.length ha
        have l2 := strip_len r
        rw [List.length_append] at l1
        simp at l1
        omega
      · have q := congrFun h r.length
        unfold fn at q
        rw [getD_snoc, if_pos rfl, getD_out (Nat.le_refl _)] at q
        by_cases lt : r.length < b.length
        · simp
          omega
        · rw [getD_out (by omega)] at q
          omega
  have l1 := key ha h
  have l2 := key hb h.symm
  exact ext_getD (by omega) fun t _ => congrFun h t
end Z

set_option Elab.async false
set_option maxRecDepth 100000
set_option maxHeartbeats 4000000
/-! enumerate(t), t a tuple -/
namespace EN
open PySem PySem.Spec PyProof.Rows L2
open Sem (wp)
theorem new_enum {v : Value} {o : Obj} {G : Heap → Prop} (B : Begins v o G) :
    Meets (Builtin.«enumerate.__new__» ⟨[.type "enumerate", v], []⟩) (fun _ R s => G s.heap ∧
      R (.ok (.ret (.ref (s.heap.push o).objs.size)))
        { s with heap := (s.heap.push o).push { cls := .type "enumerate", data := .fields #[.none, .bool false, .ref s.heap.objs.size, rawInt 0, .none, .none] } }) := by
  refine .of_wp fun prog w A R s h => ?_
  obtain ⟨hp, g, d, tk, os⟩ := s
  obtain ⟨hG, h⟩ := h
  have sub := sub_enumerate
  have begin_ : ∀ {A' : Around} {E : Value → Shared → Prop} {Q : Value → Shared → Prop}, Q (.ref hp.objs.size) ⟨hp.push o, g, d, tk, os⟩ →
      wpAny (model prog w) A' (pyIter v) Q E ⟨hp, g, d, tk, os⟩ := fun q => B.iter prog w _ _ ⟨hp, g, d, tk, os⟩ _ hG q
  wp_walk using begin_
  refine wpAny_stack_any fun st => wpAny_pure ?_
  split
  · rename_i c _ _ _ _ _
    cases (c == Value.type "enumerate")
    all_goals
      wp_walk using begin_
      exact ⟨_, rfl, h⟩
  · wp_walk using begin_
    exact ⟨_, rfl, h⟩
theorem call_enum {prog : Program} {w : World} {A : Around} {E : Value → Shared → Prop} {s : Shared} {v : Value} {o : Obj} {G : Heap → Prop} {Q : Value → Shared → Prop} (B : Begins v o G) (hG : G s.heap)
    (h : ∀ h', IsEnum h' (s.heap.objs.size + 1) s.heap.objs.size 0 .none → h'.get? s.heap.objs.size = some o →
      (∀ b u, s.heap.get? b = some u → h'.get? b = some u) → Q (.ref (s.heap.objs.size + 1)) { s with heap := h' }) :
    wpAny (model prog w) A (call (.type "enumerate") [v]) Q E s := by
  apply callType_new F.called_enumerate (by decide) (F.typeCall_enumerate_1 _) (F.newCall_enumerate_1 _) (fun obj => F.args_object_init_2 obj _) F.entry_enumerate_new (new_enum B)
  refine ⟨hG, ?_⟩
  have size : (s.heap.push o).objs.size = s.heap.objs.size + 1 := Heap.size_push ..
  show _ ∧ _
  rw [size]
  have made : IsEnum ((s.heap.push o).push { cls := .type "enumerate", data := .fields #[.none, .bool false, .ref s.heap.objs.size, rawInt 0, .none, .none] }) (s.heap.objs.size + 1) s.heap.objs.size 0 .none := by
    have e := Heap.get?_push_size (s.heap.push o) (o := { cls := .type "enumerate", data := .fields #[.none, .bool false, .ref s.heap.objs.size, rawInt 0, .none, .none] }) rfl
    rwa [size] at e
  refine ⟨⟨_, made, rfl⟩, h _ made ?_ ?_⟩
  · exact Heap.get?_push_of_some _ (Heap.get?_push_size _ B.free)
  · intro b u e
    exact Heap.get?_push_of_some _ (Heap.get?_push_of_some _ e)

/-- the tuple at a, each item in a new pair with its place -/
def Pairs (K : PySem.W.Frag) (a : Addr) : It where
  go := fun i H => ∃ (xs : List V) (x : V), SqT K H a xs ∧ xs[i]? = some x
  yld := fun i H v H' => ∃ T x, v = .ref T ∧ H T = none ∧ H' = upd H T (.tup [.int (i : Nat), x]) ∧ ∀ xs, SqT K H a xs → xs[i]? = some x
  stop := fun i H => ∃ xs : List V, SqT K H a xs ∧ xs.length ≤ i
theorem turn_pairs {P : Program} {w : World} {K : PySem.W.Frag} {elts : List Expr} {kk : Nat} {tpos : Pos} (a e it : Addr) :
    Turn P w K (.Tuple elts kk tpos) (Pairs K a) [e, it] e (fun i h => (∃ old, IsEnum h e it ((i : Nat) : Int) old) ∧ h.IsTupleIter it a i ∧ e ≠ it) where
  mem := List.mem_cons_self ..
  obj := by
    rintro i h ⟨⟨old, he⟩, ⟨o, ho, hc, hd⟩, _⟩ b hb
    simp only [List.mem_cons, List.not_mem_nil, or_false] at hb
    rcases hb with rfl | rfl
    · exact ⟨_, he, fun v q => nomatch q⟩
    · exact ⟨o, ho, fun v q => by rw [hd] at q; cases q⟩
  keep := by
    rintro i h h' ⟨⟨old, he⟩, hi, hne⟩ k
    exact ⟨⟨old, k e (by simp) _ he⟩, hi.at fun o q => k it (by simp) o q, hne⟩
  item := by
    intro X hP hw hK calm i pins s σ H E I hf st hg
    subst hP hw hK
    obtain ⟨⟨old, he⟩, hit, hne⟩ := st
    obtain ⟨xs, x, hq, hx⟩ := hg
    obtain ⟨its, rv, p, hz⟩ := I.tuple hq
    obtain ⟨u, hu, ru⟩ := rv.get hx
    have le : e < s.heap.objs.size := Heap.lt_size he
    have li : it < s.heap.objs.size := by obtain ⟨_, q, _⟩ := hit; exact Heap.lt_size q
    have tup : s.heap.IsTuple a its.toArray := p
    have nai : a ≠ it := by
      rintro rfl
      obtain ⟨o1, q1, c1, _⟩ := tup
      obtain ⟨o2, q2, c2, _⟩ := hit
      rw [q1] at q2
      cases q2
      rw [c1] at c2
      injection c2 with c3
      exact absurd c3 (by decide)
    have nae : a ≠ e := by
      rintro rfl
      obtain ⟨o1, q1, c1, _⟩ := tup
      have q2 : s.heap.get? a = _ := he
      rw [q1] at q2
      cases q2
      injection c1 with c3
      exact absurd c3 (by decide)
    have lt : i < its.toArray.size := by
      have := (List.getElem?_eq_some_iff.mp hu).1
      simpa using this
    refine wpAny_pyNext_enum_itemD (Draws.tuple (A := X.A.in1) (by exact I.ok.hd calm) it a nai its.toArray) he ⟨hit, tup⟩ lt hne (by simp [hne, Ne.symm nae]) fun y h' tk hy ho st' hT hsz hk => ?_
    have ey : y = u := by
      have : its.toArray[i]? = some u := by simpa using hu
      exact Option.some.inj (hy.symm.trans this)
    subst ey
    refine ⟨_, rfl, wpAny_letOwnedTupleGo_enum (s := { s with heap := h', toks := tk + 1 }) ho fun h2 he2 sb => ?_⟩
    have sb' : Heap.SameBut e h' h2 := sb
    have hT2 : h2.get? s.heap.objs.size = some { cls := .type "tuple", data := .seq #[.int i tk, y] } := (sb'.2 _ (Nat.ne_of_gt le)).trans hT
    have new : ObjOk X.prog X.w (upd H s.heap.objs.size (.tup [.int (i : Nat), x])) h2 s.heap.objs.size (.tup [.int (i : Nat), x]) :=
      ⟨by show 2 ≤ sizeLine; decide, [.int i tk, y], .cons ⟨_, rfl⟩ (.cons ru .nil), ⟨_, hT2, rfl, _, rfl⟩⟩
    have I2 : Inv X pins σ (upd H s.heap.objs.size (.tup [.int (i : Nat), x])) { s with heap := h2, toks := tk + 1 } := by
      refine I.turnedNew (ch := [e, it]) (fun b ob hb q => ?_) hf (Nat.le_refl _) new
      have ne : b ≠ e := fun z => hb (by simp [z])
      have ni : b ≠ it := fun z => hb (by simp [z])
      exact (sb'.2 b ne).trans (hk b ob ne ni q)
    refine ⟨.ref s.heap.objs.size, _, I2, rfl, ⟨_, x, rfl, I.hok.fresh (Nat.le_refl _), rfl, fun ys hy => by rw [I.tuple_inj hy hq]; exact hx⟩, ⟨⟨y, ?_⟩, st'.1.at fun o q => (sb'.2 it (Ne.symm hne)).trans q, hne⟩, fun b hb => ?_⟩
    · have e1 : ((i + 1 : Nat) : Int) = (i : Int) + 1 := by omega
      rw [e1]
      exact he2
    · have lb : b < s.heap.objs.size := by
        simp only [List.mem_cons, List.not_mem_nil, or_false] at hb
        rcases hb with rfl | rfl
        · exact le
        · exact li
      rw [upd_ne (Nat.ne_of_lt lb)]
      exact (hf b hb).1
  done := by
    intro X hP hw hK calm i pins s σ H E I hf st hg
    subst hP hw hK
    obtain ⟨⟨old, he⟩, hit, hne⟩ := st
    obtain ⟨xs, hq, hx⟩ := hg
    obtain ⟨its, rv, p, hz⟩ := I.tuple hq
    have tup : s.heap.IsTuple a its.toArray := p
    have nai : a ≠ it := by
      rintro rfl
      obtain ⟨o1, q1, c1, _⟩ := tup
      obtain ⟨o2, q2, c2, _⟩ := hit
      rw [q1] at q2
      cases q2
      rw [c1] at c2
      injection c2 with c3
      exact absurd c3 (by decide)
    obtain ⟨f0, f1, f2, f3, f4, f5⟩ := hf it (by simp)
    have hl := rv.length
    have none_ : its.toArray[i]? = none := by simp; omega
    have hT : s.TypeIs (.ref e) "enumerate" := ⟨_, he, rfl⟩
    unfold pyNext
    refine wpAny_bind (wpAny_attempt (wpAny_callSpecial?_slot (name := Str.ofString "__next__") hT F.slot_enumerate_next
      (wpAny_call_entry F.slot_enumerate_next hT F.entry_enumerate_next ?_ (F.args_enumerate_next_1 _))))
    show wpAny _ _ (field (.ref e) 2 >>= _) _ _ _
    refine wpAny_bind (wpAny_field he rfl (x := .ref it) rfl ?_)
    refine wpAny_bind (wpAny_nextOf_tuple_end (I.ok.hd calm) hit tup none_ fun h' x he' hx' => ?_)
    obtain ⟨o, ho, hc⟩ := hx'
    refine wpAny_bind (wpAny_isInstance (T := "StopIteration") (b := true) ⟨o, ho, hc⟩ isSubtype_stop ?_)
    refine wpAny_pure ⟨rfl, ?_⟩
    exact I.turned (t' := s.toks) (fun b o hb q => he' b o hb q) f0 f1 f3 f4 f5
  self := by
    rintro A i s Q E ⟨⟨old, he⟩, _⟩ h
    exact wpAny_pyIter_enum he h
section
variable {X : Cx}
def tPairs (K : PySem.W.Frag) (ta : TA) : TI := fun σ H R => ta σ H fun vs H1 => ∃ a xs, vs = [.ref a] ∧ SqT K H1 a xs ∧ R (Pairs K a) H1
theorem pi_pairs {e : Expr} {ta : TA} {p pos tpos : Pos} {elts : List Expr} {kk : Nat} (glob : Gl X "enumerate") (none_ : X.mg "enumerate" = none) (args : PA X [e] ta)
    (star : starEach [e] X.env = [(false, eval e X.env)] := by rfl) : PI X (.Tuple elts kk tpos) (.Call (.Name "enumerate" p) [e] [] pos) (tPairs X.K ta) := by
  constructor
  intro pins s σ H R I h
  refine Call_ (ld_blt I glob none_ boot_enumerate ?_)
  refine PyProof.Rows.callWith_type1 (thn (args.run pos pins s σ H _ I h) fun us s1 got => ?_) star rfl
  obtain ⟨vs, H1, I1, r1, a, xs, ex, hq, q⟩ := got
  subst ex
  obtain ⟨u, eu, ru⟩ := vals1 r1
  subst eu
  have eu : u = Value.ref a := ru
  subst eu
  obtain ⟨its, rv, p', hz⟩ := I1.tuple hq
  refine call_enum (begins_tuple a its.toArray) p' fun h' he hit hk => wpAny_pyIter_enum he ?_
  have I2 : Inv X pins σ H1 { s1 with heap := h' } := I1.kept (t' := s1.toks) hk
  refine ⟨s1.heap.objs.size + 1, [s1.heap.objs.size + 1, s1.heap.objs.size], _, _, H1, rfl, I2, turn_pairs a (s1.heap.objs.size + 1) s1.heap.objs.size, ⟨⟨.none, he⟩, ⟨_, hit, rfl, rfl⟩, Nat.succ_ne_self _⟩, fun b hb => ?_, q⟩
  have above : s1.heap.objs.size ≤ b := by
    simp only [List.mem_cons, List.not_mem_nil, or_false] at hb
    rcases hb with rfl | rfl
    · exact Nat.le_add_right _ _
    · exact Nat.le_refl _
  exact I1.fpOk above (I1.hok.fresh above)
/-- the loop over the pairs -/
theorem for_pairs {K : PySem.W.Frag} {a : Addr} {xs : List V} {g : TG} {tb : TS} {D : Ends} {σ : L2.St} {H : Hp} (Pv : Nat → L2.St → Hp → Prop) (h0 : Pv 0 σ H) (hl : ∀ i σ H, i ≤ xs.length → Pv i σ H → SqT K H a xs)
    (turn : ∀ i x σ H T, xs[i]? = some x → Pv i σ H → H T = none → g (.ref T) σ (upd H T (.tup [.int (i : Nat), x])) fun σ2 H2 => tb { D with nx := Pv (i + 1), ct := Pv (i + 1), bk := D.nx } σ2 H2) (done : ∀ σ H, Pv xs.length σ H → D.nx σ H) :
    ∃ W : Nat → Nat → L2.St → Hp → Prop, (∃ m, W 0 m σ H) ∧ ∀ i m σ H, W i m σ H →
      ((Pairs K a).stop i H ∧ D.nx σ H) ∨ ((Pairs K a).go i H ∧ ∃ N : L2.St → Hp → Prop, (∀ σ' H', N σ' H' → ∃ m', m' < m ∧ W (i + 1) m' σ' H') ∧ ∀ x H', (Pairs K a).yld i H x H' → g x σ H' fun σ2 H2 => tb { D with nx := N, ct := N, bk := D.nx } σ2 H2) := by
  refine ⟨fun i m σ H => m = xs.length - i ∧ i ≤ xs.length ∧ Pv i σ H, ⟨xs.length, by simp, Nat.zero_le _, h0⟩, ?_⟩
  rintro i m σ H ⟨rfl, le, pv⟩
  have here := hl i σ H le pv
  rcases Nat.lt_or_ge i xs.length with lt | ge
  · refine .inr ⟨⟨xs, xs[i], here, List.getElem?_eq_getElem lt⟩, Pv (i + 1), fun σ' H' n => ⟨xs.length - (i + 1), by omega, rfl, lt, n⟩, ?_⟩
    rintro v H' ⟨T, x, rfl, nT, rfl, hx⟩
    exact turn i x σ H T (hx xs here) pv nT
  · have e : i = xs.length := by omega
    subst e
    exact .inl ⟨⟨xs, here, Nat.le_refl _⟩, done σ H pv⟩
end
end EN

set_option Elab.async false
set_option linter.all false
set_option maxRecDepth 100000
set_option maxHeartbeats 4000000
/-! operators and calls that the layer has for fewer numbers -/
namespace OPS
open PySem PySem.Spec PyProof.Rows L2
section
variable {X : Cx}
/-- a divisor of either sign -/
def CDivZ (_ j : Int) : Prop := j ≠ 0 ∧ j.natAbs.log2 < 9000
theorem op_fdivZ : OpR X (binaryOp .FloorDiv) (rI CDivZ fun i j => .int (i.fdiv j)) := opI fun _ _ _ _ _ _ _ c q => floordiv_int c.1 q (.inl (PyProof.noPylong_of_log2 c.2))
theorem call_divmodZ : CallR X (.builtin "divmod") (fun vs H Q => ∃ i j : Int, vs = [.int i, .int j] ∧ CDivZ i j ∧ ∀ p, H p = none → Q (.ref p) (upd H p (.tup [.int (i.fdiv j), .int (i.fmod j)]))) := by
  intro pins s σ H vs us Q I r h
  obtain ⟨i, j, ev, c, q⟩ := h
  subst ev
  obtain ⟨u, v, eu, ⟨t, et⟩, ⟨t', et'⟩⟩ := vals2 r
  subst eu et et'
  apply divmod_int c.1 _ (.inl (PyProof.noPylong_of_log2 c.2))
  have free : H s.heap.objs.size = none := I.hok.fresh (Nat.le_refl _)
  refine ⟨.ref s.heap.objs.size, _, I.laid (fun b o e => Heap.get?_push_of_some _ e) (Nat.le_refl _) ?_, rfl, q _ free⟩
  exact ⟨by show 2 ≤ sizeLine; decide, [.int (i.fdiv j) s.toks, .int (i.fmod j) (s.toks + 1)], .cons ⟨_, rfl⟩ (.cons ⟨_, rfl⟩ .nil), ⟨_, Heap.get?_push_size s.heap rfl, rfl, 0, rfl⟩⟩
/-- xs[i] as read ahead of xs[i] op= .. -/
theorem get_list : PGet X (fun o i H Q => ∃ (p : Addr) (xs : List V) (k : Nat) (v : V), o = .ref p ∧ i = .int (k : Int) ∧ SqL X.K H p xs ∧ xs[k]? = some v ∧ Q v H) := by
  intro pins s σ H o i ov iv Q I ro ri h
  obtain ⟨p, xs, k, v, eo, ei, hq, hv, q⟩ := h
  subst eo ei
  have eov : ov = Value.ref p := ro
  subst eov
  obtain ⟨t, et⟩ := ri
  subst et
  obtain ⟨its, r, pl, hz⟩ := I.list hq
  obtain ⟨u, hu, ru⟩ := r.get hv
  have lt : k < its.length := (List.getElem?_eq_some_iff.mp hu).1
  have hl := r.length
  have hn := line63
  refine wpAny_getItem_list pl.isList (by omega) (by omega) (x := u) (by simpa using hu) ⟨v, H, I, ru, q⟩
/-- any(xs), xs a list of ints -/
def rAnyI (K : PySem.W.Frag) : List V → Hp → VK → Prop := fun vs H Q => ∃ (a : Addr) (ns : List Int), vs = [.ref a] ∧ SqL K H a (ns.map V.int) ∧ Q (.bl (ns.any fun n => n != 0)) H
theorem dpI {K : PySem.W.Frag} {H : Hp} : ∀ ns : List Int, DpAll K H (ns.map V.int) (ns.map PyData.int)
  | [] => .nil
  | n :: r => .cons (.int n) (dpI r)
theorem plain_ints : ∀ ns : List Int, PyData.plainAll (ns.map PyData.int) = true
  | [] => rfl
  | _ :: r => by simp [PyData.plainAll, PyData.plain, plain_ints r]
theorem any_truthy : ∀ ns : List Int, (ns.map PyData.int).any PyData.truthy = ns.any fun n => n != 0
  | [] => rfl
  | n :: r => by simp [PyData.truthy, List.any_map]; rfl
theorem call_anyI (calm : X.calm = true) : CallR X (.builtin "any") (rAnyI X.K) := by
  intro pins s σ H vs us Q I r h
  obtain ⟨a, ns, ev, hs, q⟩ := h
  subst ev
  rw [Vals.ref1 r]
  obtain ⟨as, reads⟩ := Dp.reads I (.list (ns.map PyData.int)) (.ref a) (.ref a) (.lst hs (dpI ns)) rfl
  obtain ⟨its, rv, hl, _⟩ := I.list hs
  cases reads with
  | list hg hc hd hr =>
    rename_i o vs n bs
    refine PySem.W.any_list_data (vs := vs) (I.ok.hd calm) ⟨_, hg, hc, _, hd⟩ hr (plain_ints ns) (fun x hx => ?_) fun h' tk hk => ?_
    · obtain ⟨n, _, rfl⟩ := List.mem_map.mp hx
      trivial
    · exact ⟨.bl _, H, I.kept hk, by rw [any_truthy]; rfl, q⟩
end
end OPS

set_option Elab.async false
set_option linter.all false
set_option maxRecDepth 100000
set_option maxHeartbeats 4000000
set_option exponentiation.threshold 20000
namespace Z
open PySem PySem.Spec PyProof.Rows L2 GG M3
abbrev sTrim : Stmt := top 7
abbrev sDiv : Stmt := top 8
theorem Same.tup {K : PySem.W.Frag} {H H' : Hp} {a : Addr} {xs : List V} (e : Same H H') (h : SqT K H a xs) : SqT K H' a xs := by
  rcases h with (h | ⟨o, h⟩) | h
  · exact .inl (.inl (e _ _ h))
  · exact .inl (.inr ⟨o, e _ _ h⟩)
  · exact .inr h
theorem tup_of {K : PySem.W.Frag} {H : Hp} {a : Addr} {xs : List V} (h : H a = some (.tup xs)) : SqT K H a xs := .inl (.inl h)
theorem ixN_of {n j : Nat} {z : Int} (e : z = (j : Int)) (h : j < n) : ixN n z = some j := by
  subst e
  unfold ixN
  rw [if_pos (by omega), if_pos (by omega)]
  simp
theorem get_int {ns : List Int} {k : Nat} (h : k < ns.length) : (ns.map V.int)[k]? = some (.int (ns.getD k 0)) := by
  rw [List.getElem?_map, List.getElem?_eq_getElem h, List.getD_eq_getElem?_getD, List.getElem?_eq_getElem h]
  rfl
theorem cut_len {xs : List V} (j : Nat) : cutV xs none (some (j : Int)) = xs.take (min j xs.length) := by
  unfold cutV
  rw [HT.sIx_none, HT.sIx_nat]
  rfl
theorem many_zeros (n : Nat) : (List.replicate n [V.int 0]).flatten = (List.replicate n (0 : Int)).map V.int := by
  induction n with
  | zero => rfl
  | succ n ih => rw [List.replicate_succ, List.flatten_cons, ih, List.replicate_succ]; rfl
structure Names3 (mg : Str → Option Value) : Prop extends Names mg where
  max : mg "max" = none
  min : mg "min" = none
  reversed : mg "reversed" = none
  divmod : mg "divmod" = none
  enumerate : mg "enumerate" = none
  any : mg "any" = none
  all : mg "all" = none
  repr : mg "repr" = none
section
variable {P : Program} {w : World} {K : PySem.W.Frag} {mg : Str → Option Value} {base : Heap}
/-! ### the program -/
def spTrim (K : PySem.W.Frag) : Sp := fun vs H Q _ => ∃ (a : Addr) (ns : List Int), vs = [.ref a] ∧ SqL K H a (ns.map V.int) ∧ ∀ p H', Same H H' → H p = none → H' p = some (.tup ((strip ns).map V.int)) → Q (.ref p) H'
theorem scTrim : FnScope ["coefficients", "size"] ["coefficients"] (defScope sTrim) := ⟨rfl, rfl, rfl, by decide +kernel, rfl, by decide +kernel, by decide +kernel⟩
theorem ok_trim {f : Addr} {fd : FuncData} (F : Fun K "trim_zeros" "trim_zeros" sTrim f fd) (T : Names mg) : FnOk P w K mg base CX0 1 f fd ["coefficients"] (spTrim K) := by
  refine F.ok scTrim (fun vs H Q E h => ?_) (fun cdv A outer s H vs Q E hr h => ?_)
  · obtain ⟨a, ns, rfl, _⟩ := h
    rfl
  · obtain ⟨a, ns, rfl, hS, q⟩ := h
    refine ⟨_, (pss_cons (ps_set (i := 1) scTrim.nd rfl (.inl rfl) (pe_callB call_len_seq (by rfl) T.len PySem.boot_len (pa_cons (pv 0) pa_nil)))
      (pss_cons (ps_while PassesOwn.never (PW.pt (pw_and (pt_cmpR op_gt (pv 1) pe_int (nomark _)) (pw_and1 (pt_cmpR op_eq (pe_ix ix_list (pv 0) (pe_op op_sub (pv 1) pe_int) (fun _ _ => rfl)) pe_int (nomark _))))) (pss_one (ps_aug (i := 1) scTrim.nd rfl (.inl rfl) pe_int ip_sub)))
      (pss_one (ps_ret (pe_callTy call_tuple_of (by rfl) T.tuple (by decide +kernel) (pa_cons (pe_slice sl_list (pv 0) po_none (po_some (pv 1))) pa_nil)))))), ?_⟩
    refine ⟨.ref a, rfl, a, _, rfl, .inl hS, ?_⟩
    refine ⟨fun n σ H' => ∃ j : Nat, n = j ∧ j ≤ ns.length ∧ σ = [some (V.ref a), some (V.int (j : Int))] ∧ H' = H ∧ strip (ns.take j) = strip ns, ⟨ns.length, ns.length, rfl, Nat.le_refl _, by rw [List.length_map]; rfl, rfl, by rw [List.take_length]⟩, ?_⟩
    rintro j σ H' ⟨_, rfl, hj, rfl, rfl, ej⟩
    have fin : ∀ j : Nat, j ≤ ns.length → strip ns = ns.take j → ∀ c, H' c = none → ∀ p, upd H' c (.lst (cutV (ns.map V.int) none (some (j : Int)))) p = none → Q (.ref p) (upd (upd H' c (.lst (cutV (ns.map V.int) none (some (j : Int))))) p (.tup (cutV (ns.map V.int) none (some (j : Int))))) := fun j hj e c nc p np => by
      have s2 := (Same.upd (o := .lst (cutV (ns.map V.int) none (some (j : Int)))) nc).trans (Same.upd (o := .tup (cutV (ns.map V.int) none (some (j : Int)))) np)
      refine q p _ s2 ((Same.upd nc).free np) ?_
      rw [upd_same, cut_len, e, List.length_map, Nat.min_eq_left hj, List.map_take]
    refine ⟨_, rfl, _, _, rfl, rfl, _, rfl, ?_⟩
    cases j with
    | zero =>
      rw [decide_eq_false (by omega)]
      refine iteF (iteF ⟨.ref a, rfl, _, rfl, ((0 : Nat) : Int), rfl, a, _, rfl, hS, fun c nc => ⟨c, _, rfl, .inl ⟨SqL.of upd_same, fin 0 (Nat.zero_le _) (by rw [← ej]; rfl) c nc⟩⟩⟩)
    | succ j =>
      rw [decide_eq_true (by omega)]
      refine iteT ⟨.ref a, rfl, _, rfl, _, _, rfl, rfl, a, _, _, .int (ns.getD j 0), rfl, rfl, hS, at_of (j := j) (by omega) (get_int (by omega)), rfl, _, rfl, ?_⟩
      have et : ns.take (j + 1) = ns.take j ++ [ns.getD j 0] := by
        rw [List.take_succ_eq_append_getElem (by omega), List.getD_eq_getElem?_getD, List.getElem?_eq_getElem (by omega)]
        rfl
      by_cases hz : ns.getD j 0 = 0
      · rw [hz, decide_eq_true rfl]
        refine iteT ⟨fun σ H4 => ∃ j' : Nat, j' < j + 1 ∧ j' ≤ ns.length ∧ σ = [some (V.ref a), some (V.int (j' : Int))] ∧ H4 = H' ∧ strip (ns.take j') = strip ns, ?_, ?_⟩
        · rintro σ H4 ⟨j', lt, h1, h2, h3, h4⟩
          exact ⟨j', lt, j', rfl, h1, h2, h3, h4⟩
        · refine ⟨_, rfl, _, _, rfl, rfl, j, by omega, by omega, ?_, rfl, by rw [← ej, et, hz, strip_zero]⟩
          show [some (V.ref a), some (V.int (((j + 1 : Nat) : Int) - 1))] = _
          rw [show ((j + 1 : Nat) : Int) - 1 = (j : Int) by omega]
      · rw [decide_eq_false (by intro e; exact hz (V.int.inj e))]
        exact iteF ⟨.ref a, rfl, _, rfl, ((j + 1 : Nat) : Int), rfl, a, _, rfl, hS, fun c nc => ⟨c, _, rfl, .inl ⟨SqL.of upd_same, fin (j + 1) hj (by rw [← ej, et, strip_last hz]) c nc⟩⟩⟩
/-- a row, and what it is divided by, whose last coefficient is l -/
structure Dv (A B : Nat) (ps f : List Int) (l : Int) : Prop where
  hB : B ≤ 8900
  hA : A ≤ 300000
  last : f.getD (f.length - 1) 0 = l
  one : 1 ≤ f.length
  nz : l ≠ 0
  lp : ps.length ≤ 60
  lf : f.length ≤ 60
  bp : Bd (2 ^ A) ps
  bf : Bd (2 ^ B) f
def quo (ps f : List Int) (l : Int) : Option (List Int) := res (divP f f.length l (ps.length + 1 - f.length) ps (List.replicate (ps.length + 1 - f.length) 0))
theorem Dv.last_at {A B : Nat} {ps f : List Int} {l : Int} (d : Dv A B ps f l) : atI (f.map V.int) (-1) = some (.int l) := by
  have h := d.one
  have hne : f ≠ [] := fun e => by rw [e] at h; simp at h
  have e := List.dropLast_concat_getLast hne
  have el : f.getLast hne = l := by
    rw [← d.last, List.getD_eq_getElem?_getD, List.getElem?_eq_getElem (by omega), List.getLast_eq_getElem]
    rfl
  rw [← e, List.map_append, el]
  exact atI_last _ _
theorem Dv.lead {A B : Nat} {ps f : List Int} {l : Int} (d : Dv A B ps f l) : l.natAbs ≤ 2 ^ B := by
  have := d.bf (f.length - 1)
  rwa [d.last] at this
theorem Dv.div {A B : Nat} {ps f : List Int} {l : Int} (d : Dv A B ps f l) (x : Int) : OPS.CDivZ x l :=
  ⟨d.nz, Nat.lt_of_lt_of_le (PySem.Flt.log2_lt_of (k := B + 1) (by omega) (Nat.lt_of_le_of_lt d.lead (Nat.pow_lt_pow_right (by decide) (by omega)))) (by have := d.hB; omega)⟩
/-- how large the numbers are after i turns -/
theorem grow {A B : Nat} (i : Nat) : 2 ^ A * (2 ^ B + 1) ^ i ≤ 2 ^ (A + (B + 1) * i) := by
  rw [Nat.pow_add, Nat.pow_mul]
  refine Nat.mul_le_mul_left _ (Nat.pow_le_pow_left ?_ _)
  rw [Nat.pow_succ]
  have : 1 ≤ 2 ^ B := Nat.one_le_two_pow
  omega
theorem steps {B i n : Nat} (hB : B ≤ 8900) (hi : i < n) (hn : n ≤ 61) : (B + 1) * i ≤ 540000 := Nat.le_trans (Nat.mul_le_mul (show B + 1 ≤ 8901 by omega) (show i ≤ 60 by omega)) (by decide)
theorem wide_le2 {x y : Int} {a b : Nat} (hx : x.natAbs ≤ 2 ^ a) (hy : y.natAbs ≤ 2 ^ b) (h : a + b + 2 ≤ 1000000) : CMulW x y :=
  wide_mul (a := a + 1) (b := b + 1) (Nat.lt_of_le_of_lt hx (Nat.pow_lt_pow_right (by decide) (by omega))) (Nat.lt_of_le_of_lt hy (Nat.pow_lt_pow_right (by decide) (by omega))) (by omega) (by omega) (by omega)
def spDiv (K : PySem.W.Frag) : Sp := fun vs H Q _ => ∃ (p o : Addr) (ps f : List Int) (l : Int) (A B : Nat), vs = [.ref p, .ref o] ∧ SqT K H p (ps.map V.int) ∧ SqT K H o (f.map V.int) ∧ Dv A B ps f l ∧
  (quo ps f l = none → ∀ H', Same H H' → Q .non H') ∧ ∀ q, quo ps f l = some q → ∀ t H', Same H H' → H t = none → H' t = some (.tup ((strip q).map V.int)) → Q (.ref t) H'
theorem scDiv : FnScope ["polynomial", "other", "size", "rest", "quotient", "at", "factor", "left", "k", "c"] ["polynomial", "other"] (defScope sDiv) := ⟨rfl, rfl, rfl, by decide +kernel, rfl, by decide +kernel, by decide +kernel⟩
theorem ok_div {f0 g : Addr} {fd gd : FuncData} (F : Fun K "divide_exactly" "divide_exactly" sDiv f0 fd) (T : Names3 mg) (GT : FnOk P w K mg base CX0 1 g gd ["coefficients"] (spTrim K)) (PT_ : Def K mg "trim_zeros" g gd ["coefficients"]) :
    FnOk P w K mg base CX0 2 f0 fd ["polynomial", "other"] (spDiv K) := by
  refine F.ok scDiv (fun vs H Q E h => ?_) (fun cdv A outer s H vs Q E hr h => ?_)
  · obtain ⟨p, o, ps, f, l, A0, B0, rfl, _⟩ := h
    rfl
  · obtain ⟨p, o, ps, f, l, A0, B0, rfl, hP, hO, D, qn, qs⟩ := h
    refine ⟨_, (pss_cons (ps_set (i := 2) scDiv.nd rfl (.inl rfl) (pe_callB (max_is rfl) (by rfl) T.max (by decide +kernel) (pa_cons pe_int (pa_cons (pe_op op_add (pe_op op_sub (pe_callB call_len_seq (by rfl) T.len PySem.boot_len (pa_cons (pv 0) pa_nil)) (pe_callB call_len_seq (by rfl) T.len PySem.boot_len (pa_cons (pv 1) pa_nil))) pe_int) pa_nil))))
      (pss_cons (ps_set (i := 3) scDiv.nd rfl (.inl rfl) (pe_callTy call_list_of (by rfl) T.list (by decide +kernel) (pa_cons (pv 0) pa_nil)))
      (pss_cons (ps_set (i := 4) scDiv.nd rfl (.inl rfl) (pe_op op_rep (pe_lst (pa_cons pe_int pa_nil)) (pv 2)))
      (pss_cons (ps_for PassesOwn.never rfl (pi_revR (by rfl) T.reversed (prg_1 (by rfl) T.range (pv 2))) (pg_name (i := 5) scDiv.nd rfl (.inl rfl)) (pss_cons (ps_asg (pe_callB OPS.call_divmodZ (by rfl) T.divmod (by decide +kernel) (pa_cons (pe_ix ix_list (pv 3) (pe_op op_sub (pe_op op_add (pv 5) (pe_callB call_len_seq (by rfl) T.len PySem.boot_len (pa_cons (pv 1) pa_nil))) pe_int) (fun _ _ => rfl)) (pa_cons (pe_ix ix_tup (pv 1) (pe_un un_neg pe_int) (fun _ _ => rfl)) pa_nil))) (pg_tup rfl (pgs_cons (pg_name (i := 6) scDiv.nd rfl (.inl rfl)) (pgs_cons (pg_name (i := 7) scDiv.nd rfl (.inl rfl)) pgs_nil))))
      (pss_cons (ps_if (pt_cmpR op_ne (pv 7) pe_int (nomark _)) (pss_one (ps_ret pe_non)) pss_nil)
      (pss_cons (ps_asg (pv 6) (pg_sub (pv 4) (pv 5) set_list))
      (pss_one (ps_for PassesOwn.never rfl (EN.pi_pairs (by rfl) T.enumerate (pa_cons (pv 1) pa_nil)) (pg_tup rfl (pgs_cons (pg_name (i := 8) scDiv.nd rfl (.inl rfl)) (pgs_cons (pg_name (i := 9) scDiv.nd rfl (.inl rfl)) pgs_nil))) (pss_one (ps_augS (pv 3) (pe_op op_add (pv 5) (pv 8)) OPS.get_list (pe_op op_mulW (pv 6) (pv 9)) ip_sub set_list))))))))
      (pss_cons (ps_if (pt_val (pe_callB (OPS.call_anyI rfl) (by rfl) T.any (by decide +kernel) (pa_cons (pv 3) pa_nil))) (pss_one (ps_ret pe_non)) pss_nil)
      (pss_one (ps_ret (pe_call GT (hr.mono (by first | decide | omega)) (by rfl) PT_.is PT_.kp PT_.bi .nil pass0 (pa_cons (pv 4) pa_nil))))))))), ?_⟩
    have h1 := D.one
    have hlp := D.lp
    have hlf := D.lf
    obtain ⟨n, hn⟩ : ∃ n : Nat, n = ps.length + 1 - f.length := ⟨_, rfl⟩
    refine ⟨.ref p, rfl, p, _, rfl, .inr hP, .ref o, rfl, o, _, rfl, .inr hO, _, _, rfl, rfl, _, _, rfl, rfl, _, _, (n : Int), rfl, ?_, ?_⟩
    · rw [List.length_map, List.length_map]
      split <;> omega
    refine ⟨.ref p, rfl, p, _, rfl, .inr hP, fun R nR => ?_⟩
    refine ⟨by show 1 ≤ sizeLine; decide, fun z nz => ⟨_, rfl, z, (n : Int), _, rfl, rfl, upd_same, by omega, by omega, ?_, fun Qt nQ => ?_⟩⟩
    · show 1 * (n : Int).toNat ≤ sizeLine
      rw [Int.toNat_natCast, Nat.one_mul]
      exact Nat.le_of_lt (small1000 (by omega))
    have s1 : Same H (upd H R (.lst (ps.map V.int))) := Same.upd nR
    have s2 := Same.upd (o := .lst [.int 0]) nz
    have s3 := Same.upd (o := .lst (List.replicate (n : Int).toNat [V.int 0]).flatten) nQ
    have eR := s3 _ _ (s2 _ _ (upd_same (H := H) (a := R) (o := .lst (ps.map V.int))))
    have nQR : Qt ≠ R := (ne_of_none (s2 _ _ (upd_same (H := H) (a := R) (o := .lst (ps.map V.int)))) nQ).symm
    have nQH : H Qt = none := (s1.trans s2).free nQ
    have eQ : upd (upd (upd H R (.lst (ps.map V.int))) z (.lst [.int 0])) Qt (.lst (List.replicate (n : Int).toNat [V.int 0]).flatten) Qt = some (.lst ((List.replicate n (0 : Int)).map V.int)) := by
      rw [upd_same, Int.toNat_natCast, many_zeros]
    have sH : Same H (upd (upd (upd H R (.lst (ps.map V.int))) z (.lst [.int 0])) Qt (.lst (List.replicate (n : Int).toNat [V.int 0]).flatten)) := (s1.trans s2).trans s3
    change (_ : Hp → Prop) (upd (upd (upd H R (.lst (ps.map V.int))) z (.lst [.int 0])) Qt (.lst (List.replicate (n : Int).toNat [V.int 0]).flatten))
    generalize upd (upd (upd H R (.lst (ps.map V.int))) z (.lst [.int 0])) Qt (.lst (List.replicate (n : Int).toNat [V.int 0]).flatten) = H0 at eR eQ sH ⊢
    clear s1 s2 s3
    have hq0 : quo ps f l = res (divP f f.length l n ps (List.replicate n 0)) := by rw [hn]; rfl
    refine ⟨_, rfl, (n : Int), rfl, by omega, by omega, by omega, by omega, ?_⟩
    refine for_rangeC (fun i σ H' => ∃ (r q : List Int) (v5 v6 v7 v8 v9 : Option V), σ = [some (V.ref p), some (V.ref o), some (V.int (n : Int)), some (V.ref R), some (V.ref Qt), v5, v6, v7, v8, v9] ∧ Same H H' ∧
        H' R = some (.lst (r.map V.int)) ∧ H' Qt = some (.lst (q.map V.int)) ∧ r.length = ps.length ∧ q.length = n ∧ Bd (2 ^ A0 * (2 ^ B0 + 1) ^ i) r ∧ divP f f.length l (n - i) r q = divP f f.length l n ps (List.replicate n 0))
      ⟨ps, List.replicate n 0, none, none, none, none, none, rfl, sH, eR, eQ, rfl, by simp, by simpa using D.bp, rfl⟩ ?_ ?_
    · rintro i σ H' hi ⟨r, q, v5, v6, v7, v8, v9, rfl, sH', eR', eQ', hrl, hql, hbr, hd⟩
      have hin : i < n := by simpa using hi
      obtain ⟨a, ha⟩ : ∃ a : Nat, a = n - 1 - i := ⟨_, rfl⟩
      have hP' := Same.tup sH' hP
      have hO' := Same.tup sH' hO
      have hai : n - i = a + 1 := by omega
      rw [hai] at hd
      have hfit : a + f.length ≤ r.length := by omega
      have bx : (r.getD (a + f.length - 1) 0).natAbs ≤ 2 ^ (A0 + (B0 + 1) * i) := Nat.le_trans (hbr _) (grow i)
      have hlen : ((f.map V.int).length : Int) = (f.length : Int) := by rw [List.length_map]
      refine ⟨.ref R, rfl, _, rfl, .ref o, rfl, o, _, rfl, .inr hO', _, _, rfl, rfl, _, _, rfl, rfl, R, _, _, .int (r.getD (a + f.length - 1) 0), rfl, rfl, SqL.of eR', at_of (j := a + f.length - 1) (by rw [hlen]; simp; omega) (get_int (by omega)),
        .ref o, rfl, 1, rfl, o, _, -1, .int l, rfl, rfl, hO', D.last_at, _, _, rfl, D.div _, fun t nt => ?_⟩
      refine ⟨t, _, rfl, tup_of upd_same, rfl, _, _, rfl, _, _, rfl, rfl, ?_⟩
      have st := Same.upd (o := .tup [.int ((r.getD (a + f.length - 1) 0).fdiv l), .int ((r.getD (a + f.length - 1) 0).fmod l)]) nt
      have eR1 := st _ _ eR'
      have eQ1 := st _ _ eQ'
      have hO1 := Same.tup st hO'
      have sH1 := sH'.trans st
      generalize upd H' t (.tup [.int ((r.getD (a + f.length - 1) 0).fdiv l), .int ((r.getD (a + f.length - 1) 0).fmod l)]) = H1 at eR1 eQ1 hO1 sH1 ⊢
      refine ⟨_, rfl, rfl, _, rfl, ?_⟩
      by_cases hz : (r.getD (a + f.length - 1) 0).fmod l = 0
      · rw [hz, decide_eq_true rfl]
        refine iteF ?_
        have hd2 : divP f f.length l a (subs ((r.getD (a + f.length - 1) 0).fdiv l) r a f) (q.set a ((r.getD (a + f.length - 1) 0).fdiv l)) = divP f f.length l n ps (List.replicate n 0) := by
          rw [← hd]
          show _ = (if (r.getD (a + f.length - 1) 0).fmod l ≠ 0 then none else _)
          rw [if_neg (by simpa using hz)]
        -- quotient[at] = factor
        refine ⟨_, rfl, .ref Qt, rfl, _, rfl, Qt, _, _, a, rfl, rfl, eQ1, ixN_of (by simp; omega) (by rw [List.length_map]; omega), ?_⟩
        have eQ2 : upd H1 Qt (.lst ((q.map V.int).set a (V.int ((r.getD (a + f.length - 1) 0).fdiv l)))) Qt = some (.lst ((q.set a ((r.getD (a + f.length - 1) 0).fdiv l)).map V.int)) := by
          rw [upd_same, List.map_set]
        have eR2 : upd H1 Qt (.lst ((q.map V.int).set a (V.int ((r.getD (a + f.length - 1) 0).fdiv l)))) R = some (.lst (r.map V.int)) := by
          rw [upd_ne (Ne.symm nQR)]
          exact eR1
        have sH2 : Same H (upd H1 Qt (.lst ((q.map V.int).set a (V.int ((r.getD (a + f.length - 1) 0).fdiv l))))) := fun b o e => by
          rw [upd_ne (ne_of_none e nQH)]
          exact sH1 _ _ e
        change (_ : Hp → Prop) (upd H1 Qt (.lst ((q.map V.int).set a (V.int ((r.getD (a + f.length - 1) 0).fdiv l)))))
        generalize upd H1 Qt (.lst ((q.map V.int).set a (V.int ((r.getD (a + f.length - 1) 0).fdiv l)))) = H2 at eR2 eQ2 sH2 ⊢
        have bc : ((r.getD (a + f.length - 1) 0).fdiv l).natAbs ≤ 2 ^ (A0 + (B0 + 1) * i) := Nat.le_trans (fdiv_le D.nz) bx
        have bc2 : ((r.getD (a + f.length - 1) 0).fdiv l).natAbs ≤ 2 ^ A0 * (2 ^ B0 + 1) ^ i := Nat.le_trans (fdiv_le D.nz) (hbr _)
        generalize (r.getD (a + f.length - 1) 0).fdiv l = c at hd2 eQ2 bc bc2 ⊢
        -- for k, c in enumerate(other)
        refine ⟨.ref o, rfl, o, _, rfl, Same.tup sH2 hO, ?_⟩
        refine EN.for_pairs (K := K) (xs := f.map V.int) (fun j σ H' => ∃ (v8 v9 : Option V), σ = [some (V.ref p), some (V.ref o), some (V.int (n : Int)), some (V.ref R), some (V.ref Qt), some (V.int ((0 : Int) + (((n : Int) - 0).toNat : Nat) - 1 + (i : Nat) * (-1))), some (V.int c), some (V.int 0), v8, v9] ∧ Same H H' ∧
            H' R = some (.lst ((subs c r a (f.take j)).map V.int)) ∧ H' Qt = some (.lst ((q.set a c).map V.int)))
          ⟨_, _, rfl, sH2, eR2, eQ2⟩ (fun j σ H' _ ⟨_, _, _, s, _⟩ => Same.tup s hO) ?_ ?_
        · rintro j x σ H' T hx ⟨v8, v9, rfl, s5, eR5, eQ5⟩ nT
          have hj : j < f.length := by
            have := (List.getElem?_eq_some_iff.mp hx).1
            rwa [List.length_map] at this
          have ex : x = .int (f.getD j 0) := by
            rw [get_int hj] at hx
            exact (Option.some.inj hx).symm
          subst ex
          have s6 := Same.upd (o := .tup [.int (j : Nat), .int (f.getD j 0)]) nT
          have eR6 := s6 _ _ eR5
          have eQ6 := s6 _ _ eQ5
          have sH6 := s5.trans s6
          refine ⟨T, _, rfl, tup_of upd_same, rfl, _, _, rfl, _, _, rfl, rfl, ?_⟩
          generalize upd H' T (.tup [.int (j : Nat), .int (f.getD j 0)]) = H6 at eR6 eQ6 sH6 ⊢
          have hsl := subs_len c (f.take j) r a
          refine ⟨.ref R, rfl, _, rfl, _, rfl, _, _, rfl, rfl, R, _, a + j, _, rfl, congrArg V.int (by simp; omega), SqL.of eR6, get_int (by omega), _, rfl, _, rfl, _, _, rfl, rfl, wide_le2 bc (D.bf j) (by have := steps D.hB hin (show n ≤ 61 by have := D.lp; omega); have := D.hA; have := D.hB; omega), _, _, rfl, rfl, R, _, _, a + j, rfl, rfl, eR6, ixN_of (by simp; omega) (by rw [List.length_map]; omega), ?_⟩
          refine ⟨_, _, rfl, ?_, ?_, ?_⟩
          · intro b o e
            rw [upd_ne (ne_of_none e nR)]
            exact sH6 _ _ e
          · rw [upd_same, List.take_succ_eq_append_getElem hj, subs_snoc _ _ _ _ _ (by rw [List.length_take]; omega), List.length_take, Nat.min_eq_left (by omega), List.map_set]
            have ef : f.getD j 0 = f[j] := by
              rw [List.getD_eq_getElem?_getD, List.getElem?_eq_getElem hj]
              rfl
            rw [ef]
          · rw [upd_ne nQR]
            exact eQ6
        · rintro σ H' ⟨v8, v9, rfl, s5, eR5, eQ5⟩
          rw [List.length_map, List.take_length] at eR5
          refine ⟨subs c r a f, q.set a c, _, _, _, _, _, rfl, s5, eR5, eQ5, by rw [subs_len]; exact hrl, by rw [List.length_set]; exact hql, ?_, by rw [show n - (i + 1) = a by omega]; exact hd2⟩
          rw [show 2 ^ A0 * (2 ^ B0 + 1) ^ (i + 1) = (2 ^ A0 * (2 ^ B0 + 1) ^ i) * (2 ^ B0 + 1) from by rw [Nat.pow_succ (2 ^ B0 + 1) i, Nat.mul_assoc]]
          exact subs_bd hbr bc2 D.bf hfit
      · rw [decide_eq_false (by intro e; exact hz (V.int.inj e))]
        refine iteT (qn ?_ _ sH1)
        rw [hq0, ← hd]
        show res (if (r.getD (a + f.length - 1) 0).fmod l ≠ 0 then none else _) = none
        rw [if_pos hz]
        rfl
    · rintro σ H' ⟨r, q, v5, v6, v7, v8, v9, rfl, sH', eR', eQ', hrl, hql, hbr, hd⟩
      have en : (((n : Int) - 0).toNat : Nat) = n := by simp
      rw [en, Nat.sub_self] at hd
      have hq1 : quo ps f l = if (r.any fun a => a != 0) = true then none else some q := by rw [hq0, ← hd]; rfl
      refine ⟨.ref R, rfl, R, r, rfl, SqL.of eR', _, rfl, ?_⟩
      by_cases h : (r.any fun a => a != 0) = true
      · rw [h]
        exact iteT (qn (by rw [hq1, if_pos h]) _ sH')
      · rw [Bool.eq_false_iff.mpr h]
        exact iteF ⟨.ref Qt, rfl, Qt, q, rfl, SqL.of eQ', fun t H2 s2 nt et => qs q (by rw [hq1, if_neg h]) t H2 (sH'.trans s2) (sH'.free nt) et⟩
end
end Z

set_option Elab.async false
set_option linter.all false
set_option maxRecDepth 100000
set_option maxHeartbeats 4000000
set_option exponentiation.threshold 20000
namespace Z
open PySem PySem.Spec PyProof.Rows L2 GG M3
abbrev sStrip : Stmt := top 34
abbrev sProd : Stmt := top 36
abbrev sAdd : Stmt := top 35
structure Names8 (mg : Str → Option Value) : Prop extends Names mg where
  max : mg "max" = none
  enumerate : mg "enumerate" = none
  repr : mg "repr" = none
  zip : mg "zip" = none
  isinstance : mg "isinstance" = none
  all : mg "all" = none
theorem lc_zT {K : PySem.W.Frag} {a b : Addr} {xs ys : List V} {g : TG} {tt : TT} {te : TE} {vs : List Nat} {σ : L2.St} {H1 : Hp} {D : Addr} {Qd : Hp → Prop} (len : xs.length = ys.length) (Pv : Nat → Hp → Prop) (h0 : Pv 0 (upd H1 D (.lst []))) (hl : ∀ i H, Pv i H → SqT K H a xs ∧ SqT K H b ys)
    (turn : ∀ i x y H T, xs[i]? = some x → ys[i]? = some y → Pv i H → H T = none → g (.ref T) (wipe σ vs) (upd H T (.tup [x, y])) fun σ2 H2 => wipe σ2 vs = wipe σ vs ∧ tt σ2 H2 fun c H3 =>
      if c = true then te σ2 H3 fun y H4 => ∃ acc, H4 D = some (.lst acc) ∧ acc.length < sizeLine ∧ Pv (i + 1) (upd H4 D (.lst (acc ++ [y]))) else Pv (i + 1) H3) (done : ∀ H, Pv xs.length H → Qd H) :
    ∃ W : Nat → Nat → Hp → Prop, (∃ m, W 0 m (upd H1 D (.lst []))) ∧ ∀ i m H, W i m H →
      ((RZ.ItzT K a b).stop i H ∧ Qd H) ∨ ((RZ.ItzT K a b).go i H ∧ ∃ Nx : Hp → Prop, (∀ H', Nx H' → ∃ m', m' < m ∧ W (i + 1) m' H') ∧
        ∀ x H', (RZ.ItzT K a b).yld i H x H' → g x (wipe σ vs) H' fun σ2 H2 => wipe σ2 vs = wipe σ vs ∧ tt σ2 H2 fun c H3 =>
          if c = true then te σ2 H3 fun y H4 => ∃ acc, H4 D = some (.lst acc) ∧ acc.length < sizeLine ∧ Nx (upd H4 D (.lst (acc ++ [y]))) else Nx H3) := by
  refine ⟨fun i m H => m = xs.length - i ∧ i ≤ xs.length ∧ Pv i H, ⟨_, rfl, Nat.zero_le _, h0⟩, ?_⟩
  rintro i m H ⟨rfl, le, pv⟩
  obtain ⟨qx, qy⟩ := hl i H pv
  rcases Nat.lt_or_ge i xs.length with lt | ge
  · have hx : xs[i]? = some xs[i] := List.getElem?_eq_getElem lt
    have lt2 : i < ys.length := by omega
    have hy : ys[i]? = some ys[i] := List.getElem?_eq_getElem lt2
    refine .inr ⟨⟨xs, ys, _, _, qx, qy, hx, hy⟩, Pv (i + 1), fun H' n => ⟨xs.length - (i + 1), by omega, rfl, lt, n⟩, ?_⟩
    rintro v H' ⟨T, x, y, rfl, nT, rfl, f1, f2⟩
    exact turn i x y H T (f1 xs qx) (f2 ys qy) pv nT
  · have e : i = xs.length := by omega
    subst e
    exact .inl ⟨⟨xs, ys, qx, qy, .inl (Nat.le_refl _)⟩, done H pv⟩
theorem lc_zL {K : PySem.W.Frag} {a b : Addr} {xs ys : List V} {g : TG} {tt : TT} {te : TE} {vs : List Nat} {σ : L2.St} {H1 : Hp} {D : Addr} {Qd : Hp → Prop} (len : xs.length = ys.length) (Pv : Nat → Hp → Prop) (h0 : Pv 0 (upd H1 D (.lst []))) (hl : ∀ i H, Pv i H → SqL K H a xs ∧ SqL K H b ys)
    (turn : ∀ i x y H T, xs[i]? = some x → ys[i]? = some y → Pv i H → H T = none → g (.ref T) (wipe σ vs) (upd H T (.tup [x, y])) fun σ2 H2 => wipe σ2 vs = wipe σ vs ∧ tt σ2 H2 fun c H3 =>
      if c = true then te σ2 H3 fun y H4 => ∃ acc, H4 D = some (.lst acc) ∧ acc.length < sizeLine ∧ Pv (i + 1) (upd H4 D (.lst (acc ++ [y]))) else Pv (i + 1) H3) (done : ∀ H, Pv xs.length H → Qd H) :
    ∃ W : Nat → Nat → Hp → Prop, (∃ m, W 0 m (upd H1 D (.lst []))) ∧ ∀ i m H, W i m H →
      ((Itz K a b).stop i H ∧ Qd H) ∨ ((Itz K a b).go i H ∧ ∃ Nx : Hp → Prop, (∀ H', Nx H' → ∃ m', m' < m ∧ W (i + 1) m' H') ∧
        ∀ x H', (Itz K a b).yld i H x H' → g x (wipe σ vs) H' fun σ2 H2 => wipe σ2 vs = wipe σ vs ∧ tt σ2 H2 fun c H3 =>
          if c = true then te σ2 H3 fun y H4 => ∃ acc, H4 D = some (.lst acc) ∧ acc.length < sizeLine ∧ Nx (upd H4 D (.lst (acc ++ [y]))) else Nx H3) := by
  refine ⟨fun i m H => m = xs.length - i ∧ i ≤ xs.length ∧ Pv i H, ⟨_, rfl, Nat.zero_le _, h0⟩, ?_⟩
  rintro i m H ⟨rfl, le, pv⟩
  obtain ⟨qx, qy⟩ := hl i H pv
  rcases Nat.lt_or_ge i xs.length with lt | ge
  · have hx : xs[i]? = some xs[i] := List.getElem?_eq_getElem lt
    have lt2 : i < ys.length := by omega
    have hy : ys[i]? = some ys[i] := List.getElem?_eq_getElem lt2
    refine .inr ⟨⟨xs, ys, _, _, qx, qy, hx, hy⟩, Pv (i + 1), fun H' n => ⟨xs.length - (i + 1), by omega, rfl, lt, n⟩, ?_⟩
    rintro v H' ⟨T, x, y, rfl, nT, rfl, f1, f2⟩
    exact turn i x y H T (f1 xs qx) (f2 ys qy) pv nT
  · have e : i = xs.length := by omega
    subst e
    exact .inl ⟨⟨xs, ys, qx, qy, .inl (Nat.le_refl _)⟩, done H pv⟩
theorem getD_setZ {l : List Int} {k : Nat} {v : Int} (h : k < l.length) (t : Nat) : (l.set k v).getD t 0 = if t = k then v else l.getD t 0 := by
  rw [List.getD_eq_getElem?_getD, List.getElem?_set]
  by_cases e : k = t
  · subst e
    rw [if_pos rfl, if_pos h, if_pos rfl]
    rfl
  · rw [if_neg e, if_neg (Ne.symm e), List.getD_eq_getElem?_getD]
theorem prod_of {f g tot : List Int} (len : tot.length = f.length + g.length) (h : ∀ t, t < f.length + g.length → tot.getD t 0 = pf f g t) : tot = prod f g := by
  apply List.ext_getElem?
  intro i
  unfold prod
  rw [List.getElem?_map]
  by_cases lt : i < f.length + g.length
  · have q := h i lt
    rw [List.getD_eq_getElem?_getD, List.getElem?_eq_getElem (by omega)] at q
    rw [List.getElem?_range lt, List.getElem?_eq_getElem (by omega)]
    exact congrArg some q
  · rw [List.getElem?_eq_none (by omega), List.getElem?_eq_none (by rw [List.length_range]; omega)]
    rfl
section
variable {P : Program} {w : World} {K : PySem.W.Frag} {mg : Str → Option Value} {base : Heap}
theorem len_seqK {X : Cx} {K : PySem.W.Frag} (hK : X.K = K) : CallR X (.builtin "len") (fun xs H Q => ∃ l ys, xs = [.ref l] ∧ (SqL K H l ys ∨ SqT K H l ys) ∧ Q (.int (ys.length : Nat)) H) := by
  subst hK
  exact call_len_seq
theorem call_listK {X : Cx} {K : PySem.W.Frag} (hK : X.K = K) : CallR X (.type "list") (fun xs H Q => ∃ p ys, xs = [.ref p] ∧ (SqL K H p ys ∨ SqT K H p ys) ∧ ∀ l, H l = none → Q (.ref l) (upd H l (.lst ys))) := by
  subst hK
  exact call_list_of
theorem call_isi2 {X : Cx} {K : PySem.W.Frag} (hK : X.K = K) : CallR X (.builtin "isinstance") (rIsi K) := by
  subst hK
  exact call_isi
def spStrip (K : PySem.W.Frag) : Sp := fun vs H Q _ => ∃ (a : Addr) (ns : List Int), vs = [.ref a] ∧ (SqL K H a (ns.map V.int) ∨ SqT K H a (ns.map V.int)) ∧ ∀ p H', Same H H' → H p = none → H' p = some (.tup ((strip ns).map V.int)) → Q (.ref p) H'
theorem scStrip : FnScope ["numbers", "found"] ["numbers"] (defScope sStrip) := ⟨rfl, rfl, rfl, by decide +kernel, rfl, by decide +kernel, by decide +kernel⟩
theorem ok_strip {f : Addr} {fd : FuncData} (F : Fun K "_law_strip" "_law_strip" sStrip f fd) (T : Names mg) : FnOk P w K mg base CX0 1 f fd ["numbers"] (spStrip K) := by
  refine F.ok scStrip (fun vs H Q E h => ?_) (fun cdv A outer s H vs Q E hr h => ?_)
  · obtain ⟨a, ns, rfl, _⟩ := h
    rfl
  · obtain ⟨a, ns, rfl, hS, q⟩ := h
    have hu : A.units + 3 + 64 < cLine := hr.units
    refine ⟨_, pss_cons (ps_set (i := 1) scStrip.nd rfl (.inl rfl) (pe_callTy call_list_of (by rfl) T.list (by decide +kernel) (pa_cons (pv 0) pa_nil)))
      (pss_cons (ps_while PassesOwn.never (PW.pt (pw_and (pt_cmpR (op_neD hu) (pv 1) (pe_lst pa_nil) (nomark _)) (pw_and1 (pt_cmpR op_eq (pe_ix ix_list (pv 1) (pe_un un_neg pe_int) (fun _ _ => rfl)) pe_int (nomark _)))))
        (pss_one (ps_expr (pe_bm0 PySem.F.plainAttrs_list PySem.F.slot_list_pop PySem.F.type_list_pop mt_pop (pv 1)))))
      (pss_one (ps_ret (pe_callTy call_tuple_of (by rfl) T.tuple (by decide +kernel) (pa_cons (pv 1) pa_nil))))), ?_⟩
    refine ⟨.ref a, rfl, a, _, rfl, hS, fun l nl => ?_⟩
    have s1 : Same H (upd H l (.lst (ns.map V.int))) := Same.upd nl
    refine ⟨fun n σ H' => ∃ xs : List Int, n = xs.length ∧ σ = [some (V.ref a), some (V.ref l)] ∧ Same H H' ∧ H' l = some (.lst (xs.map V.int)) ∧ strip xs = strip ns, ⟨ns.length, ns, rfl, rfl, s1, upd_same, rfl⟩, ?_⟩
    rintro n σ H' ⟨xs, rfl, rfl, s2, hl, ex⟩
    refine ⟨.ref l, rfl, Nat.zero_le _, fun e ne => ?_⟩
    have s3 : Same H' (upd H' e (.lst [])) := Same.upd ne
    have hl3 := s3 _ _ hl
    have de : Dp K (upd H' e (.lst [])) (.ref e) (.list []) := .lst (SqL.of upd_same) .nil
    generalize upd H' e (.lst []) = H3 at s3 hl3 de ⊢
    refine ⟨.list (xs.map PyData.int), .list [], .lst (SqL.of hl3) (dpInts xs), de, PySem.W.ke_shaped_ints xs, rfl, _, rfl, ?_⟩
    have fin : ∀ ys : List Int, H3 l = some (.lst (ys.map V.int)) → strip ns = ys → ∀ p, H3 p = none → Q (.ref p) (upd H3 p (.tup (ys.map V.int))) := fun ys hy e1 p np =>
      q p _ ((s2.trans s3).trans (Same.upd np)) ((s2.trans s3).free np) (by rw [upd_same, e1])
    rcases List.eq_nil_or_concat xs with rfl | ⟨ys, z, rfl⟩
    · exact iteF (iteF ⟨.ref l, rfl, l, _, rfl, .inl ⟨SqL.of hl3, fin [] hl3 (by rw [← ex]; rfl)⟩⟩)
    · rw [List.concat_eq_append] at *
      rw [eqv_nil (by simp)]
      refine iteT ?_
      have em : ((ys ++ [z]).map V.int) = ys.map V.int ++ [V.int z] := by rw [List.map_append]; rfl
      refine ⟨.ref l, rfl, 1, rfl, l, _, -1, .int z, rfl, rfl, SqL.of hl3, by rw [em]; exact atI_last _ _, rfl, _, rfl, ?_⟩
      by_cases hz : z = 0
      · subst hz
        rw [decide_eq_true rfl]
        refine iteT ⟨fun σ H4 => ∃ xs : List Int, xs.length < (ys ++ [(0 : Int)]).length ∧ σ = [some (V.ref a), some (V.ref l)] ∧ Same H H4 ∧ H4 l = some (.lst (xs.map V.int)) ∧ strip xs = strip ns, ?_, ?_⟩
        · rintro σ H4 ⟨xs, lt, e1, e2, e3, e4⟩
          exact ⟨xs.length, lt, xs, rfl, e1, e2, e3, e4⟩
        · refine ⟨.ref l, rfl, .inl ⟨rfl, _, SqL.of hl3⟩, l, _, .int 0, rfl, rfl, hl3, ?_, ys, by simp, rfl, ?_, ?_, by rw [← ex, strip_zero]⟩
          · rw [em]
            simp
          · exact fun b o e => by rw [upd_ne (ne_of_none e nl)]; exact s3 _ _ (s2 _ _ e)
          · rw [upd_same, em, List.dropLast_concat]
      · rw [decide_eq_false (by intro e; exact hz (V.int.inj e))]
        exact iteF ⟨.ref l, rfl, l, _, rfl, .inl ⟨SqL.of hl3, fin _ hl3 (by rw [← ex, strip_last hz])⟩⟩
def spProd (K : PySem.W.Frag) : Sp := fun vs H Q _ => ∃ (x y : Addr) (f g : List Int), vs = [.ref x, .ref y] ∧ SqT K H x (f.map V.int) ∧ SqT K H y (g.map V.int) ∧ f.length ≤ 60 ∧ g.length ≤ 60 ∧ Bd (2 ^ 400) f ∧ Bd (2 ^ 400) g ∧
  ∀ p H', Same H H' → H p = none → H' p = some (.tup ((strip (prod f g)).map V.int)) → Q (.ref p) H'
theorem scProd : FnScope ["one", "other", "found", "i", "a", "j", "b"] ["one", "other"] (defScope sProd) := ⟨rfl, rfl, rfl, by decide +kernel, rfl, by decide +kernel, by decide +kernel⟩
theorem ok_prod {f0 t : Addr} {fd td : FuncData} (F : Fun K "_law_product" "_law_product" sProd f0 fd) (T : Names8 mg) (GT : FnOk P w K mg base CX0 1 t td ["numbers"] (spStrip K)) (PT_ : Def K mg "_law_strip" t td ["numbers"]) :
    FnOk P w K mg base CX0 2 f0 fd ["one", "other"] (spProd K) := by
  refine F.ok scProd (fun vs H Q E h => ?_) (fun cdv A outer s H vs Q E hr h => ?_)
  · obtain ⟨x, y, f, g, rfl, _⟩ := h
    rfl
  · obtain ⟨x, y, f, g, rfl, hX, hY, hlf, hlg, bf, bg, q⟩ := h
    refine ⟨_, (pss_cons (ps_set (i := 2) scProd.nd rfl (.inl rfl) (pe_op op_rep (pe_lst (pa_cons pe_int pa_nil)) (pe_op op_add (pe_callB call_len_seq (by rfl) T.len PySem.boot_len (pa_cons (pv 0) pa_nil)) (pe_callB call_len_seq (by rfl) T.len PySem.boot_len (pa_cons (pv 1) pa_nil)))))
      (pss_cons (ps_for PassesOwn.never rfl (EN.pi_pairs (by rfl) T.enumerate (pa_cons (pv 0) pa_nil)) (pg_tup rfl (pgs_cons (pg_name (i := 3) scProd.nd rfl (.inl rfl)) (pgs_cons (pg_name (i := 4) scProd.nd rfl (.inl rfl)) pgs_nil))) (pss_one (ps_for PassesOwn.never rfl (EN.pi_pairs (by rfl) T.enumerate (pa_cons (pv 1) pa_nil)) (pg_tup rfl (pgs_cons (pg_name (i := 5) scProd.nd rfl (.inl rfl)) (pgs_cons (pg_name (i := 6) scProd.nd rfl (.inl rfl)) pgs_nil))) (pss_one (ps_asg (pe_op op_add (pe_ix ix_list (pv 2) (pe_op op_add (pv 3) (pv 5)) (fun _ _ => rfl)) (pe_op op_mulW (pv 4) (pv 6))) (pg_sub (pv 2) (pe_op op_add (pv 3) (pv 5)) set_list))))))
      (pss_one (ps_ret (pe_call GT (hr.mono (by first | decide | omega)) (by rfl) PT_.is PT_.kp PT_.bi .nil pass0 (pa_cons (pv 2) pa_nil)))))), ?_⟩
    obtain ⟨n, hn⟩ : ∃ n : Nat, n = f.length + g.length := ⟨_, rfl⟩
    refine ⟨by show 1 ≤ sizeLine; decide, fun z nz => ?_⟩
    have s1 := Same.upd (o := .lst [.int 0]) nz
    refine ⟨.ref x, rfl, x, _, rfl, .inr (Same.tup s1 hX), .ref y, rfl, y, _, rfl, .inr (Same.tup s1 hY), _, _, rfl, rfl, z, (n : Int), _, rfl, ?_, upd_same, by omega, by omega, ?_, fun R nR => ?_⟩
    · rw [List.length_map, List.length_map, hn]
      rfl
    · show 1 * (n : Int).toNat ≤ sizeLine
      rw [Int.toNat_natCast, Nat.one_mul]
      exact Nat.le_of_lt (small1000 (by omega))
    have s2 := Same.upd (o := .lst (List.replicate (n : Int).toNat [V.int 0]).flatten) nR
    have nRH : H R = none := s1.free nR
    have eR : upd (upd H z (.lst [.int 0])) R (.lst (List.replicate (n : Int).toNat [V.int 0]).flatten) R = some (.lst ((List.replicate n (0 : Int)).map V.int)) := by
      rw [upd_same, Int.toNat_natCast, many_zeros]
    have sH : Same H (upd (upd H z (.lst [.int 0])) R (.lst (List.replicate (n : Int).toNat [V.int 0]).flatten)) := s1.trans s2
    change (_ : Hp → Prop) (upd (upd H z (.lst [.int 0])) R (.lst (List.replicate (n : Int).toNat [V.int 0]).flatten))
    generalize upd (upd H z (.lst [.int 0])) R (.lst (List.replicate (n : Int).toNat [V.int 0]).flatten) = H0 at eR sH ⊢
    clear s1 s2
    refine ⟨.ref x, rfl, x, _, rfl, Same.tup sH hX, ?_⟩
    refine EN.for_pairs (K := K) (xs := f.map V.int) (fun i σ H' => ∃ (tot : List Int) (v3 v4 v5 v6 : Option V), σ = [some (V.ref x), some (V.ref y), some (V.ref R), v3, v4, v5, v6] ∧ Same H H' ∧ H' R = some (.lst (tot.map V.int)) ∧
        tot.length = n ∧ ∀ t, t < n → tot.getD t 0 = pf (f.take i) g t)
      ⟨List.replicate n 0, _, _, _, _, rfl, sH, eR, by simp, fun t ht => ?_⟩ (fun i σ H' _ ⟨_, _, _, _, _, _, s, _⟩ => Same.tup s hX) ?_ ?_
    · rw [List.getD_eq_getElem?_getD, List.getElem?_replicate, if_pos ht]
      rfl
    · rintro i v σ H' T hv ⟨tot, v3, v4, v5, v6, rfl, s2, ed, hlen, ag⟩ nT
      have hi : i < f.length := by
        have := (List.getElem?_eq_some_iff.mp hv).1
        rwa [List.length_map] at this
      have ev : v = .int (f.getD i 0) := by
        rw [get_int hi] at hv
        exact (Option.some.inj hv).symm
      subst ev
      have s3 := Same.upd (o := .tup [.int (i : Nat), .int (f.getD i 0)]) nT
      refine ⟨T, _, rfl, tup_of upd_same, rfl, _, _, rfl, _, _, rfl, rfl, ?_⟩
      refine ⟨.ref y, rfl, y, _, rfl, Same.tup (s2.trans s3) hY, ?_⟩
      refine EN.for_pairs (K := K) (xs := g.map V.int) (fun j σ H' => ∃ (tot : List Int) (v5 v6 : Option V), σ = [some (V.ref x), some (V.ref y), some (V.ref R), some (V.int (i : Int)), some (V.int (f.getD i 0)), v5, v6] ∧ Same H H' ∧ H' R = some (.lst (tot.map V.int)) ∧
          tot.length = n ∧ ∀ t, t < n → tot.getD t 0 = pf (f.take i) g t + if i ≤ t then f.getD i 0 * (g.take j).getD (t - i) 0 else 0)
        ⟨tot, _, _, rfl, s2.trans s3, s3 _ _ ed, hlen, fun t ht => by rw [ag t ht]; simp⟩ (fun i σ H' _ ⟨_, _, _, _, s, _⟩ => Same.tup s hY) ?_ ?_
      · rintro j v σ H1 T1 hv ⟨tot, v5, v6, rfl, s4, ed4, hlen4, ag4⟩ nT1
        have hj : j < g.length := by
          have := (List.getElem?_eq_some_iff.mp hv).1
          rwa [List.length_map] at this
        have ev : v = .int (g.getD j 0) := by
          rw [get_int hj] at hv
          exact (Option.some.inj hv).symm
        subst ev
        have s5 := Same.upd (o := .tup [.int (j : Nat), .int (g.getD j 0)]) nT1
        have ed5 := s5 _ _ ed4
        have s6 := s4.trans s5
        refine ⟨T1, _, rfl, tup_of upd_same, rfl, _, _, rfl, _, _, rfl, rfl, ?_⟩
        generalize upd H1 T1 (.tup [.int (j : Nat), .int (g.getD j 0)]) = H2 at ed5 s6 ⊢
        refine ⟨.ref R, rfl, _, rfl, _, rfl, _, _, rfl, rfl, R, _, _, .int (tot.getD (i + j) 0), rfl, rfl, SqL.of ed5, at_of (j := i + j) (by omega) (get_int (by omega)), _, rfl, _, rfl, _, _, rfl, rfl, wide_le2 (bf i) (bg j) (by decide), _, _, rfl, rfl, .ref R, rfl, _, rfl, _, rfl, _, _, rfl, rfl, R, _, _, i + j, rfl, rfl, ed5, ixN_of (by omega) (by rw [List.length_map]; omega), ?_⟩
        refine ⟨tot.set (i + j) (tot.getD (i + j) 0 + f.getD i 0 * g.getD j 0), _, _, rfl, ?_, ?_, by rw [List.length_set]; exact hlen4, fun t ht => ?_⟩
        · intro b o e
          rw [upd_ne (ne_of_none e nRH)]
          exact s6 _ _ e
        · rw [upd_same, List.map_set]
        · rw [getD_setZ (by omega)]
          have et : (g.take (j + 1)) = g.take j ++ [g.getD j 0] := by
            rw [List.take_succ_eq_append_getElem hj, List.getD_eq_getElem?_getD, List.getElem?_eq_getElem hj]
            rfl
          by_cases e : t = i + j
          · subst e
            rw [if_pos rfl, ag4 _ ht, if_pos (Nat.le_add_right _ _), if_pos (Nat.le_add_right _ _), Nat.add_sub_cancel_left, et, getD_snoc, List.length_take, Nat.min_eq_left (by omega), if_pos rfl, getD_out (g := g.take j) (t := j) (by rw [List.length_take]; omega), Int.mul_zero, Int.zero_add, Int.add_zero]
          · rw [if_neg e, ag4 t ht]
            by_cases le : i ≤ t
            · rw [if_pos le, if_pos le, et, getD_snoc, List.length_take, Nat.min_eq_left (by omega), if_neg (by omega), Int.add_zero]
            · rw [if_neg le, if_neg le]
      · rintro σ H1 ⟨tot, v5, v6, rfl, s4, ed4, hlen4, ag4⟩
        refine ⟨tot, _, _, _, _, rfl, s4, ed4, hlen4, fun t ht => ?_⟩
        rw [ag4 t ht, List.length_map, List.take_length, List.take_succ_eq_append_getElem hi, pf_snoc_f, List.length_take, Nat.min_eq_left (by omega)]
        have e : f.getD i 0 = f[i] := by
          rw [List.getD_eq_getElem?_getD, List.getElem?_eq_getElem hi]
          rfl
        rw [e]
    · rintro σ H' ⟨tot, v3, v4, v5, v6, rfl, s2, ed, hlen, ag⟩
      rw [List.length_map, List.take_length] at ag
      have et : tot = prod f g := prod_of (by omega) fun t ht => ag t (by omega)
      rw [et] at ed
      exact ⟨.ref R, rfl, R, prod f g, rfl, .inl (SqL.of ed), fun p H4 s4 np e4 => q p H4 (s2.trans s4) (s2.free np) e4⟩
/-! ### the law's sum -/
def sumF (f g : List Int) : List Int := (List.range (max f.length g.length)).map fun i => f.getD i 0 + g.getD i 0
theorem fn_sum (f g : List Int) : fn (sumF f g) = fun t => fn f t + fn g t := by
  funext t
  unfold fn sumF
  rw [List.getD_eq_getElem?_getD, List.getElem?_map]
  by_cases h : t < max f.length g.length
  · rw [List.getElem?_range h]
    rfl
  · rw [List.getElem?_eq_none (by rw [List.length_range]; omega), getD_out (g := f) (by omega), getD_out (g := g) (by omega)]
    rfl
def pad (n : Nat) (f : List Int) : List Int := f ++ List.replicate (n - f.length) 0
theorem pad_len {n : Nat} {f : List Int} (h : f.length ≤ n) : (pad n f).length = n := by
  unfold pad
  rw [List.length_append, List.length_replicate]
  omega
theorem pad_getD (n : Nat) (f : List Int) (t : Nat) : (pad n f).getD t 0 = f.getD t 0 := by
  unfold pad
  rw [List.getD_eq_getElem?_getD, List.getD_eq_getElem?_getD, List.getElem?_append]
  by_cases h : t < f.length
  · rw [if_pos h]
  · rw [if_neg h, List.getElem?_replicate, List.getElem?_eq_none (by omega)]
    split <;> rfl
def spAdd (K : PySem.W.Frag) : Sp := fun vs H Q _ => ∃ (x y : Addr) (f g : List Int), vs = [.ref x, .ref y] ∧ SqT K H x (f.map V.int) ∧ SqT K H y (g.map V.int) ∧ f.length ≤ 200 ∧ g.length ≤ 200 ∧
  ∀ p H', Same H H' → H p = none → H' p = some (.tup ((strip (sumF f g)).map V.int)) → Q (.ref p) H'
theorem scAdd : FnScope ["one", "other", "many", "wide", "poly", "a", "b"] ["one", "other"] (defScope sAdd) := ⟨rfl, rfl, rfl, by decide +kernel, rfl, by decide +kernel, by decide +kernel⟩
theorem ok_add {f0 t : Addr} {fd td : FuncData} (F : Fun K "_law_add" "_law_add" sAdd f0 fd) (T : Names8 mg) (GS : FnOk P w K mg base CX0 1 t td ["numbers"] (spStrip K)) (PS_ : Def K mg "_law_strip" t td ["numbers"]) :
    FnOk P w K mg base CX0 2 f0 fd ["one", "other"] (spAdd K) := by
  refine F.ok scAdd (fun vs H Q E h => ?_) (fun cdv A outer s H vs Q E hr h => ?_)
  · obtain ⟨x, y, f, g, rfl, _⟩ := h
    rfl
  · obtain ⟨x, y, f, g, rfl, hX, hY, hlf, hlg, q⟩ := h
    refine ⟨_, (pss_cons (ps_set (i := 2) scAdd.nd rfl (.inr rfl) (pe_callB (max_is rfl) (by rfl) T.max (by decide +kernel) (pa_cons (pe_callB call_len_seq (by rfl) T.len PySem.boot_len (pa_cons (pv 0) pa_nil)) (pa_cons (pe_callB call_len_seq (by rfl) T.len PySem.boot_len (pa_cons (pv 1) pa_nil)) pa_nil))))
      (pss_cons (ps_setLc (i := 3) (own := [("poly", 4)]) (g := gName 4) (tt := tYes) rfl scAdd.nd rfl rfl (sw_true rfl rfl rfl (by decide +kernel)) (pi_tup (pe_tup (pa_cons (pv 0) (pa_cons (pv 1) pa_nil)))) (blkOk_by (N := ["one", "other", "many", "wide", "poly", "a", "b"]) (sc := defScope sAdd) (own := [("poly", 4)]) (by decide +kernel)) (fun _ _ _ _ _ => (pg_name (i := 4) scAdd.nd rfl (.inl rfl))) (fun _ _ _ _ _ => pts_nil) (fun _ _ _ _ _ => (pe_op op_cat (pe_callTy (call_listK (K := K) rfl) (by rfl) T.list (by decide +kernel) (pa_cons (pv 4) pa_nil)) (pe_op op_rep (pe_lst (pa_cons pe_int pa_nil)) (pe_op op_sub (pv 2) (pe_callB (len_seqK (K := K) rfl) (by rfl) T.len PySem.boot_len (pa_cons (pv 4) pa_nil)))))))
      (pss_one (ps_ret (pe_call GS (hr.mono (by first | decide | omega)) (by rfl) PS_.is PS_.kp PS_.bi .nil pass0 (pa_cons (pe_lc (own := [("a", 5), ("b", 6)]) (g := gTup K 2 (gCons (gName 5) (gCons (gName 6) gNil))) (tt := tYes) rfl scAdd.nd (RZ.pi_zipA (by rfl) T.zip (pa_cons (pe_ix ix_list (pv 3) pe_int (fun _ _ => rfl)) (pa_cons (pe_ix ix_list (pv 3) pe_int (fun _ _ => rfl)) pa_nil))) (blkOk_by (N := ["one", "other", "many", "wide", "poly", "a", "b"]) (sc := defScope sAdd) (own := [("a", 5), ("b", 6)]) (by decide +kernel)) (fun _ _ _ _ _ => (pg_tup rfl (pgs_cons (pg_name (i := 5) scAdd.nd rfl (.inl rfl) (Or.inr rfl)) (pgs_cons (pg_name (i := 6) scAdd.nd rfl (.inl rfl) (Or.inr rfl)) pgs_nil)))) (fun _ _ _ _ _ => pts_nil) (fun _ _ _ _ _ => (pe_op op_add (pv 5) (pv 6)))) pa_nil)))))), ?_⟩
    obtain ⟨n, hn⟩ : ∃ n : Nat, n = max f.length g.length := ⟨_, rfl⟩
    refine ⟨.ref x, rfl, x, _, rfl, .inr hX, .ref y, rfl, y, _, rfl, .inr hY, _, _, (n : Int), rfl, ?_, ?_⟩
    · rw [List.length_map, List.length_map]
      split <;> omega
    refine ⟨.ref x, rfl, .ref y, rfl, by show 2 ≤ sizeLine; decide, fun t nt => ⟨t, rfl, ⟨_, tup_of upd_same⟩, fun D nD => ?_⟩⟩
    have s1 := Same.upd (o := .tup [.ref x, .ref y]) nt
    have et : upd H t (.tup [.ref x, .ref y]) t = some (.tup [.ref x, .ref y]) := upd_same
    generalize upd H t (.tup [.ref x, .ref y]) = H1 at s1 et nD ⊢
    refine lc_tup (K := K) (a := t) (xs := [.ref x, .ref y]) (fun i H' => Same H1 H' ∧ ∃ ps : List Addr, H' D = some (.lst (ps.map V.ref)) ∧ ps.length = i ∧ (∀ p, ps[0]? = some p → p ≠ D ∧ H' p = some (.lst ((pad n f).map V.int))) ∧ ∀ p, ps[1]? = some p → p ≠ D ∧ H' p = some (.lst ((pad n g).map V.int)))
      ⟨Same.upd nD, [], upd_same, rfl, (by intro p e; cases e), (by intro p e; cases e)⟩ (fun i H' _ h => Same.tup h.1 (tup_of et)) ?_ ?_
    · rintro i v H2 hv ⟨s2, ps, eD, hl, h0, h1⟩
      refine ⟨rfl, ?_⟩
      dsimp only [tYes]
      refine iteT ?_
      have hi : i < 2 := (List.getElem?_eq_some_iff.mp hv).1
      have sX := Same.tup (s1.trans s2) hX
      have sY := Same.tup (s1.trans s2) hY
      obtain ⟨a, ns, rfl, hA, hns, hwhich⟩ : ∃ (a : Addr) (ns : List Int), v = .ref a ∧ SqT K H2 a (ns.map V.int) ∧ ns.length ≤ n ∧ ((i = 0 ∧ ns = f) ∨ (i = 1 ∧ ns = g)) := by
        rcases (by omega : i = 0 ∨ i = 1) with rfl | rfl
        · cases hv
          exact ⟨x, f, rfl, sX, by omega, .inl ⟨rfl, rfl⟩⟩
        · cases hv
          exact ⟨y, g, rfl, sY, by omega, .inr ⟨rfl, rfl⟩⟩
      refine ⟨.ref a, rfl, a, _, rfl, .inr hA, fun l nl => ?_⟩
      have s3 := Same.upd (o := .lst (ns.map V.int)) nl
      have el : upd H2 l (.lst (ns.map V.int)) l = some (.lst (ns.map V.int)) := upd_same
      have eD3 := s3 _ _ eD
      have hA3 := Same.tup s3 hA
      generalize upd H2 l (.lst (ns.map V.int)) = H3 at s3 el eD3 hA3 ⊢
      refine ⟨by show 1 ≤ sizeLine; decide, fun e ne => ?_⟩
      have s4 := Same.upd (o := .lst [.int 0]) ne
      refine ⟨_, rfl, .ref a, rfl, a, _, rfl, .inr (Same.tup s4 hA3), _, _, rfl, rfl, e, ((n - ns.length : Nat) : Int), [.int 0], rfl, congrArg V.int (by rw [List.length_map]; omega), upd_same, by omega, by omega, ?_, fun p np => ?_⟩
      · show 1 * _ ≤ sizeLine
        rw [Int.toNat_natCast, Nat.one_mul]
        exact Nat.le_of_lt (small1000 (by omega))
      have s5 := Same.upd (o := .lst (List.replicate ((n - ns.length : Nat) : Int).toNat [V.int 0]).flatten) np
      have s45 := s4.trans s5
      have ep : upd (upd H3 e (.lst [.int 0])) p (.lst (List.replicate ((n - ns.length : Nat) : Int).toNat [V.int 0]).flatten) p = some (.lst ((List.replicate (n - ns.length) (0 : Int)).map V.int)) := by
        rw [upd_same, Int.toNat_natCast, many_zeros]
      generalize upd (upd H3 e (.lst [.int 0])) p (.lst (List.replicate ((n - ns.length : Nat) : Int).toNat [V.int 0]).flatten) = H5 at s45 ep ⊢
      refine ⟨l, p, _, _, rfl, rfl, s45 _ _ el, ep, ?_, fun r nr => ?_⟩
      · rw [List.length_map, List.length_map, List.length_replicate]
        exact Nat.le_of_lt (small1000 (by omega))
      have s6 := Same.upd (o := .lst (ns.map V.int ++ (List.replicate (n - ns.length) (0 : Int)).map V.int)) nr
      have er : upd H5 r (.lst (ns.map V.int ++ (List.replicate (n - ns.length) (0 : Int)).map V.int)) r = some (.lst ((pad n ns).map V.int)) := by
        rw [upd_same]
        unfold pad
        rw [List.map_append]
      have sAll := (s3.trans s45).trans s6
      have nrD : r ≠ D := (ne_of_none (s45 _ _ eD3) nr).symm
      generalize upd H5 r (.lst (ns.map V.int ++ (List.replicate (n - ns.length) (0 : Int)).map V.int)) = H6 at er sAll ⊢
      refine ⟨_, sAll _ _ eD, by rw [List.length_map]; exact small1000 (by omega), ?_, ps ++ [r], ?_, by simp [hl], fun u e => ?_, fun u e => ?_⟩
      · intro b o e
        rw [upd_ne (ne_of_none e nD)]
        exact sAll _ _ (s2 _ _ e)
      · rw [upd_same, List.map_append]
        rfl
      · rcases hwhich with ⟨rfl, rfl⟩ | ⟨rfl, rfl⟩
        · obtain rfl := List.eq_nil_of_length_eq_zero hl
          cases e
          exact ⟨nrD, by rw [upd_ne nrD]; exact er⟩
        · rw [List.getElem?_append_left (by omega)] at e
          obtain ⟨q1, q2⟩ := h0 u e
          exact ⟨q1, by rw [upd_ne q1]; exact sAll _ _ q2⟩
      · rcases hwhich with ⟨rfl, rfl⟩ | ⟨rfl, rfl⟩
        · obtain rfl := List.eq_nil_of_length_eq_zero hl
          cases e
        · rw [List.getElem?_append_right (by omega), hl] at e
          cases e
          exact ⟨nrD, by rw [upd_ne nrD]; exact er⟩
    · rintro H2 ⟨s2, ps, eD, hl, h0, h1⟩
      obtain ⟨p0, p1, rfl⟩ : ∃ p0 p1, ps = [p0, p1] := by
        match ps, hl with
        | [a, b], _ => exact ⟨a, b, rfl⟩
      have t0 := (h0 p0 rfl).2
      have t1 := (h1 p1 rfl).2
      have l0 : (pad n f).length = n := pad_len (by omega)
      have l1 : (pad n g).length = n := pad_len (by omega)
      refine ⟨.ref D, rfl, D, _, 0, .ref p0, rfl, rfl, SqL.of eD, atI_nat (j := 0) rfl, .ref D, rfl, D, _, 1, .ref p1, rfl, rfl, SqL.of eD, atI_nat (j := 1) rfl, p0, p1, _, _, rfl, .inl ⟨SqL.of t0, SqL.of t1, fun D2 nD2 => ?_⟩⟩
      refine lc_zL (K := K) (xs := (pad n f).map V.int) (ys := (pad n g).map V.int) (by rw [List.length_map, List.length_map, l0, l1]) (fun i H' => H' D2 = some (.lst (((List.range i).map fun t => f.getD t 0 + g.getD t 0).map V.int)) ∧ Same H2 H') ⟨upd_same, Same.upd nD2⟩ (fun i H' h => ⟨SqL.of (h.2 _ _ t0), SqL.of (h.2 _ _ t1)⟩) ?_ ?_
      · rintro i a b H3 T0 ha hb ⟨e3, s3⟩ nT
        have hi : i < n := by
          have := (List.getElem?_eq_some_iff.mp ha).1
          rwa [List.length_map, l0] at this
        have ea : a = .int (f.getD i 0) := by
          rw [get_int (by omega), pad_getD] at ha
          exact (Option.some.inj ha).symm
        have eb : b = .int (g.getD i 0) := by
          rw [get_int (by omega), pad_getD] at hb
          exact (Option.some.inj hb).symm
        subst ea eb
        have s4 := Same.upd (o := .tup [.int (f.getD i 0), .int (g.getD i 0)]) nT
        refine ⟨T0, _, rfl, tup_of upd_same, rfl, _, _, rfl, _, _, rfl, rfl, rfl, ?_⟩
        dsimp only [tYes]
        refine iteT ?_
        refine ⟨_, rfl, _, rfl, _, _, rfl, rfl, _, s4 _ _ e3, by rw [List.length_map, List.length_map, List.length_range]; exact small1000 (by omega), ?_, ?_⟩
        · rw [upd_same, List.range_succ, List.map_append, List.map_append]
          rfl
        · intro b o e
          rw [upd_ne (ne_of_none e nD2)]
          exact s4 _ _ (s3 _ _ e)
      · rintro H3 ⟨e3, s3⟩
        rw [List.length_map, l0, hn] at e3
        exact ⟨D2, sumF f g, rfl, .inl (SqL.of e3), fun p H4 s4 np e4 => q p H4 (((s1.trans s2).trans s3).trans s4) (((s1.trans s2).trans s3).free np) e4⟩
end
end Z

set_option Elab.async false
set_option linter.all false
set_option maxRecDepth 100000
set_option maxHeartbeats 4000000
set_option exponentiation.threshold 20000
namespace Z
open PySem PySem.Spec PyProof.Rows L2 GG M3
abbrev sAtl : Stmt := top 10
theorem slA {K : PySem.W.Frag} {x : Addr} {xs : List V} {lo hi : Option Int} {H : Hp} {Q : VK} (hx : SqT K H x xs) (go : ∀ t H', Same H H' → SqT K H' t (cutV xs lo hi) → Q (.ref t) H') : rSlA K (.ref x) lo hi H Q := by
  refine ⟨x, xs, rfl, hx, fun w => go x H (Same.refl _) ?_, fun _ p np => go p _ (Same.upd np) (tup_of upd_same)⟩
  unfold cutV
  rw [w.1, w.2, List.drop_zero, Nat.sub_zero, List.take_length]
  exact hx
section
variable {P : Program} {w : World} {K : PySem.W.Frag} {mg : Str → Option Value} {base : Heap}
theorem get_neg {X : Cx} : PGet X (fun o i H Q => ∃ (p : Addr) (xs : List V) (k : Int) (v : V), o = .ref p ∧ i = .int k ∧ k < 0 ∧ SqL X.K H p xs ∧ atI xs k = some v ∧ Q v H) := by
  intro pins s σ H o i ov iv Q I ro ri h
  obtain ⟨p, xs, k, z, eo, ei, kn, hq, he, q⟩ := h
  subst eo ei
  have eov : ov = Value.ref p := ro
  subst eov
  obtain ⟨t, et⟩ := ri
  subst et
  obtain ⟨its, r, pl, hz⟩ := I.list hq
  obtain ⟨j, h1, h2, h3, h4, h5⟩ := atI_get he
  obtain ⟨w, ew, rw'⟩ := r.get h2
  have hl := r.length
  have hn := line63
  have hj : (k + (its.toArray.size : Int)).toNat = j := by
    rw [seqIndex_neg (by omega) h4] at h1
    rw [List.size_toArray, ← hl]
    exact Option.some.inj h1
  exact wpAny_getItem_list_neg pl.isList (by omega) (by rw [List.size_toArray] <;> omega) (by omega) (by rw [hj]; simpa using ew) ⟨z, H, I, rw', q⟩
def spAtl (K : PySem.W.Frag) : Sp := fun vs H Q _ => ∃ (x : Addr) (f : List Int) (c : Int), vs = [.ref x, .int c] ∧ (SqT K H x (f.map V.int) ∨ SqL K H x (f.map V.int)) ∧ f ≠ [] ∧
  ∀ p H', Same H H' → H p = none → H' p = some (.tup ((al f c).map V.int)) → Q (.ref p) H'
theorem scAtl : FnScope ["form", "number", "entries"] ["form", "number"] (defScope sAtl) := ⟨rfl, rfl, rfl, by decide +kernel, rfl, by decide +kernel, by decide +kernel⟩
theorem ok_atl {f0 : Addr} {fd : FuncData} (F : Fun K "add_to_last" "add_to_last" sAtl f0 fd) (T : Names8 mg) : FnOk P w K mg base CX0 1 f0 fd ["form", "number"] (spAtl K) := by
  refine F.ok scAtl (fun vs H Q E h => ?_) (fun cdv A outer s H vs Q E hr h => ?_)
  · obtain ⟨x, f, c, rfl, _⟩ := h
    rfl
  · obtain ⟨x, f, c, rfl, hX, hf, q⟩ := h
    refine ⟨_, (pss_cons (ps_set (i := 2) scAtl.nd rfl (.inl rfl) (pe_callTy call_list_of (by rfl) T.list (by decide +kernel) (pa_cons (pv 0) pa_nil)))
      (pss_cons (ps_augS (pv 2) (pe_un un_neg pe_int) get_neg (pv 1) ip_add set_list)
      (pss_one (ps_ret (pe_callTy call_tuple_of (by rfl) T.tuple (by decide +kernel) (pa_cons (pv 2) pa_nil)))))), ?_⟩
    obtain ⟨r, d, rfl⟩ := snoc_of hf
    rw [al_snoc] at q
    refine ⟨.ref x, rfl, x, _, rfl, hX.symm, fun l nl => ?_⟩
    have s1 := Same.upd (o := .lst ((r ++ [d]).map V.int)) nl
    have el : upd H l (.lst ((r ++ [d]).map V.int)) l = some (.lst (r.map V.int ++ [V.int d])) := by
      rw [upd_same, List.map_append]
      rfl
    change (_ : Hp → Prop) (upd H l (.lst ((r ++ [d]).map V.int)))
    generalize upd H l (.lst ((r ++ [d]).map V.int)) = H1 at s1 el ⊢
    refine ⟨.ref l, rfl, 1, rfl, l, _, -1, _, rfl, rfl, by decide, SqL.of el, atI_last _ _, ?_⟩
    refine ⟨_, rfl, d, c, rfl, rfl, l, _, _, r.length, rfl, rfl, el, ?_, ?_⟩
    · unfold ixN
      simp
      omega
    have s2 : Same H (upd H1 l (.lst ((r.map V.int ++ [V.int d]).set r.length (.int (d + c))))) := fun b o e => by
      rw [upd_ne (ne_of_none e nl)]
      exact s1 _ _ e
    have el2 : upd H1 l (.lst ((r.map V.int ++ [V.int d]).set r.length (.int (d + c)))) l = some (.lst ((r ++ [d + c]).map V.int)) := by
      rw [upd_same, List.map_append, List.set_append_right _ _ (by simp), List.length_map, Nat.sub_self]
      rfl
    generalize upd H1 l (.lst ((r.map V.int ++ [V.int d]).set r.length (.int (d + c)))) = H2 at s2 el2 ⊢
    exact ⟨.ref l, rfl, l, _, rfl, .inl ⟨SqL.of el2, fun p np => q p _ (s2.trans (Same.upd np)) (s2.free np) upd_same⟩⟩
/-! the next degree -/
theorem zip_map : ∀ (k : Int) (x y : List Int), zp k x y = (List.range (min x.length y.length)).map fun t => x.getD t 0 + k * y.getD t 0
  | k, [], y => by simp [zp]
  | k, a :: x, [] => by simp [zp]
  | k, a :: x, b :: y => by
    have ih := zip_map k x y
    show (a + k * b) :: zp k x y = _
    rw [ih, List.length_cons, List.length_cons, show min (x.length + 1) (y.length + 1) = min x.length y.length + 1 by omega, List.range_succ_eq_map, List.map_cons, List.map_map]
    rfl
theorem rz_map (k : Int) (f : List Int) : rz k f = (List.range (f.length + 1)).map fun t => (f ++ [0]).getD t 0 + k * (0 :: f).getD t 0 := by
  unfold rz
  rw [zip_map]
  simp
theorem rz_ne (k : Int) (x : List Int) : rz k x ≠ [] := fun h => by
  have := rz_len k x
  rw [h] at this
  simp at this
/-! from a form -/
/-- the row of a form's first entries, put together from the left -/
def fromF : List Int → List Int → List Int
  | acc, [] => acc
  | acc, c :: r => fromF (al (rz (-1) acc) c) r
def fromK (f : List Int) : Nat → List Int
  | 0 => []
  | k + 1 => al (rz (-1) (fromK f k)) (f.getD k 0)
theorem fromK_len (f : List Int) : ∀ k, (fromK f k).length = k
  | 0 => rfl
  | k + 1 => by
    show (al _ _).length = _
    rw [al_len (rz_ne _ _), rz_len, fromK_len f k]
theorem fromK_fn (f : List Int) : ∀ k, k ≤ f.length → fn (fromK f k) = Ex (f.take k)
  | 0, _ => rfl
  | k + 1, h => by
    have et : f.take (k + 1) = f.take k ++ [f.getD k 0] := by
      rw [List.take_succ_eq_append_getElem (by omega), List.getD_eq_getElem?_getD, List.getElem?_eq_getElem (by omega)]
      rfl
    show fn (al _ _) = _
    rw [fn_al (rz_ne _ _), rz_down, fromK_fn f k (by omega), et, Ex_snoc, rz_len, fromK_len, Nat.add_sub_cancel, List.length_take, Nat.min_eq_left (by omega)]
end
end Z

set_option Elab.async false
set_option linter.all false
set_option maxRecDepth 100000
set_option maxHeartbeats 4000000
set_option exponentiation.threshold 20000
namespace Z
open PySem PySem.Spec PyProof.Rows L2 GG M3
theorem lay_ints (ns : List Int) : (PyData.tuple (ns.map PyData.int)).canLay0 = true := by
  show PyData.canLayAll0 _ = true
  induction ns with
  | nil => rfl
  | cons n r ih =>
    have e : (PyData.int n).canLay0 = true := rfl
    simp [PyData.canLayAll0, e, ih]
theorem shaped_ints (ns : List Int) : SeqAt.shaped (.tuple (ns.map PyData.int)) = true := by
  have d : PyData.depthAll (ns.map PyData.int) = 0 := by
    induction ns with
    | nil => rfl
    | cons n r ih => simp [PyData.depthAll, PyData.depth, ih]
  unfold SeqAt.shaped
  rw [lay_ints, Bool.true_and]
  simp [PyData.depth, d]
theorem eqv_ints (ns : List Int) : PyData.eqv (.tuple (ns.map PyData.int)) (.tuple (ns.map PyData.int)) = true := SeqAt.eqv_refl _ (lay_ints ns)
theorem dp_ints {K : PySem.W.Frag} {H : Hp} {t : Addr} {ns : List Int} (h : SqT K H t (ns.map V.int)) : Dp K H (.ref t) (.tuple (ns.map PyData.int)) := .tup h (dpInts ns)
theorem shows_row {ns : List Int} {k : Nat} (h : ∀ t, (fn ns t).natAbs ≤ 2 ^ k) (hk : k ≤ 1000) (hl : ns.length ≤ 100) : Shows (.tuple (ns.map PyData.int)) 50 8000 := by
  refine (shows_ints fun z hz => ?_).mono (by decide) (by omega)
  obtain ⟨i, hi, e⟩ := List.getElem_of_mem hz
  have := h i
  unfold fn at this
  rw [List.getD_eq_getElem?_getD, List.getElem?_eq_getElem hi] at this
  have h2 : z.natAbs ≤ 2 ^ k := by rw [← e]; exact this
  exact Nat.lt_of_lt_of_le (PySem.Flt.log2_lt_of (k := k + 1) (by omega) (Nat.lt_of_le_of_lt h2 (Nat.pow_lt_pow_right (by decide) (by omega)))) (by omega)
theorem rz_le {x : List Int} {M : Nat} (h : Le M (fn x)) : Le (2 * M) (fn (rz 1 x)) := fun t => by
  unfold rz
  rw [zp_get _ _ _ (by simp), fn_snoc0, fn_cons0]
  have h1 := h t
  have h2 := h.sh t
  show (fn x t + 1 * Sh (fn x) t).natAbs ≤ _
  omega
theorem al_le {x : List Int} {M C : Nat} (hx : x ≠ []) {c : Int} (h : Le M (fn x)) (hc : c.natAbs ≤ C) : Le (M + C) (fn (al x c)) := fun t => by
  rw [fn_al hx]
  have h1 := h t
  show (fn x t + c * Sn (x.length - 1) t).natAbs ≤ _
  rw [Sn_at]
  split <;> omega
theorem Ex_le {M L : Nat} : ∀ (f : List Int), (∀ c ∈ f, c.natAbs ≤ M) → f.length ≤ L → Le (f.length * (M * 2 ^ L)) (Ex f)
  | [], _, _ => fun t => Nat.zero_le _
  | c :: r, h, hl => fun t => by
    rw [List.length_cons] at hl
    have ih := (Ex_le (L := L) r (fun c hc => h c (List.mem_cons_of_mem _ hc)) (by omega)).sh t
    have hc := h c List.mem_cons_self
    have h1 := Tn_le r.length t
    have h2 : 2 ^ r.length ≤ 2 ^ L := Nat.pow_le_pow_right (by decide) (by omega)
    have h3 : (c * Tn r.length t).natAbs ≤ M * 2 ^ L := by
      rw [Int.natAbs_mul]
      exact Nat.mul_le_mul hc (Nat.le_trans h1 h2)
    have h4 := Int.natAbs_add_le (c * Tn r.length t) (Sh (Ex r) t)
    show (c * Tn r.length t + Sh (Ex r) t).natAbs ≤ (r.length + 1) * (M * 2 ^ L)
    rw [Nat.add_mul, Nat.one_mul]
    omega
theorem from_is (f : List Int) : fn (strip (fromK f f.length)) = Ex f := by
  rw [strip_getD, fromK_fn f _ (Nat.le_refl _), List.take_length]
section
variable {P : Program} {w : World} {K : PySem.W.Frag} {mg : Str → Option Value} {base : Heap}
end
end Z

set_option Elab.async false
set_option linter.all false
set_option maxRecDepth 100000
set_option maxHeartbeats 4000000
set_option exponentiation.threshold 20000
namespace Z
open PySem PySem.Spec PyProof.Rows L2 GG M3
/-! to a form -/
/-- the form of the terms below p^k -/
def toF (f : List Int) : Nat → List Int
  | 0 => []
  | k + 1 => al (rz 1 (toF f k)) (f.getD k 0)
theorem toF_len (f : List Int) : ∀ k, (toF f k).length = k
  | 0 => rfl
  | k + 1 => by
    show (al _ _).length = _
    rw [al_len (rz_ne 1 _), rz_len, toF_len f k]
theorem toF_ex (f : List Int) : ∀ k, Ex (toF f k) = fun t => if t < k then f.getD t 0 else 0
  | 0 => by
    funext t
    rfl
  | k + 1 => by
    show Ex (al _ _) = _
    rw [Ex_al (rz_ne 1 _), Ex_rz, toF_ex f k, rz_len, toF_len]
    funext t
    rw [Nat.add_sub_cancel, Sn_at]
    show (if t < k then f.getD t 0 else 0) + f.getD k 0 * (if t = k then 1 else 0) = _
    by_cases h : t = k
    · subst h
      rw [if_neg (by omega), if_pos rfl, if_pos (by omega)]
      omega
    · rw [if_neg h]
      by_cases h2 : t < k
      · rw [if_pos h2, if_pos (by omega)]
        omega
      · rw [if_neg h2, if_neg (by omega)]
        omega
end Z

set_option Elab.async false
set_option maxRecDepth 100000
set_option maxHeartbeats 4000000
/-! rows as the digits of one number -/
namespace M4
open M3
def val (B : Int) : List Int → Int
  | [] => 0
  | c :: r => c + B * val B r
theorem val_snoc (B z : Int) : ∀ l : List Int, val B (l ++ [z]) = val B l + B ^ l.length * z
  | [] => by simp [val]
  | c :: r => by
    show c + B * val B (r ++ [z]) = c + B * val B r + B ^ (r.length + 1) * z
    rw [val_snoc B z r, Int.pow_succ]
    grind
theorem val_neg (B : Int) : ∀ l : List Int, val B (l.map (-·)) = -val B l
  | [] => rfl
  | c :: r => by
    show -c + B * val B (r.map (-·)) = -(c + B * val B r)
    rw [val_neg B r]
    grind
/-- digits around 0 -/
def Small (B : Int) (l : List Int) : Prop := ∀ c ∈ l, 2 * c < B ∧ -B < 2 * c
theorem Small.tail {B c : Int} {r : List Int} (h : Small B (c :: r)) : Small B r := fun x hx => h x (List.mem_cons_of_mem _ hx)
theorem Small.drop {B : Int} {l : List Int} (h : Small B l) (k : Nat) : Small B (l.drop k) := fun x hx => h x (List.mem_of_mem_drop hx)
theorem Small.neg {B : Int} {l : List Int} (h : Small B l) : Small B (l.map (-·)) := fun x hx => by
  obtain ⟨c, hc, rfl⟩ := List.mem_map.mp hx
  have := h c hc
  constructor <;> omega
theorem val_pos {B : Int} (hB : 2 ≤ B) : ∀ (r : List Int) (z : Int), Small B (r ++ [z]) → 0 < z → 0 < val B (r ++ [z])
  | [], z, _, hz => by
    show 0 < z + B * 0
    omega
  | c :: r, z, h, hz => by
    have ih := val_pos hB r z h.tail hz
    have hc := h c (by simp)
    show 0 < c + B * val B (r ++ [z])
    have : B * 1 ≤ B * val B (r ++ [z]) := Int.mul_le_mul_of_nonneg_left (by omega) (by omega)
    omega
/-- how a digit is read -/
theorem digit {B c v : Int} (hB : 2 ≤ B) (h : 2 * c < B ∧ -B < 2 * c) : (if 2 * ((c + B * v) % B) ≥ B then (c + B * v) % B - B else (c + B * v) % B) = c := by
  rw [Int.add_mul_emod_self_left]
  by_cases h0 : 0 ≤ c
  · rw [Int.emod_eq_of_lt h0 (by omega), if_neg (by omega)]
  · have e : c % B = c + B := by
      rw [← Int.add_emod_right, Int.emod_eq_of_lt (by omega) (by omega)]
    rw [e, if_pos (by omega)]
    omega
theorem rest_is {B c v : Int} (hB : 2 ≤ B) : (c + B * v - c) / B = v := by
  rw [show c + B * v - c = B * v by omega]
  exact Int.mul_ediv_cancel_left _ (by omega)
theorem val_lt {B : Nat} (hB : 1 ≤ B) : ∀ l : List Int, (∀ c ∈ l, c.natAbs < B) → (val (B : Int) l).natAbs < B ^ l.length
  | [], _ => by simp [val]
  | c :: r, h => by
    have ih := val_lt hB r fun x hx => h x (List.mem_cons_of_mem _ hx)
    have hc := h c List.mem_cons_self
    show (c + (B : Int) * val (B : Int) r).natAbs < B ^ (r.length + 1)
    have h1 := Int.natAbs_add_le c ((B : Int) * val (B : Int) r)
    rw [Int.natAbs_mul, Int.natAbs_natCast] at h1
    have h2 : B * ((val (B : Int) r).natAbs + 1) ≤ B * B ^ r.length := Nat.mul_le_mul_left _ (by omega)
    rw [Nat.mul_add, Nat.mul_one] at h2
    rw [Nat.pow_succ, Nat.mul_comm (B ^ r.length) B]
    omega
/-! products -/
def vs (B : Int) (F : Nat → Int) : Nat → Int
  | 0 => 0
  | n + 1 => vs B F n + B ^ n * F n
theorem vs_map (B : Int) (F : Nat → Int) : ∀ n, val B ((List.range n).map F) = vs B F n
  | 0 => rfl
  | n + 1 => by
    rw [List.range_succ, List.map_append]
    show val B ((List.range n).map F ++ [F n]) = _
    rw [val_snoc, vs_map B F n]
    simp [vs]
theorem vs_add (B : Int) (F G : Nat → Int) : ∀ n, vs B (fun t => F t + G t) n = vs B F n + vs B G n
  | 0 => rfl
  | n + 1 => by
    show vs B _ n + B ^ n * (F n + G n) = _
    rw [vs_add B F G n]
    show _ = vs B F n + B ^ n * F n + (vs B G n + B ^ n * G n)
    grind
theorem vs_mul (B c : Int) (F : Nat → Int) : ∀ n, vs B (fun t => c * F t) n = c * vs B F n
  | 0 => by simp [vs]
  | n + 1 => by
    show vs B _ n + B ^ n * (c * F n) = c * (vs B F n + B ^ n * F n)
    rw [vs_mul B c F n]
    grind
def sh (F : Nat → Int) : Nat → Int := fun t => match t with
  | 0 => 0
  | t + 1 => F t
theorem vs_sh (B : Int) (F : Nat → Int) : ∀ n, vs B (sh F) (n + 1) = B * vs B F n
  | 0 => by simp [vs, sh]
  | n + 1 => by
    show vs B (sh F) (n + 1) + B ^ (n + 1) * F n = B * (vs B F n + B ^ n * F n)
    rw [vs_sh B F n, Int.pow_succ]
    grind
theorem vs_getD (B : Int) : ∀ (l : List Int) (n : Nat), l.length ≤ n → vs B (fun t => l.getD t 0) n = val B l
  | [], n, _ => by
    have : ∀ n, vs B (fun t => ([] : List Int).getD t 0) n = 0 := by
      intro n
      induction n with
      | zero => rfl
      | succ n ih =>
        show vs B _ n + B ^ n * 0 = 0
        rw [ih]
        simp
    exact this n
  | c :: r, 0, h => by simp at h
  | c :: r, n + 1, h => by
    have e : (fun t => (c :: r).getD t 0) = fun t => (fun t => if t = 0 then c else 0) t + sh (fun t => r.getD t 0) t := by
      funext t
      cases t with
      | zero => simp [sh]
      | succ t => simp [sh]
    rw [e, vs_add, vs_sh, vs_getD B r n (by simpa using h)]
    have z : ∀ n, vs B (fun t => if t = 0 then c else 0) (n + 1) = c := by
      intro n
      induction n with
      | zero => simp [vs]
      | succ n ih =>
        show vs B _ (n + 1) + B ^ (n + 1) * (if n + 1 = 0 then c else 0) = c
        rw [ih, if_neg (by omega)]
        simp
    rw [z]
    rfl
theorem vs_pf (B : Int) (g : List Int) : ∀ (f : List Int) (n : Nat), f.length + g.length ≤ n → vs B (pf f g) n = val B f * val B g
  | [], n, _ => by
    have : ∀ n, vs B (pf [] g) n = 0 := by
      intro n
      induction n with
      | zero => rfl
      | succ n ih =>
        show vs B (pf [] g) n + B ^ n * 0 = 0
        rw [ih]
        simp
    rw [this n]
    simp [val]
  | x :: f, 0, h => by simp at h
  | x :: f, n + 1, h => by
    rw [List.length_cons] at h
    have e : pf (x :: f) g = fun t => (fun t => x * g.getD t 0) t + sh (pf f g) t := by
      funext t
      cases t <;> rfl
    rw [e, vs_add, vs_mul, vs_sh, vs_pf B g f n (by omega), vs_getD B g (n + 1) (by omega)]
    show x * val B g + B * (val B f * val B g) = (x + B * val B f) * val B g
    grind
theorem pf_bd2 {F G : Nat} {f : List Int} (hf : Bd F f) : ∀ (g : List Int), Bd G g → ∀ t, (pf f g t).natAbs ≤ g.length * (F * G) := by
  suffices ∀ (k : Nat) (g : List Int), g.length = k → Bd G g → ∀ t, (pf f g t).natAbs ≤ g.length * (F * G) from fun g => this _ g rfl
  intro k
  induction k with
  | zero =>
    intro g h _ t
    obtain rfl := List.eq_nil_of_length_eq_zero h
    have : ∀ (f : List Int) (t : Nat), pf f [] t = 0 := by
      intro f
      induction f with
      | nil => intro t; rfl
      | cons z f ih =>
        intro t
        cases t with
        | zero => simp [pf]
        | succ t => simp [pf, ih t]
    rw [this]
    simp
  | succ k ih =>
    intro g h hg t
    rcases List.eq_nil_or_concat g with rfl | ⟨r, y, rfl⟩
    · simp at h
    · rw [List.concat_eq_append] at *
      have hr : Bd G r := bd_of fun x hx => hg.mem (List.mem_append_left _ hx)
      have hy : y.natAbs ≤ G := hg.mem (List.mem_append_right _ List.mem_cons_self)
      have i1 := ih r (by simpa using h) hr t
      rw [pf_snoc_g, List.length_append, Nat.add_mul]
      show _ ≤ r.length * (F * G) + 1 * (F * G)
      rw [Nat.one_mul]
      split
      · have h1 := Int.natAbs_add_le (pf f r t) (f.getD (t - r.length) 0 * y)
        have h2 : (f.getD (t - r.length) 0 * y).natAbs ≤ F * G := by
          rw [Int.natAbs_mul]
          exact Nat.mul_le_mul (hf _) hy
        omega
      · rw [Int.add_zero]
        omega
end M4

set_option Elab.async false
set_option maxRecDepth 100000
set_option maxHeartbeats 4000000
/-! rows of ints as polynomials: values, products, what divides what -/
namespace GC
open M3 M4
abbrev co (l : List Int) (t : Nat) : Int := l.getD t 0
def tr (l : List Int) : List Int := (l.reverse.dropWhile (· == 0)).reverse
theorem tr_zero (l : List Int) : tr (l ++ [0]) = tr l := by
  unfold tr
  rw [List.reverse_append]
  rfl
theorem tr_last {l : List Int} {z : Int} (h : z ≠ 0) : tr (l ++ [z]) = l ++ [z] := by
  unfold tr
  rw [List.reverse_append]
  show (List.dropWhile (· == 0) (z :: l.reverse)).reverse = _
  rw [List.dropWhile_cons_of_neg (by simpa using h), List.reverse_cons, List.reverse_reverse]
theorem tr_form (l : List Int) : tr l = [] ∨ ∃ r z, tr l = r ++ [z] ∧ z ≠ 0 := by
  suffices ∀ (k : Nat) (l : List Int), l.length = k → tr l = [] ∨ ∃ r z, tr l = r ++ [z] ∧ z ≠ 0 from this _ l rfl
  intro k
  induction k with
  | zero =>
    intro l h
    obtain rfl := List.eq_nil_of_length_eq_zero h
    exact .inl rfl
  | succ k ih =>
    intro l h
    rcases List.eq_nil_or_concat l with rfl | ⟨r, z, rfl⟩
    · exact .inl rfl
    · rw [List.concat_eq_append] at *
      by_cases hz : z = 0
      · subst hz
        rw [tr_zero]
        exact ih r (by simpa using h)
      · exact .inr ⟨r, z, tr_last hz, hz⟩
theorem tr_co (l : List Int) : ∀ t, co (tr l) t = co l t := by
  suffices ∀ (k : Nat) (l : List Int), l.length = k → ∀ t, co (tr l) t = co l t from this _ l rfl
  intro k
  induction k with
  | zero =>
    intro l h t
    obtain rfl := List.eq_nil_of_length_eq_zero h
    rfl
  | succ k ih =>
    intro l h t
    rcases List.eq_nil_or_concat l with rfl | ⟨r, z, rfl⟩
    · rfl
    · rw [List.concat_eq_append] at *
      by_cases hz : z = 0
      · subst hz
        rw [tr_zero, ih r (by simpa using h)]
        show r.getD t 0 = (r ++ [0]).getD t 0
        rw [getD_snoc]
        split <;> simp
      · rw [tr_last hz]
def dg (l : List Int) : Nat := (tr l).length
theorem dg_out {l : List Int} {t : Nat} (h : dg l ≤ t) : co l t = 0 := by
  rw [← tr_co]
  exact getD_out h
theorem dg_top {l : List Int} {n : Nat} (h : dg l = n + 1) : co l n ≠ 0 := by
  unfold dg at h
  rw [← tr_co]
  rcases tr_form l with e | ⟨r, z, e, hz⟩
  · rw [e] at h
    simp at h
  · rw [e] at h ⊢
    have : r.length = n := by simpa using h
    show (r ++ [z]).getD n 0 ≠ 0
    rw [getD_snoc, if_pos this.symm, getD_out (by omega)]
    omega
theorem dg_le {l : List Int} {n : Nat} (h : ∀ t, n ≤ t → co l t = 0) : dg l ≤ n := by
  by_cases hz : dg l ≤ n
  · exact hz
  · exact absurd (h (dg l - 1) (by omega)) (dg_top (by omega))
theorem dg_pos {l : List Int} {t : Nat} (h : co l t ≠ 0) : t < dg l := by
  by_cases hz : dg l ≤ t
  · exact absurd (dg_out hz) h
  · omega
theorem dg_congr {l m : List Int} (h : ∀ t, co l t = co m t) : dg l = dg m :=
  Nat.le_antisymm (dg_le fun t ht => by rw [h]; exact dg_out ht) (dg_le fun t ht => by rw [← h]; exact dg_out ht)
/-! sums -/
def lin (a : Int) (l : List Int) (b : Int) (m : List Int) : List Int := (List.range (max l.length m.length)).map fun t => a * co l t + b * co m t
theorem lin_co (a : Int) (l : List Int) (b : Int) (m : List Int) (t : Nat) : co (lin a l b m) t = a * co l t + b * co m t := by
  show (lin a l b m).getD t 0 = _
  unfold lin
  rw [List.getD_eq_getElem?_getD, List.getElem?_map]
  by_cases h : t < max l.length m.length
  · rw [List.getElem?_range h]
    rfl
  · rw [List.getElem?_eq_none (by rw [List.length_range]; omega)]
    show (0 : Int) = a * l.getD t 0 + b * m.getD t 0
    rw [getD_out (g := l) (by omega), getD_out (g := m) (by omega)]
    simp
theorem lin_val (x a : Int) (l : List Int) (b : Int) (m : List Int) : val x (lin a l b m) = a * val x l + b * val x m := by
  unfold lin
  rw [vs_map, vs_add x (fun t => a * co l t) (fun t => b * co m t), vs_mul, vs_mul, vs_getD x l _ (by omega), vs_getD x m _ (by omega)]
theorem val_co {x : Int} {l m : List Int} (h : ∀ t, co l t = co m t) : val x l = val x m := by
  rw [← vs_getD x l (max l.length m.length) (by omega), ← vs_getD x m (max l.length m.length) (by omega)]
  congr 1
  exact funext h
theorem val_tr (x : Int) (l : List Int) : val x (tr l) = val x l := val_co (tr_co l)
/-- a bound for the entries -/
theorem bound (l : List Int) : ∃ M : Nat, ∀ c ∈ l, c.natAbs ≤ M := by
  induction l with
  | nil => exact ⟨0, fun c h => nomatch h⟩
  | cons a r ih =>
    obtain ⟨M, h⟩ := ih
    refine ⟨max a.natAbs M, fun c hc => ?_⟩
    rcases List.mem_cons.mp hc with rfl | hc
    · omega
    · have := h c hc
      omega
/-- a row that is not nothing has a value -/
theorem val_ne {l : List Int} (h : 0 < dg l) {x : Int} (hx : 2 ≤ x) (hs : ∀ c ∈ l, 2 * c.natAbs < x) : val x l ≠ 0 := by
  rw [← val_tr]
  have hm : ∀ c ∈ tr l, c ∈ l := fun c hc => by
    unfold tr at hc
    rw [List.mem_reverse] at hc
    exact List.mem_reverse.mp ((List.dropWhile_sublist _).subset hc)
  have sm : Small x (tr l) := fun c hc => by
    have := hs c (hm c hc)
    constructor <;> omega
  rcases tr_form l with e | ⟨r, z, e, hz⟩
  · unfold dg at h
    rw [e] at h
    simp at h
  · rw [e] at sm ⊢
    by_cases zp : 0 < z
    · have := val_pos hx r z sm zp
      omega
    · have e2 : (r ++ [z]).map (-·) = r.map (-·) ++ [-z] := by simp
      have := val_pos hx (r.map (-·)) (-z) (by rw [← e2]; exact sm.neg) (by omega)
      rw [← e2, val_neg] at this
      omega
theorem ident {l m : List Int} (h : ∀ x : Int, val x l = val x m) : ∀ t, co l t = co m t := by
  have d0 : dg (lin 1 l (-1) m) = 0 := by
    by_cases hz : 0 < dg (lin 1 l (-1) m)
    · exfalso
      obtain ⟨M, hM⟩ := bound (lin 1 l (-1) m)
      refine val_ne hz (x := 2 * M + 2) (by omega) (fun c hc => ?_) ?_
      · have := hM c hc
        omega
      · rw [lin_val, h]
        omega
    · omega
  intro t
  have := dg_out (l := lin 1 l (-1) m) (t := t) (by omega)
  rw [lin_co] at this
  omega
/-! products -/
def mul (f g : List Int) : List Int := (List.range (f.length + g.length)).map (pf f g)
theorem mul_val (x : Int) (f g : List Int) : val x (mul f g) = val x f * val x g := by
  unfold mul
  rw [vs_map, vs_pf x g f _ (Nat.le_refl _)]
theorem mul_co (f g : List Int) (t : Nat) : co (mul f g) t = pf f g t := by
  show (mul f g).getD t 0 = _
  unfold mul
  rw [List.getD_eq_getElem?_getD, List.getElem?_map]
  by_cases h : t < f.length + g.length
  · rw [List.getElem?_range h]
    rfl
  · rw [List.getElem?_eq_none (by rw [List.length_range]; omega), pf_zero _ _ _ (by omega)]
    rfl
theorem mul_congr {f f' g g' : List Int} (h1 : ∀ x, val x f = val x f') (h2 : ∀ x, val x g = val x g') : ∀ t, co (mul f g) t = co (mul f' g') t := ident fun x => by rw [mul_val, mul_val, h1, h2]
theorem mul_top {f g : List Int} {p q : Nat} (hf : dg f = p + 1) (hg : dg g = q + 1) : co (mul f g) (p + q) = co f p * co g q ∧ dg (mul f g) = p + q + 1 := by
  have e : ∀ t, co (mul f g) t = co (mul (tr f) (tr g)) t := mul_congr (fun x => (val_tr x f).symm) fun x => (val_tr x g).symm
  have lf : (tr f).length = p + 1 := hf
  have lg : (tr g).length = q + 1 := hg
  rcases tr_form f with z | ⟨r, a, ef, ha⟩
  · rw [z] at lf
    simp at lf
  rcases tr_form g with z | ⟨s, b, eg, hb⟩
  · rw [z] at lg
    simp at lg
  have lr : r.length = p := by rw [ef] at lf; simpa using lf
  have ls : s.length = q := by rw [eg] at lg; simpa using lg
  have cf : co f p = a := by
    rw [← tr_co, ef]
    show (r ++ [a]).getD p 0 = a
    rw [getD_snoc, if_pos lr.symm, getD_out (by omega)]
    omega
  have cg : co g q = b := by
    rw [← tr_co, eg]
    show (s ++ [b]).getD q 0 = b
    rw [getD_snoc, if_pos ls.symm, getD_out (by omega)]
    omega
  have top : co (mul f g) (p + q) = a * b := by
    rw [e, mul_co, ef, pf_snoc_f, pf_zero _ _ _ (by rw [lg, lr]; omega), if_pos (by omega), eg, show p + q - r.length = s.length by omega, getD_snoc, if_pos rfl, getD_out (Nat.le_refl _), Int.zero_add, Int.zero_add]
  refine ⟨by rw [top, cf, cg], Nat.le_antisymm (dg_le fun t ht => ?_) (dg_pos (t := p + q) ?_)⟩
  · rw [e, mul_co, pf_zero _ _ _ (by rw [lf, lg]; omega)]
  · rw [top]
    exact Int.mul_ne_zero ha hb
theorem mul_pos_dg {f g : List Int} (hf : 0 < dg f) (hg : 0 < dg g) : dg (mul f g) = dg f + dg g - 1 := by
  have := (mul_top (f := f) (g := g) (p := dg f - 1) (q := dg g - 1) (by omega) (by omega)).2
  omega
theorem dg_zero_val {f : List Int} (h : dg f = 0) (x : Int) : val x f = 0 := by
  have : ∀ t, co f t = co [] t := fun t => by
    rw [dg_out (by omega)]
    rfl
  rw [val_co this]
  rfl
theorem mul_zero_dg {f g : List Int} (h : dg f = 0 ∨ dg g = 0) : dg (mul f g) = 0 := by
  refine Nat.le_zero.mp (dg_le fun t _ => ?_)
  have : ∀ t, co (mul f g) t = co [] t := ident fun x => by
    rw [mul_val]
    rcases h with h | h
    · rw [dg_zero_val h]
      simp [val]
    · rw [dg_zero_val h]
      simp [val]
  rw [this]
  rfl
/-! one divides another -/
def Dv (d f : List Int) : Prop := ∃ e, ∀ x, val x f = val x d * val x e
theorem Dv.trans {a b c : List Int} (h : Dv a b) (k : Dv b c) : Dv a c := by
  obtain ⟨e, h⟩ := h
  obtain ⟨e', k⟩ := k
  exact ⟨mul e e', fun x => by rw [k, h, mul_val, Int.mul_assoc]⟩
theorem Dv.refl (a : List Int) : Dv a a := ⟨[1], fun x => by simp [val]⟩
theorem Dv.dg {d f : List Int} (h : Dv d f) (hf : 0 < dg f) : 0 < GC.dg d ∧ GC.dg d ≤ GC.dg f := by
  obtain ⟨e, h⟩ := h
  have c : ∀ t, co f t = co (mul d e) t := ident fun x => by rw [h, mul_val]
  have q := dg_congr c
  by_cases h1 : GC.dg d = 0
  · rw [mul_zero_dg (.inl h1)] at q
    omega
  by_cases h2 : GC.dg e = 0
  · rw [mul_zero_dg (.inr h2)] at q
    omega
  rw [mul_pos_dg (by omega) (by omega)] at q
  omega
/-! what divides all entries -/
def Al (m : Nat) (f : List Int) : Prop := ∀ t, (m : Int) ∣ co f t
def Prim (f : List Int) : Prop := ∀ m : Nat, Al m f → m = 1
def Pr (q : Nat) : Prop := 2 ≤ q ∧ ∀ a b : Int, (q : Int) ∣ a * b → (q : Int) ∣ a ∨ (q : Int) ∣ b
theorem exists_pr : ∀ m : Nat, 2 ≤ m → ∃ q, Pr q ∧ q ∣ m := by
  intro m hm
  -- the least divisor above 1
  have key : ∀ n, ∀ m, 2 ≤ m → m ≤ n → ∃ q, 2 ≤ q ∧ q ∣ m ∧ ∀ d, d ∣ q → d = 1 ∨ d = q := by
    intro n
    induction n with
    | zero => intro m h1 h2; omega
    | succ n ih =>
      intro m h1 h2
      by_cases h : ∀ d, d ∣ m → d = 1 ∨ d = m
      · exact ⟨m, h1, Nat.dvd_refl m, h⟩
      · obtain ⟨d, hd⟩ : ∃ d, ¬ (d ∣ m → d = 1 ∨ d = m) := Classical.not_forall.mp h
        have d1 : d ∣ m := Classical.byContradiction fun z => hd fun y => absurd y z
        have d2 : ¬ (d = 1 ∨ d = m) := fun z => hd fun _ => z
        have d3 : d ≤ m := Nat.le_of_dvd (by omega) d1
        have d4 : d ≠ 0 := by
          rintro rfl
          have := Nat.zero_dvd.mp d1
          omega
        obtain ⟨q, q1, q2, q3⟩ := ih d (by omega) (by omega)
        exact ⟨q, q1, Nat.dvd_trans q2 d1, q3⟩
  obtain ⟨q, q1, q2, q3⟩ := key m m hm (Nat.le_refl _)
  refine ⟨q, ⟨q1, fun a b h => ?_⟩, q2⟩
  have h' : q ∣ a.natAbs * b.natAbs := by
    rw [← Int.natAbs_mul]
    exact Int.ofNat_dvd_left.mp h
  rcases q3 (Nat.gcd q a.natAbs) (Nat.gcd_dvd_left _ _) with e | e
  · right
    exact Int.ofNat_dvd_left.mpr (Nat.Coprime.dvd_of_dvd_mul_left e h')
  · left
    refine Int.ofNat_dvd_left.mpr ?_
    rw [← e]
    exact Nat.gcd_dvd_right _ _
theorem pf_dvd {q : Int} {g : List Int} : ∀ (f : List Int) (t : Nat), (∀ k, k ≤ t → q ∣ co g k) → q ∣ pf f g t
  | [], _, _ => Int.dvd_zero q
  | x :: f, 0, h => by
    show q ∣ x * g.getD 0 0 + 0
    rw [Int.add_zero]
    exact Int.dvd_mul_of_dvd_right (h 0 (Nat.le_refl _))
  | x :: f, t + 1, h => by
    show q ∣ x * g.getD (t + 1) 0 + pf f g t
    exact Int.dvd_add (Int.dvd_mul_of_dvd_right (h _ (Nat.le_refl _))) (pf_dvd f t fun k hk => h k (by omega))
theorem least_not {p : Nat → Prop} (h : ∃ t, ¬ p t) : ∃ t, ¬ p t ∧ ∀ k, k < t → p k := by
  obtain ⟨t, ht⟩ := h
  induction t using Nat.strongRecOn with
  | ind t ih =>
    by_cases z : ∃ k, k < t ∧ ¬ p k
    · obtain ⟨k, h1, h2⟩ := z
      exact ih k h1 h2
    · exact ⟨t, ht, fun k hk => Classical.byContradiction fun y => z ⟨k, hk, y⟩⟩
theorem gauss_pr {q : Nat} (hq : Pr q) {g : List Int} : ∀ f : List Int, (∀ t, (q : Int) ∣ pf f g t) → Al q f ∨ Al q g
  | [], _ => .inl fun t => Int.dvd_zero _
  | x :: f, h => by
    by_cases hx : (q : Int) ∣ x
    · have h' : ∀ t, (q : Int) ∣ pf f g t := fun t => by
        have := h (t + 1)
        have e : pf (x :: f) g (t + 1) = x * g.getD (t + 1) 0 + pf f g t := rfl
        rw [e] at this
        exact (Int.dvd_iff_dvd_of_dvd_add this).mp (Int.dvd_mul_of_dvd_left hx)
      rcases gauss_pr hq f h' with k | k
      · left
        intro t
        cases t with
        | zero => exact hx
        | succ t => exact k t
      · exact .inr k
    · right
      refine Classical.byContradiction fun z => ?_
      obtain ⟨j, hj, low⟩ := least_not (Classical.not_forall.mp z)
      have hj2 := h j
      cases j with
      | zero =>
        have e : pf (x :: f) g 0 = x * g.getD 0 0 + 0 := rfl
        rw [e, Int.add_zero] at hj2
        rcases hq.2 _ _ hj2 with y | y
        · exact hx y
        · exact hj y
      | succ j =>
        have e : pf (x :: f) g (j + 1) = x * g.getD (j + 1) 0 + pf f g j := rfl
        rw [e] at hj2
        have d1 : (q : Int) ∣ pf f g j := pf_dvd f j fun k hk => low k (by omega)
        have d2 : (q : Int) ∣ x * g.getD (j + 1) 0 := (Int.dvd_iff_dvd_of_dvd_add (by rw [Int.add_comm]; exact hj2)).mp d1
        rcases hq.2 _ _ d2 with y | y
        · exact hx y
        · exact hj y
/-- a row that no number divides, times another -/
theorem gauss {f : List Int} (hf : Prim f) : ∀ (m : Nat) (g : List Int), 0 < m → (∀ t, (m : Int) ∣ pf f g t) → Al m g := by
  intro m
  induction m using Nat.strongRecOn with
  | ind m ih =>
    intro g hm h
    by_cases h1 : m = 1
    · subst h1
      exact fun t => Int.one_dvd _
    · obtain ⟨q, hq, d, rfl⟩ := exists_pr m (by omega)
      have q2 := hq.1
      have hd : 0 < d := Nat.pos_of_mul_pos_left hm
      have hdv : ∀ t, (q : Int) ∣ pf f g t := fun t => Int.dvd_trans ⟨d, by simp⟩ (h t)
      rcases gauss_pr hq f hdv with k | k
      · have := hf q k
        omega
      · -- g = q g'
        have eg : ∀ t, co g t = q * co (g.map (· / (q : Int))) t := fun t => by
          obtain ⟨c, hc⟩ := k t
          show g.getD t 0 = q * (g.map (· / (q : Int))).getD t 0
          rw [List.getD_eq_getElem?_getD, List.getD_eq_getElem?_getD, List.getElem?_map] at *
          cases e : g[t]? with
          | none => simp
          | some y =>
            have hc' : y = q * c := by
              have : co g t = y := by
                show g.getD t 0 = y
                rw [List.getD_eq_getElem?_getD, e]
                rfl
              rw [← this]
              exact hc
            show y = q * (y / q)
            rw [hc', Int.mul_ediv_cancel_left _ (by omega)]
        have ev : ∀ x, val x g = q * val x (g.map (· / (q : Int))) := fun x => by
          have e : ∀ t, co g t = co (lin q (g.map (· / (q : Int))) 0 []) t := fun t => by
            rw [lin_co, eg]
            show _ = q * co (g.map (· / (q : Int))) t + 0 * co [] t
            omega
          rw [val_co e, lin_val]
          simp [val]
        have pe : ∀ t, pf f g t = q * pf f (g.map (· / (q : Int))) t := fun t => by
          have := ident (l := mul f g) (m := lin q (mul f (g.map (· / (q : Int)))) 0 []) (fun x => by
            rw [mul_val, lin_val, mul_val, ev]
            simp [val]
            grind) t
          rw [mul_co, lin_co, mul_co] at this
          rw [this]
          omega
        have h' : ∀ t, (d : Int) ∣ pf f (g.map (· / (q : Int))) t := fun t => by
          obtain ⟨c, hc⟩ := h t
          rw [pe] at hc
          refine ⟨c, ?_⟩
          have : (q : Int) * pf f (g.map (· / (q : Int))) t = q * (d * c) := by
            rw [hc]
            push_cast
            grind
          exact Int.eq_of_mul_eq_mul_left (by omega) this
        have r := ih d (by
          have : d * 2 ≤ d * q := Nat.mul_le_mul_left _ q2
          have e : q * d = d * q := Nat.mul_comm _ _
          omega) _ hd h'
        intro t
        obtain ⟨c, hc⟩ := r t
        refine ⟨c, ?_⟩
        rw [eg, hc]
        push_cast
        grind
end GC

set_option Elab.async false
set_option maxRecDepth 100000
set_option maxHeartbeats 4000000
/-! contents, division with a rest, Bezout, the greatest common divisor -/
namespace GC
open M3 M4
/-! what all entries have in common -/
def cont (l : List Int) : Nat := l.foldl (fun a c => Int.gcd a c) 0
theorem foldl_dvd : ∀ (l : List Int) (a : Nat), (l.foldl (fun a c => Int.gcd a c) a) ∣ a ∧ ∀ c ∈ l, ((l.foldl (fun a c => Int.gcd a c) a : Nat) : Int) ∣ c
  | [], a => ⟨Nat.dvd_refl a, fun c h => nomatch h⟩
  | x :: r, a => by
    obtain ⟨h1, h2⟩ := foldl_dvd r (Int.gcd a x)
    have g1 : Int.gcd (a : Int) x ∣ a := by
      have := Int.gcd_dvd_left (a : Int) x
      exact Int.natCast_dvd_natCast.mp this
    refine ⟨Nat.dvd_trans h1 g1, fun c hc => ?_⟩
    rcases List.mem_cons.mp hc with rfl | hc
    · exact Int.dvd_trans (Int.natCast_dvd_natCast.mpr h1) (Int.gcd_dvd_right _ _)
    · exact h2 c hc
theorem dvd_foldl {m : Nat} : ∀ (l : List Int) (a : Nat), m ∣ a → (∀ c ∈ l, (m : Int) ∣ c) → m ∣ l.foldl (fun a c => Int.gcd a c) a
  | [], a, h, _ => h
  | x :: r, a, h, k => dvd_foldl r (Int.gcd a x) (Int.dvd_gcd (Int.natCast_dvd_natCast.mpr h) (k x List.mem_cons_self)) fun c hc => k c (List.mem_cons_of_mem _ hc)
theorem al_mem {m : Nat} {l : List Int} : Al m l ↔ ∀ c ∈ l, (m : Int) ∣ c := by
  constructor
  · intro h c hc
    obtain ⟨i, hi, e⟩ := List.getElem_of_mem hc
    have := h i
    rw [show co l i = c by show l.getD i 0 = c; rw [List.getD_eq_getElem?_getD, List.getElem?_eq_getElem hi]; exact e] at this
    exact this
  · intro h t
    by_cases lt : t < l.length
    · have e : co l t = l[t] := by
        show l.getD t 0 = _
        rw [List.getD_eq_getElem?_getD, List.getElem?_eq_getElem lt]
        rfl
      rw [e]
      exact h _ (List.getElem_mem lt)
    · rw [show co l t = 0 from getD_out (by omega)]
      exact Int.dvd_zero _
theorem cont_al (l : List Int) : Al (cont l) l := al_mem.mpr (foldl_dvd l 0).2
theorem al_cont {m : Nat} {l : List Int} (h : Al m l) : m ∣ cont l := dvd_foldl l 0 (Nat.dvd_zero _) (al_mem.mp h)
theorem cont_pos {l : List Int} (h : 0 < dg l) : 0 < cont l := by
  by_cases z : cont l = 0
  · exfalso
    have := cont_al l
    rw [z] at this
    have d := dg_top (l := l) (n := dg l - 1) (by omega)
    obtain ⟨c, hc⟩ := this (dg l - 1)
    apply d
    rw [hc]
    simp
  · omega
def prim (l : List Int) : List Int := l.map (· / (cont l : Int))
theorem prim_co {l : List Int} (h : 0 < dg l) (t : Nat) : co l t = cont l * co (prim l) t := by
  obtain ⟨c, hc⟩ := cont_al l t
  have p := cont_pos h
  have e : co (prim l) t = co l t / (cont l : Int) := by
    show (prim l).getD t 0 = l.getD t 0 / (cont l : Int)
    unfold prim
    rw [List.getD_eq_getElem?_getD, List.getD_eq_getElem?_getD, List.getElem?_map]
    cases l[t]? with
    | none => simp
    | some y => rfl
  rw [e, hc, Int.mul_ediv_cancel_left _ (by omega)]
theorem smul_val {k : Int} {l m : List Int} (h : ∀ t, co l t = k * co m t) (x : Int) : val x l = k * val x m := by
  have e : ∀ t, co l t = co (lin k m 0 []) t := fun t => by
    rw [lin_co, h]
    simp
  rw [val_co e, lin_val]
  simp [val]
theorem prim_val {l : List Int} (h : 0 < dg l) (x : Int) : val x l = cont l * val x (prim l) := smul_val (prim_co h) x
theorem prim_prim {l : List Int} (h : 0 < dg l) : Prim (prim l) := fun m hm => by
  have p := cont_pos h
  have : Al (cont l * m) l := fun t => by
    obtain ⟨c, hc⟩ := hm t
    refine ⟨c, ?_⟩
    rw [prim_co h, hc]
    push_cast
    grind
  have d := Nat.le_of_dvd p (al_cont this)
  by_cases m0 : m = 0
  · subst m0
    have := al_cont this
    rw [Nat.mul_zero] at this
    have := Nat.zero_dvd.mp this
    omega
  · have : cont l * 2 ≤ cont l * m ∨ m = 1 := by
      by_cases h1 : m = 1
      · exact .inr h1
      · exact .inl (Nat.mul_le_mul_left _ (by omega))
    rcases this with h | h
    · omega
    · exact h
theorem prim_dg {l : List Int} (h : 0 < dg l) : dg (prim l) = dg l := by
  have p := cont_pos h
  refine Nat.le_antisymm (dg_le fun t ht => ?_) (dg_le fun t ht => ?_)
  · have e := prim_co h t
    rw [dg_out ht] at e
    rcases Int.mul_eq_zero.mp e.symm with z | z
    · omega
    · exact z
  · rw [prim_co h, dg_out ht]
    simp
theorem Prim.pos {l : List Int} (h : Prim l) : 0 < dg l := by
  by_cases z : dg l = 0
  · have := h 0 fun t => by
      rw [dg_out (by omega)]
      exact Int.dvd_zero _
    omega
  · omega
/-- what a row without content divides up to a factor, it divides -/
theorem div_out {w a e : List Int} {c : Int} (hw : Prim w) (hc : c ≠ 0) (h : ∀ x, c * val x a = val x w * val x e) : Dv w a := by
  have al : ∀ t, (c.natAbs : Int) ∣ pf w e t := fun t => by
    have q := ident (l := mul w e) (m := lin c a 0 []) (fun x => by rw [mul_val, lin_val, ← h]; simp [val]) t
    rw [mul_co, lin_co] at q
    rw [q]
    refine Int.dvd_trans (Int.natAbs_dvd.mpr (Int.dvd_refl c)) ⟨co a t, ?_⟩
    simp
  have ae := gauss hw c.natAbs e (by omega) al
  refine ⟨e.map (· / c), fun x => ?_⟩
  have ev : val x e = c * val x (e.map (· / c)) := smul_val (fun t => by
    have d : c ∣ co e t := Int.natAbs_dvd.mp (ae t)
    obtain ⟨k, hk⟩ := d
    have e2 : co (e.map (· / c)) t = co e t / c := by
      show (e.map (· / c)).getD t 0 = e.getD t 0 / c
      rw [List.getD_eq_getElem?_getD, List.getD_eq_getElem?_getD, List.getElem?_map]
      cases e[t]? with
      | none => simp
      | some y => rfl
    rw [e2, hk, Int.mul_ediv_cancel_left _ hc]) x
  have q := h x
  rw [ev] at q
  refine Int.eq_of_mul_eq_mul_left hc ?_
  rw [q]
  grind
/-! moved rows -/
def shl (k : Nat) (l : List Int) : List Int := List.replicate k 0 ++ l
theorem shl_val (x : Int) (l : List Int) : ∀ k, val x (shl k l) = x ^ k * val x l
  | 0 => by simp [shl]
  | k + 1 => by
    show val x (List.replicate (k + 1) 0 ++ l) = _
    rw [List.replicate_succ, List.cons_append]
    show 0 + x * val x (shl k l) = _
    rw [shl_val x l k, Int.pow_succ]
    grind
theorem shl_co (k : Nat) (l : List Int) (t : Nat) : co (shl k l) t = if k ≤ t then co l (t - k) else 0 := by
  show (List.replicate k 0 ++ l).getD t 0 = _
  rw [List.getD_eq_getElem?_getD, List.getElem?_append, List.length_replicate]
  by_cases h : k ≤ t
  · rw [if_neg (by omega), if_pos h]
    show _ = l.getD (t - k) 0
    rw [List.getD_eq_getElem?_getD]
  · rw [if_pos (by omega), if_neg h, List.getElem?_replicate]
    split <;> rfl
/-- division with a rest, up to a factor -/
theorem pdiv {w : List Int} (hw : 0 < dg w) : ∀ (n : Nat) (a : List Int), dg a ≤ n → ∃ (c : Int) (q r : List Int), c ≠ 0 ∧ (∀ x, c * val x a = val x q * val x w + val x r) ∧ dg r < dg w := by
  intro n
  induction n with
  | zero =>
    intro a ha
    exact ⟨1, [], a, by decide, fun x => by simp [val], by omega⟩
  | succ n ih =>
    intro a ha
    by_cases lt : dg a < dg w
    · exact ⟨1, [], a, by decide, fun x => by simp [val], lt⟩
    · obtain ⟨p, hp⟩ : ∃ p, dg a = p + 1 := ⟨dg a - 1, by omega⟩
      obtain ⟨q, hq⟩ : ∃ q, dg w = q + 1 := ⟨dg w - 1, by omega⟩
      have hb : co w q ≠ 0 := dg_top hq
      obtain ⟨c, Q, r, hc, hv, hr⟩ := ih (lin (co w q) a (-co a p) (shl (p - q) w)) (dg_le fun t ht => by
        rw [lin_co, shl_co, if_pos (by omega)]
        by_cases e : t = p
        · subst e
          rw [show t - (t - q) = q by omega]
          grind
        · rw [dg_out (l := a) (t := t) (by omega), dg_out (l := w) (t := t - (p - q)) (by omega)]
          simp)
      refine ⟨c * co w q, lin 1 Q (c * co a p) (shl (p - q) [1]), r, Int.mul_ne_zero hc hb, fun x => ?_, hr⟩
      have := hv x
      rw [lin_val, shl_val] at this
      rw [lin_val, shl_val]
      have e1 : val x [1] = 1 := by simp [val]
      rw [e1]
      grind
/-- two rows that only constants divide in common make a constant -/
theorem bezout {a b : List Int} (ha : 0 < dg a) (h : ∀ d, Prim d → Dv d a → Dv d b → dg d ≤ 1) : ∃ (s t : List Int) (r : Int), r ≠ 0 ∧ ∀ x, val x s * val x a + val x t * val x b = r := by
  let I : Nat → Prop := fun n => 0 < n ∧ ∃ s t w : List Int, dg w = n ∧ ∀ x, val x w = val x s * val x a + val x t * val x b
  obtain ⟨n, hn, low⟩ := least_not (p := fun n => ¬ I n) ⟨dg a, fun z => z ⟨ha, [1], [], a, rfl, fun x => by simp [val]⟩⟩
  obtain ⟨n0, s, t, w, hw, hv⟩ := Classical.not_not.mp hn
  have w0 : 0 < dg w := by omega
  have div : ∀ (y : List Int), (∃ s' t' : List Int, ∀ x, val x y = val x s' * val x a + val x t' * val x b) → Dv (prim w) y := by
    intro y hy
    obtain ⟨s', t', hy⟩ := hy
    obtain ⟨c, Q, r, hc, he, hr⟩ := pdiv w0 (dg y) y (Nat.le_refl _)
    have r0 : dg r = 0 := by
      by_cases z : dg r = 0
      · exact z
      · exfalso
        refine low (dg r) (by omega) ⟨by omega, lin c s' (-1) (mul Q s), lin c t' (-1) (mul Q t), r, rfl, fun x => ?_⟩
        have e1 := he x
        rw [hv, hy] at e1
        rw [lin_val, lin_val, mul_val, mul_val]
        grind
    refine div_out (e := lin (cont w) Q 0 []) (prim_prim w0) hc fun x => ?_
    have e1 := he x
    rw [dg_zero_val r0, prim_val w0] at e1
    rw [lin_val]
    grind
  have d1 := div a ⟨[1], [], fun x => by simp [val]⟩
  have d2 := div b ⟨[], [1], fun x => by simp [val]⟩
  have small := h _ (prim_prim w0) d1 d2
  rw [prim_dg w0] at small
  have one : dg w = 0 + 1 := by omega
  refine ⟨s, t, co w 0, dg_top one, fun x => ?_⟩
  rw [← hv]
  have e : ∀ t, co w t = co [co w 0] t := fun t => by
    cases t with
    | zero => rfl
    | succ t =>
      rw [dg_out (by omega)]
      rfl
  rw [val_co e]
  simp [val]
theorem Prim.mul {f g : List Int} (hf : Prim f) (hg : Prim g) : Prim (GC.mul f g) := fun m hm => by
  by_cases m0 : m = 0
  · subst m0
    exfalso
    have p := mul_pos_dg hf.pos hg.pos
    have := hf.pos
    have := hg.pos
    have d := dg_top (l := GC.mul f g) (n := dg (GC.mul f g) - 1) (by omega)
    obtain ⟨c, hc⟩ := hm (dg (GC.mul f g) - 1)
    apply d
    rw [hc]
    simp
  · refine hg m (gauss hf m g (by omega) fun t => ?_)
    rw [← mul_co]
    exact hm t
theorem prim_one : Prim [1] := fun m hm => by
  have := hm 0
  have e : co [1] 0 = 1 := rfl
  rw [e] at this
  have := Int.ofNat_dvd_left.mp this
  exact Nat.dvd_one.mp this
/-- the greatest common divisor, and what it leaves -/
structure Gcd (f g d a b : List Int) : Prop where
  pr : Prim d
  fa : ∀ x, val x f = val x d * val x a
  gb : ∀ x, val x g = val x d * val x b
  bz : ∃ (s t : List Int) (r : Int), r ≠ 0 ∧ ∀ x, val x s * val x a + val x t * val x b = r
theorem exists_gcd {f g : List Int} (hf : 0 < dg f) (hg : 0 < dg g) : ∃ d a b, Gcd f g d a b := by
  let I : Nat → Prop := fun n => ∃ d, Prim d ∧ Dv d f ∧ Dv d g ∧ dg d + n = dg f
  have one : I (dg f - 1) := ⟨[1], prim_one, ⟨f, fun x => by simp [val]⟩, ⟨g, fun x => by simp [val]⟩, by
    have : dg [1] = 1 := rfl
    omega⟩
  obtain ⟨n, hn, low⟩ := least_not (p := fun n => ¬ I n) ⟨_, fun z => z one⟩
  obtain ⟨d, hp, h1, h2, hd⟩ := Classical.not_not.mp hn
  obtain ⟨a, ha⟩ := h1
  obtain ⟨b, hb⟩ := h2
  have a0 : 0 < dg a := by
    by_cases z : dg a = 0
    · exfalso
      have := dg_congr (l := f) (m := mul d a) (ident fun x => by rw [ha, mul_val])
      rw [mul_zero_dg (.inr z)] at this
      omega
    · omega
  refine ⟨d, a, b, hp, ha, hb, bezout a0 fun e he k1 k2 => ?_⟩
  by_cases z : dg e ≤ 1
  · exact z
  · exfalso
    have m1 : Dv (mul d e) f := by
      obtain ⟨y, hy⟩ := k1
      exact ⟨y, fun x => by rw [ha, hy, mul_val, Int.mul_assoc]⟩
    have m2 : Dv (mul d e) g := by
      obtain ⟨y, hy⟩ := k2
      exact ⟨y, fun x => by rw [hb, hy, mul_val, Int.mul_assoc]⟩
    have dm := mul_pos_dg hp.pos he.pos
    have le := (m1.dg hf).2
    have := hp.pos
    exact low (dg f - dg (mul d e)) (by omega) ⟨mul d e, hp.mul he, m1, m2, by omega⟩
/-- what divides both divides it -/
theorem Gcd.le {f g d a b e : List Int} (G : Gcd f g d a b) (he : Prim e) (h1 : Dv e f) (h2 : Dv e g) : Dv e d := by
  obtain ⟨s, t, r, hr, hz⟩ := G.bz
  obtain ⟨y, hy⟩ := h1
  obtain ⟨z, hz2⟩ := h2
  refine div_out (e := lin 1 (mul s y) 1 (mul t z)) he hr fun x => ?_
  rw [lin_val, mul_val, mul_val]
  have q1 := hz x
  have q2 := G.fa x
  have q3 := G.gb x
  rw [hy] at q2
  rw [hz2] at q3
  have : r * val x d = val x s * (val x d * val x a) + val x t * (val x d * val x b) := by
    rw [← q1]
    grind
  rw [this, ← q2, ← q3]
  grind
end GC

set_option Elab.async false
set_option linter.all false
set_option maxRecDepth 100000
set_option maxHeartbeats 4000000
/-! small combinations by pigeonholes -/
namespace GC
open M3 M4
theorem pigeon : ∀ (m n : Nat) (f : Nat → Nat), (∀ i, i < n → f i < m) → m < n → ∃ i j, i < j ∧ j < n ∧ f i = f j
  | 0, n, f, h, lt => absurd (h 0 lt) (Nat.not_lt_zero _)
  | m + 1, n, f, h, lt => by
    obtain ⟨k, rfl⟩ : ∃ k, n = k + 1 := ⟨n - 1, by omega⟩
    by_cases e : ∃ i, i < k ∧ f i = f k
    · obtain ⟨i, hi, e⟩ := e
      exact ⟨i, k, hi, by omega, e⟩
    · obtain ⟨i, j, hij, hj, eg⟩ := pigeon m k (fun i => if f i = m then f k else f i) (fun i hi => by
        have hk := h k (by omega)
        have hi' := h i (by omega)
        by_cases z : f i = m
        · rw [if_pos z]
          have : f k ≠ m := fun z2 => e ⟨i, hi, by rw [z, z2]⟩
          omega
        · rw [if_neg z]
          omega) (by omega)
      refine ⟨i, j, hij, by omega, ?_⟩
      by_cases zi : f i = m
      · by_cases zj : f j = m
        · rw [zi, zj]
        · simp only [if_pos zi, if_neg zj] at eg
          exact absurd ⟨j, hj, eg.symm⟩ e
      · by_cases zj : f j = m
        · simp only [if_neg zi, if_pos zj] at eg
          exact absurd ⟨i, by omega, eg⟩ e
        · simp only [if_neg zi, if_neg zj] at eg
          exact eg
/-- the digits of a number -/
def dgt (τ i k : Nat) : Nat := i / τ ^ k % τ
theorem dgt_succ (τ i k : Nat) : dgt τ i (k + 1) = dgt τ (i / τ) k := by
  unfold dgt
  rw [Nat.div_div_eq_div_mul, Nat.pow_succ, Nat.mul_comm (τ ^ k) τ]
theorem dgt_inj {τ : Nat} (hτ : 0 < τ) : ∀ (n i j : Nat), i < τ ^ n → j < τ ^ n → (∀ k, k < n → dgt τ i k = dgt τ j k) → i = j
  | 0, i, j, hi, hj, _ => by
    rw [Nat.pow_zero] at hi hj
    omega
  | n + 1, i, j, hi, hj, h => by
    have e0 := h 0 (by omega)
    unfold dgt at e0
    rw [Nat.pow_zero, Nat.div_one, Nat.div_one] at e0
    have e1 := dgt_inj hτ n (i / τ) (j / τ) (Nat.div_lt_of_lt_mul (by rw [Nat.mul_comm]; rw [Nat.pow_succ] at hi; exact hi)) (Nat.div_lt_of_lt_mul (by rw [Nat.mul_comm]; rw [Nat.pow_succ] at hj; exact hj)) fun k hk => by
      rw [← dgt_succ, ← dgt_succ]
      exact h (k + 1) (by omega)
    rw [← Nat.div_add_mod i τ, ← Nat.div_add_mod j τ, e0, e1]
/-- a row of numbers below W as one number -/
def enc (W : Nat) : Nat → (Nat → Nat) → Nat
  | 0, _ => 0
  | n + 1, v => v 0 + W * enc W n (fun k => v (k + 1))
theorem enc_lt {W : Nat} : ∀ (n : Nat) (v : Nat → Nat), (∀ k, k < n → v k < W) → enc W n v < W ^ n
  | 0, _, _ => by simp [enc]
  | n + 1, v, h => by
    have h0 := h 0 (by omega)
    have ih := enc_lt n (fun k => v (k + 1)) fun k hk => h (k + 1) (by omega)
    show v 0 + W * enc W n _ < W ^ (n + 1)
    rw [Nat.pow_succ, Nat.mul_comm (W ^ n) W]
    have : W * (enc W n (fun k => v (k + 1)) + 1) ≤ W * W ^ n := Nat.mul_le_mul_left _ ih
    rw [Nat.mul_add, Nat.mul_one] at this
    omega
theorem enc_inj {W : Nat} : ∀ (n : Nat) (v u : Nat → Nat), (∀ k, k < n → v k < W) → (∀ k, k < n → u k < W) → enc W n v = enc W n u → ∀ k, k < n → v k = u k
  | 0, _, _, _, _, _ => fun k hk => absurd hk (Nat.not_lt_zero _)
  | n + 1, v, u, hv, hu, e => by
    have h0 := hv 0 (by omega)
    have h1 := hu 0 (by omega)
    have e' : v 0 + W * enc W n (fun k => v (k + 1)) = u 0 + W * enc W n (fun k => u (k + 1)) := e
    have m0 : v 0 = u 0 := by
      have := congrArg (· % W) e'
      simp only [Nat.add_mul_mod_self_left] at this
      rwa [Nat.mod_eq_of_lt h0, Nat.mod_eq_of_lt h1] at this
    have m1 : enc W n (fun k => v (k + 1)) = enc W n (fun k => u (k + 1)) := by
      rw [m0] at e'
      exact Nat.eq_of_mul_eq_mul_left (by omega) (Nat.add_left_cancel e')
    have ih := enc_inj n _ _ (fun k hk => hv (k + 1) (by omega)) (fun k hk => hu (k + 1) (by omega)) m1
    intro k hk
    cases k with
    | zero => exact m0
    | succ k => exact ih k (by omega)
/-- integer forms in N unknowns, fewer than N of them: unknowns, not all 0, at most S, where all are 0 -/
theorem siegel {N m : Nat} {B : Nat} (L : (Nat → Int) → Nat → Int) (lin : ∀ (u v : Nat → Int) t, L (fun k => u k - v k) t = L u t - L v t) (bd : ∀ (S : Nat) (u : Nat → Int), (∀ k, k < N → 0 ≤ u k ∧ u k ≤ (S : Int)) → ∀ t, t < m → (L u t).natAbs ≤ B * S)
    (cut : ∀ u v : Nat → Int, (∀ k, k < N → u k = v k) → ∀ t, L u t = L v t) (hm : m + 1 = N) :
    ∃ u : Nat → Int, (∀ k, k < N → (u k).natAbs ≤ (2 * B + 1) ^ m) ∧ (∃ k, k < N ∧ u k ≠ 0) ∧ ∀ t, t < m → L u t = 0 := by
  generalize eS : (2 * B + 1) ^ m = S
  have hS : 1 ≤ S := by
    rw [← eS]
    exact Nat.one_le_pow _ _ (by omega)
  let U : Nat → Nat → Int := fun i k => (dgt (S + 1) i k : Nat)
  have hU : ∀ i k, 0 ≤ U i k ∧ U i k ≤ S := fun i k => by
    have : dgt (S + 1) i k < S + 1 := Nat.mod_lt _ (by omega)
    show 0 ≤ ((dgt (S + 1) i k : Nat) : Int) ∧ ((dgt (S + 1) i k : Nat) : Int) ≤ S
    omega
  let W := 2 * (B * S) + 1
  let f : Nat → Nat := fun i => enc W m fun t => (L (U i) t + (B * S : Nat)).toNat
  have low : ∀ i t, t < m → (L (U i) t + (B * S : Nat)).toNat < W := fun i t ht => by
    have := bd S (U i) (fun k _ => hU i k) t ht
    show _ < 2 * (B * S) + 1
    omega
  have lt : W ^ m < (S + 1) ^ N := by
    have h1 : W ≤ (2 * B + 1) * S := by
      show 2 * (B * S) + 1 ≤ _
      rw [Nat.add_mul, Nat.mul_assoc, Nat.one_mul]
      omega
    have h2 : W ^ m ≤ ((2 * B + 1) * S) ^ m := Nat.pow_le_pow_left h1 m
    rw [Nat.mul_pow, eS] at h2
    have h3 : S * S ^ m = S ^ N := by rw [← hm, Nat.pow_succ, Nat.mul_comm]
    rw [h3] at h2
    have h4 : S ^ N < (S + 1) ^ N := Nat.pow_lt_pow_left (by omega) (by omega)
    omega
  obtain ⟨i, j, hij, hj, e⟩ := pigeon (W ^ m) ((S + 1) ^ N) f (fun i _ => enc_lt m _ fun t ht => low i t ht) lt
  have eq := enc_inj m _ _ (fun t ht => low i t ht) (fun t ht => low j t ht) e
  refine ⟨fun k => U i k - U j k, fun k _ => ?_, ?_, fun t ht => ?_⟩
  · have a := hU i k
    have b := hU j k
    show (U i k - U j k).natAbs ≤ S
    omega
  · refine Classical.byContradiction fun no => ?_
    have all : ∀ k, k < N → dgt (S + 1) i k = dgt (S + 1) j k := fun k hk => by
      have z : U i k - U j k = 0 := Classical.byContradiction fun z => no ⟨k, hk, z⟩
      have : ((dgt (S + 1) i k : Nat) : Int) - ((dgt (S + 1) j k : Nat) : Int) = 0 := z
      omega
    have := dgt_inj (by omega) N i j (by omega) hj all
    omega
  · rw [lin]
    have a := eq t ht
    have b1 := bd S (U i) (fun k _ => hU i k) t ht
    have b2 := bd S (U j) (fun k _ => hU j k) t ht
    omega
end GC

set_option Elab.async false
set_option linter.all false
set_option maxRecDepth 100000
set_option maxHeartbeats 4000000
/-! a small multiple of the greatest common divisor as a combination -/
namespace GC
open M3 M4
def row (n : Nat) (u : Nat → Int) : List Int := (List.range n).map u
theorem row_co (n : Nat) (u : Nat → Int) (t : Nat) : co (row n u) t = if t < n then u t else 0 := by
  show (row n u).getD t 0 = _
  unfold row
  rw [List.getD_eq_getElem?_getD, List.getElem?_map]
  by_cases h : t < n
  · rw [List.getElem?_range h, if_pos h]
    rfl
  · rw [List.getElem?_eq_none (by simpa using h), if_neg h]
    rfl
theorem row_sub (n : Nat) (u v : Nat → Int) (x : Int) : val x (row n fun k => u k - v k) = val x (row n u) - val x (row n v) := by
  have e : val x (row n fun k => u k - v k) = val x (lin 1 (row n u) (-1) (row n v)) := val_co fun t => by
    rw [lin_co, row_co, row_co, row_co]
    by_cases h : t < n
    · simp only [if_pos h]
      omega
    · simp only [if_neg h]
      omega
  rw [e, lin_val]
  omega
theorem row_dg (n : Nat) (u : Nat → Int) : dg (row n u) ≤ n := dg_le fun t ht => by rw [row_co, if_neg (by omega)]
theorem row_bd {n S : Nat} {u : Nat → Int} (h : ∀ k, k < n → (u k).natAbs ≤ S) : Bd S (row n u) := fun t => by
  have e : (row n u).getD t 0 = if t < n then u t else 0 := row_co n u t
  rw [e]
  by_cases z : t < n
  · rw [if_pos z]
    exact h t z
  · rw [if_neg z]
    exact Nat.zero_le _
/-- U f + V g, both rows from one -/
def comb (f g : List Int) (β α : Nat) (u : Nat → Int) : List Int := lin 1 (mul (row β u) f) 1 (mul (row α fun k => u (β + k)) g)
theorem comb_val (f g : List Int) (β α : Nat) (u : Nat → Int) (x : Int) : val x (comb f g β α u) = val x (row β u) * val x f + val x (row α fun k => u (β + k)) * val x g := by
  unfold comb
  rw [lin_val, mul_val, mul_val]
  omega
theorem comb_sub (f g : List Int) (β α : Nat) (u v : Nat → Int) (t : Nat) : co (comb f g β α fun k => u k - v k) t = co (comb f g β α u) t - co (comb f g β α v) t := by
  have h := ident (l := comb f g β α fun k => u k - v k) (m := lin 1 (comb f g β α u) (-1) (comb f g β α v)) (fun x => by
    rw [lin_val, comb_val, comb_val, comb_val, row_sub, row_sub α (fun k => u (β + k)) (fun k => v (β + k))]
    grind) t
  rw [h, lin_co]
  omega
theorem comb_bd {f g : List Int} {β α M S : Nat} {u : Nat → Int} (hf : Bd M f) (hg : Bd M g) (h : ∀ k, k < β + α → (u k).natAbs ≤ S) (t : Nat) : (co (comb f g β α u) t).natAbs ≤ (β + α) * M * S := by
  unfold comb
  rw [lin_co, mul_co, mul_co]
  have h1 := pf_bd hf (row β u) t (row_bd (S := S) fun k hk => h k (by omega))
  have h2 := pf_bd hg (row α fun k => u (β + k)) t (row_bd (S := S) fun k hk => h (β + k) (by omega))
  have l1 : (row β u).length = β := by simp [row]
  have l2 : (row α fun k => u (β + k)).length = α := by simp [row]
  rw [l1] at h1
  rw [l2] at h2
  have e : (β + α) * M * S = β * (S * M) + α * (S * M) := by
    rw [Nat.mul_assoc, Nat.add_mul, Nat.mul_comm M S]
  rw [e]
  omega
/-- two rows that meet nowhere: no small combination of theirs is nought -/
theorem no_null {a b U V : List Int} (hbz : ∃ (s t : List Int) (r : Int), r ≠ 0 ∧ ∀ x, val x s * val x a + val x t * val x b = r) (ha : 0 < dg a) (hV : dg V < dg a) (h : ∀ x, val x U * val x a + val x V * val x b = 0) : dg U = 0 ∧ dg V = 0 := by
  obtain ⟨s, t, r, hr, hz⟩ := hbz
  have hV0 : dg V = 0 := by
    refine Classical.byContradiction fun n => ?_
    have e : ∀ x, val x (lin r V 0 []) = val x (mul a (lin 1 (mul s V) (-1) (mul t U))) := fun x => by
      rw [lin_val, mul_val, lin_val, mul_val, mul_val]
      have := hz x
      have := h x
      rw [← hz x]
      grind
    have d1 : dg (lin r V 0 []) = dg V := by
      have le : dg (lin r V 0 []) ≤ dg V := dg_le fun t ht => by
        rw [lin_co, dg_out ht]
        simp
      obtain ⟨k, hk⟩ : ∃ k, dg V = k + 1 := ⟨dg V - 1, by omega⟩
      have top := dg_top hk
      have := dg_pos (l := lin r V 0 []) (t := k) (by
        rw [lin_co]
        have : r * co V k ≠ 0 := Int.mul_ne_zero hr top
        simpa using this)
      omega
    have d2 := dg_congr (ident e)
    by_cases z : dg (lin 1 (mul s V) (-1) (mul t U)) = 0
    · rw [mul_zero_dg (.inr z)] at d2
      omega
    · rw [mul_pos_dg ha (by omega)] at d2
      omega
  refine ⟨Classical.byContradiction fun n => ?_, hV0⟩
  have e : ∀ x, val x (mul U a) = val x [] := fun x => by
    rw [mul_val]
    have := h x
    rw [dg_zero_val hV0 x] at this
    simpa [val] using this
  have d := dg_congr (ident e)
  rw [mul_pos_dg (by omega) ha] at d
  have : dg ([] : List Int) = 0 := rfl
  omega
theorem small {f g d a b : List Int} (G : Gcd f g d a b) (hf : 0 < dg f) (hg : 0 < dg g) {M : Nat} (bf : Bd M f) (bg : Bd M g) {α β n : Nat} (ha : dg a = α + 1) (hb : dg b = β + 1) (hn : β + α = n + 1) :
    ∃ (U V : List Int) (c : Int), c ≠ 0 ∧ (∀ x, val x U * val x a + val x V * val x b = c) ∧ ∀ t, (c * co d t).natAbs ≤ (n + 1) * M * (2 * ((n + 1) * M) + 1) ^ n := by
  obtain ⟨δ, hd⟩ : ∃ δ, dg d = δ + 1 := ⟨dg d - 1, by have := G.pr.pos; omega⟩
  obtain ⟨u, hu, ⟨k0, hk0, nz⟩, zero⟩ := siegel (N := n + 1) (m := n) (B := (n + 1) * M) (fun u t => co (comb f g β α u) (δ + 1 + t)) (fun u v t => comb_sub f g β α u v _)
    (fun S u hu t _ => by
      have := comb_bd (f := f) (g := g) (β := β) (α := α) (S := S) (u := u) bf bg (fun k hk => by
        have := hu k (by omega)
        omega) (δ + 1 + t)
      rw [hn] at this
      exact this)
    (fun u v h t => by
      have e1 : row β u = row β v := List.map_congr_left fun k hk => h k (by have := List.mem_range.mp hk; omega)
      have e2 : (row α fun k => u (β + k)) = row α fun k => v (β + k) := List.map_congr_left fun k hk => h (β + k) (by have := List.mem_range.mp hk; omega)
      unfold comb
      rw [e1, e2]) rfl
  have hW : ∀ x, val x (comb f g β α u) = val x d * val x (comb a b β α u) := fun x => by
    rw [comb_val, comb_val, G.fa, G.gb]
    grind
  have dW : dg (comb a b β α u) ≤ n + 1 := dg_le fun t ht => by
    unfold comb
    rw [lin_co]
    have z1 : co (mul (row β u) a) t = 0 := dg_out (by
      by_cases z : dg (row β u) = 0
      · rw [mul_zero_dg (.inl z)]; exact Nat.zero_le _
      · rw [mul_pos_dg (by omega) (by omega)]
        have := row_dg β u
        omega)
    have z2 : co (mul (row α fun k => u (β + k)) b) t = 0 := dg_out (by
      by_cases z : dg (row α fun k => u (β + k)) = 0
      · rw [mul_zero_dg (.inl z)]; exact Nat.zero_le _
      · rw [mul_pos_dg (by omega) (by omega)]
        have := row_dg α fun k => u (β + k)
        omega)
    rw [z1, z2]
    rfl
  have ne : dg (comb a b β α u) ≠ 0 := fun z => by
    obtain ⟨q1, q2⟩ := no_null (U := row β u) (V := row α fun k => u (β + k)) G.bz (by omega) (Nat.lt_of_le_of_lt (row_dg α _) (by omega)) fun x => by
      rw [← comb_val]
      exact dg_zero_val z x
    by_cases lt : k0 < β
    · have := dg_pos (l := row β u) (t := k0) (by rw [row_co, if_pos lt]; exact nz)
      omega
    · have := dg_pos (l := row α fun k => u (β + k)) (t := k0 - β) (by rw [row_co, if_pos (by omega), show β + (k0 - β) = k0 by omega]; exact nz)
      omega
  have one : dg (comb a b β α u) = 1 := by
    refine Classical.byContradiction fun z => ?_
    obtain ⟨ω, hω⟩ : ∃ ω, dg (comb a b β α u) = ω + 1 + 1 := ⟨dg (comb a b β α u) - 2, by omega⟩
    have top := mul_top hd hω
    have e := ident (l := comb f g β α u) (m := mul d (comb a b β α u)) (fun x => by rw [hW, mul_val]) (δ + (ω + 1))
    have z0 := zero ω (by omega)
    have z1 : co (comb f g β α u) (δ + (ω + 1)) = 0 := by
      rw [show δ + (ω + 1) = δ + 1 + ω by omega]
      exact z0
    rw [z1, top.1] at e
    exact Int.mul_ne_zero (dg_top hd) (dg_top hω) e.symm
  have con : ∀ x, val x (comb a b β α u) = co (comb a b β α u) 0 := fun x => by
    have e : val x (comb a b β α u) = val x [co (comb a b β α u) 0] := val_co fun t => by
      cases t with
      | zero => rfl
      | succ t =>
        rw [dg_out (by omega)]
        rfl
    rw [e]
    simp [val]
  refine ⟨row β u, row α fun k => u (β + k), co (comb a b β α u) 0, dg_top one, fun x => by rw [← comb_val]; exact con x, fun t => ?_⟩
  have e := ident (l := comb f g β α u) (m := lin (co (comb a b β α u) 0) d 0 []) (fun x => by rw [hW, con, lin_val]; grind) t
  have e2 : co (comb f g β α u) t = co (comb a b β α u) 0 * co d t := by
    rw [e, lin_co]
    simp
  rw [← e2]
  have := comb_bd (f := f) (g := g) (β := β) (α := α) (S := (2 * ((n + 1) * M) + 1) ^ n) (u := u) bf bg (fun k hk => hu k (by omega)) t
  rw [hn] at this
  exact this
end GC

set_option Elab.async false
set_option linter.all false
set_option maxRecDepth 100000
set_option maxHeartbeats 4000000
/-! residues by a monic row: their sequences, their norm -/
namespace GC
open M3 M4
/-- the greatest of h 0 .. h (n - 1) -/
def mx : Nat → (Nat → Nat) → Nat
  | 0, _ => 0
  | n + 1, h => max (mx n h) (h n)
theorem le_mx {h : Nat → Nat} : ∀ {n k : Nat}, k < n → h k ≤ mx n h
  | n + 1, k, lt => by
    show h k ≤ max (mx n h) (h n)
    rcases Nat.lt_or_ge k n with l | g
    · exact Nat.le_trans (le_mx l) (Nat.le_max_left _ _)
    · obtain rfl : k = n := by omega
      exact Nat.le_max_right _ _
theorem mx_le {h : Nat → Nat} {a : Nat} : ∀ {n : Nat}, (∀ k, k < n → h k ≤ a) → mx n h ≤ a
  | 0, _ => Nat.zero_le _
  | n + 1, hh => Nat.max_le.mpr ⟨mx_le fun k hk => hh k (by omega), hh n (by omega)⟩
theorem mx_at {h : Nat → Nat} : ∀ {n : Nat}, 0 < n → ∃ k, k < n ∧ mx n h = h k
  | n + 1, _ => by
    show ∃ k, k < n + 1 ∧ max (mx n h) (h n) = h k
    rcases Nat.lt_or_ge (h n) (mx n h) with l | g
    · have p : 0 < n := by
        cases n with
        | zero => exact absurd l (Nat.not_lt_zero _)
        | succ n => omega
      obtain ⟨k, hk, e⟩ := mx_at (h := h) p
      exact ⟨k, by omega, by rw [Nat.max_eq_left (by omega)]; exact e⟩
    · exact ⟨n, by omega, Nat.max_eq_right g⟩
/-- times Y, by the monic row Y^m + c (m-1) Y^(m-1) + .. + c 0 -/
def sh (c : Nat → Int) (m : Nat) (v : Nat → Int) : Nat → Int := fun k => if k < m then (if k = 0 then 0 else v (k - 1)) - v (m - 1) * c k else 0
def it (c : Nat → Int) (m : Nat) : Nat → (Nat → Int) → Nat → Int
  | 0, v => v
  | n + 1, v => sh c m (it c m n v)
section
variable {c : Nat → Int} {m : Nat}
theorem sh_lin (a b : Int) (v w : Nat → Int) : sh c m (fun k => a * v k + b * w k) = fun k => a * sh c m v k + b * sh c m w k := by
  funext k
  unfold sh
  by_cases h : k < m
  · by_cases z : k = 0
    · simp only [if_pos h, if_pos z]
      grind
    · simp only [if_pos h, if_neg z]
      grind
  · simp only [if_neg h]
    simp
theorem it_lin (a b : Int) (v w : Nat → Int) : ∀ n, it c m n (fun k => a * v k + b * w k) = fun k => a * it c m n v k + b * it c m n w k
  | 0 => rfl
  | n + 1 => by
    show sh c m (it c m n _) = _
    rw [it_lin a b v w n, sh_lin]
    rfl
theorem it_sh (v : Nat → Int) : ∀ n, it c m n (sh c m v) = it c m (n + 1) v
  | 0 => rfl
  | n + 1 => by
    show sh c m (it c m n (sh c m v)) = sh c m (it c m (n + 1) v)
    rw [it_sh v n]
theorem it_add (v : Nat → Int) : ∀ n i, it c m i (it c m n v) = it c m (n + i) v
  | n, 0 => rfl
  | n, i + 1 => by
    show sh c m (it c m i (it c m n v)) = sh c m (it c m (n + i) v)
    rw [it_add v n i]
/-- the last entries -/
def U (c : Nat → Int) (m : Nat) (v : Nat → Int) (n : Nat) : Int := it c m n v (m - 1)
def tot : Nat → (Nat → Int) → Int
  | 0, _ => 0
  | n + 1, g => tot n g + g n
theorem U_step (v : Nat → Int) : ∀ j, j < m → it c m (j + 1) v j = - tot (j + 1) fun i => U c m v i * c i
  | 0, h => by
    show sh c m v 0 = -(0 + U c m v 0 * c 0)
    unfold sh
    rw [if_pos h, if_pos rfl]
    show 0 - v (m - 1) * c 0 = _
    show 0 - v (m - 1) * c 0 = -(0 + v (m - 1) * c 0)
    omega
  | j + 1, h => by
    have ih := U_step v j (by omega)
    show sh c m (it c m (j + 1) v) (j + 1) = -(tot (j + 1) (fun i => U c m v i * c i) + U c m v (j + 1) * c (j + 1))
    unfold sh
    rw [if_pos h, if_neg (by omega), Nat.add_sub_cancel, ih]
    show _ - U c m v (j + 1) * c (j + 1) = _
    omega
/-- the sequences are killed by the monic row -/
theorem U_kill (hm : 0 < m) (v : Nat → Int) (n : Nat) : U c m v (n + m) + tot m (fun i => U c m v (n + i) * c i) = 0 := by
  have h := U_step (c := c) (m := m) (it c m n v) (m - 1) (by omega)
  rw [show m - 1 + 1 = m by omega, it_add] at h
  have e : (fun i => U c m (it c m n v) i * c i) = fun i => U c m v (n + i) * c i := by
    funext i
    show it c m i (it c m n v) (m - 1) * c i = it c m (n + i) v (m - 1) * c i
    rw [it_add]
  rw [e] at h
  show it c m (n + m) v (m - 1) + _ = 0
  rw [h]
  omega
/-- nought only for nought -/
theorem U_zero (v : Nat → Int) (h : ∀ i, i < m → U c m v i = 0) : ∀ k, k < m → v k = 0 := by
  have key : ∀ i k, i ≤ k → k < m → it c m i v k = v (k - i) := by
    intro i
    induction i with
    | zero => intro k _ _; rfl
    | succ i ih =>
      intro k h1 h2
      show sh c m (it c m i v) k = _
      unfold sh
      rw [if_pos h2, if_neg (by omega), ih (k - 1) (by omega) (by omega)]
      have z : it c m i v (m - 1) = 0 := h i (by omega)
      rw [z, show k - 1 - i = k - (i + 1) by omega]
      omega
  intro k hk
  have a := h (m - 1 - k) (by omega)
  have b := key (m - 1 - k) (m - 1) (by omega) (by omega)
  rw [show m - 1 - (m - 1 - k) = k by omega] at b
  rw [← b]
  exact a
/-- what a row of whole numbers makes of a sequence -/
def sm (l : List Int) (g : Nat → Int) : Int := tot l.length fun i => co l i * g i
theorem tot_congr {n : Nat} {g h : Nat → Int} : (∀ i, i < n → g i = h i) → tot n g = tot n h := by
  induction n with
  | zero => intro _; rfl
  | succ n ih =>
    intro e
    show tot n g + g n = tot n h + h n
    rw [ih fun i hi => e i (by omega), e n (by omega)]
theorem tot_more {g : Nat → Int} {n : Nat} : ∀ k, (∀ i, n ≤ i → g i = 0) → tot (n + k) g = tot n g
  | 0, _ => rfl
  | k + 1, h => by
    show tot (n + k) g + g (n + k) = _
    rw [tot_more k h, h (n + k) (by omega), Int.add_zero]
theorem sm_long (l : List Int) (g : Nat → Int) {n : Nat} (h : l.length ≤ n) : sm l g = tot n fun i => co l i * g i := by
  obtain ⟨k, rfl⟩ : ∃ k, n = l.length + k := ⟨n - l.length, by omega⟩
  refine (tot_more k fun i hi => ?_).symm
  rw [show co l i = 0 from getD_out hi]
  simp
theorem sm_congr {l l' : List Int} (h : ∀ t, co l t = co l' t) (g : Nat → Int) : sm l g = sm l' g := by
  rw [sm_long l g (Nat.le_max_left l.length l'.length), sm_long l' g (Nat.le_max_right l.length l'.length)]
  exact tot_congr fun i _ => by rw [h]
theorem tot_lin (a b : Int) (g h : Nat → Int) : ∀ n, tot n (fun i => a * g i + b * h i) = a * tot n g + b * tot n h
  | 0 => by simp [tot]
  | n + 1 => by
    show tot n _ + (a * g n + b * h n) = a * (tot n g + g n) + b * (tot n h + h n)
    rw [tot_lin a b g h n]
    grind
theorem sm_lin (a b : Int) (l l' : List Int) (g : Nat → Int) : sm (lin a l b l') g = a * sm l g + b * sm l' g := by
  have n1 : l.length ≤ max l.length l'.length := Nat.le_max_left _ _
  have n2 : l'.length ≤ max l.length l'.length := Nat.le_max_right _ _
  rw [sm_long l g n1, sm_long l' g n2, ← tot_lin, sm_long (lin a l b l') g (n := max l.length l'.length) (by simp [lin])]
  exact tot_congr fun i _ => by
    rw [lin_co]
    grind
theorem tot_succ (g : Nat → Int) : ∀ n, tot (n + 1) g = g 0 + tot n fun i => g (i + 1)
  | 0 => by
    show 0 + g 0 = g 0 + 0
    omega
  | n + 1 => by
    show tot (n + 1) g + g (n + 1) = g 0 + (tot n (fun i => g (i + 1)) + g (n + 1))
    rw [tot_succ g n]
    omega
theorem sm_cons (l : List Int) (g : Nat → Int) : sm (0 :: l) g = sm l fun i => g (i + 1) := by
  unfold sm
  rw [List.length_cons, tot_succ]
  have e0 : co (0 :: l) 0 = 0 := rfl
  rw [e0, Int.zero_mul, Int.zero_add]
  exact tot_congr fun i _ => rfl
/-- what C kills, every multiple of C kills -/
theorem sm_mul (C : List Int) : ∀ (E : List Int) (g : Nat → Int), (∀ n, sm C (fun i => g (n + i)) = 0) → sm (mul E C) g = 0
  | [], g, _ => by
    have e := sm_congr (l := mul [] C) (l' := []) (ident fun x => by rw [mul_val]; simp [val]) g
    rw [e]
    rfl
  | a :: E, g, h => by
    have e := sm_congr (l := mul (a :: E) C) (l' := lin a C 1 (0 :: mul E C)) (ident fun x => by
      rw [mul_val, lin_val]
      show (a + x * val x E) * val x C = a * val x C + 1 * (0 + x * val x (mul E C))
      rw [mul_val]
      grind) g
    rw [e, sm_lin, sm_cons, sm_mul C E (fun i => g (i + 1)) fun n => by
      have := h (n + 1)
      rw [show (fun i => g (n + i + 1)) = fun i => g (n + 1 + i) by funext i; congr 1; omega]
      exact this]
    have z := h 0
    rw [show (fun i => g (0 + i)) = g by funext i; rw [Nat.zero_add]] at z
    rw [z]
    simp
end
end GC

set_option Elab.async false
set_option linter.all false
set_option maxRecDepth 100000
set_option maxHeartbeats 4000000
/-! the norm of a residue, and how much x - Y stretches it -/
namespace GC
open M3 M4
def mon (m : Nat) (c : Nat → Int) : List Int := row m c ++ [1]
theorem mon_len (m : Nat) (c : Nat → Int) : (mon m c).length = m + 1 := by simp [mon, row]
theorem mon_co (m : Nat) (c : Nat → Int) (i : Nat) : co (mon m c) i = if i < m then c i else if i = m then 1 else 0 := by
  have rl : (row m c).length = m := by simp [row]
  show (mon m c).getD i 0 = _
  unfold mon
  rw [List.getD_eq_getElem?_getD]
  by_cases h : i < m
  · rw [List.getElem?_append_left (by rw [rl]; exact h), if_pos h]
    have := row_co m c i
    rw [if_pos h] at this
    exact this
  · rw [if_neg h, List.getElem?_append_right (by rw [rl]; omega), rl]
    by_cases e : i = m
    · subst e
      rw [if_pos rfl, Nat.sub_self]
      rfl
    · rw [if_neg e, List.getElem?_eq_none (by simp; omega)]
      rfl
theorem mon_kill {c : Nat → Int} {m : Nat} (hm : 0 < m) (v : Nat → Int) (n : Nat) : sm (mon m c) (fun i => U c m v (n + i)) = 0 := by
  rw [sm_long _ _ (Nat.le_of_eq (mon_len m c))]
  show tot m (fun i => co (mon m c) i * U c m v (n + i)) + co (mon m c) m * U c m v (n + m) = 0
  have k := U_kill (c := c) hm v n
  rw [mon_co, if_neg (Nat.lt_irrefl _), if_pos rfl]
  have e : tot m (fun i => co (mon m c) i * U c m v (n + i)) = tot m fun i => U c m v (n + i) * c i := tot_congr fun i hi => by
    rw [mon_co, if_pos hi, Int.mul_comm]
  rw [e]
  omega
/-- all that is asked of the row that kills: its degree f, its entries -/
structure Kill (c : Nat → Int) (m f H lc : Nat) : Prop where
  m0 : 0 < m
  mf : m ≤ f
  l0 : 1 ≤ lc
  ex : ∃ (P E : List Int), P.length ≤ f + 1 ∧ (∀ x, val x P = val x E * val x (mon m c)) ∧ co P f ≠ 0 ∧ ∀ i, i < f → (co P i).natAbs ≤ H * lc ^ (f - i)
def nm (c : Nat → Int) (m f ρ : Nat) (v : Nat → Int) : Nat := mx f fun n => (U c m v n).natAbs * ρ ^ (f - 1 - n)
section
variable {c : Nat → Int} {m f H lc : Nat}
theorem U_next (K : Kill c m f H lc) (v : Nat → Int) : (U c m v f).natAbs ≤ lc * (H + 1) * nm c m f (lc * (H + 1)) v := by
  obtain ⟨P, E, hl, hv, top, hb⟩ := K.ex
  have f0 : 0 < f := Nat.lt_of_lt_of_le K.m0 K.mf
  generalize hA : nm c m f (lc * (H + 1)) v = A
  have hn : ∀ n, n < f → (U c m v n).natAbs * (lc * (H + 1)) ^ (f - 1 - n) ≤ A := fun n hn => by
    rw [← hA]
    exact le_mx (h := fun n => (U c m v n).natAbs * (lc * (H + 1)) ^ (f - 1 - n)) hn
  have z : sm P (U c m v) = 0 := by
    rw [sm_congr (l := P) (l' := mul E (mon m c)) (ident fun x => by rw [hv, mul_val])]
    exact sm_mul _ E _ fun n => mon_kill K.m0 v n
  rw [sm_long P _ hl] at z
  have z' : tot f (fun i => co P i * U c m v i) + co P f * U c m v f = 0 := z
  have step : ∀ n, n ≤ f → (H + 1) ^ (f - 1) * (tot n fun i => co P i * U c m v i).natAbs + lc * A ≤ lc * A * (H + 1) ^ n := by
    intro n
    induction n with
    | zero =>
      intro _
      show (H + 1) ^ (f - 1) * (0 : Int).natAbs + lc * A ≤ lc * A * (H + 1) ^ 0
      simp
    | succ n ih =>
      intro hn1
      have ih := ih (by omega)
      have t : (tot (n + 1) fun i => co P i * U c m v i).natAbs ≤ (tot n fun i => co P i * U c m v i).natAbs + (co P n).natAbs * (U c m v n).natAbs := by
        show (tot n (fun i => co P i * U c m v i) + co P n * U c m v n).natAbs ≤ _
        rw [← Int.natAbs_mul]
        exact Int.natAbs_add_le _ _
      have u : (H + 1) ^ (f - 1) * ((co P n).natAbs * (U c m v n).natAbs) ≤ H * (lc * A * (H + 1) ^ n) := by
        have b := hb n (by omega)
        have a := hn n (by omega)
        have e1 : (H + 1) ^ (f - 1) = (H + 1) ^ n * (H + 1) ^ (f - 1 - n) := by
          rw [← Nat.pow_add]
          congr 1
          omega
        have e2 : lc ^ (f - n) = lc * lc ^ (f - 1 - n) := by
          rw [Nat.mul_comm, ← Nat.pow_succ]
          congr 1
          omega
        calc (H + 1) ^ (f - 1) * ((co P n).natAbs * (U c m v n).natAbs)
            ≤ (H + 1) ^ (f - 1) * (H * lc ^ (f - n) * (U c m v n).natAbs) := Nat.mul_le_mul_left _ (Nat.mul_le_mul_right _ b)
          _ = H * (lc * (H + 1) ^ n) * ((U c m v n).natAbs * (lc * (H + 1)) ^ (f - 1 - n)) := by
              rw [e1, e2, Nat.mul_pow]
              grind
          _ ≤ H * (lc * (H + 1) ^ n) * A := Nat.mul_le_mul_left _ a
          _ = H * (lc * A * (H + 1) ^ n) := by grind
      have t' := Nat.mul_le_mul_left ((H + 1) ^ (f - 1)) t
      rw [Nat.mul_add] at t'
      have e3 : lc * A * (H + 1) ^ (n + 1) = lc * A * (H + 1) ^ n + H * (lc * A * (H + 1) ^ n) := by
        rw [Nat.pow_succ]
        grind
      rw [e3]
      omega
  have s := step f (Nat.le_refl _)
  have e4 : (tot f fun i => co P i * U c m v i).natAbs = (co P f).natAbs * (U c m v f).natAbs := by
    rw [← Int.natAbs_mul]
    omega
  rw [e4] at s
  have one : 1 ≤ (co P f).natAbs := by omega
  have le : (U c m v f).natAbs ≤ (co P f).natAbs * (U c m v f).natAbs := Nat.le_mul_of_pos_left _ one
  have le2 := Nat.mul_le_mul_left ((H + 1) ^ (f - 1)) le
  have e5 : lc * A * (H + 1) ^ f = (H + 1) ^ (f - 1) * (lc * (H + 1) * A) := by
    obtain ⟨g, rfl⟩ : ∃ g, f = g + 1 := ⟨f - 1, by omega⟩
    rw [Nat.add_sub_cancel, Nat.pow_succ]
    grind
  rw [e5] at s
  exact Nat.le_of_mul_le_mul_left (Nat.le_trans le2 (Nat.le_trans (Nat.le_add_right _ _) s)) (Nat.pow_pos (by omega))
theorem U_sh (v : Nat → Int) (n : Nat) : U c m (sh c m v) n = U c m v (n + 1) := by
  unfold U
  rw [it_sh]
theorem nm_sh (K : Kill c m f H lc) (v : Nat → Int) {n : Nat} (hn : n < f) : (U c m v (n + 1)).natAbs * (lc * (H + 1)) ^ (f - 1 - n) ≤ lc * (H + 1) * nm c m f (lc * (H + 1)) v := by
  by_cases l : n + 1 < f
  · have a : (U c m v (n + 1)).natAbs * (lc * (H + 1)) ^ (f - 1 - (n + 1)) ≤ nm c m f (lc * (H + 1)) v := le_mx (h := fun n => (U c m v n).natAbs * (lc * (H + 1)) ^ (f - 1 - n)) l
    have e : (lc * (H + 1)) ^ (f - 1 - n) = lc * (H + 1) * (lc * (H + 1)) ^ (f - 1 - (n + 1)) := by
      rw [Nat.mul_comm (lc * (H + 1)) (_ ^ _), ← Nat.pow_succ]
      congr 1
      omega
    rw [e]
    have := Nat.mul_le_mul_left (lc * (H + 1)) a
    grind
  · have e : n + 1 = f := by omega
    rw [e, show f - 1 - n = 0 by omega, Nat.pow_zero, Nat.mul_one]
    exact U_next K v
/-- x - Y stretches -/
theorem nm_stretch (K : Kill c m f H lc) (x : Nat) (v : Nat → Int) : x * nm c m f (lc * (H + 1)) v ≤ nm c m f (lc * (H + 1)) (fun k => (x : Int) * v k + -1 * sh c m v k) + lc * (H + 1) * nm c m f (lc * (H + 1)) v := by
  have f0 : 0 < f := Nat.lt_of_lt_of_le K.m0 K.mf
  obtain ⟨n, hn, e⟩ := mx_at (h := fun n => (U c m v n).natAbs * (lc * (H + 1)) ^ (f - 1 - n)) f0
  have e' : nm c m f (lc * (H + 1)) v = (U c m v n).natAbs * (lc * (H + 1)) ^ (f - 1 - n) := e
  have a : (U c m (fun k => (x : Int) * v k + -1 * sh c m v k) n).natAbs * (lc * (H + 1)) ^ (f - 1 - n) ≤ nm c m f (lc * (H + 1)) (fun k => (x : Int) * v k + -1 * sh c m v k) :=
    le_mx (h := fun n => (U c m (fun k => (x : Int) * v k + -1 * sh c m v k) n).natAbs * (lc * (H + 1)) ^ (f - 1 - n)) hn
  have b := nm_sh K v hn
  have u : U c m (fun k => (x : Int) * v k + -1 * sh c m v k) n = (x : Int) * U c m v n + -1 * U c m v (n + 1) := by
    rw [← U_sh]
    unfold U
    rw [it_lin]
  rw [u] at a
  have t : x * (U c m v n).natAbs ≤ ((x : Int) * U c m v n + -1 * U c m v (n + 1)).natAbs + (U c m v (n + 1)).natAbs := by
    have h := Int.natAbs_add_le ((x : Int) * U c m v n + -1 * U c m v (n + 1)) (U c m v (n + 1))
    rw [show (x : Int) * U c m v n + -1 * U c m v (n + 1) + U c m v (n + 1) = (x : Int) * U c m v n by omega, Int.natAbs_mul, Int.natAbs_natCast] at h
    exact h
  have t2 := Nat.mul_le_mul_right ((lc * (H + 1)) ^ (f - 1 - n)) t
  rw [Nat.add_mul] at t2
  have lhs : x * nm c m f (lc * (H + 1)) v = x * (U c m v n).natAbs * (lc * (H + 1)) ^ (f - 1 - n) := by rw [e', Nat.mul_assoc]
  rw [lhs]
  omega
theorem nm_pos (K : Kill c m f H lc) {v : Nat → Int} (h : ∃ k, k < m ∧ v k ≠ 0) : 1 ≤ nm c m f (lc * (H + 1)) v := by
  refine Classical.byContradiction fun no => ?_
  obtain ⟨k, hk, nz⟩ := h
  refine nz (U_zero (c := c) v (fun i hi => ?_) k hk)
  have lf : i < f := Nat.lt_of_lt_of_le hi K.mf
  have a : (U c m v i).natAbs * (lc * (H + 1)) ^ (f - 1 - i) ≤ nm c m f (lc * (H + 1)) v := le_mx (h := fun n => (U c m v n).natAbs * (lc * (H + 1)) ^ (f - 1 - n)) lf
  have p : 0 < (lc * (H + 1)) ^ (f - 1 - i) := Nat.pow_pos (Nat.mul_pos K.l0 (by omega))
  have z : (U c m v i).natAbs * (lc * (H + 1)) ^ (f - 1 - i) = 0 := by omega
  rcases Nat.mul_eq_zero.mp z with q | q
  · omega
  · omega
/-- residues with small entries have a small norm -/
theorem nm_small (c : Nat → Int) (m f ρ : Nat) (hm : 0 < m) : ∃ Q : Nat, ∀ (S : Nat) (v : Nat → Int), (∀ k, k < m → (v k).natAbs ≤ S) → nm c m f ρ v ≤ Q * S := by
  obtain ⟨M, hM⟩ : ∃ M : Nat, ∀ k, k < m → (c k).natAbs ≤ M := ⟨mx m fun k => (c k).natAbs, fun k hk => le_mx (h := fun k => (c k).natAbs) hk⟩
  have key : ∀ n, ∃ Q : Nat, ∀ (S : Nat) (v : Nat → Int), (∀ k, k < m → (v k).natAbs ≤ S) → ∀ k, k < m → (it c m n v k).natAbs ≤ Q * S := by
    intro n
    induction n with
    | zero => exact ⟨1, fun S v h k hk => by rw [Nat.one_mul]; exact h k hk⟩
    | succ n ih =>
      obtain ⟨Q, hQ⟩ := ih
      refine ⟨Q * (1 + M), fun S v h k hk => ?_⟩
      have g := hQ S v h
      show (sh c m (it c m n v) k).natAbs ≤ _
      unfold sh
      rw [if_pos hk]
      have a := g (m - 1) (by omega)
      have b := Nat.mul_le_mul a (hM k hk)
      rw [← Int.natAbs_mul] at b
      have e : Q * (1 + M) * S = Q * S + Q * S * M := by grind
      rw [e]
      by_cases z : k = 0
      · rw [if_pos z]
        omega
      · rw [if_neg z]
        have d := g (k - 1) (by omega)
        omega
  have all : ∀ n, ∃ Q : Nat, ∀ (S : Nat) (v : Nat → Int), (∀ k, k < m → (v k).natAbs ≤ S) → ∀ i, i < n → (U c m v i).natAbs * ρ ^ (f - 1 - i) ≤ Q * S := by
    intro n
    induction n with
    | zero => exact ⟨0, fun S v h i hi => absurd hi (Nat.not_lt_zero _)⟩
    | succ n ih =>
      obtain ⟨Q1, h1⟩ := ih
      obtain ⟨Q2, h2⟩ := key n
      refine ⟨Q1 + Q2 * ρ ^ (f - 1 - n), fun S v h i hi => ?_⟩
      have e : (Q1 + Q2 * ρ ^ (f - 1 - n)) * S = Q1 * S + Q2 * S * ρ ^ (f - 1 - n) := by grind
      rw [e]
      rcases Nat.lt_or_ge i n with l | g
      · exact Nat.le_trans (h1 S v h i l) (Nat.le_add_right _ _)
      · obtain rfl : i = n := by omega
        exact Nat.le_trans (Nat.mul_le_mul_right _ (h2 S v h (m - 1) (by omega))) (Nat.le_add_left _ _)
  obtain ⟨Q, hQ⟩ := all f
  exact ⟨Q, fun S v h => mx_le fun i hi => hQ S v h i hi⟩
end
end GC

set_option Elab.async false
set_option linter.all false
set_option maxRecDepth 100000
set_option maxHeartbeats 4000000
/-! a monic divisor's value far out is great -/
namespace GC
open M3 M4
section
variable {c : Nat → Int} {m : Nat} {x : Int}
def Sup (m : Nat) (v : Nat → Int) : Prop := ∀ k, m ≤ k → v k = 0
def opX (c : Nat → Int) (m : Nat) (x : Int) (w : Nat → Int) : Nat → Int := fun k => x * w k + -1 * sh c m w k
def In (c : Nat → Int) (m : Nat) (x : Int) (v : Nat → Int) : Prop := ∃ w, Sup m w ∧ v = opX c m x w
theorem opX_lin (a b : Int) (v w : Nat → Int) : opX c m x (fun k => a * v k + b * w k) = fun k => a * opX c m x v k + b * opX c m x w k := by
  funext k
  unfold opX
  rw [sh_lin]
  grind
theorem In.lin (a b : Int) {v w : Nat → Int} (h : In c m x v) (g : In c m x w) : In c m x fun k => a * v k + b * w k := by
  obtain ⟨p, sp, rfl⟩ := h
  obtain ⟨q, sq, rfl⟩ := g
  exact ⟨fun k => a * p k + b * q k, fun k hk => by show a * p k + b * q k = 0; rw [sp k hk, sq k hk]; simp, (opX_lin a b p q).symm⟩
theorem In.zero : In c m x fun _ => 0 := ⟨fun _ => 0, fun _ _ => rfl, by
  funext k
  unfold opX sh
  by_cases h : k < m
  · simp [h]
  · simp [h]⟩
def un (j : Nat) : Nat → Int := fun k => if k = j then 1 else 0
theorem un_step {j : Nat} (h : j + 1 < m) : sh c m (un j) = un (j + 1) := by
  funext k
  unfold sh un
  by_cases hk : k < m
  · rw [if_pos hk, if_neg (show ¬ m - 1 = j by omega)]
    by_cases z : k = 0
    · rw [if_pos z, if_neg (show ¬ k = j + 1 by omega)]
      simp
    · rw [if_neg z]
      by_cases e : k = j + 1
      · rw [if_pos e, if_pos (show k - 1 = j by omega)]
        simp
      · rw [if_neg e, if_neg (show ¬ k - 1 = j by omega)]
        simp
  · rw [if_neg hk, if_neg (by omega)]
theorem un_sup {j : Nat} (h : j < m) : Sup m (un j) := fun k hk => if_neg (by omega)
/-- modulo X, Y is x -/
theorem un_in : ∀ j, j < m → In c m x fun k => 1 * un j k + -(x ^ j) * un 0 k
  | 0, h => by
    have e : (fun k => 1 * un 0 k + -(x ^ 0) * un 0 k) = fun _ => 0 := by
      funext k
      rw [Int.pow_zero]
      omega
    rw [e]
    exact .zero
  | j + 1, h => by
    have ih := un_in j (by omega)
    have g : In c m x (opX c m x (un j)) := ⟨un j, un_sup (by omega), rfl⟩
    have r := In.lin x (-1) ih g
    have e : (fun k => x * (1 * un j k + -(x ^ j) * un 0 k) + -1 * opX c m x (un j) k) = fun k => 1 * un (j + 1) k + -(x ^ (j + 1)) * un 0 k := by
      funext k
      unfold opX
      rw [un_step h, Int.pow_succ]
      grind
    rw [e] at r
    exact r
theorem tot_in {n : Nat} (a : Nat → Int) (g : Nat → Nat → Int) (h : ∀ j, j < n → In c m x (g j)) : In c m x fun k => tot n fun j => a j * g j k := by
  induction n with
  | zero => exact .zero
  | succ n ih =>
    have r := In.lin 1 (a n) (ih fun j hj => h j (by omega)) (h n (by omega))
    have e : (fun k => 1 * tot n (fun j => a j * g j k) + a n * g n k) = fun k => tot (n + 1) fun j => a j * g j k := by
      funext k
      show 1 * tot n _ + _ = tot n _ + _
      rw [Int.one_mul]
    rw [e] at r
    exact r
theorem tot_un {v : Nat → Int} (k : Nat) : ∀ n, tot n (fun j => v j * un j k) = if k < n then v k else 0
  | 0 => by simp [tot]
  | n + 1 => by
    show tot n _ + v n * un n k = _
    rw [tot_un k n]
    unfold un
    by_cases e : k = n
    · subst e
      simp
    · by_cases l : k < n
      · simp [e, l, show k < n + 1 by omega]
      · simp [e, l, show ¬ k < n + 1 by omega]
def ev (m : Nat) (x : Int) (v : Nat → Int) : Int := tot m fun j => v j * x ^ j
theorem ev_in {v : Nat → Int} (sv : Sup m v) : In c m x fun k => 1 * v k + -(ev m x v) * un 0 k := by
  have r := tot_in (n := m) v (fun j k => 1 * un j k + -(x ^ j) * un 0 k) (un_in (c := c) (x := x))
  have e : (fun k => tot m fun j => v j * (1 * un j k + -(x ^ j) * un 0 k)) = fun k => 1 * v k + -(ev m x v) * un 0 k := by
    funext k
    have e1 : (tot m fun j => v j * (1 * un j k + -(x ^ j) * un 0 k)) = 1 * tot m (fun j => v j * un j k) + -(un 0 k) * tot m (fun j => v j * x ^ j) := by
      rw [← tot_lin]
      exact tot_congr fun i _ => by grind
    rw [e1, tot_un]
    show 1 * (if k < m then v k else 0) + -(un 0 k) * ev m x v = _
    by_cases h : k < m
    · rw [if_pos h]
      grind
    · rw [if_neg h, sv k (by omega)]
      grind
  rw [e] at r
  exact r
theorem mon_val (hm : 0 < m) : val x (mon m c) = tot m (fun j => c j * x ^ j) + x ^ m := by
  have gen : ∀ (l : List Int), val x l = tot l.length fun j => co l j * x ^ j := by
    intro l
    induction l with
    | nil => rfl
    | cons a l ih =>
      show a + x * val x l = _
      rw [List.length_cons, tot_succ, ih]
      have e0 : co (a :: l) 0 * x ^ 0 = a := by
        show a * x ^ 0 = a
        simp
      rw [e0]
      congr 1
      have z := tot_lin x 0 (fun j => co l j * x ^ j) (fun _ => 0) l.length
      have e1 : x * tot l.length (fun j => co l j * x ^ j) = tot l.length fun i => x * (co l i * x ^ i) + 0 * 0 := by
        rw [z]
        simp
      rw [e1]
      exact tot_congr fun i _ => by
        have e2 : co (a :: l) (i + 1) = co l i := rfl
        rw [e2, Int.pow_succ]
        grind
  rw [gen, mon_len]
  show tot m _ + co (mon m c) m * x ^ m = _
  rw [mon_co, if_neg (Nat.lt_irrefl _), if_pos rfl, Int.one_mul]
  congr 1
  exact tot_congr fun i hi => by rw [mon_co, if_pos hi]
/-- the monic row's value is nought modulo X -/
theorem mon_in (hm : 0 < m) : In c m x fun k => val x (mon m c) * un 0 k := by
  have g : In c m x (opX c m x (un (m - 1))) := ⟨un (m - 1), un_sup (by omega), rfl⟩
  have r1 := un_in (c := c) (m := m) (x := x) (m - 1) (by omega)
  have r2 := ev_in (c := c) (x := x) (m := m) (v := fun k => if k < m then c k else 0) fun k hk => if_neg (by omega)
  have r3 := In.lin 1 (-x) g r1
  have r4 := In.lin 1 (-1) r3 r2
  have e : (fun k => 1 * (1 * opX c m x (un (m - 1)) k + -x * (1 * un (m - 1) k + -(x ^ (m - 1)) * un 0 k)) + -1 * (1 * (if k < m then c k else 0) + -(ev m x fun k => if k < m then c k else 0) * un 0 k)) = fun k => val x (mon m c) * un 0 k := by
    funext k
    have ee : (ev m x fun k => if k < m then c k else 0) = tot m fun j => c j * x ^ j := tot_congr fun i hi => by simp only [if_pos hi]
    have ex : x ^ m = x * x ^ (m - 1) := by
      rw [Int.mul_comm, ← Int.pow_succ, show (m - 1).succ = m by omega]
    have es : sh c m (un (m - 1)) k = -(if k < m then c k else 0) := by
      unfold sh un
      by_cases h : k < m
      · rw [if_pos h, if_pos h, if_pos rfl]
        by_cases z : k = 0
        · rw [if_pos z]
          omega
        · rw [if_neg z, if_neg (show ¬ k - 1 = m - 1 by omega)]
          omega
      · rw [if_neg h, if_neg h]
        rfl
    rw [ee, mon_val hm, ex]
    unfold opX
    rw [es]
    grind
  rw [e] at r4
  exact r4
/-- division with a rest -/
theorem divX (hm : 0 < m) (hy : val x (mon m c) ≠ 0) {v : Nat → Int} (sv : Sup m v) : ∃ (r : Nat) (w : Nat → Int), r < (val x (mon m c)).natAbs ∧ Sup m w ∧ v = fun k => (r : Int) * un 0 k + 1 * opX c m x w k := by
  obtain ⟨w1, s1, e1⟩ := ev_in (c := c) (x := x) sv
  obtain ⟨q, sq, e2⟩ := mon_in (c := c) (x := x) hm
  generalize hz : val x (mon m c) = y at *
  have p := Int.emod_nonneg (ev m x v) hy
  have l := Int.emod_lt (ev m x v) hy
  refine ⟨(ev m x v % y).toNat, fun k => 1 * w1 k + (ev m x v / y) * q k, by omega, fun k hk => by show 1 * w1 k + (ev m x v / y) * q k = 0; rw [s1 k hk, sq k hk]; simp, ?_⟩
  funext k
  have a := congrFun e1 k
  have b := congrFun e2 k
  rw [opX_lin]
  have t : ((ev m x v % y).toNat : Int) = ev m x v % y := Int.toNat_of_nonneg p
  rw [t]
  have d := Int.emod_add_mul_ediv (ev m x v) y
  show v k = ev m x v % y * un 0 k + 1 * (1 * opX c m x w1 k + ev m x v / y * opX c m x q k)
  rw [← a, ← b]
  grind
end
end GC

set_option Elab.async false
set_option linter.all false
set_option maxRecDepth 100000
set_option maxHeartbeats 4000000
/-! a monic divisor's value far out: the bound -/
namespace GC
open M3 M4
section
variable {c : Nat → Int} {m f H lc : Nat} {x : Nat}
/-- n times divided: the rests, and what is left -/
theorem divN (hm : 0 < m) (hy : val (x : Int) (mon m c) ≠ 0) : ∀ n : Nat, ∃ (R : (Nat → Int) → Nat → Nat) (T : (Nat → Int) → Nat → Int), ∀ v, Sup m v → (∀ t, t < n → R v t < (val (x : Int) (mon m c)).natAbs) ∧ Sup m (T v) ∧
    ∀ u, Sup m u → (∀ t, t < n → R v t = R u t) → ∃ g : Nat → Nat → Int, g 0 = (fun k => 1 * T v k + -1 * T u k) ∧ (∀ i, i < n → g (i + 1) = opX c m x (g i)) ∧ g n = fun k => 1 * v k + -1 * u k
  | 0 => ⟨fun _ _ => 0, fun v => v, fun v sv => ⟨fun t ht => absurd ht (Nat.not_lt_zero _), sv, fun u su _ => ⟨fun _ k => 1 * v k + -1 * u k, rfl, fun i hi => absurd hi (Nat.not_lt_zero _), rfl⟩⟩⟩
  | n + 1 => by
    obtain ⟨R, T, h⟩ := divN hm hy n
    have pick : ∀ v, ∃ (p : Nat × (Nat → Int)), Sup m v → p.1 < (val (x : Int) (mon m c)).natAbs ∧ Sup m p.2 ∧ v = fun k => (p.1 : Int) * un 0 k + 1 * opX c m x p.2 k := fun v => by
      by_cases sv : Sup m v
      · obtain ⟨r, w, h1, h2, h3⟩ := divX hm hy sv
        exact ⟨(r, w), fun _ => ⟨h1, h2, h3⟩⟩
      · exact ⟨(0, v), fun z => absurd z sv⟩
    let q : (Nat → Int) → Nat × (Nat → Int) := fun v => Classical.choose (pick v)
    have hq : ∀ v, Sup m v → (q v).1 < (val (x : Int) (mon m c)).natAbs ∧ Sup m (q v).2 ∧ v = fun k => ((q v).1 : Int) * un 0 k + 1 * opX c m x (q v).2 k := fun v => Classical.choose_spec (pick v)
    refine ⟨fun v t => if t < n then R v t else (q (T v)).1, fun v => (q (T v)).2, fun v sv => ?_⟩
    obtain ⟨h1, h2, h3⟩ := h v sv
    obtain ⟨a1, a2, a3⟩ := hq (T v) h2
    refine ⟨fun t ht => ?_, a2, fun u su e => ?_⟩
    · by_cases l : t < n
      · simp only [if_pos l]
        exact h1 t l
      · simp only [if_neg l]
        exact a1
    · obtain ⟨g1, g2, g3⟩ := h u su
      obtain ⟨b1, b2, b3⟩ := hq (T u) g2
      obtain ⟨g, e0, es, en⟩ := h3 u su fun t ht => by
        have := e t (by omega)
        simpa only [if_pos ht] using this
      have er : (q (T v)).1 = (q (T u)).1 := by
        have := e n (by omega)
        simpa only [if_neg (Nat.lt_irrefl n)] using this
      refine ⟨fun i => if i = 0 then (fun k => 1 * (q (T v)).2 k + -1 * (q (T u)).2 k) else g (i - 1), by simp, fun i hi => ?_, by simpa using en⟩
      by_cases z : i = 0
      · subst z
        show (if 0 + 1 = 0 then _ else g (0 + 1 - 1)) = opX c m x (if 0 = 0 then _ else _)
        rw [if_neg (by omega), if_pos rfl, Nat.add_sub_cancel, e0, opX_lin]
        funext k
        have p1 := congrFun a3 k
        have p2 := congrFun b3 k
        rw [p1, p2, er]
        grind
      · show (if i + 1 = 0 then _ else g (i + 1 - 1)) = opX c m x (if i = 0 then _ else g (i - 1))
        rw [if_neg (by omega), if_neg z, Nat.add_sub_cancel]
        have := es (i - 1) (by omega)
        rw [show i - 1 + 1 = i by omega] at this
        exact this
/-- n times stretched -/
theorem stretchN (K : Kill c m f H lc) {ρ : Nat} (hρ : ρ = lc * (H + 1)) (hx : ρ ≤ x) (g : Nat → Nat → Int) : ∀ n, (∀ i, i < n → g (i + 1) = opX c m x (g i)) → (x - ρ) ^ n * nm c m f ρ (g 0) ≤ nm c m f ρ (g n)
  | 0, _ => by simp
  | n + 1, h => by
    have ih := stretchN K hρ hx g n fun i hi => h i (by omega)
    have s := nm_stretch K x (g n)
    rw [← hρ] at s
    have e : (fun k => (x : Int) * g n k + -1 * sh c m (g n) k) = g (n + 1) := (h n (by omega)).symm
    rw [e] at s
    have t := Nat.mul_le_mul_left (x - ρ) ih
    have u : (x - ρ) * nm c m f ρ (g n) = x * nm c m f ρ (g n) - ρ * nm c m f ρ (g n) := Nat.sub_mul ..
    rw [Nat.pow_succ, Nat.mul_comm ((x - ρ) ^ n) (x - ρ), Nat.mul_assoc]
    omega
theorem bern : ∀ (Y n : Nat), Y ^ n * (Y + n) ≤ (Y + 1) ^ n * Y
  | Y, 0 => by simp
  | Y, n + 1 => by
    have ih := bern Y n
    have t := Nat.mul_le_mul_left (Y + 1) ih
    have e1 : (Y + 1) ^ (n + 1) * Y = (Y + 1) * ((Y + 1) ^ n * Y) := by rw [Nat.pow_succ]; grind
    have e2 : Y ^ (n + 1) * (Y + (n + 1)) ≤ (Y + 1) * (Y ^ n * (Y + n)) := by
      rw [Nat.pow_succ]
      have : Y ^ n * Y * (Y + (n + 1)) + Y ^ n * n = (Y + 1) * (Y ^ n * (Y + n)) := by grind
      omega
    rw [e1]
    omega
theorem lower (K : Kill c m f H lc) {ρ : Nat} (hρ : ρ = lc * (H + 1)) (hx : ρ < x) (hy : val (x : Int) (mon m c) ≠ 0) : (x - ρ) ^ m ≤ (val (x : Int) (mon m c)).natAbs := by
  have hm := K.m0
  generalize hY : (val (x : Int) (mon m c)).natAbs = Y
  have Y0 : 0 < Y := by omega
  refine Classical.byContradiction fun no => ?_
  obtain ⟨Q, hQ⟩ := nm_small c m f ρ hm
  -- for every n
  have main : ∀ n S : Nat, Y ^ n < (S + 1) ^ m → (x - ρ) ^ n ≤ Q * S := by
    intro n S lt
    obtain ⟨R, T, h⟩ := divN (c := c) (x := x) hm hy n
    rw [hY] at h
    let V : Nat → Nat → Int := fun i k => if k < m then ((dgt (S + 1) i k : Nat) : Int) else 0
    have sV : ∀ i, Sup m (V i) := fun i k hk => if_neg (by omega)
    obtain ⟨i, j, hij, hj, e⟩ := pigeon (Y ^ n) ((S + 1) ^ m) (fun i => enc Y n (R (V i))) (fun i _ => enc_lt n _ (h (V i) (sV i)).1) lt
    have eq := enc_inj n _ _ (h (V i) (sV i)).1 (h (V j) (sV j)).1 e
    obtain ⟨g, g0, gs, gn⟩ := (h (V i) (sV i)).2.2 (V j) (sV j) eq
    have st := stretchN K hρ (by omega) g n gs
    have small : nm c m f ρ (g n) ≤ Q * S := hQ S _ fun k hk => by
      rw [gn]
      show (1 * (if k < m then ((dgt (S + 1) i k : Nat) : Int) else 0) + -1 * (if k < m then ((dgt (S + 1) j k : Nat) : Int) else 0)).natAbs ≤ S
      rw [if_pos hk, if_pos hk]
      have a : dgt (S + 1) i k < S + 1 := Nat.mod_lt _ (by omega)
      have b : dgt (S + 1) j k < S + 1 := Nat.mod_lt _ (by omega)
      omega
    have nz : ∃ k, k < m ∧ g 0 k ≠ 0 := by
      refine Classical.byContradiction fun q => ?_
      have z0 : g 0 = fun _ => 0 := by
        funext k
        by_cases l : k < m
        · exact Classical.byContradiction fun w => q ⟨k, l, w⟩
        · rw [g0]
          show 1 * T (V i) k + -1 * T (V j) k = 0
          rw [(h (V i) (sV i)).2.1 k (by omega), (h (V j) (sV j)).2.1 k (by omega)]
          rfl
      have zn : ∀ t, t ≤ n → g t = fun _ => 0 := by
        intro t
        induction t with
        | zero => intro _; exact z0
        | succ t ih =>
          intro ht
          rw [gs t (by omega), ih (by omega)]
          funext k
          unfold opX sh
          by_cases l : k < m <;> simp [l]
      have z := zn n (Nat.le_refl _)
      rw [gn] at z
      have same : ∀ k, k < m → dgt (S + 1) i k = dgt (S + 1) j k := fun k hk => by
        have w := congrFun z k
        have w' : 1 * (if k < m then ((dgt (S + 1) i k : Nat) : Int) else 0) + -1 * (if k < m then ((dgt (S + 1) j k : Nat) : Int) else 0) = 0 := w
        rw [if_pos hk, if_pos hk] at w'
        omega
      have := dgt_inj (τ := S + 1) (by omega) m i j (by omega) hj same
      omega
    have pos := nm_pos K nz
    rw [← hρ] at pos
    have := Nat.mul_le_mul_left ((x - ρ) ^ n) pos
    omega
  -- the least S
  have least : ∀ B : Nat, ∃ S, B < (S + 1) ^ m ∧ S ^ m ≤ B := fun B => by
    obtain ⟨S, h1, h2⟩ := least_not (p := fun S => ¬ B < (S + 1) ^ m) ⟨B, fun z => z (by
      have : B + 1 ≤ (B + 1) ^ m := Nat.le_self_pow (by omega) _
      omega)⟩
    refine ⟨S, Classical.not_not.mp h1, ?_⟩
    cases S with
    | zero => rw [Nat.zero_pow hm]; exact Nat.zero_le _
    | succ S =>
      have := h2 S (by omega)
      omega
  obtain ⟨S, h1, h2⟩ := least (Y ^ (Q ^ m * Y + 1))
  have a := main (Q ^ m * Y + 1) S h1
  generalize hn : Q ^ m * Y + 1 = n at *
  have b := Nat.pow_le_pow_left a m
  rw [Nat.mul_pow, ← Nat.pow_mul, Nat.mul_comm n m, Nat.pow_mul] at b
  have d : (Y + 1) ^ n ≤ ((x - ρ) ^ m) ^ n := Nat.pow_le_pow_left (by omega) n
  have e : Q ^ m * S ^ m ≤ Q ^ m * Y ^ n := Nat.mul_le_mul_left _ h2
  have g := bern Y n
  have k : (Y + 1) ^ n * Y ≤ Q ^ m * Y ^ n * Y := Nat.mul_le_mul_right _ (by omega)
  have r : Y ^ n * (Y + n) ≤ Y ^ n * (Q ^ m * Y) := by
    have : Q ^ m * Y ^ n * Y = Y ^ n * (Q ^ m * Y) := by grind
    omega
  have := Nat.le_of_mul_le_mul_left r (Nat.pow_pos Y0)
  omega
end
end GC

set_option Elab.async false
set_option linter.all false
set_option maxRecDepth 100000
set_option maxHeartbeats 4000000
/-! any divisor's value far out is great -/
namespace GC
open M3 M4
theorem val_tot {x : Int} : ∀ (l : List Int), val x l = tot l.length fun j => co l j * x ^ j
  | [] => rfl
  | a :: l => by
    show a + x * val x l = _
    rw [List.length_cons, tot_succ, val_tot l]
    have e0 : co (a :: l) 0 * x ^ 0 = a := by
      show a * x ^ 0 = a
      simp
    rw [e0]
    congr 1
    have z := tot_lin x 0 (fun j => co l j * x ^ j) (fun _ => 0) l.length
    have e1 : x * tot l.length (fun j => co l j * x ^ j) = tot l.length fun i => x * (co l i * x ^ i) + 0 * 0 := by
      rw [z]
      simp
    rw [e1]
    exact tot_congr fun i _ => by
      have e2 : co (a :: l) (i + 1) = co l i := rfl
      rw [e2, Int.pow_succ]
      grind
theorem val_row (x : Int) (n : Nat) (u : Nat → Int) : val x (row n u) = tot n fun j => u j * x ^ j := by
  rw [val_tot]
  have l : (row n u).length = n := by simp [row]
  rw [l]
  exact tot_congr fun i hi => by rw [row_co, if_pos hi]
theorem val_long (x : Int) (l : List Int) {n : Nat} (h : ∀ t, n ≤ t → co l t = 0) : val x l = tot n fun j => co l j * x ^ j := by
  rw [← val_row]
  exact val_co fun t => by
    rw [row_co]
    by_cases z : t < n
    · rw [if_pos z]
    · rw [if_neg z, h t (by omega)]
theorem tot_mul (a : Int) (g : Nat → Int) (n : Nat) : tot n (fun j => a * g j) = a * tot n g := by
  have z := tot_lin a 0 g (fun _ => 0) n
  have e : (fun j => a * g j) = fun i => a * g i + 0 * 0 := by
    funext i
    simp
  rw [e, z]
  simp
/-- rows that agree at the multiples of a number agree -/
theorem ident_mul {l l' : List Int} {a : Int} (ha : a ≠ 0) (h : ∀ x : Int, val (a * x) l = val (a * x) l') : ∀ y : Int, val y l = val y l' := by
  let n := max l.length l'.length
  have sc : ∀ (k : List Int), k.length ≤ n → ∀ x, val (a * x) k = val x (row n fun i => co k i * a ^ i) := fun k hk x => by
    rw [val_row, val_long (a * x) k (n := n) fun t ht => getD_out (by omega)]
    exact tot_congr fun i _ => by
      rw [Int.mul_pow]
      grind
  have e := ident (l := row n fun i => co l i * a ^ i) (m := row n fun i => co l' i * a ^ i) fun x => by
    rw [← sc l (Nat.le_max_left _ _), ← sc l' (Nat.le_max_right _ _), h]
  intro y
  refine val_co fun t => ?_
  by_cases z : t < n
  · have := e t
    rw [row_co, row_co, if_pos z, if_pos z] at this
    exact Int.eq_of_mul_eq_mul_right (Int.pow_ne_zero ha) this
  · have h1 : l.length ≤ n := Nat.le_max_left _ _
    have h2 : l'.length ≤ n := Nat.le_max_right _ _
    rw [show co l t = 0 from getD_out (by omega), show co l' t = 0 from getD_out (by omega)]
theorem lower_any {F C E : List Int} {m f H : Nat} {ℓ x : Nat} (hv : ∀ y, val y F = val y C * val y E) (hF : dg F = f + 1) (hC : dg C = m + 1) (m0 : 0 < m) (hl : co C m = (ℓ : Int)) (l0 : 1 ≤ ℓ) (hH : ∀ t, (co F t).natAbs ≤ H) (hx : H + 1 < x) (hy : val (x : Int) C ≠ 0) :
    ℓ * (x - (H + 1)) ^ m ≤ (val (x : Int) C).natAbs := by
  have dE : dg E + m = f + 1 := by
    have e := dg_congr (l := F) (m := mul C E) (ident fun y => by rw [hv, mul_val])
    by_cases z : dg E = 0
    · rw [mul_zero_dg (.inr z)] at e
      omega
    · rw [mul_pos_dg (by omega) (by omega)] at e
      omega
  have E0 : 0 < dg E := by
    refine Nat.pos_of_ne_zero fun z => ?_
    have e := dg_congr (l := F) (m := mul C E) (ident fun y => by rw [hv, mul_val])
    rw [mul_zero_dg (.inr z)] at e
    omega
  have ne : (ℓ : Int) ≠ 0 := by omega
  let c : Nat → Int := fun k => co C k * (ℓ : Int) ^ (m - 1 - k)
  let P : List Int := row (f + 1) fun i => co F i * (ℓ : Int) ^ (f - i)
  let E' : List Int := row (f + 1 - m) fun j => co E j * (ℓ : Int) ^ (f + 1 - m - j)
  have vP : ∀ y : Int, val (ℓ * y) P = (ℓ : Int) ^ f * val y F := fun y => by
    show val (ℓ * y) (row (f + 1) fun i => co F i * (ℓ : Int) ^ (f - i)) = _
    rw [val_row, val_long y F (n := f + 1) fun t ht => dg_out (by omega), ← tot_mul]
    exact tot_congr fun i hi => by
      rw [Int.mul_pow]
      have : (ℓ : Int) ^ f = (ℓ : Int) ^ (f - i) * (ℓ : Int) ^ i := by
        rw [← Int.pow_add]
        congr 1
        omega
      rw [this]
      grind
  have vE : ∀ y : Int, val (ℓ * y) E' = (ℓ : Int) ^ (f + 1 - m) * val y E := fun y => by
    show val (ℓ * y) (row (f + 1 - m) fun j => co E j * (ℓ : Int) ^ (f + 1 - m - j)) = _
    rw [val_row, val_long y E (n := f + 1 - m) fun t ht => dg_out (by omega), ← tot_mul]
    exact tot_congr fun i hi => by
      rw [Int.mul_pow]
      have : (ℓ : Int) ^ (f + 1 - m) = (ℓ : Int) ^ (f + 1 - m - i) * (ℓ : Int) ^ i := by
        rw [← Int.pow_add]
        congr 1
        omega
      rw [this]
      grind
  have vC : ∀ y : Int, val (ℓ * y) (mon m c) = (ℓ : Int) ^ (m - 1) * val y C := fun y => by
    rw [mon_val m0, val_long y C (n := m + 1) fun t ht => dg_out (by omega)]
    show tot m (fun j => co C j * (ℓ : Int) ^ (m - 1 - j) * ((ℓ : Int) * y) ^ j) + ((ℓ : Int) * y) ^ m = (ℓ : Int) ^ (m - 1) * (tot m (fun j => co C j * y ^ j) + co C m * y ^ m)
    rw [Int.mul_add, ← tot_mul, hl, Int.mul_pow]
    have e1 : (ℓ : Int) ^ (m - 1) * ((ℓ : Int) * y ^ m) = (ℓ : Int) ^ m * y ^ m := by
      rw [← Int.mul_assoc, ← Int.pow_succ, show (m - 1).succ = m by omega]
    rw [e1]
    congr 1
    exact tot_congr fun i hi => by
      rw [Int.mul_pow]
      have : (ℓ : Int) ^ (m - 1) = (ℓ : Int) ^ (m - 1 - i) * (ℓ : Int) ^ i := by
        rw [← Int.pow_add]
        congr 1
        omega
      rw [this]
      grind
  have K : Kill c m f H ℓ := ⟨m0, by omega, l0, P, E', by simp [P, row], fun y => by
    have h := ident_mul (l := P) (l' := mul E' (mon m c)) ne (fun y => by
      rw [vP, mul_val, vE, vC, hv]
      have : (ℓ : Int) ^ f = (ℓ : Int) ^ (f + 1 - m) * (ℓ : Int) ^ (m - 1) := by
        rw [← Int.pow_add]
        congr 1
        omega
      rw [this]
      grind) y
    rw [h, mul_val], by
    show co (row (f + 1) fun i => co F i * (ℓ : Int) ^ (f - i)) f ≠ 0
    rw [row_co, if_pos (by omega), Nat.sub_self, Int.pow_zero, Int.mul_one]
    exact dg_top hF, fun i hi => by
    show (co (row (f + 1) fun i => co F i * (ℓ : Int) ^ (f - i)) i).natAbs ≤ _
    rw [row_co, if_pos (by omega), Int.natAbs_mul, Int.natAbs_pow, Int.natAbs_natCast]
    exact Nat.mul_le_mul_right _ (hH i)⟩
  have lt : ℓ * (H + 1) < ℓ * x := Nat.mul_lt_mul_of_pos_left hx (by omega)
  have cast : ((ℓ * x : Nat) : Int) = (ℓ : Int) * (x : Int) := Int.natCast_mul ..
  have b := lower (x := ℓ * x) K rfl lt (by
    rw [cast, vC]
    exact Int.mul_ne_zero (Int.pow_ne_zero ne) hy)
  rw [cast, vC, Int.natAbs_mul, Int.natAbs_pow, Int.natAbs_natCast, ← Nat.mul_sub, Nat.mul_pow] at b
  have e : ℓ ^ m = ℓ ^ (m - 1) * ℓ := by
    rw [← Nat.pow_succ]
    congr 1
    omega
  rw [e, Nat.mul_assoc] at b
  exact Nat.le_of_mul_le_mul_left b (Nat.pow_pos (by omega))
end GC

set_option Elab.async false
set_option linter.all false
set_option maxRecDepth 100000
set_option maxHeartbeats 4000000
/-! a guess that divides both is the greatest common divisor -/
namespace GC
open M3 M4
theorem neg_dg (C : List Int) : dg (lin (-1) C 0 []) = dg C := by
  have le : ∀ C : List Int, dg (lin (-1) C 0 []) ≤ dg C := fun C => dg_le fun t ht => by
    rw [lin_co, dg_out ht]
    simp
  have h1 := le C
  have h2 := le (lin (-1) C 0 [])
  have e : dg (lin (-1) (lin (-1) C 0 []) 0 []) = dg C := dg_congr fun t => by
    rw [lin_co, lin_co]
    simp
  omega
/-- a divisor that is no number has a great value -/
theorem far {F C E : List Int} {H x : Nat} (hv : ∀ y, val y F = val y C * val y E) (hF : 0 < dg F) (hC : 2 ≤ dg C) (hH : ∀ t, (co F t).natAbs ≤ H) (hx : H + 1 < x) (hy : val (x : Int) C ≠ 0) : x - (H + 1) ≤ (val (x : Int) C).natAbs := by
  obtain ⟨f, hf⟩ : ∃ f, dg F = f + 1 := ⟨dg F - 1, by omega⟩
  obtain ⟨m, hm⟩ : ∃ m, dg C = m + 1 := ⟨dg C - 1, by omega⟩
  have top := dg_top hm
  have fin : ∀ (C E : List Int) (ℓ : Nat), (∀ y, val y F = val y C * val y E) → dg C = m + 1 → co C m = (ℓ : Int) → 1 ≤ ℓ → val (x : Int) C ≠ 0 → x - (H + 1) ≤ (val (x : Int) C).natAbs := fun C E ℓ hv hm hl l0 hy => by
    have b := lower_any hv hf hm (by omega) hl l0 hH hx hy
    have p : x - (H + 1) ≤ (x - (H + 1)) ^ m := Nat.le_self_pow (by omega) _
    have q : (x - (H + 1)) ^ m ≤ ℓ * (x - (H + 1)) ^ m := Nat.le_mul_of_pos_left _ l0
    omega
  by_cases s : 0 < co C m
  · exact fin C E (co C m).toNat hv hm (by omega) (by omega) hy
  · have b := fin (lin (-1) C 0 []) (lin (-1) E 0 []) (-(co C m)).toNat (fun y => by
      rw [lin_val, lin_val, hv]
      grind) (by rw [neg_dg]; exact hm) (by
      rw [lin_co]
      have : co ([] : List Int) m = 0 := rfl
      rw [this]
      omega) (by omega) (by
      rw [lin_val]
      have : val (x : Int) ([] : List Int) = 0 := rfl
      rw [this]
      omega)
    have e : val (x : Int) (lin (-1) C 0 []) = - val (x : Int) C := by
      rw [lin_val]
      have : val (x : Int) ([] : List Int) = 0 := rfl
      rw [this]
      omega
    rw [e, Int.natAbs_neg] at b
    exact b
/-- the values of a row with small entries are not nought -/
theorem val_far {F : List Int} {H x : Nat} (hF : 0 < dg F) (hH : ∀ t, (co F t).natAbs ≤ H) (hx : 2 * (H + 1) < x) : val (x : Int) F ≠ 0 := by
  have e : val (x : Int) F = val (x : Int) (tr F) := (val_tr _ F).symm
  rw [e]
  have d : dg (tr F) = dg F := dg_congr (tr_co F)
  refine val_ne (by omega) (by omega) fun c hc => ?_
  obtain ⟨i, hi, ec⟩ := List.getElem_of_mem hc
  have h := hH i
  rw [← tr_co] at h
  have : co (tr F) i = c := by
    show (tr F).getD i 0 = c
    rw [List.getD_eq_getElem?_getD, List.getElem?_eq_getElem hi]
    exact ec
  rw [this] at h
  omega
theorem exit_right {f g l : List Int} {H x : Nat} (hf : 0 < dg f) (hg : 0 < dg g) (bf : ∀ t, (co f t).natAbs ≤ H) (bg : ∀ t, (co g t).natAbs ≤ H) (hx : 2 * (H + 1) < x)
    (hl : val (x : Int) l = (Int.gcd (val (x : Int) f) (val (x : Int) g) : Nat)) (sl : ∀ t, 2 * (co l t).natAbs ≤ x) (l0 : 0 < dg l) (h1 : Dv (prim l) f) (h2 : Dv (prim l) g) : ∃ a b, Gcd f g (prim l) a b := by
  obtain ⟨d, a, b, G⟩ := exists_gcd hf hg
  have pp := prim_prim l0
  obtain ⟨C, hC⟩ := G.le pp h1 h2
  obtain ⟨k1, hk1⟩ := h1
  obtain ⟨k2, hk2⟩ := h2
  have vf := val_far hf bf hx
  have vp : val (x : Int) (prim l) ≠ 0 := fun z => vf (by rw [hk1, z, Int.zero_mul])
  have vd : val (x : Int) d ≠ 0 := fun z => vf (by rw [G.fa, z, Int.zero_mul])
  have vC : val (x : Int) C ≠ 0 := fun z => vd (by rw [hC, z, Int.mul_zero])
  have dC0 : 0 < dg C := Nat.pos_of_ne_zero fun z => vC (dg_zero_val z _)
  have one : dg C = 1 := by
    refine Classical.byContradiction fun no => ?_
    have big := far (F := f) (C := C) (E := mul (prim l) a) (H := H) (x := x) (fun y => by
      rw [G.fa, hC, mul_val]
      grind) hf (by omega) bf (by omega) vC
    -- C(x) divides the content
    have dv : val (x : Int) d ∣ (Int.gcd (val (x : Int) f) (val (x : Int) g) : Nat) := Int.dvd_coe_gcd ⟨val (x : Int) a, G.fa _⟩ ⟨val (x : Int) b, G.gb _⟩
    rw [← hl, prim_val l0, hC] at dv
    obtain ⟨q, hq⟩ := dv
    have dk : val (x : Int) C ∣ (cont l : Int) := ⟨q, by
      have : val (x : Int) (prim l) * (cont l : Int) = val (x : Int) (prim l) * (val (x : Int) C * q) := by
        rw [← Int.mul_assoc, ← hq]
        exact Int.mul_comm _ _
      exact Int.eq_of_mul_eq_mul_left vp this⟩
    have cp := cont_pos l0
    have le : (val (x : Int) C).natAbs ≤ cont l := by
      have := Int.natAbs_dvd_natAbs.mpr dk
      rw [Int.natAbs_natCast] at this
      exact Nat.le_of_dvd cp this
    obtain ⟨n, hn⟩ : ∃ n, dg l = n + 1 := ⟨dg l - 1, by omega⟩
    have top := dg_top hn
    have cl : cont l ≤ (co l n).natAbs := by
      have a := cont_al l n
      have := Int.natAbs_dvd_natAbs.mpr a
      rw [Int.natAbs_natCast] at this
      exact Nat.le_of_dvd (by omega) this
    have := sl n
    omega
  -- C is 1 or -1
  have con : ∀ y, val y C = co C 0 := fun y => by
    have e : val y C = val y [co C 0] := val_co fun t => by
      cases t with
      | zero => rfl
      | succ t =>
        rw [dg_out (by omega)]
        rfl
    rw [e]
    simp [val]
  have unit : (co C 0).natAbs = 1 := by
    refine G.pr _ fun t => ?_
    have e := ident (l := d) (m := lin (co C 0) (prim l) 0 []) (fun y => by
      rw [hC, con, lin_val]
      grind) t
    rw [e, lin_co]
    have : (((co C 0).natAbs : Nat) : Int) ∣ co C 0 := Int.natAbs_dvd.mpr (Int.dvd_refl _)
    have z : (0 : Int) * co [] t = 0 := Int.zero_mul _
    rw [z, Int.add_zero]
    exact Int.dvd_mul_of_dvd_left this
  obtain ⟨s, t, r, hr, hz⟩ := G.bz
  have sq : co C 0 * co C 0 = 1 := by
    have : co C 0 = 1 ∨ co C 0 = -1 := by omega
    rcases this with e | e <;> rw [e] <;> rfl
  refine ⟨lin (co C 0) a 0 [], lin (co C 0) b 0 [], pp, fun y => ?_, fun y => ?_, lin (co C 0) s 0 [], lin (co C 0) t 0 [], r, hr, fun y => ?_⟩
  · rw [G.fa, hC, con, lin_val]
    grind
  · rw [G.gb, hC, con, lin_val]
    grind
  · rw [lin_val, lin_val, lin_val, lin_val, ← hz y]
    grind
end GC

set_option Elab.async false
set_option linter.all false
set_option maxRecDepth 100000
set_option maxHeartbeats 4000000
/-! far enough out the guess divides both -/
namespace GC
open M3 M4
theorem val_null {x : Int} (hx : x ≠ 0) : ∀ l : List Int, val x l = 0 → (∀ t, (co l t).natAbs < x.natAbs) → ∀ t, co l t = 0
  | [], _, _ => fun t => rfl
  | a :: l, h, s => by
    have h' : a + x * val x l = 0 := h
    have a0 : a = 0 := by
      have d : x ∣ a := ⟨- val x l, by grind⟩
      have s0 : a.natAbs < x.natAbs := s 0
      exact Int.eq_zero_of_dvd_of_natAbs_lt_natAbs d s0
    have r0 : val x l = 0 := by
      rw [a0, Int.zero_add] at h'
      exact (Int.mul_eq_zero.mp h').resolve_left hx
    have ih := val_null hx l r0 fun t => s (t + 1)
    intro t
    cases t with
    | zero => exact a0
    | succ t => exact ih t
theorem same_digits {x : Nat} {l k : List Int} (h : val (x : Int) l = val (x : Int) k) (hl : ∀ t, 2 * (co l t).natAbs ≤ x) (hk : ∀ t, 2 * (co k t).natAbs < x) : ∀ t, co l t = co k t := by
  have x0 : 0 < x := Nat.lt_of_le_of_lt (Nat.zero_le _) (hk 0)
  have z := val_null (x := (x : Int)) (by omega) (lin 1 l (-1) k) (by rw [lin_val, h]; omega) fun t => by
    rw [lin_co, Int.natAbs_natCast]
    have := hl t
    have := hk t
    omega
  intro t
  have := z t
  rw [lin_co] at this
  omega
/-- a small c, also where both quotients are numbers -/
theorem small_all {f g d a b : List Int} (G : Gcd f g d a b) (pf : Prim f) (hg : 0 < dg g) {M : Nat} (bf : Bd M f) (bg : Bd M g) :
    ∃ (U V : List Int) (c : Int), c ≠ 0 ∧ (∀ x, val x U * val x a + val x V * val x b = c) ∧ ∀ t, (c * co d t).natAbs ≤ (dg f + dg g) * M * (2 * ((dg f + dg g) * M) + 1) ^ (dg f + dg g) := by
  have hf := pf.pos
  have a0 : 0 < dg a := Nat.pos_of_ne_zero fun z => by
    have e := dg_congr (l := f) (m := mul d a) (ident fun y => by rw [G.fa, mul_val])
    rw [mul_zero_dg (.inr z)] at e
    omega
  have b0 : 0 < dg b := Nat.pos_of_ne_zero fun z => by
    have e := dg_congr (l := g) (m := mul d b) (ident fun y => by rw [G.gb, mul_val])
    rw [mul_zero_dg (.inr z)] at e
    omega
  have ea := dg_congr (l := f) (m := mul d a) (ident fun y => by rw [G.fa, mul_val])
  rw [mul_pos_dg G.pr.pos a0] at ea
  have eb := dg_congr (l := g) (m := mul d b) (ident fun y => by rw [G.gb, mul_val])
  rw [mul_pos_dg G.pr.pos b0] at eb
  have dp := G.pr.pos
  obtain ⟨α, ha⟩ : ∃ α, dg a = α + 1 := ⟨dg a - 1, by omega⟩
  obtain ⟨β, hb⟩ : ∃ β, dg b = β + 1 := ⟨dg b - 1, by omega⟩
  by_cases z : β + α = 0
  · -- f is d or -d
    have con : ∀ y, val y a = co a 0 := fun y => by
      have e : val y a = val y [co a 0] := val_co fun t => by
        cases t with
        | zero => rfl
        | succ t =>
          rw [dg_out (by omega)]
          rfl
      rw [e]
      simp [val]
    have fd : ∀ t, co f t = co a 0 * co d t := fun t => by
      have e := ident (l := f) (m := lin (co a 0) d 0 []) (fun y => by
        rw [G.fa, con, lin_val]
        grind) t
      rw [e, lin_co]
      simp
    have unit : (co a 0).natAbs = 1 := pf _ fun t => by
      rw [fd]
      exact Int.dvd_mul_of_dvd_left (Int.natAbs_dvd.mpr (Int.dvd_refl _))
    refine ⟨[co a 0], [], 1, by decide, fun x => ?_, fun t => ?_⟩
    · rw [con]
      have : co a 0 = 1 ∨ co a 0 = -1 := by omega
      rcases this with e | e <;> rw [e] <;> simp [val]
    · have h1 := bf t
      have h2 : (co f t).natAbs ≤ M := h1
      rw [fd, Int.natAbs_mul, unit, Nat.one_mul] at h2
      rw [Int.one_mul]
      have p : 1 ≤ (2 * ((dg f + dg g) * M) + 1) ^ (dg f + dg g) := Nat.one_le_pow _ _ (by omega)
      have q : M ≤ (dg f + dg g) * M := Nat.le_mul_of_pos_left _ (by omega)
      exact Nat.le_trans h2 (Nat.le_trans q (Nat.le_mul_of_pos_right _ p))
  · obtain ⟨n, hn⟩ : ∃ n, β + α = n + 1 := ⟨β + α - 1, by omega⟩
    obtain ⟨U, V, c, h1, h2, h3⟩ := small G hf hg bf bg ha hb hn
    refine ⟨U, V, c, h1, h2, fun t => Nat.le_trans (h3 t) ?_⟩
    have l : n + 1 ≤ dg f + dg g := by omega
    have q : (n + 1) * M ≤ (dg f + dg g) * M := Nat.mul_le_mul_right _ l
    refine Nat.mul_le_mul q (Nat.le_trans (Nat.pow_le_pow_left (by omega) n) (Nat.pow_le_pow_right (by omega) (by omega)))
theorem ends {f g : List Int} (pf : Prim f) (hg : 0 < dg g) {M x : Nat} (bf : Bd M f) (bg : Bd M g) (hx : 2 * ((dg f + dg g) * M * (2 * ((dg f + dg g) * M) + 1) ^ (dg f + dg g)) < x) {l : List Int}
    (hl : val (x : Int) l = (Int.gcd (val (x : Int) f) (val (x : Int) g) : Nat)) (sl : ∀ t, 2 * (co l t).natAbs ≤ x) : 0 < dg l ∧ Dv (prim l) f ∧ Dv (prim l) g := by
  obtain ⟨d, a, b, G⟩ := exists_gcd pf.pos hg
  obtain ⟨U, V, c, hc, hz, hb⟩ := small_all G pf hg bf bg
  generalize (dg f + dg g) * M * (2 * ((dg f + dg g) * M) + 1) ^ (dg f + dg g) = R at *
  have rc : (Int.gcd (val (x : Int) a) (val (x : Int) b) : Int) ∣ c := by
    rw [← hz x]
    exact Int.dvd_add (Int.dvd_mul_of_dvd_right (Int.gcd_dvd_left _ _)) (Int.dvd_mul_of_dvd_right (Int.gcd_dvd_right _ _))
  generalize hr : Int.gcd (val (x : Int) a) (val (x : Int) b) = r at rc
  have rle : r ≤ c.natAbs := by
    have := Int.natAbs_dvd_natAbs.mpr rc
    rw [Int.natAbs_natCast] at this
    exact Nat.le_of_dvd (by omega) this
  have r0 : r ≠ 0 := fun z => by
    rw [z] at rc
    exact hc (Int.zero_dvd.mp rc)
  have v : val (x : Int) l = ((val (x : Int) d).natAbs * r : Nat) := by rw [hl, G.fa, G.gb, Int.gcd_mul_left, hr]
  obtain ⟨σ, hσ, eσ⟩ : ∃ σ : Int, (σ = 1 ∨ σ = -1) ∧ ((val (x : Int) d).natAbs : Int) = σ * val (x : Int) d := by
    by_cases s : 0 ≤ val (x : Int) d
    · exact ⟨1, .inl rfl, by omega⟩
    · exact ⟨-1, .inr rfl, by omega⟩
  have σ0 : σ * r ≠ 0 := by
    rcases hσ with e | e <;> rw [e] <;> omega
  have kb : ∀ t, (co (lin (σ * r) d 0 []) t).natAbs ≤ R := fun t => by
    rw [lin_co]
    have z : (0 : Int) * co [] t = 0 := Int.zero_mul _
    rw [z, Int.add_zero, Int.natAbs_mul, Int.natAbs_mul, Int.natAbs_natCast]
    have s1 : σ.natAbs = 1 := by rcases hσ with e | e <;> rw [e] <;> rfl
    rw [s1, Nat.one_mul]
    have h := hb t
    rw [Int.natAbs_mul] at h
    exact Nat.le_trans (Nat.mul_le_mul_right _ rle) h
  have same := same_digits (x := x) (l := l) (k := lin (σ * r) d 0 []) (by
    rw [v, lin_val, Int.natCast_mul, eσ]
    grind) sl fun t => by
    have := kb t
    omega
  have l0 : 0 < dg l := by
    obtain ⟨n, hn⟩ : ∃ n, dg d = n + 1 := ⟨dg d - 1, by have := G.pr.pos; omega⟩
    have top := dg_top hn
    have := dg_pos (l := l) (t := n) (by
      rw [same, lin_co]
      have z : (0 : Int) * co [] n = 0 := Int.zero_mul _
      rw [z, Int.add_zero]
      exact Int.mul_ne_zero σ0 top)
    omega
  have all : ∀ y, (cont l : Int) * val y (prim l) = σ * r * val y d := fun y => by
    rw [← prim_val l0, val_co same, lin_val]
    grind
  refine ⟨l0, div_out (w := prim l) (e := lin (cont l) a 0 []) (prim_prim l0) σ0 fun y => ?_, div_out (w := prim l) (e := lin (cont l) b 0 []) (prim_prim l0) σ0 fun y => ?_⟩
  · rw [G.fa, lin_val]
    have := all y
    grind
  · rw [G.gb, lin_val]
    have := all y
    grind
end GC

set_option Elab.async false
set_option linter.all false
set_option maxRecDepth 100000
set_option maxHeartbeats 4000000
/-! what the exact division tells -/
namespace GC
open M3 M4
theorem val_set (x : Int) : ∀ (r : List Int) (a : Nat) (v : Int), a < r.length → val x (r.set a v) = val x r + (v - co r a) * x ^ a
  | y :: r, 0, v, _ => by
    show v + x * val x r = y + x * val x r + (v - y) * x ^ 0
    rw [Int.pow_zero]
    omega
  | y :: r, a + 1, v, h => by
    have ih := val_set x r a v (by simpa using h)
    show y + x * val x (r.set a v) = y + x * val x r + (v - co r a) * x ^ (a + 1)
    rw [ih, Int.pow_succ]
    grind
theorem val_subs (x c : Int) : ∀ (f r : List Int) (a : Nat), a + f.length ≤ r.length → val x (subs c r a f) = val x r - c * x ^ a * val x f
  | [], r, a, _ => by
    show val x r = val x r - c * x ^ a * 0
    rw [Int.mul_zero]
    omega
  | y :: f, r, a, h => by
    rw [List.length_cons] at h
    show val x (subs c (r.set a (r.getD a 0 - c * y)) (a + 1) f) = val x r - c * x ^ a * (y + x * val x f)
    rw [val_subs x c f _ _ (by rw [List.length_set]; omega), val_set x r a _ (by omega), Int.pow_succ]
    grind
theorem divP_val {f : List Int} {m : Nat} {l : Int} (hm : f.length = m) (h1 : 1 ≤ m) (x : Int) : ∀ (n : Nat) (r q r' q' : List Int), n + m ≤ r.length + 1 → n ≤ q.length → (∀ t, t < n → co q t = 0) → divP f m l n r q = some (r', q') →
    val x r + val x f * val x q = val x r' + val x f * val x q'
  | 0, r, q, r', q', _, _, _, h => by
    cases h
    rfl
  | n + 1, r, q, r', q', hr, hq, hz, h => by
    unfold divP at h
    split at h
    · cases h
    · have ih := divP_val hm h1 x n _ _ r' q' (by rw [subs_len]; omega) (by rw [List.length_set]; omega) (fun t ht => by
        show (q.set n _).getD t 0 = 0
        rw [List.getD_eq_getElem?_getD, List.getElem?_set_ne (by omega), ← List.getD_eq_getElem?_getD]
        exact hz t (by omega)) h
      rw [val_subs x _ f r n (by omega), val_set x q n _ (by omega), hz n (by omega)] at ih
      rw [← ih]
      grind
def quoE (ps f : List Int) (l : Int) : Option (List Int) := res (divP f f.length l (ps.length + 1 - f.length) ps (List.replicate (ps.length + 1 - f.length) 0))
theorem co_rep (n t : Nat) : co (List.replicate n (0 : Int)) t = 0 := by
  show (List.replicate n (0 : Int)).getD t 0 = 0
  rw [List.getD_eq_getElem?_getD, List.getElem?_replicate]
  by_cases h : t < n
  · rw [if_pos h]
    rfl
  · rw [if_neg h]
    rfl
theorem val_zero {l : List Int} (h : ∀ t, co l t = 0) (x : Int) : val x l = 0 := by
  have := val_co (x := x) (l := l) (m := []) fun t => by rw [h]; rfl
  rw [this]
  rfl
/-- where it answers, it answers right -/
theorem quoE_some {ps f q : List Int} {l : Int} (h1 : 1 ≤ f.length) (h : quoE ps f l = some q) (x : Int) : val x ps = val x f * val x q := by
  unfold quoE res at h
  cases e : divP f f.length l (ps.length + 1 - f.length) ps (List.replicate (ps.length + 1 - f.length) 0) with
  | none => rw [e] at h; cases h
  | some rq =>
    obtain ⟨r, q'⟩ := rq
    rw [e] at h
    have h' : (if (r.any fun a => a != 0) = true then none else some q') = some q := h
    split at h'
    · cases h'
    · rename_i nz
      cases h'
      have rz : ∀ t, co r t = 0 := fun t => by
        by_cases lt : t < r.length
        · have : co r t = r[t] := by
            show r.getD t 0 = _
            rw [List.getD_eq_getElem?_getD, List.getElem?_eq_getElem lt]
            rfl
          rw [this]
          refine Classical.byContradiction fun n => nz ?_
          rw [List.any_eq_true]
          exact ⟨r[t], List.getElem_mem lt, by simpa using n⟩
        · exact getD_out (by omega)
      by_cases big : f.length ≤ ps.length
      · have v := divP_val rfl h1 x (ps.length + 1 - f.length) ps (List.replicate (ps.length + 1 - f.length) 0) r q (by omega) (by simp) (fun t _ => co_rep _ t) e
        rw [val_zero (co_rep _) x, val_zero rz x] at v
        omega
      · have n0 : ps.length + 1 - f.length = 0 := by omega
        rw [n0] at e
        cases e
        rw [val_zero rz x]
        show 0 = val x f * 0
        rw [Int.mul_zero]
/-- where the divisor divides, it answers -/
theorem quoE_dv {ps f e : List Int} {l : Int} (hl : l ≠ 0) (h1 : 1 ≤ f.length) (hlast : f.getD (f.length - 1) 0 = l) (h : ∀ x, val x ps = val x f * val x e) : ∃ q, quoE ps f l = some q := by
  have df : dg f = f.length := by
    have a := dg_pos (l := f) (t := f.length - 1) (by
      show f.getD _ 0 ≠ 0
      rw [hlast]
      exact hl)
    have b : dg f ≤ f.length := dg_le fun t ht => getD_out ht
    omega
  have co_eq := ident (l := ps) (m := mul f e) (fun x => by rw [h, mul_val])
  have dp := dg_congr co_eq
  have lp : dg ps ≤ ps.length := dg_le fun t ht => getD_out ht
  -- e's entries beyond are nought
  have cut : ∀ t, ps.length + 1 - f.length ≤ t → co e t = 0 := fun t ht => by
    by_cases z : dg e = 0
    · exact dg_out (by omega)
    · rw [mul_pos_dg (by omega) (by omega)] at dp
      exact dg_out (by omega)
  let g : List Int := row (ps.length + 1 - f.length) fun k => co e k
  have ge : ∀ x, val x g = val x e := fun x => val_co fun t => by
    show co (row _ _) t = _
    rw [row_co]
    by_cases z : t < ps.length + 1 - f.length
    · rw [if_pos z]
    · rw [if_neg z, cut t (by omega)]
  have pg : ∀ t, ps.getD t 0 = pf f g t := fun t => by
    have := ident (l := ps) (m := mul f g) (fun x => by rw [h, mul_val, ge]) t
    rw [mul_co] at this
    exact this
  by_cases big : f.length ≤ ps.length
  · obtain ⟨r', q', ed, z, _⟩ := divP_pf hl rfl h1 hlast (ps.length + 1 - f.length) g ps (List.replicate (ps.length + 1 - f.length) 0) (by simp [g, row]) (by omega) (by simp) pg
    refine ⟨q', ?_⟩
    unfold quoE res
    rw [ed]
    show (if (r'.any fun a => a != 0) = true then none else some q') = some q'
    rw [if_neg]
    intro c
    obtain ⟨a, ha, na⟩ := List.any_eq_true.mp c
    obtain ⟨i, hi, ei⟩ := List.getElem_of_mem ha
    have := z i
    rw [List.getD_eq_getElem?_getD, List.getElem?_eq_getElem hi] at this
    have a0 : a = 0 := ei.symm.trans this
    rw [a0] at na
    exact absurd na (by decide)
  · have n0 : ps.length + 1 - f.length = 0 := by omega
    have pz : ∀ t, co ps t = 0 := fun t => by
      have := pg t
      have g0 : g = [] := by
        show row (ps.length + 1 - f.length) _ = []
        rw [n0]
        rfl
      have v : ∀ x, val x ps = val x ([] : List Int) := fun x => by
        rw [h, ← ge, g0]
        show val x f * 0 = 0
        rw [Int.mul_zero]
      exact ident v t
    refine ⟨[], ?_⟩
    unfold quoE res
    rw [n0]
    show (if (ps.any fun a => a != 0) = true then none else some []) = some []
    rw [if_neg]
    intro c
    obtain ⟨a, ha, na⟩ := List.any_eq_true.mp c
    obtain ⟨i, hi, ei⟩ := List.getElem_of_mem ha
    have := pz i
    have e2 : co ps i = ps[i] := by
      show ps.getD i 0 = _
      rw [List.getD_eq_getElem?_getD, List.getElem?_eq_getElem hi]
      rfl
    rw [e2, ei] at this
    rw [this] at na
    exact absurd na (by decide)
end GC

set_option Elab.async false
set_option linter.all false
set_option maxRecDepth 100000
set_option maxHeartbeats 4000000
/-! the digits around nought of any number -/
namespace GC
open M3 M4
/-- the next digit -/
def nd (B v : Int) : Int := if B ≤ 2 * (v % B) then v % B - B else v % B
theorem nd_range {B v : Int} (hB : 4 ≤ B) : -B ≤ 2 * nd B v ∧ 2 * nd B v < B := by
  have h1 := Int.emod_nonneg v (show B ≠ 0 by omega)
  have h2 := Int.emod_lt_of_pos v (show 0 < B by omega)
  unfold nd
  split <;> omega
theorem nd_rest {B v : Int} (hB : 4 ≤ B) : v = nd B v + B * ((v - nd B v) / B) := by
  have d : B ∣ v - nd B v := by
    unfold nd
    have e := Int.emod_add_mul_ediv v B
    split
    · exact ⟨v / B + 1, by grind⟩
    · exact ⟨v / B, by grind⟩
  have := Int.mul_ediv_cancel' d
  omega
theorem digits {B : Int} (hB : 4 ≤ B) : ∀ (n : Nat) (v : Int), 0 ≤ v → v.toNat ≤ n → ∃ l : List Int, val B l = v ∧ (∀ c ∈ l, -B ≤ 2 * c ∧ 2 * c < B) ∧ (∀ i, i < l.length → 0 < val B (l.drop i) ∧ l[i]? = some (nd B (val B (l.drop i)))) ∧ ∀ t : Nat, v ≤ B ^ t → l.length ≤ t + 1
  | n, v, h0, hn => by
    by_cases z : v = 0
    · exact ⟨[], by rw [z]; rfl, fun c h => (by cases h), fun i h => absurd h (Nat.not_lt_zero _), fun t _ => Nat.zero_le _⟩
    · obtain ⟨r1, r2⟩ := nd_range (B := B) (v := v) hB
      have e := nd_rest (B := B) (v := v) hB
      generalize hw : (v - nd B v) / B = w at e
      have w0 : 0 ≤ w := by
        refine Classical.byContradiction fun neg => ?_
        have : B * w ≤ B * (-1) := Int.mul_le_mul_of_nonneg_left (by omega) (by omega)
        omega
      have wv : w < v := by
        refine Classical.byContradiction fun ge => ?_
        have : 4 * w ≤ B * w := Int.mul_le_mul_of_nonneg_right hB w0
        have : B * v ≤ B * w := Int.mul_le_mul_of_nonneg_left (by omega) (by omega)
        have : B * 1 ≤ B * v := Int.mul_le_mul_of_nonneg_left (by omega) (by omega)
        have h4 : 4 * v ≤ B * v := Int.mul_le_mul_of_nonneg_right hB h0
        omega
      obtain ⟨m, rfl⟩ : ∃ m, n = m + 1 := ⟨n - 1, by omega⟩
      obtain ⟨l, e1, e2, e3, e4⟩ := digits hB m w w0 (by omega)
      have ev : val B (nd B v :: l) = v := by
        show nd B v + B * val B l = v
        rw [e1, ← e]
      refine ⟨nd B v :: l, ev, fun c hc => ?_, fun i hi => ?_, fun t ht => ?_⟩
      · rcases List.mem_cons.mp hc with rfl | hc
        · exact ⟨r1, r2⟩
        · exact e2 c hc
      · cases i with
        | zero =>
          rw [List.drop_zero, ev]
          exact ⟨by omega, rfl⟩
        | succ i =>
          rw [List.drop_succ_cons, List.getElem?_cons_succ]
          exact e3 i (by simpa using hi)
      · rw [List.length_cons]
        cases t with
        | zero =>
          rw [Int.pow_zero] at ht
          have w0' : w = 0 := by
            refine Classical.byContradiction fun ne => ?_
            have : B * 1 ≤ B * w := Int.mul_le_mul_of_nonneg_left (by omega) (by omega)
            have v1 : v = 1 := by omega
            have : nd B 1 = 1 := by
              unfold nd
              have : (1 : Int) % B = 1 := Int.emod_eq_of_lt (by omega) (by omega)
              rw [this, if_neg (by omega)]
            rw [v1, this] at e
            omega
          rw [w0'] at e1
          cases l with
          | nil => simp
          | cons a l =>
            have := (e3 0 (by simp)).1
            rw [List.drop_zero, e1] at this
            omega
        | succ t =>
          have wt : w ≤ B ^ t := by
            refine Classical.byContradiction fun gt => ?_
            have : B * (B ^ t + 1) ≤ B * w := Int.mul_le_mul_of_nonneg_left (by omega) (by omega)
            rw [Int.pow_succ] at ht
            have : B * (B ^ t + 1) = B ^ t * B + B := by grind
            omega
          have := e4 t wt
          omega
end GC

set_option Elab.async false
set_option linter.all false
set_option maxRecDepth 100000
set_option maxHeartbeats 4000000
/-! the divisor of two rows is that of their primitive parts; what a primitive part keeps -/
namespace GC
open M3 M4
theorem scale_val (c : Int) (a : List Int) (x : Int) : val x (lin c a 0 []) = c * val x a := by
  rw [lin_val, Int.zero_mul, Int.add_zero]
theorem Gcd.of_prim {f g d a b : List Int} (hf : 0 < dg f) (hg : 0 < dg g) (G : Gcd (prim f) (prim g) d a b) : ∃ a' b', Gcd f g d a' b' := by
  obtain ⟨s, t, r, hr, e⟩ := G.bz
  have pc := cont_pos hf
  have pd := cont_pos hg
  refine ⟨lin (cont f : Int) a 0 [], lin (cont g : Int) b 0 [], G.pr, fun x => ?_, fun x => ?_, lin (cont g : Int) s 0 [], lin (cont f : Int) t 0 [], (cont f : Int) * (cont g : Int) * r, ?_, fun x => ?_⟩
  · rw [prim_val hf, G.fa, scale_val]; ac_rfl
  · rw [prim_val hg, G.gb, scale_val]; ac_rfl
  · exact Int.mul_ne_zero (Int.mul_ne_zero (by omega) (by omega)) hr
  · rw [scale_val, scale_val, scale_val, scale_val, ← e x, Int.mul_add]
    congr 1 <;> ac_rfl
theorem prim_len (l : List Int) : (prim l).length = l.length := List.length_map ..
theorem prim_le {l : List Int} (h : 0 < dg l) (t : Nat) : (co (prim l) t).natAbs ≤ (co l t).natAbs := by
  have p := cont_pos h
  rw [prim_co h t, Int.natAbs_mul, Int.natAbs_natCast]
  exact Nat.le_mul_of_pos_left _ p
theorem prim_bd {l : List Int} (h : 0 < dg l) {M : Nat} (b : ∀ t, (co l t).natAbs ≤ M) : ∀ t, (co (prim l) t).natAbs ≤ M := fun t => Nat.le_trans (prim_le h t) (b t)
theorem prim_mem {l : List Int} (h : 0 < dg l) {M : Nat} (b : ∀ c ∈ l, c.natAbs < M) : ∀ c ∈ prim l, c.natAbs < M := fun c hc => by
  obtain ⟨i, hi, e⟩ := List.getElem_of_mem hc
  have k := prim_le h i
  have li : i < l.length := by rw [← prim_len]; exact hi
  have e1 : co (prim l) i = c := by
    show (prim l).getD i 0 = c
    rw [List.getD_eq_getElem?_getD, List.getElem?_eq_getElem hi]
    exact e
  have e2 : co l i = l[i] := by
    show l.getD i 0 = _
    rw [List.getD_eq_getElem?_getD, List.getElem?_eq_getElem li]
    rfl
  rw [e1, e2] at k
  exact Nat.lt_of_le_of_lt k (b _ (List.getElem_mem li))
theorem prim_last {l : List Int} (h : 0 < dg l) {t : Nat} (n : co l t ≠ 0) : co (prim l) t ≠ 0 := fun z => n (by rw [prim_co h, z, Int.mul_zero])
end GC

set_option linter.all false
set_option maxRecDepth 100000
/-! rational functions in lowest terms: there is one for each -/
namespace GC
open M4
/-- every coefficient of l, times a, is that of m, times b -/
theorem tr_eq {l m : List Int} (hl : tr l = l) (hm : tr m = m) (h : ∀ t, co l t = co m t) : l = m := by
  have e : l.length = m.length := by
    have h1 : dg l = dg m := dg_congr h
    unfold dg at h1
    rwa [hl, hm] at h1
  exact M3.ext_getD e fun t _ => h t
theorem tr_tr (l : List Int) : tr (tr l) = tr l := by
  rcases tr_form l with e | ⟨r, z, e, hz⟩
  · rw [e]; rfl
  · rw [e, tr_last hz]
theorem one_val {e : List Int} (h : dg e = 1) (x : Int) : val x e = co e 0 := by
  have : val x e = val x [co e 0] := val_co fun t => by
    cases t with
    | zero => rfl
    | succ t => exact (dg_out (by omega)).trans rfl
  rw [this]
  show co e 0 + x * 0 = co e 0
  omega
/-- products without a nought -/
theorem cancel {v a b : List Int} (hv : 0 < dg v) (h : ∀ x, val x v * val x a = val x v * val x b) : ∀ t, co a t = co b t := by
  have h0 : ∀ x, val x (mul v (lin 1 a (-1) b)) = 0 := fun x => by
    rw [mul_val, lin_val]
    have := h x
    grind
  have hd : dg (lin 1 a (-1) b) = 0 := by
    rcases Nat.eq_zero_or_pos (dg (lin 1 a (-1) b)) with z | z
    · exact z
    · have hp := mul_pos_dg hv z
      have hz : ∀ t, co (mul v (lin 1 a (-1) b)) t = co [] t := ident fun x => by rw [h0]; rfl
      have : dg (mul v (lin 1 a (-1) b)) = dg [] := dg_congr hz
      have e0 : dg ([] : List Int) = 0 := rfl
      omega
  intro t
  have := dg_out (l := lin 1 a (-1) b) (t := t) (by omega)
  rw [lin_co] at this
  omega
structure Low (u v : List Int) : Prop where
  tu : tr u = u
  tv : tr v = v
  nz : 0 < dg v
  bz : ∃ (s t : List Int) (r : Int), r ≠ 0 ∧ ∀ x, val x s * val x u + val x t * val x v = r
  ct : Nat.gcd (cont u) (cont v) = 1
  sg : ∃ m, 0 < co v m ∧ ∀ j, j < m → co v j = 0
theorem Low.part {u v u' v' : List Int} (A : Low u v) (B : 0 < dg v') (h : ∀ x, val x u * val x v' = val x u' * val x v) : ∃ (e : List Int) (r : Int), r ≠ 0 ∧ ∀ x, r * val x v' = val x v * val x e := by
  obtain ⟨s, t, r, hr, hb⟩ := A.bz
  refine ⟨lin 1 (mul s u') 1 (mul t v'), r, hr, fun x => ?_⟩
  rw [lin_val, mul_val, mul_val]
  have h1 := hb x
  have h2 := h x
  grind
theorem scaled_dg {r : Int} (hr : r ≠ 0) {v w e : List Int} (h : ∀ x, r * val x v = val x w * val x e) (hv : 0 < dg v) : 0 < dg e ∧ 0 < dg w ∧ dg v = dg w + dg e - 1 := by
  have h1 : ∀ t, co (mul [r] v) t = co (mul w e) t := ident fun x => by
    rw [mul_val, mul_val, ← h]
    show (r + x * 0) * _ = _
    grind
  have hrr : dg [r] = 1 := by
    have := dg_pos (l := [r]) (t := 0) (by show r ≠ 0; exact hr)
    have := dg_le (l := [r]) (n := 1) fun t ht => by
      cases t with
      | zero => omega
      | succ t => rfl
    omega
  have d1 := mul_pos_dg (f := [r]) (g := v) (by omega) hv
  have d2 := dg_congr h1
  have he : 0 < dg e := Nat.pos_of_ne_zero fun z => by
    have := mul_zero_dg (f := w) (g := e) (.inr z)
    omega
  have hw : 0 < dg w := Nat.pos_of_ne_zero fun z => by
    have := mul_zero_dg (f := w) (g := e) (.inl z)
    omega
  have d3 := mul_pos_dg hw he
  exact ⟨he, hw, by omega⟩
theorem cont_one {u v : List Int} {m : Nat} (h : Nat.gcd (cont u) (cont v) = 1) (a : Al m u) (b : Al m v) : m = 1 := by
  have := Nat.dvd_gcd (al_cont a) (al_cont b)
  rw [h] at this
  exact Nat.dvd_one.mp this
/-- a multiple of one pair is a multiple of the other: the factors are as great -/
theorem same_abs {u v u' v' : List Int} {a b : Int} (ha : a ≠ 0) (hb : b ≠ 0) (c1 : Nat.gcd (cont u) (cont v) = 1) (c2 : Nat.gcd (cont u') (cont v') = 1) (h1 : ∀ t, a * co u' t = b * co u t) (h2 : ∀ t, a * co v' t = b * co v t) : a.natAbs = b.natAbs := by
  have hg : 0 < Nat.gcd a.natAbs b.natAbs := Nat.gcd_pos_of_pos_left _ (by omega)
  obtain ⟨n, hn⟩ := Nat.gcd_dvd_left a.natAbs b.natAbs
  obtain ⟨m, hm⟩ := Nat.gcd_dvd_right a.natAbs b.natAbs
  generalize hG : Nat.gcd a.natAbs b.natAbs = G at hg hn hm
  have cop : Nat.Coprime n m := by
    have := Nat.gcd_mul_left G n m
    rw [← hn, ← hm, hG] at this
    exact Nat.eq_of_mul_eq_mul_left hg (by rw [← this, Nat.mul_one])
  have key : ∀ p q : Int, a * p = b * q → (m ∣ p.natAbs) ∧ n ∣ q.natAbs := fun p q e => by
    have e2 := congrArg Int.natAbs e
    rw [Int.natAbs_mul, Int.natAbs_mul, hn, hm, Nat.mul_assoc, Nat.mul_assoc] at e2
    have e3 := Nat.eq_of_mul_eq_mul_left hg e2
    exact ⟨Nat.Coprime.dvd_of_dvd_mul_left cop.symm ⟨_, e3⟩, Nat.Coprime.dvd_of_dvd_mul_left cop ⟨_, e3.symm⟩⟩
  have m1 : m = 1 := cont_one c2 (fun t => Int.ofNat_dvd_left.mpr (key _ _ (h1 t)).1) fun t => Int.ofNat_dvd_left.mpr (key _ _ (h2 t)).1
  have n1 : n = 1 := cont_one c1 (fun t => Int.ofNat_dvd_left.mpr (key _ _ (h1 t)).2) fun t => Int.ofNat_dvd_left.mpr (key _ _ (h2 t)).2
  rw [hn, hm, m1, n1]
theorem Low.eq {u v u' v' : List Int} (A : Low u v) (B : Low u' v') (h : ∀ x, val x u * val x v' = val x u' * val x v) : u = u' ∧ v = v' := by
  obtain ⟨e, r, hr, he⟩ := A.part B.nz h
  obtain ⟨e', r', hr', he'⟩ := B.part A.nz (fun x => (h x).symm)
  obtain ⟨p1, p2, p3⟩ := scaled_dg hr he B.nz
  obtain ⟨q1, q2, q3⟩ := scaled_dg hr' he' A.nz
  have e1 : dg e = 1 := by omega
  generalize hb : co e 0 = b
  have hv : ∀ x, r * val x v' = b * val x v := fun x => by rw [he, one_val e1, hb, Int.mul_comm]
  have b0 : b ≠ 0 := fun z => by
    have := dg_top (l := e) (n := 0) e1
    rw [hb] at this
    exact this z
  have cv : ∀ t, r * co v' t = b * co v t := fun t => by
    have := ident (l := lin r v' 0 []) (m := lin b v 0 []) (fun x => by rw [lin_val, lin_val, hv]) t
    rw [lin_co, lin_co] at this
    omega
  have cu : ∀ t, r * co u' t = b * co u t := fun t => by
    have := cancel (v := v) (a := lin r u' 0 []) (b := lin b u 0 []) A.nz (fun x => by
      rw [lin_val, lin_val]
      have h1 := h x
      have h2 := hv x
      grind) t
    rw [lin_co, lin_co] at this
    omega
  have ab := same_abs hr b0 A.ct B.ct cu cv
  have rb : r = b := by
    obtain ⟨m, hm, lm⟩ := A.sg
    obtain ⟨m', hm', lm'⟩ := B.sg
    have mm : m = m' := by
      rcases Nat.lt_trichotomy m m' with l | e | l
      · have := cv m
        rw [lm' m l, Int.mul_zero] at this
        have := Int.mul_ne_zero b0 (show co v m ≠ 0 by omega)
        omega
      · exact e
      · have := cv m'
        rw [lm m' l, Int.mul_zero] at this
        have := Int.mul_ne_zero hr (show co v' m' ≠ 0 by omega)
        omega
    subst mm
    have := cv m
    rcases (show r = b ∨ r = -b by omega) with e | e
    · exact e
    · rw [e] at this
      have h3 : b * (co v' m + co v m) = 0 := by grind
      rcases Int.mul_eq_zero.mp h3 with z | z
      · exact absurd z b0
      · omega
  subst rb
  have fin : ∀ {l l' : List Int}, (∀ t, r * co l' t = r * co l t) → ∀ t, co l t = co l' t := fun h t => (Int.eq_of_mul_eq_mul_left hr (h t)).symm
  exact ⟨tr_eq A.tu B.tu (fin cu), tr_eq A.tv B.tv (fin cv)⟩
/-- u / v is f / g in lowest terms -/
structure Red (f g u v : List Int) : Prop where
  low : Low u v
  eq : ∀ x, val x u * val x g = val x f * val x v
theorem Red.uniq {f g u v f' g' u' v' : List Int} (A : Red f g u v) (B : Red f' g' u' v') (hg : 0 < dg g) (hg' : 0 < dg g') (h : ∀ x, val x f * val x g' = val x f' * val x g) : u = u' ∧ v = v' := by
  refine A.low.eq B.low fun x => ?_
  have := cancel (v := mul g g') (a := mul u v') (b := mul u' v) (by rw [mul_pos_dg hg hg']; omega) (fun x => by
    rw [mul_val, mul_val, mul_val]
    have h1 := A.eq x
    have h2 := B.eq x
    have h3 := h x
    grind)
  have := val_co (x := x) this
  rwa [mul_val, mul_val] at this
end GC

set_option linter.all false
set_option maxRecDepth 100000
/-! how great the coefficients of a divisor can be -/
namespace GC
open M4
/-- (l - l(c)) / (x - c) -/
def syn (c : Int) : List Int → List Int
  | [] => []
  | _ :: r => lin 1 r c (syn c r)
theorem syn_val (c x : Int) : ∀ l : List Int, val x l = (x - c) * val x (syn c l) + val c l
  | [] => by simp [syn, val]
  | a :: r => by
    show a + x * val x r = (x - c) * val x (lin 1 r c (syn c r)) + (a + c * val c r)
    rw [lin_val]
    have := syn_val c x r
    grind
theorem syn_high (c : Int) : ∀ (l : List Int) (n : Nat), (∀ t, n + 1 ≤ t → co l t = 0) → ∀ t, n ≤ t → co (syn c l) t = 0
  | [], _, _, t, _ => rfl
  | a :: r, n, h, t, ht => by
    show co (lin 1 r c (syn c r)) t = 0
    rw [lin_co]
    have h1 : co r t = 0 := h (t + 1) (by omega)
    have h2 : co (syn c r) t = 0 := syn_high c r (t - 1) (fun s hs => h (s + 1) (by omega)) t (by omega)
    rw [h1, h2]
    omega
theorem syn_co (c : Int) (l : List Int) (t : Nat) : co l t = (if t = 0 then 0 else co (syn c l) (t - 1)) - c * co (syn c l) t + (if t = 0 then val c l else 0) := by
  have h := ident (l := l) (m := lin 1 (lin 1 (0 :: syn c l) (-c) (syn c l)) 1 [val c l]) (fun x => by
    rw [lin_val, lin_val, syn_val c x l]
    show _ = 1 * (1 * (0 + x * val x (syn c l)) + -c * val x (syn c l)) + 1 * (val c l + x * 0)
    grind) t
  rw [h, lin_co, lin_co]
  cases t with
  | zero =>
    rw [if_pos rfl, if_pos rfl]
    show 1 * (1 * 0 + -c * co (syn c l) 0) + 1 * (val c l) = _
    grind
  | succ t =>
    rw [if_neg (by omega), if_neg (by omega)]
    show 1 * (1 * co (syn c l) t + -c * co (syn c l) (t + 1)) + 1 * 0 = _
    rw [Nat.add_sub_cancel]
    grind
/-- what a row is at many numbers bounds its coefficients -/
theorem interp {X : Nat} : ∀ (n : Nat) (L : List Int) (a : List Int) (B : Nat), L.Nodup → n ≤ L.length → (∀ t, n ≤ t → co a t = 0) → (∀ x ∈ L, x.natAbs ≤ X ∧ (val x a).natAbs ≤ B) → ∀ t, (co a t).natAbs ≤ B * (2 * X + 3) ^ n
  | 0, L, a, B, _, _, h, _, t => by rw [h t (Nat.zero_le _)]; simp
  | n + 1, [], a, B, _, hl, _, _, t => absurd hl (by simp)
  | n + 1, c :: L, a, B, nd, hl, h, hv, t => by
    obtain ⟨nc, nd'⟩ := List.nodup_cons.mp nd
    obtain ⟨cX, cB⟩ := hv c List.mem_cons_self
    have ih := interp n L (syn c a) (2 * B) nd' (by simpa using hl) (syn_high c a n h) fun x hx => by
      obtain ⟨xX, xB⟩ := hv x (List.mem_cons_of_mem _ hx)
      refine ⟨xX, ?_⟩
      have e := syn_val c x a
      have ne : x - c ≠ 0 := fun z => nc (by rw [show c = x by omega]; exact hx)
      have e2 : (x - c).natAbs * (val x (syn c a)).natAbs = (val x a - val c a).natAbs := by
        rw [← Int.natAbs_mul]
        congr 1
        omega
      have e3 : (val x (syn c a)).natAbs ≤ (x - c).natAbs * (val x (syn c a)).natAbs := Nat.le_mul_of_pos_left _ (by omega)
      omega
    have b1 := ih t
    have b2 : (if t = 0 then 0 else co (syn c a) (t - 1)).natAbs ≤ 2 * B * (2 * X + 3) ^ n := by
      split
      · exact Nat.zero_le _
      · exact ih _
    have b3 : (c * co (syn c a) t).natAbs ≤ X * (2 * B * (2 * X + 3) ^ n) := by
      rw [Int.natAbs_mul]
      exact Nat.mul_le_mul cX b1
    have b4 : (if t = 0 then val c a else 0).natAbs ≤ B * (2 * X + 3) ^ n := by
      have p : 1 ≤ (2 * X + 3) ^ n := Nat.pow_pos (by omega)
      have q : B ≤ B * (2 * X + 3) ^ n := Nat.le_mul_of_pos_right _ p
      split
      · omega
      · exact Nat.zero_le _
    rw [syn_co c a t, Nat.pow_succ]
    generalize hW : B * (2 * X + 3) ^ n = W at *
    have e5 : 2 * B * (2 * X + 3) ^ n = 2 * W := by rw [← hW, Nat.mul_assoc]
    rw [e5] at b2 b3
    have e6 : X * (2 * W) = 2 * (X * W) := by rw [Nat.mul_left_comm]
    have e7 : B * ((2 * X + 3) ^ n * (2 * X + 3)) = 2 * (X * W) + 3 * W := by
      rw [← Nat.mul_assoc, hW, Nat.mul_add, Nat.mul_comm W (2 * X), Nat.mul_assoc, Nat.mul_comm W 3]
    rw [e7]
    rw [e6] at b3
    omega
/-- a row has fewer noughts than coefficients -/
theorem few_roots : ∀ (L : List Int) (l : List Int), L.Nodup → 0 < dg l → (∀ x ∈ L, val x l = 0) → L.length < dg l
  | [], l, _, h, _ => h
  | c :: L, l, nd, h, hz => by
    obtain ⟨nc, nd'⟩ := List.nodup_cons.mp nd
    have zc := hz c List.mem_cons_self
    have hv : ∀ x, val x l = (x - c) * val x (syn c l) := fun x => by rw [syn_val c x l, zc, Int.add_zero]
    have h2 : 0 < dg (syn c l) := Nat.pos_of_ne_zero fun z => by
      have : ∀ t, co l t = co [] t := ident fun x => by
        rw [hv, dg_zero_val z, Int.mul_zero]
        rfl
      have := dg_congr this
      have e0 : dg ([] : List Int) = 0 := rfl
      omega
    have h3 : dg (syn c l) + 1 ≤ dg l := by
      have : dg (syn c l) ≤ dg l - 1 := dg_le fun t ht => syn_high c l (dg l - 1) (fun s hs => dg_out (by omega)) t ht
      omega
    have := few_roots L (syn c l) nd' h2 fun x hx => by
      have e := hv x
      rw [hz x (List.mem_cons_of_mem _ hx)] at e
      rcases Int.mul_eq_zero.mp e.symm with z | z
      · exact absurd (by rw [show c = x by omega]; exact hx) nc
      · exact z
    rw [List.length_cons]
    omega
theorem val_low {X H : Nat} {x : Int} (hx : x.natAbs ≤ X) : ∀ l : List Int, (∀ c ∈ l, c.natAbs ≤ H) → (val x l).natAbs ≤ H * (X + 1) ^ l.length
  | [], _ => by simp [val]
  | c :: r, h => by
    show (c + x * val x r).natAbs ≤ _
    have h1 := h c List.mem_cons_self
    have h2 := val_low hx r fun d hd => h d (List.mem_cons_of_mem _ hd)
    have h3 : (x * val x r).natAbs ≤ X * (H * (X + 1) ^ r.length) := by
      rw [Int.natAbs_mul]
      exact Nat.mul_le_mul hx h2
    have p : 1 ≤ (X + 1) ^ r.length := Nat.pow_pos (by omega)
    have h4 : H ≤ H * (X + 1) ^ r.length := Nat.le_mul_of_pos_right _ p
    rw [List.length_cons, Nat.pow_succ, ← Nat.mul_assoc, Nat.mul_add, Nat.mul_one, Nat.mul_comm _ X]
    omega
/-- the whole numbers from -X to X -/
def mids (X : Nat) : List Int := (List.range (2 * X + 1)).map fun i : Nat => (i : Int) - X
theorem mids_nodup (X : Nat) : (mids X).Nodup := by
  unfold mids
  rw [List.nodup_iff_pairwise_ne, List.pairwise_map]
  exact List.nodup_range.imp fun {a b} h e => h (by omega)
theorem mids_le {X : Nat} {x : Int} (h : x ∈ mids X) : x.natAbs ≤ X := by
  obtain ⟨i, hi, rfl⟩ := List.mem_map.mp h
  have := List.mem_range.mp hi
  omega
theorem mids_len (X : Nat) : (mids X).length = 2 * X + 1 := by simp [mids]
theorem split_len (p : Int → Bool) : ∀ l : List Int, (l.filter p).length + (l.filter fun x => !p x).length = l.length
  | [] => rfl
  | x :: r => by
    have ih := split_len p r
    cases e : p x with
    | true =>
      rw [List.filter_cons_of_pos e, List.filter_cons_of_neg (by simp [e]), List.length_cons, List.length_cons]
      omega
    | false =>
      rw [List.filter_cons_of_neg (by simp [e]), List.filter_cons_of_pos (by simp [e]), List.length_cons, List.length_cons]
      omega
/-- the coefficients of a divisor -/
theorem part_le {f d a : List Int} {X H : Nat} (hf : 0 < dg f) (hv : ∀ x, val x f = val x d * val x a) (hX : dg f ≤ 2 * X + 1) (hH : ∀ c ∈ f, c.natAbs ≤ H) (t : Nat) : (co a t).natAbs ≤ H * (X + 1) ^ f.length * (2 * X + 3) ^ dg a := by
  obtain ⟨da, dd, e⟩ := scaled_dg (r := 1) (by decide) (v := f) (w := d) (e := a) (fun x => by rw [Int.one_mul, hv]) hf
  have spl : ((mids X).filter fun x => val x d == 0).length + ((mids X).filter fun x => !(val x d == 0)).length = (mids X).length := by
    exact split_len (fun x => val x d == 0) (mids X)
  have r1 := few_roots ((mids X).filter fun x => val x d == 0) d ((mids_nodup X).filter _) dd fun x hx => by simpa using (List.mem_filter.mp hx).2
  rw [mids_len] at spl
  refine interp (dg a) ((mids X).filter fun x => !(val x d == 0)) a _ ((mids_nodup X).filter _) (by omega) (fun t ht => dg_out ht) (fun x hx => ?_) t
  obtain ⟨h1, h2⟩ := List.mem_filter.mp hx
  have nz : val x d ≠ 0 := by simpa using h2
  refine ⟨mids_le h1, ?_⟩
  have b := val_low (mids_le h1) f hH
  rw [hv x, Int.natAbs_mul] at b
  exact Nat.le_trans (Nat.le_mul_of_pos_left _ (by omega)) b
end GC

set_option linter.all false
set_option maxRecDepth 100000
set_option exponentiation.threshold 20000
/-! a pair without a common divisor, its coefficients divided by what divides them all -/
namespace GC
open M4
structure RedX (f g u v : List Int) : Prop extends Red f g u v where
  du : Dv u f
  dv : Dv v g
  bzs : 0 < dg f → ∀ M, (∀ t, (co f t).natAbs ≤ M) → (∀ t, (co g t).natAbs ≤ M) → ∃ (s t : List Int) (r : Int), r ≠ 0 ∧ r.natAbs ≤ M * M * ((dg f + dg g) * M * (2 * ((dg f + dg g) * M) + 1) ^ (dg f + dg g)) ∧ ∀ x, val x s * val x u + val x t * val x v = r
theorem cont_le {f : List Int} (h : 0 < dg f) {M : Nat} (b : ∀ t, (co f t).natAbs ≤ M) : cont f ≤ M := by
  have top := dg_top (l := f) (n := dg f - 1) (by omega)
  have d := Int.natAbs_dvd_natAbs.mpr (cont_al f (dg f - 1))
  rw [Int.natAbs_natCast] at d
  exact Nat.le_trans (Nat.le_of_dvd (by omega) d) (b _)
/-- the search for a common divisor ends before numbers of this size -/
def Ends (f g : List Int) : Prop := ∀ x : Nat, 2 ^ 3999 < x → ∀ l : List Int, val (x : Int) l = (Int.gcd (val (x : Int) (prim f)) (val (x : Int) (prim g)) : Nat) → (∀ t, 2 * (co l t).natAbs ≤ x) → Dv (prim l) (prim f) ∧ Dv (prim l) (prim g)
theorem Ends.of_bz {u v : List Int} (hu : 0 < dg u) (hv : 0 < dg v) (h : ∃ (s t : List Int) (r : Int), r ≠ 0 ∧ 2 * r.natAbs ≤ 2 ^ 3999 ∧ ∀ x, val x s * val x u + val x t * val x v = r) : Ends u v := by
  intro x hx l hl sl
  obtain ⟨s, t, r, r0, rs, hb⟩ := h
  have dv : (Int.gcd (val (x : Int) (prim u)) (val (x : Int) (prim v)) : Int) ∣ r := by
    rw [← hb x, prim_val hu, prim_val hv]
    exact Int.dvd_add (Int.dvd_mul_of_dvd_right (Int.dvd_mul_of_dvd_right (Int.gcd_dvd_left _ _))) (Int.dvd_mul_of_dvd_right (Int.dvd_mul_of_dvd_right (Int.gcd_dvd_right _ _)))
  generalize Int.gcd (val (x : Int) (prim u)) (val (x : Int) (prim v)) = γ at dv hl
  have γle : γ ≤ r.natAbs := by
    have := Int.natAbs_dvd_natAbs.mpr dv
    rw [Int.natAbs_natCast] at this
    exact Nat.le_of_dvd (by omega) this
  have γ0 : γ ≠ 0 := fun z => by
    rw [z] at dv
    exact r0 (Int.zero_dvd.mp dv)
  have same := same_digits (x := x) (l := l) (k := [(γ : Int)]) (by rw [hl]; simp [val]) sl fun t => by
    cases t with
    | zero =>
      show 2 * ((γ : Nat) : Int).natAbs < x
      rw [Int.natAbs_natCast]
      omega
    | succ t =>
      show 2 * (0 : Int).natAbs < x
      have : (0 : Int).natAbs = 0 := rfl
      omega
  have l0 : 0 < dg l := by
    have := dg_pos (l := l) (t := 0) (by
      rw [same]
      show (γ : Int) ≠ 0
      omega)
    omega
  have all : ∀ y, (cont l : Int) * val y (prim l) = γ := fun y => by
    rw [← prim_val l0, val_co same]
    simp [val]
  have one : ∀ a : List Int, Dv (prim l) a := fun a => div_out (w := prim l) (e := lin (cont l) a 0 []) (c := (γ : Int)) (prim_prim l0) (by omega) fun y => by
    rw [lin_val, ← all y]
    grind
  exact ⟨one _, one _⟩
theorem Ends.of_rb {f g : List Int} (hf : 0 < dg f) (hg : 0 < dg g) {M : Nat} (bf : ∀ t, (co f t).natAbs ≤ M) (bg : ∀ t, (co g t).natAbs ≤ M) (hR : 2 * ((dg f + dg g) * M * (2 * ((dg f + dg g) * M) + 1) ^ (dg f + dg g)) < 2 ^ 3999) : Ends f g := fun x hx l hl sl => by
  refine (ends (prim_prim hf) (by rw [prim_dg hg]; exact hg) (prim_bd hf bf) (prim_bd hg bg) ?_ hl sl).2
  rw [prim_dg hf, prim_dg hg]
  exact Nat.lt_trans hR hx
theorem tr_of_dg {l : List Int} (h : dg l = l.length) : tr l = l := by
  have s : List.Sublist (tr l).reverse l.reverse := by
    unfold tr
    rw [List.reverse_reverse]
    exact List.dropWhile_sublist _
  have e : (tr l).reverse = l.reverse := s.eq_of_length (by rw [List.length_reverse, List.length_reverse]; exact h)
  have := congrArg List.reverse e
  rwa [List.reverse_reverse, List.reverse_reverse] at this
theorem map_co {l : List Int} {k : Int} (h : ∀ t, k ∣ co l t) (t : Nat) : co l t = k * co (l.map (·.fdiv k)) t := by
  have e : co (l.map (·.fdiv k)) t = (co l t).fdiv k := by
    show (l.map (·.fdiv k)).getD t 0 = (l.getD t 0).fdiv k
    rw [List.getD_eq_getElem?_getD, List.getD_eq_getElem?_getD, List.getElem?_map]
    cases l[t]? with
    | none => exact (Int.zero_fdiv k).symm
    | some x => rfl
  rw [e]
  obtain ⟨z, hz⟩ := h t
  rw [hz]
  by_cases k0 : k = 0
  · rw [k0]; simp
  · rw [Int.mul_fdiv_cancel_left _ k0]
theorem dg_scaled {l m : List Int} {k : Int} (hk : k ≠ 0) (h : ∀ t, co l t = k * co m t) : dg l = dg m := by
  have h1 : dg l ≤ dg m := dg_le fun t ht => by rw [h, dg_out ht, Int.mul_zero]
  have h2 : dg m ≤ dg l := dg_le fun t ht => by
    have := h t
    rw [dg_out ht] at this
    rcases Int.mul_eq_zero.mp this.symm with z | z
    · exact absurd z hk
    · exact z
  omega
theorem dg_tr (l : List Int) : dg (tr l) = (tr l).length := by
  unfold dg
  rw [tr_tr]
theorem red_of {f g d a b a2 b2 q q2 : List Int} (G : Gcd f g d a b) (GG : Gcd (prim f) (prim g) d a2 b2) (hd : 0 < dg d) (hg : 0 < dg g) (h1 : ∀ x, val x f = val x d * val x q) (h2 : ∀ x, val x g = val x d * val x q2) {m : Nat} (hm : co (tr q2) m ≠ 0) (lm : ∀ j, j < m → co (tr q2) j = 0)
    {c : Int} (hc : c = (if co (tr q2) m < 0 then -1 else 1) * ((Int.gcd (cont (tr q)) (cont (tr q2)) : Nat) : Int)) : RedX f g ((tr q).map (·.fdiv c)) ((tr q2).map (·.fdiv c)) := by
  have qa : ∀ x, val x q = val x a := fun x => val_co (cancel hd fun x => by rw [← h1, G.fa]) 
  have qb : ∀ x, val x q2 = val x b := fun x => val_co (cancel hd fun x => by rw [← h2, G.gb])
  have cp : 0 < cont (tr q2) := cont_pos (Nat.lt_of_le_of_lt (Nat.zero_le _) (dg_pos hm))
  have gp : 0 < Int.gcd (cont (tr q)) (cont (tr q2)) := Nat.gcd_pos_of_pos_right _ cp
  have na : c.natAbs = Int.gcd (cont (tr q)) (cont (tr q2)) := by
    rw [hc, Int.natAbs_mul, Int.natAbs_natCast]
    split <;> simp
  have c0 : c ≠ 0 := fun z => by
    have z2 : c.natAbs = 0 := by rw [z]; rfl
    omega
  have dvd1 : ∀ t, c ∣ co (tr q) t := fun t => by
    have h : ((Int.gcd (cont (tr q)) (cont (tr q2)) : Nat) : Int) ∣ co (tr q) t := Int.dvd_trans (Int.ofNat_dvd.mpr (Nat.gcd_dvd_left _ _)) (cont_al (tr q) t)
    rw [← na] at h
    exact Int.natAbs_dvd.mp h
  have dvd2 : ∀ t, c ∣ co (tr q2) t := fun t => by
    have h : ((Int.gcd (cont (tr q)) (cont (tr q2)) : Nat) : Int) ∣ co (tr q2) t := Int.dvd_trans (Int.ofNat_dvd.mpr (Nat.gcd_dvd_right _ _)) (cont_al (tr q2) t)
    rw [← na] at h
    exact Int.natAbs_dvd.mp h
  have mu := map_co dvd1
  have mv := map_co dvd2
  generalize hu : (tr q).map (·.fdiv c) = u at mu ⊢
  generalize hv : (tr q2).map (·.fdiv c) = v at mv ⊢
  have lu : u.length = (tr q).length := by rw [← hu, List.length_map]
  have lv : v.length = (tr q2).length := by rw [← hv, List.length_map]
  have du := dg_scaled c0 mu
  have dv := dg_scaled c0 mv
  have vu : ∀ x, val x q = c * val x u := fun x => by rw [← val_tr]; exact smul_val mu x
  have vv : ∀ x, val x q2 = c * val x v := fun x => by rw [← val_tr]; exact smul_val mv x
  have eu : tr u = u := tr_of_dg (by rw [← du, dg_tr, lu])
  have ev : tr v = v := tr_of_dg (by rw [← dv, dg_tr, lv])
  have bez : ∃ (s t : List Int) (r : Int), r ≠ 0 ∧ ∀ x, val x s * val x u + val x t * val x v = r := by
    obtain ⟨s, t, r, hr, hb⟩ := G.bz
    have hcr : ∀ x, c * (val x s * val x u + val x t * val x v) = r := fun x => by
      have := hb x
      rw [← qa, ← qb, vu, vv] at this
      grind
    obtain ⟨k, hk⟩ : c ∣ r := ⟨_, (hcr 0).symm⟩
    refine ⟨s, t, k, fun z => hr (by rw [hk, z, Int.mul_zero]), fun x => ?_⟩
    have := hcr x
    rw [hk] at this
    exact Int.eq_of_mul_eq_mul_left c0 this
  have one : Nat.gcd (cont u) (cont v) = 1 := by
    have a1 : Al (Nat.gcd (cont u) (cont v)) u := fun t => Int.dvd_trans (Int.ofNat_dvd.mpr (Nat.gcd_dvd_left _ _)) (cont_al u t)
    have a2 : Al (Nat.gcd (cont u) (cont v)) v := fun t => Int.dvd_trans (Int.ofNat_dvd.mpr (Nat.gcd_dvd_right _ _)) (cont_al v t)
    generalize Nat.gcd (cont u) (cont v) = k at a1 a2 ⊢
    have b1 : Al (c.natAbs * k) (tr q) := fun t => by
      rw [mu t, Int.natCast_mul]
      exact Int.mul_dvd_mul (Int.natAbs_dvd.mpr (Int.dvd_refl c)) (a1 t)
    have b2 : Al (c.natAbs * k) (tr q2) := fun t => by
      rw [mv t, Int.natCast_mul]
      exact Int.mul_dvd_mul (Int.natAbs_dvd.mpr (Int.dvd_refl c)) (a2 t)
    have := Nat.dvd_gcd (al_cont b1) (al_cont b2)
    have na' : c.natAbs = Nat.gcd (cont (tr q)) (cont (tr q2)) := na
    rw [← na'] at this
    have p : 0 < c.natAbs := by omega
    have := Nat.le_of_dvd p this
    have k1 : k ≤ 1 := by
      have h3 : c.natAbs * k ≤ c.natAbs * 1 := by omega
      exact Nat.le_of_mul_le_mul_left h3 p
    have k0 : k ≠ 0 := fun z => by
      rw [z, Nat.mul_zero] at b2
      have := b2 m
      simp at this
      exact hm this
    omega
  have sgn : ∃ m, 0 < co v m ∧ ∀ j, j < m → co v j = 0 := by
    refine ⟨m, ?_, fun j hj => ?_⟩
    · have e := mv m
      by_cases neg : co (tr q2) m < 0
      · rw [if_pos neg] at hc
        have cn : c < 0 := by omega
        rcases Int.lt_or_le 0 (co v m) with l | l
        · exact l
        · have : 0 ≤ c * co v m := Int.mul_nonneg_of_nonpos_of_nonpos (Int.le_of_lt cn) l
          omega
      · rw [if_neg neg] at hc
        have cn : 0 < c := by omega
        rcases Int.lt_or_le 0 (co v m) with l | l
        · exact l
        · have : c * co v m ≤ 0 := Int.mul_nonpos_of_nonneg_of_nonpos (Int.le_of_lt cn) l
          omega
    · have e := mv j
      rw [lm j hj] at e
      rcases Int.mul_eq_zero.mp e.symm with z | z
      · exact absurd z c0
      · exact z
  have bzs : 0 < dg f → ∀ M, (∀ t, (co f t).natAbs ≤ M) → (∀ t, (co g t).natAbs ≤ M) → ∃ (s t : List Int) (r : Int), r ≠ 0 ∧ r.natAbs ≤ M * M * ((dg f + dg g) * M * (2 * ((dg f + dg g) * M) + 1) ^ (dg f + dg g)) ∧ ∀ x, val x s * val x u + val x t * val x v = r := fun hf M bf bg => by
    obtain ⟨U, V, k, hk, hz, hb⟩ := small_all GG (prim_prim hf) (by rw [prim_dg hg]; exact hg) (prim_bd hf bf) (prim_bd hg bg)
    rw [prim_dg hf, prim_dg hg] at hb
    generalize (dg f + dg g) * M * (2 * ((dg f + dg g) * M) + 1) ^ (dg f + dg g) = R at hb ⊢
    have kR : k.natAbs ≤ R := by
      have top := dg_top (l := d) (n := dg d - 1) (by omega)
      have := hb (dg d - 1)
      rw [Int.natAbs_mul] at this
      have h1 : 1 ≤ (co d (dg d - 1)).natAbs := by omega
      exact Nat.le_trans (Nat.le_mul_of_pos_right _ h1) this
    have e1 : ∀ x, val x q = cont f * val x a2 := fun x => by
      have : ∀ t, co q t = co (lin (cont f) a2 0 []) t := cancel hd fun y => by
        rw [← h1, lin_val, prim_val hf, GG.fa]
        grind
      rw [val_co this, lin_val]
      omega
    have e2 : ∀ x, val x q2 = cont g * val x b2 := fun x => by
      have : ∀ t, co q2 t = co (lin (cont g) b2 0 []) t := cancel hd fun y => by
        rw [← h2, lin_val, prim_val hg, GG.gb]
        grind
      rw [val_co this, lin_val]
      omega
    have tot : ∀ x, c * (val x (lin (cont g) U 0 []) * val x u + val x (lin (cont f) V 0 []) * val x v) = cont f * cont g * k := fun x => by
      have a1 := vu x
      have a2 := vv x
      rw [e1] at a1
      rw [e2] at a2
      rw [lin_val, lin_val, ← hz x]
      grind
    obtain ⟨r, hr⟩ : c ∣ cont f * cont g * k := ⟨_, (tot 0).symm⟩
    have n0 : (cont f : Int) * cont g * k ≠ 0 := Int.mul_ne_zero (Int.mul_ne_zero (by have := cont_pos hf; omega) (by have := cont_pos hg; omega)) hk
    refine ⟨lin (cont g) U 0 [], lin (cont f) V 0 [], r, fun z => n0 (by rw [hr, z, Int.mul_zero]), ?_, fun x => ?_⟩
    · have h3 : r.natAbs ≤ ((cont f : Int) * cont g * k).natAbs := by
        rw [hr, Int.natAbs_mul]
        exact Nat.le_mul_of_pos_left _ (by omega)
      refine Nat.le_trans h3 ?_
      rw [Int.natAbs_mul, Int.natAbs_mul, Int.natAbs_natCast, Int.natAbs_natCast]
      exact Nat.mul_le_mul (Nat.mul_le_mul (cont_le hf bf) (cont_le hg bg)) kR
    · have := tot x
      rw [hr] at this
      exact Int.eq_of_mul_eq_mul_left c0 this
  refine ⟨⟨⟨eu, ev, by rw [← dv]; exact Nat.lt_of_le_of_lt (Nat.zero_le _) (dg_pos hm), bez, one, sgn⟩, fun x => ?_⟩, ⟨lin c d 0 [], fun x => ?_⟩, ⟨lin c d 0 [], fun x => ?_⟩, bzs⟩
  · rw [h1, h2, vu, vv]
    grind
  · rw [h1, vu, lin_val]
    grind
  · rw [h2, vv, lin_val]
    grind
theorem red_null {g : List Int} : RedX [] g [] [1] := by
  refine ⟨⟨⟨rfl, rfl, by decide, ⟨[], [1], 1, by decide, fun x => ?_⟩, by decide, ⟨0, by decide, fun j hj => absurd hj (Nat.not_lt_zero _)⟩⟩, fun x => ?_⟩, ⟨[], fun x => by simp [val]⟩, ⟨g, fun x => ?_⟩, fun h => absurd h (by decide)⟩
  · simp [val]
  · simp [val]
  · simp [val]
end GC

set_option Elab.async false
set_option linter.all false
set_option maxRecDepth 100000
set_option maxHeartbeats 4000000
namespace Z
open PySem PySem.Spec PyProof.Rows L2 GG M3 M4
abbrev sVap : Stmt := top 4
abbrev sRead : Stmt := top 5
section
variable {P : Program} {w : World} {K : PySem.W.Frag} {mg : Str → Option Value} {base : Heap}
def spVap (K : PySem.W.Frag) : Sp := fun vs H Q _ => ∃ (r : Addr) (ns : List Int) (b : Nat), vs = [.ref r, .int (b : Nat)] ∧ SqT K H r (ns.map V.int) ∧ (∀ c ∈ ns, c.natAbs < 2 ^ b) ∧ b * (ns.length + 1) ≤ 100000000 ∧ Q (.int (val (2 ^ b) ns)) H
theorem scVap : FnScope ["polynomial", "bits", "value", "c"] ["polynomial", "bits"] (defScope sVap) := ⟨rfl, rfl, rfl, by decide +kernel, rfl, by decide +kernel, by decide +kernel⟩
theorem pow_cast (b : Nat) : ((2 ^ b : Nat) : Int) = 2 ^ b := by simp
theorem val_fit {b : Nat} {l : List Int} (h : ∀ c ∈ l, c.natAbs < 2 ^ b) : (val (2 ^ b) l).natAbs < 2 ^ (b * l.length) := by
  have := val_lt (B := 2 ^ b) (Nat.one_le_pow _ _ (by decide)) l h
  rwa [pow_cast, ← Nat.pow_mul] at this
theorem ok_vap {f : Addr} {fd : FuncData} (F : Fun K "value_at_power" "value_at_power" sVap f fd) (mR : mg "reversed" = none) : FnOk P w K mg base CX0 1 f fd ["polynomial", "bits"] (spVap K) := by
  refine F.ok scVap (fun vs H Q E h => ?_) (fun cdv A outer s H vs Q E hr h => ?_)
  · obtain ⟨r, ns, b, rfl, _⟩ := h
    rfl
  · obtain ⟨r, ns, b, rfl, hS, hc, hb, q⟩ := h
    refine ⟨_, (pss_cons (ps_set (i := 2) scVap.nd rfl (.inl rfl) pe_int)
      (pss_cons (ps_for PassesOwn.never rfl (RT.pi_revA (by rfl) mR (pv 0)) (pg_name (i := 3) scVap.nd rfl (.inl rfl)) (pss_one (ps_set (i := 2) scVap.nd rfl (.inl rfl) (pe_op op_add (pe_op op_shlN (pv 2) (pv 1)) (pv 3)))))
      (pss_one (ps_ret (pv 2))))), ?_⟩
    refine ⟨.ref r, rfl, r, ns.map V.int, rfl, .inr ⟨hS, ?_⟩⟩
    rw [List.length_map]
    refine ⟨fun i m σ H' => ∃ v : Option V, m = ns.length - i ∧ i ≤ ns.length ∧ H' = H ∧ σ = [some (V.ref r), some (V.int (b : Nat)), some (V.int (val (2 ^ b) (ns.drop (ns.length - i)))), v],
      ⟨ns.length, none, by simp, Nat.zero_le _, rfl, by simp [val]; rfl⟩, ?_⟩
    rintro i m σ H' ⟨v, rfl, hi, rfl, rfl⟩
    by_cases lt : i < ns.length
    · have hk : ns.length - 1 - i < ns.length := by omega
      have gx : (ns.map V.int)[ns.length - 1 - i]? = some (.int ns[ns.length - 1 - i]) := by
        rw [List.getElem?_map, List.getElem?_eq_getElem hk]
        rfl
      have ed : ns.drop (ns.length - (i + 1)) = ns[ns.length - 1 - i] :: ns.drop (ns.length - i) := by
        rw [show ns.length - (i + 1) = ns.length - 1 - i by omega, List.drop_eq_getElem_cons hk, show ns.length - 1 - i + 1 = ns.length - i by omega]
      refine .inr ⟨⟨lt, _, _, hS, gx⟩, fun σ H2 => ∃ v : Option V, H2 = H' ∧ σ = [some (V.ref r), some (V.int (b : Nat)), some (V.int (val (2 ^ b) (ns.drop (ns.length - (i + 1))))), v], ?_, ?_⟩
      · rintro σ H2 ⟨v, rfl, rfl⟩
        exact ⟨ns.length - (i + 1), by omega, v, rfl, by omega, rfl, rfl⟩
      · rintro x H2 ⟨rfl, hx⟩
        have ex : x = .int ns[ns.length - 1 - i] := Option.some.inj ((hx _ hS).symm.trans gx)
        subst ex
        have fit := val_fit (b := b) (l := ns.drop (ns.length - i)) fun c h => hc c (List.mem_of_mem_drop h)
        have ll : (ns.drop (ns.length - i)).length = i := by rw [List.length_drop]; omega
        rw [ll] at fit
        have hbi : b * i + b ≤ 100000000 := by
          have : b * (i + 1) ≤ b * (ns.length + 1) := Nat.mul_le_mul_left _ (by omega)
          rw [Nat.mul_add, Nat.mul_one] at this
          omega
        refine ⟨_, rfl, _, rfl, _, b, rfl, rfl, shl_ok fit (by omega), _, rfl, _, _, rfl, rfl, ?_⟩
        refine ⟨some (.int ns[ns.length - 1 - i]), rfl, ?_⟩
        have ev : val (2 ^ b) (ns.drop (ns.length - (i + 1))) = val (2 ^ b) (ns.drop (ns.length - i)) * 2 ^ b + ns[ns.length - 1 - i] := by
          rw [ed]
          show ns[ns.length - 1 - i] + 2 ^ b * val (2 ^ b) (ns.drop (ns.length - i)) = _
          rw [Int.mul_comm (2 ^ b : Int), Int.add_comm]
        rw [ev]
        rfl
    · have ei : i = ns.length := by omega
      subst ei
      rw [Nat.sub_self, List.drop_zero]
      exact .inl ⟨Nat.le_refl _, _, rfl, q⟩
/-! digits read -/
def Digs (b : Nat) (v : Int) (l : List Int) : Prop := val (2 ^ b) l = v ∧ (∀ c ∈ l, -(2 ^ b : Int) ≤ 2 * c ∧ 2 * c < (2 ^ b : Int)) ∧ ∀ t : Nat, v ≤ ((2 ^ b : Int)) ^ t → l.length ≤ t + 1
def spRead : Sp := fun vs H Q _ => ∃ (v : Int) (b t : Nat), vs = [.int v, .int (b : Nat)] ∧ 0 ≤ v ∧ 2 ≤ b ∧ b ≤ 1000000 ∧ v ≤ ((2 ^ b : Int)) ^ t ∧ t ≤ 900 ∧
  ∀ (l : List Int), Digs b v l → ∀ p H', Same H H' → H p = none → H' p = some (.lst (l.map V.int)) → Q (.ref p) H'
theorem scRead : FnScope ["value", "bits", "base", "coefficients", "c"] ["value", "bits"] (defScope sRead) := ⟨rfl, rfl, rfl, by decide +kernel, rfl, by decide +kernel, by decide +kernel⟩
theorem ok_read {f : Addr} {fd : FuncData} (F : Fun K "read_coefficients" "read_coefficients" sRead f fd) : FnOk P w K mg base CX0 1 f fd ["value", "bits"] spRead := by
  refine F.ok scRead (fun vs H Q E h => ?_) (fun cdv A outer s H vs Q E hr h => ?_)
  · obtain ⟨v, b, t, rfl, _⟩ := h
    rfl
  · obtain ⟨v, b, t, rfl, h0, b1, b2, hv, ht, q⟩ := h
    refine ⟨_, (pss_cons (ps_set (i := 2) scRead.nd rfl (.inl rfl) (pe_op op_oneShl pe_int (pv 1)))
      (pss_cons (ps_set (i := 3) scRead.nd rfl (.inl rfl) (pe_lst pa_nil))
      (pss_cons (ps_while PassesOwn.never (pt_cmpR op_gt (pv 0) pe_int (nomark _)) (pss_cons (ps_set (i := 4) scRead.nd rfl (.inl rfl) (pe_op op_andM (pv 0) (pe_op op_sub (pv 2) pe_int)))
      (pss_cons (ps_if (pt_cmpR op_ge (pe_op op_mul pe_int (pv 4)) (pv 2) (nomark _)) (pss_one (ps_aug (i := 4) scRead.nd rfl (.inl rfl) (pv 2) ip_sub)) pss_nil)
      (pss_cons (ps_expr (pe_bm PySem.F.plainAttrs_list PySem.F.slot_list_append PySem.F.type_list_append mt_append (pv 3) (pa_cons (pv 4) pa_nil)))
      (pss_one (ps_set (i := 0) scRead.nd rfl (.inl rfl) (pe_op op_shrN (pe_op op_sub (pv 0) (pv 4)) (pv 1))))))))
      (pss_one (ps_ret (pv 3)))))), ?_⟩
    have hB4 : (4 : Int) ≤ 2 ^ b := by
      have : (2 ^ 2 : Nat) ≤ 2 ^ b := Nat.pow_le_pow_right (by decide) b1
      have e := pow_cast b
      omega
    have hB : (2 : Int) ≤ 2 ^ b := by omega
    obtain ⟨l, e1, e2, e3, e4⟩ := GC.digits hB4 v.toNat v h0 (Nat.le_refl _)
    have hl : l.length ≤ 901 := Nat.le_trans (e4 t hv) (by omega)
    replace q := q l ⟨e1, e2, e4⟩
    subst e1
    clear hv e4
    refine ⟨_, rfl, b, rfl, rfl, by omega, Nat.zero_le _, fun R nR => ?_⟩
    have s1 := Same.upd (o := .lst []) nR
    refine ⟨fun n σ H' => ∃ (i : Nat) (v4 : Option V), n = l.length - i ∧ i ≤ l.length ∧ σ = [some (V.int (val (2 ^ b) (l.drop i))), some (V.int (b : Nat)), some (V.int (2 ^ b)), some (V.ref R), v4] ∧ Same H H' ∧ H' R = some (.lst ((l.take i).map V.int)),
      ⟨l.length, 0, none, by simp, Nat.zero_le _, rfl, s1, upd_same⟩, ?_⟩
    rintro n σ H' ⟨i, v4, rfl, hi, rfl, s2, eR⟩
    refine ⟨_, rfl, _, _, rfl, rfl, _, rfl, ?_⟩
    by_cases lt : i < l.length
    · rw [decide_eq_true (e3 i lt).1]
      have ed : l.drop i = l[i] :: l.drop (i + 1) := List.drop_eq_getElem_cons lt
      have dg : l[i] = GC.nd (2 ^ b) (val (2 ^ b) (l.drop i)) := by
        have := (e3 i lt).2
        rw [List.getElem?_eq_getElem lt] at this
        exact Option.some.inj this
      unfold GC.nd at dg
      have ev : val (2 ^ b) (l.drop i) = l[i] + 2 ^ b * val (2 ^ b) (l.drop (i + 1)) := by rw [ed]; rfl
      refine iteT ⟨fun σ H2 => ∃ (v4 : Option V), σ = [some (V.int (val (2 ^ b) (l.drop (i + 1)))), some (V.int (b : Nat)), some (V.int (2 ^ b)), some (V.ref R), v4] ∧ Same H H2 ∧ H2 R = some (.lst ((l.take (i + 1)).map V.int)), ?_, ?_⟩
      · rintro σ H2 ⟨v4, e1, e2, e3⟩
        exact ⟨l.length - (i + 1), by omega, i + 1, v4, rfl, lt, e1, e2, e3⟩
      · refine ⟨_, rfl, _, rfl, _, _, rfl, rfl, _, b, rfl, rfl, ?_⟩
        dsimp only
        refine on (if_tail (fun σ H3 => σ = [some (V.int (val (2 ^ b) (l.drop i))), some (V.int (b : Nat)), some (V.int (2 ^ b)), some (V.ref R), some (V.int l[i])] ∧ H3 = H') ?_ (fun t => ?_))
        rotate_left
        · refine ⟨_, rfl, _, _, rfl, rfl, .inl ⟨by decide, by decide⟩, _, rfl, _, _, rfl, rfl, _, rfl, ite2 (fun e => ?_) (fun e => ?_)⟩
          · rw [if_pos (of_decide_eq_true e)] at dg
            refine ⟨_, rfl, _, rfl, _, _, rfl, rfl, t _ _ ⟨?_, rfl⟩⟩
            show [_, _, _, _, some (V.int (val (2 ^ b) (l.drop i) % 2 ^ b - 2 ^ b))] = _
            rw [← dg]
          · rw [if_neg (fun h => e (decide_eq_true h))] at dg
            refine t _ _ ⟨?_, rfl⟩
            show [_, _, _, _, some (V.int (val (2 ^ b) (l.drop i) % 2 ^ b))] = _
            rw [← dg]
        · rintro σ H3 ⟨rfl, rfl⟩
          have et : l.take (i + 1) = l.take i ++ [l[i]] := List.take_succ_eq_append_getElem lt
          refine ⟨.ref R, rfl, .inl ⟨rfl, _, SqL.of eR⟩, _, rfl, R, _, _, rfl, rfl, eR, by rw [List.length_map, List.length_take]; exact small1000 (by omega), ?_⟩
          refine ⟨_, rfl, _, rfl, _, _, rfl, rfl, _, rfl, _, b, rfl, rfl, some (.int l[i]), ?_, ?_, ?_⟩
          · rw [ev, rest_is hB]
            rfl
          · intro c o e
            rw [upd_ne (ne_of_none e nR)]
            exact s2 _ _ e
          · rw [upd_same, et, List.map_append]
            rfl
    · have ei : i = l.length := by omega
      subst ei
      rw [List.drop_length, decide_eq_false (by show ¬ (0 : Int) > 0; omega)]
      rw [List.take_length] at eR
      exact iteF ⟨.ref R, rfl, q R H' s2 nR eR⟩
end
end Z

set_option Elab.async false
set_option linter.all false
set_option maxRecDepth 100000
set_option maxHeartbeats 4000000
namespace Z
open PySem PySem.Spec PyProof.Rows L2 GG M3 M4
abbrev sCont : Stmt := top 14
abbrev sDbi : Stmt := top 15
abbrev sPrim : Stmt := top 16
structure NamesG (mg : Str → Option Value) (gc : Value) : Prop extends Names3 mg where
  gcd : mg "gcd" = some gc
section
variable {P : Program} {w : World} {K : PySem.W.Frag} {mg : Str → Option Value} {base : Heap}
def spCont (K : PySem.W.Frag) : Sp := fun vs H Q _ => ∃ (p : Addr) (ns : List Int), vs = [.ref p] ∧ SqT K H p (ns.map V.int) ∧ ns.length ≤ 1000 ∧ (∀ c ∈ ns, c.natAbs < 2 ^ 8000) ∧ Q (.int (GC.cont ns : Nat)) H
theorem scCont : FnScope ["polynomial", "common", "c"] ["polynomial"] (defScope sCont) := ⟨rfl, rfl, rfl, by decide +kernel, rfl, by decide +kernel, by decide +kernel⟩
theorem ok_cont {f : Addr} {fd : FuncData} (F : Fun K "integer_content" "integer_content" sCont f fd) (mG : mg "gcd" = some (.builtin "math.gcd")) : FnOk P w K mg base CX0 1 f fd ["polynomial"] (spCont K) := by
  refine F.ok scCont (fun vs H Q E h => ?_) (fun cdv A outer s H vs Q E hr h => ?_)
  · obtain ⟨p, ns, rfl, _⟩ := h
    rfl
  · obtain ⟨p, ns, rfl, hp, hl, hb, q⟩ := h
    refine ⟨_, (pss_cons (ps_set (i := 1) scCont.nd rfl (.inl rfl) pe_int)
      (pss_cons (ps_for PassesOwn.never rfl (pi_tup (pv 0)) (pg_name (i := 2) scCont.nd rfl (.inl rfl)) (pss_one (ps_set (i := 1) scCont.nd rfl (.inl rfl) (pe_callBfun cr_gcd (by rfl) mG (pa_cons (pv 1) (pa_cons (pv 2) pa_nil))))))
      (pss_one (ps_ret (pv 1))))), ?_⟩
    refine ⟨.ref p, rfl, p, rfl, ⟨_, hp⟩, for_tup (K := K) (a := p) (xs := ns.map V.int) (fun i σ H' => ∃ v2 : Option V, σ = [some (V.ref p), some (V.int (((ns.take i).foldl (fun a c => Int.gcd a c) 0 : Nat) : Int)), v2] ∧ H' = H) ⟨_, rfl, rfl⟩ (fun i σ H' _ ⟨_, _, e⟩ => by rw [e]; exact hp) ?_ ?_⟩
    · rintro i x σ H' hx ⟨v2, rfl, rfl⟩
      have hi : i < ns.length := by
        have := (List.getElem?_eq_some_iff.mp hx).1
        rwa [List.length_map] at this
      have ex : x = .int ns[i] := by
        rw [List.getElem?_map, List.getElem?_eq_getElem hi] at hx
        exact (Option.some.inj hx).symm
      subst ex
      refine ⟨_, rfl, _, rfl, _, _, rfl, ?_⟩
      refine ⟨some (.int ns[i]), ?_, rfl⟩
      rw [List.take_succ_eq_append_getElem hi, List.foldl_append]
      rfl
    · rintro σ H' ⟨v2, rfl, rfl⟩
      rw [List.length_map, List.take_length]
      exact ⟨_, rfl, q⟩
def spDbi (K : PySem.W.Frag) : Sp := fun vs H Q _ => ∃ (p : Addr) (ns : List Int) (d : Int), vs = [.ref p, .int d] ∧ SqT K H p (ns.map V.int) ∧ ns.length ≤ 1000 ∧ (∀ x, OPS.CDivZ x d) ∧ ∀ t H', Same H H' → H t = none → H' t = some (.tup ((ns.map (·.fdiv d)).map V.int)) → Q (.ref t) H'
theorem scDbi : FnScope ["polynomial", "divisor", "c"] ["polynomial", "divisor"] (defScope sDbi) := ⟨rfl, rfl, rfl, by decide +kernel, rfl, by decide +kernel, by decide +kernel⟩
theorem ok_dbi {f : Addr} {fd : FuncData} (F : Fun K "divide_by_integer" "divide_by_integer" sDbi f fd) (T : Names3 mg) : FnOk P w K mg base CX0 1 f fd ["polynomial", "divisor"] (spDbi K) := by
  refine F.ok scDbi (fun vs H Q E h => ?_) (fun cdv A outer s H vs Q E hr h => ?_)
  · obtain ⟨p, ns, d, rfl, _⟩ := h
    rfl
  · obtain ⟨p, ns, d, rfl, hp, hl, hd, q⟩ := h
    refine ⟨_, (pss_one (ps_ret (pe_callTy call_tuple_of (by rfl) T.tuple (by decide +kernel) (pa_cons (pe_lc (own := [("c", 2)]) (g := gName 2) (tt := tYes) rfl scDbi.nd (pi_tup (pv 0)) (blkOk_by (N := ["polynomial", "divisor", "c"]) (sc := defScope sDbi) (own := [("c", 2)]) (by decide +kernel)) (fun _ _ _ _ _ => (pg_name (i := 2) scDbi.nd rfl (.inl rfl))) (fun _ _ _ _ _ => pts_nil) (fun _ _ _ _ _ => (pe_op OPS.op_fdivZ (pv 2) (pv 1)))) pa_nil)))), ?_⟩
    refine ⟨.ref p, rfl, p, rfl, ⟨_, hp⟩, fun D nD => ?_⟩
    refine lc_tup (K := K) (a := p) (xs := ns.map V.int) (fun i H' => Same H H' ∧ H' D = some (.lst (((ns.take i).map (·.fdiv d)).map V.int))) ⟨Same.upd nD, upd_same⟩ (fun i H' _ h => Same.tup h.1 hp) ?_ ?_
    · rintro i v H1 hv ⟨s1, e1⟩
      have hi : i < ns.length := by
        have := (List.getElem?_eq_some_iff.mp hv).1
        rwa [List.length_map] at this
      have ev : v = .int ns[i] := by
        rw [List.getElem?_map, List.getElem?_eq_getElem hi] at hv
        exact (Option.some.inj hv).symm
      subst ev
      refine ⟨rfl, ?_⟩
      dsimp only [tYes]
      refine iteT ?_
      refine ⟨_, rfl, _, rfl, _, _, rfl, rfl, hd _, _, e1, by rw [List.length_map, List.length_map, List.length_take]; exact small1000 (by omega), ?_, ?_⟩
      · intro b o e
        rw [upd_ne (ne_of_none e nD)]
        exact s1 _ _ e
      · rw [upd_same, List.take_succ_eq_append_getElem hi, List.map_append, List.map_append]
        rfl
    · rintro H1 ⟨s1, e1⟩
      rw [List.length_map, List.take_length] at e1
      exact ⟨D, _, rfl, .inl ⟨SqL.of e1, fun t nt => q t _ (s1.trans (Same.upd nt)) (s1.free nt) upd_same⟩⟩
/-! ### a row freed of its content -/
def spPrim (K : PySem.W.Frag) : Sp := fun vs H Q _ => ∃ (p : Addr) (ns : List Int), vs = [.ref p] ∧ SqT K H p (ns.map V.int) ∧ ns.length ≤ 1000 ∧ (∀ c ∈ ns, c.natAbs < 2 ^ 8000) ∧ 0 < GC.dg ns ∧ ∀ t H', Same H H' → H t = none → H' t = some (.tup ((GC.prim ns).map V.int)) → Q (.ref t) H'
theorem scPrim : FnScope ["polynomial"] ["polynomial"] (defScope sPrim) := ⟨rfl, rfl, rfl, by decide +kernel, rfl, by decide +kernel, by decide +kernel⟩
theorem ok_prim {f c d : Addr} {fd cd dd : FuncData} (F : Fun K "primitive_part" "primitive_part" sPrim f fd) (GC_ : FnOk P w K mg base CX0 1 c cd ["polynomial"] (spCont K)) (PC_ : Def K mg "integer_content" c cd ["polynomial"])
    (GD_ : FnOk P w K mg base CX0 1 d dd ["polynomial", "divisor"] (spDbi K)) (PD_ : Def K mg "divide_by_integer" d dd ["polynomial", "divisor"]) : FnOk P w K mg base CX0 2 f fd ["polynomial"] (spPrim K) := by
  refine F.ok scPrim (fun vs H Q E h => ?_) (fun cdv A outer s H vs Q E hr h => ?_)
  · obtain ⟨p, ns, rfl, _⟩ := h
    rfl
  · obtain ⟨p, ns, rfl, hp, hl, hb, h0, q⟩ := h
    refine ⟨_, (pss_one (ps_ret (pe_call GD_ (hr.mono (by first | decide | omega)) (by rfl) PD_.is PD_.kp PD_.bi .nil pass0 (pa_cons (pv 0) (pa_cons (pe_call GC_ (hr.mono (by first | decide | omega)) (by rfl) PC_.is PC_.kp PC_.bi .nil pass0 (pa_cons (pv 0) pa_nil)) pa_nil))))), ?_⟩
    have cp := GC.cont_pos h0
    have cl : GC.cont ns < 2 ^ 8000 := by
      obtain ⟨n, hn⟩ : ∃ n, GC.dg ns = n + 1 := ⟨GC.dg ns - 1, by omega⟩
      have top := GC.dg_top hn
      have a := GC.cont_al ns n
      have b := Int.natAbs_dvd_natAbs.mpr a
      rw [Int.natAbs_natCast] at b
      have c := Nat.le_of_dvd (Nat.pos_of_ne_zero (by simpa using top)) b
      have lt : n < ns.length := Nat.lt_of_not_le fun ge => top (getD_out ge)
      have e : GC.co ns n = ns[n] := by
        show ns.getD n 0 = _
        rw [List.getD_eq_getElem?_getD, List.getElem?_eq_getElem lt]
        rfl
      rw [e] at c
      exact Nat.lt_of_le_of_lt c (hb _ (List.getElem_mem lt))
    refine ⟨.ref p, rfl, .ref p, rfl, p, ns, rfl, hp, hl, hb, p, ns, _, rfl, hp, hl, fun x => ⟨by omega, ?_⟩, fun t H' s' nt et => q t H' s' nt ?_⟩
    · rw [Int.natAbs_natCast]
      exact Nat.lt_of_lt_of_le (PySem.Flt.log2_lt_of (k := 8000) (by decide) cl) (by decide)
    · rw [et]
      have e : (ns.map (·.fdiv (GC.cont ns : Int))) = GC.prim ns := List.map_congr_left fun c _ => Int.fdiv_eq_ediv_of_nonneg _ (by omega)
      rw [e]
end
end Z

set_option Elab.async false
set_option linter.all false
set_option maxRecDepth 100000
set_option maxHeartbeats 4000000
namespace Z
open PySem PySem.Spec PyProof.Rows L2 GG M3 M4
abbrev sDvs : Stmt := top 18
abbrev sFb : Stmt := top 19
abbrev sGd : Stmt := top 20
theorem strip_tr (l : List Int) : strip l = GC.tr l := rfl
section
variable {P : Program} {w : World} {K : PySem.W.Frag} {mg : Str → Option Value} {base : Heap}
def spDvs (K : PySem.W.Frag) : Sp := fun vs H Q _ => ∃ (o p : Addr) (ps f : List Int) (l : Int) (A B : Nat), vs = [.ref o, .ref p] ∧ SqT K H p (ps.map V.int) ∧ SqT K H o (f.map V.int) ∧ Dv A B ps f l ∧ ∀ H', Same H H' → Q (.bl (quo ps f l).isSome) H'
theorem scDvs : FnScope ["divisor", "polynomial"] ["divisor", "polynomial"] (defScope sDvs) := ⟨rfl, rfl, rfl, by decide +kernel, rfl, by decide +kernel, by decide +kernel⟩
theorem ok_dvs {f d : Addr} {fd dd : FuncData} (F : Fun K "divides" "divides" sDvs f fd) (GV : FnOk P w K mg base CX0 2 d dd ["polynomial", "other"] (spDiv K)) (PV : Def K mg "divide_exactly" d dd ["polynomial", "other"]) : FnOk P w K mg base CX0 3 f fd ["divisor", "polynomial"] (spDvs K) := by
  refine F.ok scDvs (fun vs H Q E h => ?_) (fun cdv A outer s H vs Q E hr h => ?_)
  · obtain ⟨o, p, ps, f, l, A, B, rfl, _⟩ := h
    rfl
  · obtain ⟨o, p, ps, f, l, A1, B1, rfl, hp, ho, D, q⟩ := h
    refine ⟨_, (pss_one (ps_ret (pe_cmpR op_notN (pe_call GV (hr.mono (by first | decide | omega)) (by rfl) PV.is PV.kp PV.bi .nil pass0 (pa_cons (pv 1) (pa_cons (pv 0) pa_nil))) pe_non (nomark _)))), ?_⟩
    refine ⟨_, rfl, _, rfl, p, o, ps, f, l, A1, B1, rfl, hp, ho, D, fun e H' s' => ?_, fun r e t H' s' nt et => ?_⟩
    · refine ⟨rfl, ?_⟩
      have := q H' s'
      rw [e] at this
      exact this
    · refine ⟨rfl, ?_⟩
      have := q H' s'
      rw [e] at this
      exact this
def spFb (K : PySem.W.Frag) : Sp := fun vs H Q _ => ∃ (x y : Addr) (f g : List Int), vs = [.ref x, .ref y] ∧ SqT K H x (f.map V.int) ∧ SqT K H y (g.map V.int) ∧ f ≠ [] ∧ g ≠ [] ∧ f.length ≤ 60 ∧ g.length ≤ 60 ∧ (∀ c ∈ f, c.natAbs < 2 ^ 400) ∧ (∀ c ∈ g, c.natAbs < 2 ^ 400) ∧
  ∀ (a : Nat) H', Same H H' → (∀ c ∈ f, c.natAbs < 2 ^ a) → (∀ c ∈ g, c.natAbs < 2 ^ a) → a ≤ 400 → ∀ r : Nat, 2 ≤ r → r ≤ 100 → Q (.int (a + r : Nat)) H'
theorem scFb : FnScope ["one", "other", "height", "c"] ["one", "other"] (defScope sFb) := ⟨rfl, rfl, rfl, by decide +kernel, rfl, by decide +kernel, by decide +kernel⟩
theorem abs_if (c : Int) : (if c < 0 then -c else c) = (c.natAbs : Int) := by
  split <;> omega
theorem bits_lt (c : Int) : c.natAbs < 2 ^ Builtin.Int.intBits c := by
  unfold Builtin.Int.intBits
  split
  · rename_i h
    have : c = 0 := by simpa using h
    subst this
    decide
  · exact Nat.lt_log2_self
theorem ok_fb {f : Addr} {fd : FuncData} (F : Fun K "first_bits" "first_bits" sFb f fd) (T : Names3 mg) (mM : mg "max" = none) (mA : mg "abs" = none) {tM : Tok} (mX : mg "MAX_ROOM" = some (.int 100 tM)) : FnOk P w K mg base CX0 1 f fd ["one", "other"] (spFb K) := by
  refine F.ok scFb (fun vs H Q E h => ?_) (fun cdv A outer s H vs Q E hr h => ?_)
  · obtain ⟨x, y, f, g, rfl, _⟩ := h
    rfl
  · obtain ⟨x, y, f, g, rfl, hx, hy, nf, ng, lf, lg, bf, bg, q⟩ := h
    refine ⟨_, (pss_cons (ps_set (i := 2) scFb.nd rfl (.inl rfl) (pe_callB (call_max2 rfl) (by rfl) mM (by decide +kernel) (pa_cons (pe_callB (cr_max rfl) (by rfl) mM (by decide +kernel) (pa_cons (pe_lc (own := [("c", 3)]) (g := gName 3) (tt := tYes) rfl scFb.nd (pi_tup (pv 0)) (blkOk_by (N := ["one", "other", "height", "c"]) (sc := defScope sFb) (own := [("c", 3)]) (by decide +kernel)) (fun _ _ _ _ _ => pg_name (i := 3) scFb.nd rfl (Or.inl rfl)) (fun _ _ _ _ _ => pts_nil) (fun _ _ _ _ _ => (pe_callB call_abs (by rfl) mA (by decide +kernel) (pa_cons (pv 3) pa_nil)))) pa_nil)) (pa_cons (pe_callB (cr_max rfl) (by rfl) mM (by decide +kernel) (pa_cons (pe_lc (own := [("c", 3)]) (g := gName 3) (tt := tYes) rfl scFb.nd (pi_tup (pv 1)) (blkOk_by (N := ["one", "other", "height", "c"]) (sc := defScope sFb) (own := [("c", 3)]) (by decide +kernel)) (fun _ _ _ _ _ => pg_name (i := 3) scFb.nd rfl (Or.inl rfl)) (fun _ _ _ _ _ => pts_nil) (fun _ _ _ _ _ => (pe_callB call_abs (by rfl) mA (by decide +kernel) (pa_cons (pv 3) pa_nil)))) pa_nil)) pa_nil))))
      (pss_one (ps_ret (pe_op op_add (pe_bits (pv 2)) (pe_callB (call_min2 rfl) (by rfl) T.min (by decide +kernel) (pa_cons (pe_op op_add (pe_callB call_len_seq (by rfl) T.len PySem.boot_len (pa_cons (pv 0) pa_nil)) (pe_callB call_len_seq (by rfl) T.len PySem.boot_len (pa_cons (pv 1) pa_nil))) (pa_cons (pe_glob (v := .int 100) rfl mX ⟨tM, rfl⟩) pa_nil))))))), ?_⟩
    refine ⟨.ref x, rfl, x, rfl, ⟨_, hx⟩, fun D7 nD7 => ?_⟩
    refine lc_tup (K := K) (a := x) (xs := f.map V.int) (fun i H' => Same H H' ∧ H' D7 = some (.lst (((f.take i).map fun c => (c.natAbs : Int)).map V.int))) ⟨Same.upd nD7, upd_same⟩ (fun i H' _ h => Same.tup h.1 hx) ?_ ?_
    · rintro i v H1 hv ⟨s1, e1⟩
      have hi : i < f.length := by
        have := (List.getElem?_eq_some_iff.mp hv).1
        rwa [List.length_map] at this
      have ev : v = .int f[i] := by
        rw [List.getElem?_map, List.getElem?_eq_getElem hi] at hv
        exact (Option.some.inj hv).symm
      subst ev
      refine ⟨rfl, ?_⟩
      dsimp only [tYes]
      refine iteT ?_
      refine ⟨_, rfl, _, rfl, _, e1, by rw [List.length_map, List.length_map, List.length_take]; exact small1000 (by omega), ?_, ?_⟩
      · intro b o e
        rw [upd_ne (ne_of_none e nD7)]
        exact s1 _ _ e
      · rw [upd_same, List.take_succ_eq_append_getElem hi, List.map_append, List.map_append, abs_if]
        rfl
    · rintro H7 ⟨s7, e7⟩
      rw [List.length_map, List.take_length] at e7
      refine ⟨D7, _, rfl, SqL.of e7, by rw [List.length_map]; exact List.length_pos_iff.mpr nf, fun m7 hm7 hle7 => ?_⟩
      obtain ⟨c7, hc7, ec7⟩ := List.mem_map.mp hm7
      subst ec7
      refine ⟨.ref y, rfl, y, rfl, ⟨_, (Same.tup s7 hy)⟩, fun D8 nD8 => ?_⟩
      refine lc_tup (K := K) (a := y) (xs := g.map V.int) (fun i H' => Same H7 H' ∧ H' D8 = some (.lst (((g.take i).map fun c => (c.natAbs : Int)).map V.int))) ⟨Same.upd nD8, upd_same⟩ (fun i H' _ h => Same.tup h.1 (Same.tup s7 hy)) ?_ ?_
      · rintro i v H1 hv ⟨s1, e1⟩
        have hi : i < g.length := by
          have := (List.getElem?_eq_some_iff.mp hv).1
          rwa [List.length_map] at this
        have ev : v = .int g[i] := by
          rw [List.getElem?_map, List.getElem?_eq_getElem hi] at hv
          exact (Option.some.inj hv).symm
        subst ev
        refine ⟨rfl, ?_⟩
        dsimp only [tYes]
        refine iteT ?_
        refine ⟨_, rfl, _, rfl, _, e1, by rw [List.length_map, List.length_map, List.length_take]; exact small1000 (by omega), ?_, ?_⟩
        · intro b o e
          rw [upd_ne (ne_of_none e nD8)]
          exact s1 _ _ e
        · rw [upd_same, List.take_succ_eq_append_getElem hi, List.map_append, List.map_append, abs_if]
          rfl
      · rintro H8 ⟨s8, e8⟩
        rw [List.length_map, List.take_length] at e8
        refine ⟨D8, _, rfl, SqL.of e8, by rw [List.length_map]; exact List.length_pos_iff.mpr ng, fun m8 hm8 hle8 => ?_⟩
        obtain ⟨c8, hc8, ec8⟩ := List.mem_map.mp hm8
        subst ec8
        refine ⟨_, _, rfl, ?_⟩
        have fact : ∃ m : Int, (if (c8.natAbs : Int) > (c7.natAbs : Int) then (c8.natAbs : Int) else (c7.natAbs : Int)) = m ∧ m.natAbs < 2 ^ 400 ∧ (∀ c ∈ f, (c.natAbs : Int) ≤ m) ∧ ∀ c ∈ g, (c.natAbs : Int) ≤ m := by
          have l7 : ∀ c ∈ f, (c.natAbs : Int) ≤ c7.natAbs := fun c hc => hle7 _ (List.mem_map.mpr ⟨c, hc, rfl⟩)
          have l8 : ∀ c ∈ g, (c.natAbs : Int) ≤ c8.natAbs := fun c hc => hle8 _ (List.mem_map.mpr ⟨c, hc, rfl⟩)
          by_cases z : (c8.natAbs : Int) > (c7.natAbs : Int)
          · exact ⟨_, if_pos z, by rw [Int.natAbs_natCast]; exact bg _ hc8, fun c hc => by have := l7 c hc; omega, l8⟩
          · exact ⟨_, if_neg z, by rw [Int.natAbs_natCast]; exact bf _ hc7, l7, fun c hc => by have := l8 c hc; omega⟩
        obtain ⟨m, em, mb, m1, m2⟩ := fact
        rw [em]
        have s78 := s7.trans s8
        have hmin : ∃ r : Nat, (if (100 : Int) < ((f.length : Nat) : Int) + (g.length : Nat) then (100 : Int) else ((f.length : Nat) : Int) + (g.length : Nat)) = (r : Nat) ∧ 2 ≤ r ∧ r ≤ 100 := by
          have u1 := List.length_pos_iff.mpr nf
          have u2 := List.length_pos_iff.mpr ng
          by_cases z : (100 : Int) < ((f.length : Nat) : Int) + (g.length : Nat)
          · exact ⟨100, if_pos z, by omega, by omega⟩
          · exact ⟨f.length + g.length, by rw [if_neg z]; omega, by omega, by omega⟩
        obtain ⟨r, er, r2, r100⟩ := hmin
        have b := q (Builtin.Int.intBits m) H8 s78 (fun c hc => Nat.lt_of_le_of_lt (show c.natAbs ≤ m.natAbs by have := m1 c hc; omega) (bits_lt m)) (fun c hc => Nat.lt_of_le_of_lt (show c.natAbs ≤ m.natAbs by have := m2 c hc; omega) (bits_lt m)) (PyProof.Rows.intBits_le mb) r r2 r100
        refine ⟨_, rfl, m, rfl, _, rfl, x, _, rfl, .inr (Same.tup s78 hx), _, rfl, y, _, rfl, .inr (Same.tup s78 hy), _, _, rfl, rfl, _, _, rfl, ?_⟩
        rw [List.length_map, List.length_map, er]
        refine ⟨_, _, rfl, rfl, ?_⟩
        rw [Int.natCast_add] at b
        exact b
end
end Z

set_option Elab.async false
set_option linter.all false
set_option maxRecDepth 100000
set_option maxHeartbeats 4000000
namespace Z
open PySem PySem.Spec PyProof.Rows L2 GG M3 M4
section
variable {P : Program} {w : World} {K : PySem.W.Frag} {mg : Str → Option Value} {base : Heap}
/-- a row read off the common divisor of both values -/
structure Guess (b : Nat) (f g l : List Int) : Prop where
  vl : val (2 ^ b) l = (Int.gcd (val (2 ^ b) f) (val (2 ^ b) g) : Nat)
  sl : ∀ t, 2 * (GC.co l t).natAbs ≤ 2 ^ b
  l0 : 0 < GC.dg l
  ll : l.length ≤ 60
  la : GC.co l (l.length - 1) ≠ 0
def spGd (K : PySem.W.Frag) : Sp := fun vs H Q _ => ∃ (x y : Addr) (f g : List Int) (b : Nat), vs = [.ref x, .ref y, .int (b : Nat)] ∧ SqT K H x (f.map V.int) ∧ SqT K H y (g.map V.int) ∧ f.length ≤ 59 ∧ g.length ≤ 60 ∧ (∀ c ∈ f, c.natAbs < 2 ^ b) ∧ (∀ c ∈ g, c.natAbs < 2 ^ b) ∧ 2 ≤ b ∧ b ≤ 7999 ∧ val (2 ^ b) f ≠ 0 ∧
  ∀ l, Guess b f g l → ∀ t H', Same H H' → H t = none → H' t = some (.tup ((GC.prim l).map V.int)) → Q (.ref t) H'
theorem scGd : FnScope ["one", "other", "bits", "value"] ["one", "other", "bits"] (defScope sGd) := ⟨rfl, rfl, rfl, by decide +kernel, rfl, by decide +kernel, by decide +kernel⟩
theorem ok_gd {f fv fr ft fp : Addr} {fd vd rd td pd : FuncData} (F : Fun K "guess_divisor" "guess_divisor" sGd f fd) (mG : mg "gcd" = some (.builtin "math.gcd")) (GV : FnOk P w K mg base CX0 1 fv vd ["polynomial", "bits"] (spVap K)) (PV : Def K mg "value_at_power" fv vd ["polynomial", "bits"])
    (GR : FnOk P w K mg base CX0 1 fr rd ["value", "bits"] spRead) (PR : Def K mg "read_coefficients" fr rd ["value", "bits"]) (GT : FnOk P w K mg base CX0 1 ft td ["coefficients"] (spTrim K)) (PT_ : Def K mg "trim_zeros" ft td ["coefficients"])
    (GP : FnOk P w K mg base CX0 2 fp pd ["polynomial"] (spPrim K)) (PP : Def K mg "primitive_part" fp pd ["polynomial"]) : FnOk P w K mg base CX0 3 f fd ["one", "other", "bits"] (spGd K) := by
  refine F.ok scGd (fun vs H Q E h => ?_) (fun cdv A outer s H vs Q E hr h => ?_)
  · obtain ⟨x, y, f, g, b, rfl, _⟩ := h
    rfl
  · obtain ⟨x, y, f, g, b, rfl, hx, hy, lf, lg, bf, bg, b2, b8, vf, q⟩ := h
    refine ⟨_, (pss_cons (ps_set (i := 3) scGd.nd rfl (.inl rfl) (pe_callBfun cr_gcd (by rfl) mG (pa_cons (pe_call GV (hr.mono (by first | decide | omega)) (by rfl) PV.is PV.kp PV.bi .nil pass0 (pa_cons (pv 0) (pa_cons (pv 2) pa_nil))) (pa_cons (pe_call GV (hr.mono (by first | decide | omega)) (by rfl) PV.is PV.kp PV.bi .nil pass0 (pa_cons (pv 1) (pa_cons (pv 2) pa_nil))) pa_nil))))
      (pss_one (ps_ret (pe_call GP (hr.mono (by first | decide | omega)) (by rfl) PP.is PP.kp PP.bi .nil pass0 (pa_cons (pe_call GT (hr.mono (by first | decide | omega)) (by rfl) PT_.is PT_.kp PT_.bi .nil pass0 (pa_cons (pe_call GR (hr.mono (by first | decide | omega)) (by rfl) PR.is PR.kp PR.bi .nil pass0 (pa_cons (pv 3) (pa_cons (pv 2) pa_nil))) pa_nil)) pa_nil))))), ?_⟩
    have sz : ∀ n : Nat, n ≤ 60 → b * (n + 1) ≤ 100000000 := fun n hn => Nat.le_trans (Nat.mul_le_mul b8 (show n + 1 ≤ 61 by omega)) (by decide)
    refine ⟨_, rfl, _, rfl, x, f, b, rfl, hx, bf, sz _ (by omega), _, rfl, _, rfl, y, g, b, rfl, hy, bg, sz _ lg, _, _, rfl, ?_⟩
    have vle : ((Nat.gcd (val (2 ^ b) f).natAbs (val (2 ^ b) g).natAbs : Nat) : Int) ≤ ((2 ^ b : Int)) ^ 59 := by
      have h1 : Nat.gcd (val (2 ^ b) f).natAbs (val (2 ^ b) g).natAbs ≤ (val (2 ^ b) f).natAbs := Nat.le_of_dvd (by omega) (Nat.gcd_dvd_left _ _)
      have h2 := val_fit bf
      have h3 : 2 ^ (b * f.length) ≤ 2 ^ (b * 59) := Nat.pow_le_pow_right (by decide) (Nat.mul_le_mul_left _ lf)
      have e : ((2 ^ (b * 59) : Nat) : Int) = ((2 ^ b : Int)) ^ 59 := by
        rw [Nat.pow_mul, Int.natCast_pow, Int.natCast_pow]
        rfl
      rw [← e]
      exact Int.ofNat_le.mpr (Nat.le_trans h1 (Nat.le_of_lt (Nat.lt_of_lt_of_le h2 h3)))
    refine ⟨_, rfl, _, rfl, _, b, 59, rfl, by omega, b2, by omega, vle, by decide, fun l0 D0 p H1 s1 np ep => ?_⟩
    obtain ⟨ev, rg, ln⟩ := D0
    have el : l0.length ≤ 60 := ln 59 vle
    have tl : (strip l0).length ≤ 60 := by
      rw [strip_tr]
      refine Nat.le_trans ?_ el
      have := (List.dropWhile_sublist (l := l0.reverse) (· == 0)).length_le
      simpa [GC.tr] using this
    have two : ((2 ^ b : Nat) : Int) = (2 : Int) ^ b := by simp
    have rn : ∀ c ∈ l0, 2 * c.natAbs ≤ 2 ^ b := fun c hc => by
      have := rg c hc
      rw [← two] at this
      omega
    have ml : ∀ c ∈ strip l0, c ∈ l0 := fun c hc => by
      rw [strip_tr] at hc
      unfold GC.tr at hc
      have h1 := List.mem_reverse.mp hc
      exact List.mem_reverse.mp ((List.dropWhile_sublist _).mem h1)
    have rs : ∀ c ∈ strip l0, c.natAbs < 2 ^ 8000 := fun c hc => by
      have h1 := rn c (ml c hc)
      have h2 : 2 ^ b < 2 ^ 8000 := Nat.pow_lt_pow_right (by decide) (by omega)
      omega
    have vs : val (2 ^ b) (strip l0) = (Int.gcd (val (2 ^ b) f) (val (2 ^ b) g) : Nat) := by
      rw [strip_tr, GC.val_tr]
      exact ev
    have d0 : 0 < GC.dg (strip l0) := by
      refine Nat.pos_of_ne_zero fun hz => ?_
      have h1 := GC.dg_zero_val hz (2 ^ b)
      rw [vs] at h1
      exact vf (Int.gcd_eq_zero_iff.mp (Int.ofNat_eq_zero.mp h1)).1
    refine ⟨p, l0, rfl, SqL.of ep, fun t2 H2 s2 n2 e2 => ⟨t2, strip l0, rfl, tup_of e2, by omega, rs, d0, fun t H' s' nt et => ?_⟩⟩
    refine q (strip l0) ⟨vs, fun u => ?_, d0, tl, ?_⟩ t H' ?_ ?_ et
    · show 2 * ((strip l0).getD u 0).natAbs ≤ _
      by_cases lt : u < (strip l0).length
      · rw [List.getD_eq_getElem?_getD, List.getElem?_eq_getElem lt]
        exact rn _ (ml _ (List.getElem_mem lt))
      · rw [getD_out (Nat.le_of_not_lt lt)]
        exact Nat.zero_le _
    · rw [strip_tr]
      rcases GC.tr_form l0 with e | ⟨r, z, e, nz⟩
      · rw [strip_tr, e] at d0
        exact absurd d0 (by decide)
      · rw [e]
        show (r ++ [z]).getD _ 0 ≠ 0
        rw [List.length_append, show r.length + [z].length - 1 = r.length by simp, List.getD_eq_getElem?_getD, List.getElem?_append_right (Nat.le_refl _), Nat.sub_self]
        exact nz
    · exact (s1.trans s2).trans s'
    · exact (s1.trans s2).free nt
end
end Z

set_option Elab.async false
set_option linter.all false
set_option maxRecDepth 100000
set_option maxHeartbeats 4000000
namespace Z
open PySem PySem.Spec PyProof.Rows L2 GG M3 M4
abbrev sCd : Stmt := top 17
section
variable {P : Program} {w : World} {K : PySem.W.Frag} {mg : Str → Option Value} {base : Heap}
/-- a row that the search for a divisor takes -/
structure Cand (f : List Int) : Prop where
  ln : f.length ≤ 59
  nz : GC.co f (f.length - 1) ≠ 0
  sm : ∀ c ∈ f, c.natAbs < 2 ^ 400
theorem Cand.dg {f : List Int} (h : Cand f) : 0 < GC.dg f := Nat.lt_of_le_of_lt (Nat.zero_le _) (GC.dg_pos h.nz)
theorem Cand.prim {f : List Int} (h : Cand f) : Cand (GC.prim f) := ⟨by rw [GC.prim_len]; exact h.ln, by rw [GC.prim_len]; exact GC.prim_last h.dg h.nz, GC.prim_mem h.dg h.sm⟩
theorem Cand.pos {f : List Int} (h : Cand f) : f ≠ [] := fun e => h.nz (by rw [e]; rfl)
/-- the bound past which the search ends -/
def Rb (s M : Nat) : Nat := 2 * (s * M * (2 * (s * M) + 1) ^ s)
def spCd (K : PySem.W.Frag) : Sp := fun vs H Q _ => ∃ (x y : Addr) (f g : List Int), vs = [.ref x, .ref y] ∧ SqT K H x (f.map V.int) ∧ SqT K H y (g.map V.int) ∧ Cand f ∧ Cand g ∧ GC.Ends f g ∧
  ∀ d a b a2 b2 t H', GC.Gcd f g d a b → GC.Gcd (GC.prim f) (GC.prim g) d a2 b2 → d.length ≤ 60 → GC.co d (d.length - 1) ≠ 0 → Same H H' → H t = none → H' t = some (.tup (d.map V.int)) → Q (.ref t) H'
theorem scCd : FnScope ["one", "other", "first", "second", "bits", "guess"] ["one", "other"] (defScope sCd) := ⟨rfl, rfl, rfl, by decide +kernel, rfl, by decide +kernel, by decide +kernel⟩
theorem ok_cd {f fp fb fg fv : Addr} {fd pd bd gd vd : FuncData} (F : Fun K "common_divisor" "common_divisor" sCd f fd) (GP : FnOk P w K mg base CX0 2 fp pd ["polynomial"] (spPrim K)) (PP : Def K mg "primitive_part" fp pd ["polynomial"])
    (GB : FnOk P w K mg base CX0 1 fb bd ["one", "other"] (spFb K)) (PB : Def K mg "first_bits" fb bd ["one", "other"]) (GG_ : FnOk P w K mg base CX0 3 fg gd ["one", "other", "bits"] (spGd K)) (PG : Def K mg "guess_divisor" fg gd ["one", "other", "bits"])
    (GV : FnOk P w K mg base CX0 3 fv vd ["divisor", "polynomial"] (spDvs K)) (PV : Def K mg "divides" fv vd ["divisor", "polynomial"]) : FnOk P w K mg base CX0 4 f fd ["one", "other"] (spCd K) := by
  refine F.ok scCd (fun vs H Q E h => ?_) (fun cdv A outer s H vs Q E hr h => ?_)
  · obtain ⟨x, y, f, g, rfl, _⟩ := h
    rfl
  · obtain ⟨x, y, f, g, rfl, hx, hy, cf, cg, hR, q⟩ := h
    refine ⟨_, (pss_cons (ps_set (i := 2) scCd.nd rfl (.inl rfl) (pe_call GP (hr.mono (by first | decide | omega)) (by rfl) PP.is PP.kp PP.bi .nil pass0 (pa_cons (pv 0) pa_nil)))
      (pss_cons (ps_set (i := 3) scCd.nd rfl (.inl rfl) (pe_call GP (hr.mono (by first | decide | omega)) (by rfl) PP.is PP.kp PP.bi .nil pass0 (pa_cons (pv 1) pa_nil)))
      (pss_cons (ps_set (i := 4) scCd.nd rfl (.inl rfl) (pe_call GB (hr.mono (by first | decide | omega)) (by rfl) PB.is PB.kp PB.bi .nil pass0 (pa_cons (pv 2) (pa_cons (pv 3) pa_nil))))
      (pss_one (ps_while PassesOwn.never (pt_val pe_bl) (pss_cons (ps_set (i := 5) scCd.nd rfl (.inl rfl) (pe_call GG_ (hr.mono (by first | decide | omega)) (by rfl) PG.is PG.kp PG.bi .nil pass0 (pa_cons (pv 2) (pa_cons (pv 3) (pa_cons (pv 4) pa_nil)))))
      (pss_cons (ps_if (PW.pt (pw_and (pt_val (pe_call GV (hr.mono (by first | decide | omega)) (by rfl) PV.is PV.kp PV.bi .nil pass0 (pa_cons (pv 5) (pa_cons (pv 2) pa_nil)))) (pw_and1 (pt_val (pe_call GV (hr.mono (by first | decide | omega)) (by rfl) PV.is PV.kp PV.bi .nil pass0 (pa_cons (pv 5) (pa_cons (pv 3) pa_nil))))))) (pss_one (ps_ret (pv 5))) pss_nil)
      (pss_one (ps_aug (i := 4) scCd.nd rfl (.inl rfl) pe_int ip_mulW))))))))), ?_⟩
    have big : ∀ {c : Int}, c.natAbs < 2 ^ 400 → c.natAbs < 2 ^ 8000 := fun h => Nat.lt_trans h (Nat.pow_lt_pow_right (by decide) (by decide))
    have lnf := cf.ln
    have lng := cg.ln
    refine ⟨_, rfl, x, f, rfl, hx, by omega, fun c hc => big (cf.sm c hc), cf.dg, fun t1 H1 s1 n1 e1 => ?_⟩
    refine ⟨_, rfl, y, g, rfl, Same.tup s1 hy, by omega, fun c hc => big (cg.sm c hc), cg.dg, fun t2 H2 s2 n2 e2 => ?_⟩
    have pf := cf.prim
    have pg := cg.prim
    have h1 : SqT K H2 t1 ((GC.prim f).map V.int) := Same.tup s2 (tup_of e1)
    have h2 : SqT K H2 t2 ((GC.prim g).map V.int) := tup_of e2
    have s02 := s1.trans s2
    refine ⟨_, rfl, _, rfl, t1, t2, GC.prim f, GC.prim g, rfl, h1, h2, pf.pos, pg.pos, by have := pf.ln; omega, by have := pg.ln; omega, pf.sm, pg.sm, fun a H3 s3 af ag a3 r r2 r100 => ?_⟩

    refine ⟨fun n σ H' => ∃ (b : Nat) (v : Option V), n = 8000 - b ∧ σ = [some (V.ref x), some (V.ref y), some (V.ref t1), some (V.ref t2), some (V.int (b : Nat)), v] ∧ a + 2 ≤ b ∧ b ≤ 7999 ∧ Same H2 H', ⟨8000 - (a + r), a + r, none, rfl, rfl, by omega, by omega, s3⟩, ?_⟩
    rintro n σ H' ⟨b, v, rfl, rfl, ab, b9, s4⟩
    refine ⟨_, rfl, iteT ?_⟩
    have hab : 2 ^ a < 2 ^ b := Nat.pow_lt_pow_right (by decide) (by omega)
    have h4 : 2 * 2 ^ a < 2 ^ b := by
      have := Nat.pow_lt_pow_right (a := 2) (by decide) (show a + 1 < b by omega)
      rw [Nat.pow_succ] at this
      omega
    have two : ((2 ^ b : Nat) : Int) = (2 : Int) ^ b := by simp
    have lt_le : ∀ {l : List Int}, (∀ c ∈ l, c.natAbs < 2 ^ a) → ∀ t, (GC.co l t).natAbs ≤ 2 ^ a - 1 := fun {l} h => M3.bd_of fun c hc => by have := h c hc; omega
    have p1 : 0 < 2 ^ a := Nat.pow_pos (by decide)
    have far : val (2 ^ b) (GC.prim f) ≠ 0 := by
      rw [← two]
      exact GC.val_far pf.dg (lt_le af) (by omega)
    refine ⟨fun σ H' => ∃ (b' : Nat) (v : Option V), σ = [some (V.ref x), some (V.ref y), some (V.ref t1), some (V.ref t2), some (V.int (b' : Nat)), v] ∧ b < b' ∧ b' ≤ 7999 ∧ Same H2 H', ?_, ?_⟩
    · rintro σ H5 ⟨b', v', rfl, lt, b9', s5⟩
      exact ⟨8000 - b', by omega, b', v', rfl, rfl, by omega, b9', s5⟩
    refine ⟨_, rfl, _, rfl, _, rfl, t1, t2, GC.prim f, GC.prim g, b, rfl, Same.tup s4 h1, Same.tup s4 h2, pf.ln, by have := pg.ln; omega, fun c hc => Nat.lt_trans (af c hc) hab, fun c hc => Nat.lt_trans (ag c hc) hab, by omega, b9, far, fun l G t5 H5 s5 n5 e5 => ?_⟩
    have lp : 1 ≤ l.length := Nat.pos_of_ne_zero fun z => G.la (by rw [List.eq_nil_of_length_eq_zero z]; rfl)
    have hB : 2 ^ b ≤ 2 ^ 8000 := Nat.pow_le_pow_right (by decide) (by omega)
    have DV : ∀ {ps : List Int}, Cand ps → Dv 400 8000 ps (GC.prim l) (GC.co (GC.prim l) ((GC.prim l).length - 1)) := fun c => by
      have lnc := c.ln
      refine ⟨by decide, by decide, rfl, by rw [GC.prim_len]; exact lp, ?_, by omega, by rw [GC.prim_len]; exact G.ll, M3.bd_of fun x hx => Nat.le_of_lt (c.sm x hx), fun t => ?_⟩
      · rw [GC.prim_len]
        exact GC.prim_last G.l0 G.la
      · have k1 := GC.prim_le G.l0 t
        have k2 := G.sl t
        exact Nat.le_trans k1 (by omega)
    have nzl : GC.co (GC.prim l) ((GC.prim l).length - 1) ≠ 0 := by
      rw [GC.prim_len]
      exact GC.prim_last G.l0 G.la
    have onel : 1 ≤ (GC.prim l).length := by rw [GC.prim_len]; exact lp
    have qd : ∀ {ps : List Int}, GC.Dv (GC.prim l) ps → (quo ps (GC.prim l) (GC.co (GC.prim l) ((GC.prim l).length - 1))).isSome = true := fun {ps} ⟨e, he⟩ => by
      obtain ⟨q', hq⟩ := GC.quoE_dv (ps := ps) (f := GC.prim l) (l := GC.co (GC.prim l) ((GC.prim l).length - 1)) nzl onel rfl he
      have hq' : quo ps (GC.prim l) (GC.co (GC.prim l) ((GC.prim l).length - 1)) = some q' := hq
      rw [hq']
      rfl
    have dq : ∀ {ps : List Int}, (quo ps (GC.prim l) (GC.co (GC.prim l) ((GC.prim l).length - 1))).isSome = true → GC.Dv (GC.prim l) ps := fun {ps} h => by
      obtain ⟨q', hq⟩ := Option.isSome_iff_exists.mp h
      exact ⟨q', fun x => GC.quoE_some onel hq x⟩
    have vl : val ((2 ^ b : Nat) : Int) l = (Int.gcd (val ((2 ^ b : Nat) : Int) (GC.prim f)) (val ((2 ^ b : Nat) : Int) (GC.prim g)) : Nat) := by
      rw [two]
      exact G.vl
    have small : ¬(GC.Dv (GC.prim l) (GC.prim f) ∧ GC.Dv (GC.prim l) (GC.prim g)) → b ≤ 3999 := fun hn => Nat.le_of_not_lt fun lt => hn (hR (2 ^ b) (Nat.pow_lt_pow_right (by decide) lt) l vl G.sl)
    have aug : ∀ {H9 : Hp}, b ≤ 3999 → Same H2 H9 → tAug 4 (tC (V.int 2)) (fun x y H Q => ∃ i j : Int, x = V.int i ∧ y = V.int j ∧ IntMulOk i j ∧ Q (V.int (i * j)) H)
        { nx := fun σ H' => ∃ (b' : Nat) (v : Option V), σ = [some (V.ref x), some (V.ref y), some (V.ref t1), some (V.ref t2), some (V.int (b' : Nat)), v] ∧ b < b' ∧ b' ≤ 7999 ∧ Same H2 H', rt := Q, bk := fun x H' => Q V.non H', ct := fun σ H' => ∃ (b' : Nat) (v : Option V), σ = [some (V.ref x), some (V.ref y), some (V.ref t1), some (V.ref t2), some (V.int (b' : Nat)), v] ∧ b < b' ∧ b' ≤ 7999 ∧ Same H2 H' }
        ([some (V.ref x), some (V.ref y), some (V.ref t1), some (V.ref t2), some (V.int (b : Nat)), v].set 5 (some (V.ref t5))) H9 := fun {H9} le s9 => by
      refine ⟨_, rfl, _, _, rfl, rfl, ?_, 2 * b, some (V.ref t5), ?_, by omega, by omega, s9⟩
      · exact (wide_mul (show ((b : Nat) : Int).natAbs < 2 ^ 13 by rw [Int.natAbs_natCast]; omega) (show (2 : Int).natAbs < 2 ^ 2 by decide) (by decide) (by decide) (by decide)).ok
      · show [some (V.ref x), some (V.ref y), some (V.ref t1), some (V.ref t2), some (V.int ((b : Nat) * 2 : Int)), some (V.ref t5)] = _
        rw [show ((b : Nat) * 2 : Int) = ((2 * b : Nat) : Int) by omega]
    refine ⟨_, rfl, _, rfl, t5, t1, GC.prim f, GC.prim l, _, 400, 8000, rfl, Same.tup (s4.trans s5) h1, tup_of e5, DV pf, fun H6 s6 => ?_⟩
    refine ⟨_, rfl, ?_⟩
    have s26 := (s4.trans s5).trans s6
    cases r1 : (quo (GC.prim f) (GC.prim l) (GC.co (GC.prim l) ((GC.prim l).length - 1))).isSome with
    | false =>
      have le := small fun h => by
        have := qd h.1
        rw [r1] at this
        cases this
      exact iteF (iteF (aug le s26))
    | true =>
      refine iteT ⟨_, rfl, _, rfl, t5, t2, GC.prim g, GC.prim l, _, 400, 8000, rfl, Same.tup s26 h2, Same.tup s6 (tup_of e5), DV pg, fun H7 s7 => ⟨_, rfl, ?_⟩⟩
      cases r2 : (quo (GC.prim g) (GC.prim l) (GC.co (GC.prim l) ((GC.prim l).length - 1))).isSome with
      | false =>
        have le := small fun h => by
          have := qd h.2
          rw [r2] at this
          cases this
        exact iteF (aug le (s26.trans s7))
      | true =>
        refine iteT ⟨_, rfl, ?_⟩
        obtain ⟨a', b', GG⟩ := GC.exit_right pf.dg pg.dg (lt_le af) (lt_le ag) (by omega) vl G.sl G.l0 (dq r1) (dq r2)
        obtain ⟨a2, b2, G2⟩ := GC.Gcd.of_prim cf.dg cg.dg GG
        refine q _ a2 b2 a' b' t5 H7 G2 GG (by rw [GC.prim_len]; exact G.ll) nzl ((s02.trans s26).trans s7) ((s02.trans s4).free n5) ((s6.trans s7) _ _ e5)
end
end Z

set_option Elab.async false
set_option linter.all false
set_option maxRecDepth 100000
set_option maxHeartbeats 4000000
namespace Z
open PySem PySem.Spec PyProof.Rows L2 GG M3 M4
abbrev sFn : Stmt := top 24
abbrev sRi : Stmt := top 23
section
variable {P : Program} {w : World} {K : PySem.W.Frag} {mg : Str → Option Value} {base : Heap}
def spFn (K : PySem.W.Frag) : Sp := fun vs H Q _ => ∃ (x : Addr) (f : List Int) (m : Nat), vs = [.ref x] ∧ SqT K H x (f.map V.int) ∧ f.length ≤ 1000 ∧ GC.co f m ≠ 0 ∧ (∀ j, j < m → GC.co f j = 0) ∧ Q (.int (GC.co f m)) H
theorem scFn : FnScope ["polynomial", "at"] ["polynomial"] (defScope sFn) := ⟨rfl, rfl, rfl, by decide +kernel, rfl, by decide +kernel, by decide +kernel⟩
theorem ok_fn {f : Addr} {fd : FuncData} (F : Fun K "first_nonzero" "first_nonzero" sFn f fd) : FnOk P w K mg base CX0 1 f fd ["polynomial"] (spFn K) := by
  refine F.ok scFn (fun vs H Q E h => ?_) (fun cdv A outer s H vs Q E hr h => ?_)
  · obtain ⟨x, f, m, rfl, _⟩ := h
    rfl
  · obtain ⟨x, f, m, rfl, hx, lf, nz, z, q⟩ := h
    refine ⟨_, (pss_cons (ps_set (i := 1) scFn.nd rfl (.inl rfl) pe_int)
      (pss_cons (ps_while PassesOwn.never (pt_cmpR op_eq (pe_ix ix_tup (pv 0) (pv 1) (fun _ _ => rfl)) pe_int (nomark _)) (pss_one (ps_aug (i := 1) scFn.nd rfl (.inl rfl) pe_int ip_add)))
      (pss_one (ps_ret (pe_ix ix_tup (pv 0) (pv 1) (fun _ _ => rfl)))))), ?_⟩
    have lm : m < f.length := Nat.lt_of_not_le fun ge => nz (getD_out ge)
    have at_ : ∀ t, t < f.length → atI (f.map V.int) (t : Int) = some (.int (GC.co f t)) := fun t lt => by
      refine atI_nat ?_
      rw [List.getElem?_map, List.getElem?_eq_getElem lt]
      show some (V.int f[t]) = some (V.int (f.getD t 0))
      rw [List.getD_eq_getElem?_getD, List.getElem?_eq_getElem lt]
      rfl
    refine ⟨fun n σ H' => ∃ t : Nat, n = f.length - t ∧ σ = [some (V.ref x), some (V.int (t : Nat))] ∧ t ≤ m ∧ H' = H, ⟨f.length, 0, rfl, rfl, Nat.zero_le _, rfl⟩, ?_⟩
    rintro n σ H' ⟨t, rfl, rfl, tm, rfl⟩
    refine ⟨_, rfl, _, rfl, x, _, _, _, rfl, rfl, hx, at_ t (by omega), rfl, _, rfl, ?_⟩
    by_cases e : GC.co f t = 0
    · rw [decide_eq_true (by rw [e])]
      have tl : t < m := Nat.lt_of_le_of_ne tm fun h => nz (by rw [← h]; exact e)
      refine iteT ⟨fun σ H2 => σ = [some (V.ref x), some (V.int ((t + 1 : Nat) : Int))] ∧ H2 = H', ?_, ?_⟩
      · rintro σ H2 ⟨rfl, rfl⟩
        exact ⟨f.length - (t + 1), by omega, t + 1, rfl, rfl, tl, rfl⟩
      · exact ⟨_, rfl, _, _, rfl, rfl, rfl, rfl⟩
    · rw [decide_eq_false (fun h => e (V.int.inj h))]
      have tm' : t = m := Nat.le_antisymm tm (Nat.le_of_not_lt fun h => e (z t h))
      subst tm'
      exact iteF ⟨_, rfl, _, rfl, x, _, _, _, rfl, rfl, hx, at_ t lm, q⟩
def spRi (K : PySem.W.Frag) : Sp := fun vs H Q _ => ∃ (x y : Addr) (f g : List Int) (m : Nat), vs = [.ref x, .ref y] ∧ SqT K H x (f.map V.int) ∧ SqT K H y (g.map V.int) ∧ f.length ≤ 1000 ∧ g.length ≤ 1000 ∧ (∀ c ∈ f, c.natAbs < 2 ^ 8000) ∧ (∀ c ∈ g, c.natAbs < 2 ^ 8000) ∧ GC.co g m ≠ 0 ∧ (∀ j, j < m → GC.co g j = 0) ∧
  ∀ (d : Int) u v t H', d = (if GC.co g m < 0 then -1 else 1) * ((Int.gcd (GC.cont f) (GC.cont g) : Nat) : Int) → Same H H' → H t = none → H' u = some (.tup ((f.map (·.fdiv d)).map V.int)) → H' v = some (.tup ((g.map (·.fdiv d)).map V.int)) → H' t = some (.tup [.ref u, .ref v]) → Q (.ref t) H'
theorem scRi : FnScope ["numerator", "denominator", "common"] ["numerator", "denominator"] (defScope sRi) := ⟨rfl, rfl, rfl, by decide +kernel, rfl, by decide +kernel, by decide +kernel⟩
theorem ok_ri {f fi fd_ fn : Addr} {fd id dd nd : FuncData} (F : Fun K "reduce_integers" "reduce_integers" sRi f fd) (mG : mg "gcd" = some (.builtin "math.gcd")) (GI : FnOk P w K mg base CX0 1 fi id ["polynomial"] (spCont K)) (PI : Def K mg "integer_content" fi id ["polynomial"])
    (GD_ : FnOk P w K mg base CX0 1 fd_ dd ["polynomial", "divisor"] (spDbi K)) (PD_ : Def K mg "divide_by_integer" fd_ dd ["polynomial", "divisor"]) (GN : FnOk P w K mg base CX0 1 fn nd ["polynomial"] (spFn K)) (PN : Def K mg "first_nonzero" fn nd ["polynomial"]) : FnOk P w K mg base CX0 2 f fd ["numerator", "denominator"] (spRi K) := by
  refine F.ok scRi (fun vs H Q E h => ?_) (fun cdv A outer s H vs Q E hr h => ?_)
  · obtain ⟨x, y, f, g, m, rfl, _⟩ := h
    rfl
  · obtain ⟨x, y, f, g, m, rfl, hx, hy, lf, lg, bf, bg, nz, z, q⟩ := h
    refine ⟨_, (pss_cons (ps_set (i := 2) scRi.nd rfl (.inl rfl) (pe_callBfun cr_gcd (by rfl) mG (pa_cons (pe_call GI (hr.mono (by first | decide | omega)) (by rfl) PI.is PI.kp PI.bi .nil pass0 (pa_cons (pv 0) pa_nil)) (pa_cons (pe_call GI (hr.mono (by first | decide | omega)) (by rfl) PI.is PI.kp PI.bi .nil pass0 (pa_cons (pv 1) pa_nil)) pa_nil))))
      (pss_cons (ps_if (pt_cmpR op_lt (pe_call GN (hr.mono (by first | decide | omega)) (by rfl) PN.is PN.kp PN.bi .nil pass0 (pa_cons (pv 1) pa_nil)) pe_int (nomark _)) (pss_one (ps_set (i := 2) scRi.nd rfl (.inl rfl) (pe_un un_neg (pv 2)))) pss_nil)
      (pss_one (ps_ret (pe_tup (pa_cons (pe_call GD_ (hr.mono (by first | decide | omega)) (by rfl) PD_.is PD_.kp PD_.bi .nil pass0 (pa_cons (pv 0) (pa_cons (pv 2) pa_nil))) (pa_cons (pe_call GD_ (hr.mono (by first | decide | omega)) (by rfl) PD_.is PD_.kp PD_.bi .nil pass0 (pa_cons (pv 1) (pa_cons (pv 2) pa_nil))) pa_nil))))))), ?_⟩
    refine ⟨_, rfl, x, f, rfl, hx, lf, bf, _, rfl, y, g, rfl, hy, lg, bg, _, _, rfl, ?_⟩
    have cpos : 0 < GC.cont g := GC.cont_pos (Nat.lt_of_le_of_lt (Nat.zero_le _) (GC.dg_pos nz))
    have lm : m < g.length := Nat.lt_of_not_le fun ge => nz (getD_out ge)
    have cl : GC.cont g < 2 ^ 8000 := by
      have b := Int.natAbs_dvd_natAbs.mpr (GC.cont_al g m)
      rw [Int.natAbs_natCast] at b
      have c := Nat.le_of_dvd (Nat.pos_of_ne_zero (by simpa using nz)) b
      have e : GC.co g m = g[m] := by
        show g.getD m 0 = _
        rw [List.getD_eq_getElem?_getD, List.getElem?_eq_getElem lm]
        rfl
      rw [e] at c
      exact Nat.lt_of_le_of_lt c (bg _ (List.getElem_mem lm))
    have gp : 0 < Int.gcd (GC.cont f) (GC.cont g) := Nat.gcd_pos_of_pos_right _ cpos
    have gl : Int.gcd (GC.cont f) (GC.cont g) < 2 ^ 8000 := Nat.lt_of_le_of_lt (Nat.le_of_dvd cpos (Nat.gcd_dvd_right _ _)) cl
    have fin : ∀ d : Int, d = (if GC.co g m < 0 then -1 else 1) * ((Int.gcd (GC.cont f) (GC.cont g) : Nat) : Int) → tRet (tTup (tCons (tCall (spDbi K) [] E0 (tCons (tVar 0) (tCons (tVar 2) tNil))) (tCons (tCall (spDbi K) [] E0 (tCons (tVar 1) (tCons (tVar 2) tNil))) tNil))) { nx := fun x H' => Q V.non H', rt := Q } [some (V.ref x), some (V.ref y), some (V.int d)] H := fun d hd => by
      have na : d.natAbs = Int.gcd (GC.cont f) (GC.cont g) := by
        rw [hd, Int.natAbs_mul, Int.natAbs_natCast]
        split <;> simp
      have cd : ∀ x, OPS.CDivZ x d := fun x => ⟨by omega, Nat.lt_of_lt_of_le (PySem.Flt.log2_lt_of (k := 8000) (by decide) (by omega)) (by decide)⟩
      refine ⟨_, rfl, _, rfl, x, f, d, rfl, hx, lf, cd, fun t1 H1 s1 n1 e1 => ⟨_, rfl, _, rfl, y, g, d, rfl, Same.tup s1 hy, lg, cd, fun t2 H2 s2 n2 e2 => ⟨by show 2 ≤ sizeLine; decide, fun p np => ?_⟩⟩⟩
      exact q d t1 t2 p _ hd ((s1.trans s2).trans (Same.upd np)) ((s1.trans s2).free np) (Same.upd np _ _ (s2 _ _ e1)) (Same.upd np _ _ e2) upd_same
    refine ⟨_, rfl, y, g, m, rfl, hy, lg, nz, z, _, _, rfl, rfl, _, rfl, ?_⟩
    by_cases lt : GC.co g m < 0
    · rw [decide_eq_true lt]
      refine iteT ⟨_, rfl, _, rfl, ?_⟩
      exact fin _ (by rw [if_pos lt]; show -((Int.gcd (GC.cont f) (GC.cont g) : Nat) : Int) = _; omega)
    · rw [decide_eq_false lt]
      refine iteF ?_
      exact fin _ (by rw [if_neg lt]; show ((Int.gcd (GC.cont f) (GC.cont g) : Nat) : Int) = _; omega)
end
end Z

set_option Elab.async false
set_option linter.all false
set_option maxRecDepth 100000
set_option maxHeartbeats 4000000
/-! data with empty dicts in it, and its text: lists that do not lie at the address of sys.modules -/
namespace TPD
open PySem PySem.Spec PyProof.Rows L2 GG
mutual
inductive Tp (K : PySem.W.Frag) (H : Hp) : V → PyData → Prop
  | non : Tp K H .non .none
  | bl (b : Bool) : Tp K H (.bl b) (.bool b)
  | int (i : Int) : Tp K H (.int i) (.int i)
  | str (x : Str) : Tp K H (.str x) (.str x)
  | lst {a : Addr} {xs : List V} {ds : List PyData} : sysModules < a → SqL K H a xs → TpAll K H xs ds → Tp K H (.ref a) (.list ds)
  | tup {a : Addr} {xs : List V} {ds : List PyData} : SqT K H a xs → TpAll K H xs ds → Tp K H (.ref a) (.tuple ds)
  | dic {a : Addr} : H a = some (.dK []) → Tp K H (.ref a) (.dict [])
inductive TpAll (K : PySem.W.Frag) (H : Hp) : List V → List PyData → Prop
  | nil : TpAll K H [] []
  | cons {v : V} {vs : List V} {d : PyData} {ds : List PyData} : Tp K H v d → TpAll K H vs ds → TpAll K H (v :: vs) (d :: ds)
end
section
variable {X : Cx} {pins : List (Addr × Obj)} {σ : L2.St} {H : Hp} {s : Shared}
mutual
theorem Tp.reads (I : Inv X pins σ H s) : ∀ (d : PyData) (v : V) (u : Value), Tp X.K H v d → RelV v u → ∃ as, Reads s.heap u d as ∧ sysModules ∉ as
  | .none, _, _, h, r => by
    cases h
    cases r
    exact ⟨_, Reads.none, by simp⟩
  | .bool b, _, _, h, r => by
    cases h
    cases r
    exact ⟨_, Reads.bool b, by simp⟩
  | .int i, _, _, h, r => by
    cases h
    obtain ⟨t, rfl⟩ := r
    exact ⟨_, Reads.int i t, by simp⟩
  | .str x, _, _, h, r => by
    cases h
    obtain ⟨t, rfl⟩ := r
    exact ⟨_, Reads.str x t, by simp⟩
  | .list ds, _, _, h, r => by
    cases h with
    | lst hb hs ha =>
      cases r
      obtain ⟨its, rv, ⟨o, n, ho, hc, _, hd⟩, _⟩ := I.list hs
      obtain ⟨as, hr, na⟩ := Tp.readsAll I ds _ its ha rv
      exact ⟨_, Reads.list ho hc hd hr, fun m => by
        rcases List.mem_cons.mp m with e | m
        · rw [← e] at hb
          exact Nat.lt_irrefl _ hb
        · exact na m⟩
  | .tuple ds, _, _, h, r => by
    cases h with
    | tup hs ha =>
      cases r
      obtain ⟨its, rv, ⟨o, ho, hc, n, hd⟩, _⟩ := I.tuple hs
      obtain ⟨as, hr, na⟩ := Tp.readsAll I ds _ its ha rv
      exact ⟨_, Reads.tuple ho hc hd hr, na⟩
  | .dict kvs, _, _, h, r => by
    cases h with
    | @dic a e =>
      cases r
      obtain ⟨_, low, vs, kv, dd⟩ := dk_of I.hok e
      cases kv
      obtain ⟨o, es, ep, ho, ex, hdt, _, pr, _⟩ := dd
      have hl := pr.length
      have e0 : es.toList = [] := List.length_eq_zero_iff.mp hl
      refine ⟨_, Reads.dict ho ex.1 hdt (as := []) (bs := []) (by rw [e0]; exact .nil) (by rw [e0]; exact .nil), fun m => ?_⟩
      have h2 : sysModules = a := by simpa using m
      rw [← h2] at low
      simp at low
theorem Tp.readsAll (I : Inv X pins σ H s) : ∀ (ds : List PyData) (vs : List V) (us : List Value), TpAll X.K H vs ds → Vals vs us → ∃ as, ReadsAll s.heap us ds as ∧ sysModules ∉ as
  | [], _, _, h, r => by
    cases h
    cases r
    exact ⟨_, ReadsAll.nil, by simp⟩
  | d :: ds, _, _, h, r => by
    cases h with
    | cons h1 h2 =>
      cases r with
      | cons r1 r2 =>
        obtain ⟨as, q1, n1⟩ := Tp.reads I d _ _ h1 r1
        obtain ⟨bs, q2, n2⟩ := Tp.readsAll I ds _ _ h2 r2
        exact ⟨_, ReadsAll.cons q1 q2, fun m => by
          rcases List.mem_append.mp m with m | m
          · exact n1 m
          · exact n2 m⟩
end
end
section
variable {X : Cx}
/-- repr of such data -/
structure ShowsT (d : PyData) : Prop where
  s : d.showable = true
  p : d.depth ≤ 50
  z : d.shown.length ≤ sizeLine
def rReprT (K : PySem.W.Frag) : List V → Hp → VK → Prop := fun vs H Q => ∃ (a : Addr) (d : PyData), vs = [.ref a] ∧ Tp K H (.ref a) d ∧ ShowsT d ∧ Q (.str d.shown) H
theorem call_reprT {k : Nat} (hg : X.A.guards = some []) (room : Room k X.A) : CallR X (.builtin "repr") (rReprT X.K) := by
  intro pins s σ H vs us Q I r h
  obtain ⟨a, d, rfl, hd, hs, q⟩ := h
  obtain ⟨u, rfl, ru⟩ := vals1 r
  have eu : u = Value.ref a := ru
  subst eu
  obtain ⟨as, reads, na⟩ := Tp.reads I d (.ref a) (.ref a) hd rfl
  have hu := room.un
  have hp := hs.p
  refine repr_of_reads' reads hs.s (fun _ => na) hg (by omega) (fun _ _ e => e) (fun h' u tk hk => ?_) hs.z
  exact ⟨.str d.shown, H, I.kept hk, ⟨u, rfl⟩, q⟩
/-- [..]: a new list, and where it does not lie -/
def tLstS (t : TA) : TE := fun σ H Q => t σ H fun xs H1 => xs.length ≤ sizeLine ∧ ∀ l, sysModules < l → H1 l = none → Q (.ref l) (upd H1 l (.lst xs))
variable {es : List Expr} {t : TA} {pos : Pos}
theorem pe_lstS (h : PA X es t) : PE X (.List es pos) (tLstS t) := by
  refine ⟨fun pins s σ H Q I hq => ?_⟩
  refine wpAny_List_spliced (thn (h.run pos pins s σ H _ I hq) fun us s1 ⟨xs, H1, I1, r, z, q⟩ => ⟨by rw [← r.length]; exact z, ?_⟩)
  have hf : H1 s1.heap.objs.size = none := I1.hok.fresh (Nat.le_refl _)
  refine ⟨.ref s1.heap.objs.size, upd H1 s1.heap.objs.size (.lst xs), I1.laid (t' := s1.toks) (fun b u e => Heap.get?_push_of_some _ e) (Nat.le_refl _) ?_, rfl, q _ I1.big hf⟩
  exact ⟨z, us, 0, r, Heap.get?_push_size _ rfl⟩
/-- list(x): a new list, and where it does not lie -/
theorem call_listS : CallR X (.type "list") (fun xs H Q => ∃ p ys, xs = [.ref p] ∧ (SqL X.K H p ys ∨ SqT X.K H p ys) ∧ ∀ l, sysModules < l → H l = none → Q (.ref l) (upd H l (.lst ys))) := by
  intro pins s σ H xs us Q I r h
  obtain ⟨p, ys, rfl, hq, q⟩ := h
  obtain ⟨u, rfl, rx⟩ := vals1 r
  cases rx
  have fin : ∀ (its : List Value), Vals ys its → ys.length ≤ sizeLine → ∀ (h' : Heap) (c' : Nat), (∀ b o', s.heap.get? b = some o' → h'.get? b = some o') →
      h'.get? s.heap.objs.size = some { cls := .type "list", dict := none, data := .seq its.toArray c', slots := #[] } → EP X pins σ Q (.ref s.heap.objs.size) { s with heap := h' } := fun its r' hz h' c' kp e =>
    ⟨.ref s.heap.objs.size, _, I.laid (t' := s.toks) kp (Nat.le_refl _) (show ObjOk X.prog X.w _ h' _ (.lst ys) from ⟨hz, its, c', r', e⟩), rfl, q _ I.big (I.hok.fresh (Nat.le_refl _))⟩
  rcases hq with hq | hq
  · obtain ⟨its, r', pl, hz⟩ := I.list hq
    have hlen := r'.length
    obtain ⟨o, ho, hc, n, hd⟩ := pl.isList
    exact call_list_seq p (.inl rfl) ho hc hd (fun h' c' kp e => fin its r' hz h' c' kp e) (by simp only [List.size_toArray] <;> omega)
  · obtain ⟨its, r', pl, hz⟩ := I.tuple hq
    have hlen := r'.length
    obtain ⟨o, ho, hc, n, hd⟩ := pl
    exact call_list_seq p (.inr rfl) ho hc hd (fun h' c' kp e => fin its r' hz h' c' kp e) (by simp only [List.size_toArray] <;> omega)
end
end TPD

set_option Elab.async false
set_option linter.all false
set_option maxRecDepth 100000
set_option maxHeartbeats 4000000
/-! kinds of data -/
namespace TPD
open PySem PySem.Spec PyProof.Rows L2 GG
def tyD : PyData → String
  | .none => "NoneType"
  | .bool _ => "bool"
  | .int _ => "int"
  | .str _ => "str"
  | .list _ => "list"
  | .tuple _ => "tuple"
  | .dict _ => "dict"
theorem kit_int : ∀ d : PyData, kitB (tyD d) "int" = some (match d with | .int _ => true | .bool _ => true | _ => false)
  | .none => by decide +kernel
  | .bool _ => by show kitB "bool" "int" = some true; decide +kernel
  | .int _ => by show kitB "int" "int" = some true; decide +kernel
  | .str _ => by show kitB "str" "int" = some false; decide +kernel
  | .list _ => by show kitB "list" "int" = some false; decide +kernel
  | .tuple _ => by show kitB "tuple" "int" = some false; decide +kernel
  | .dict _ => by show kitB "dict" "int" = some false; decide +kernel
theorem kit_bool : ∀ d : PyData, kitB (tyD d) "bool" = some (match d with | .bool _ => true | _ => false)
  | .none => by decide +kernel
  | .bool _ => by show kitB "bool" "bool" = some true; decide +kernel
  | .int _ => by show kitB "int" "bool" = some false; decide +kernel
  | .str _ => by show kitB "str" "bool" = some false; decide +kernel
  | .list _ => by show kitB "list" "bool" = some false; decide +kernel
  | .tuple _ => by show kitB "tuple" "bool" = some false; decide +kernel
  | .dict _ => by show kitB "dict" "bool" = some false; decide +kernel
theorem kit_tup : ∀ d : PyData, kitB (tyD d) "tuple" = some (match d with | .tuple _ => true | _ => false)
  | .none => by decide +kernel
  | .bool _ => by show kitB "bool" "tuple" = some false; decide +kernel
  | .int _ => by show kitB "int" "tuple" = some false; decide +kernel
  | .str _ => by show kitB "str" "tuple" = some false; decide +kernel
  | .list _ => by show kitB "list" "tuple" = some false; decide +kernel
  | .tuple _ => by show kitB "tuple" "tuple" = some true; decide +kernel
  | .dict _ => by show kitB "dict" "tuple" = some false; decide +kernel
theorem sql_ty {K : PySem.W.Frag} {H : Hp} {a : Addr} {xs : List V} (h : SqL K H a xs) : TyX K H (.ref a) (.type "list") := by
  rcases h with (h | ⟨o, h⟩) | ⟨o, its, n, e, c, _⟩
  · exact .base (.lst h)
  · exact .base (.frz h)
  · exact .kList e c
theorem sqt_ty {K : PySem.W.Frag} {H : Hp} {a : Addr} {xs : List V} (h : SqT K H a xs) : TyX K H (.ref a) (.type "tuple") := by
  rcases h with (h | ⟨o, h⟩) | ⟨o, its, n, e, c, _⟩
  · exact .base (.tup h)
  · exact .fTuple h
  · exact .kTuple e c
theorem Tp.ty {K : PySem.W.Frag} {H : Hp} {v : V} {d : PyData} (h : Tp K H v d) : TyX K H v (.type (tyD d)) := by
  cases h with
  | non => exact .base .non
  | bl b => exact .base (.bl b)
  | int i => exact .base (.int i)
  | str x => exact .base (.str x)
  | lst _ s _ => exact sql_ty s
  | tup s _ => exact sqt_ty s
  | dic e => exact .base (.dK e)
theorem sqt_same {K : PySem.W.Frag} {H H' : Hp} {a : Addr} {xs : List V} (s : Same H H') (h : SqT K H a xs) : SqT K H' a xs := by
  rcases h with (h | ⟨o, h⟩) | h
  · exact .inl (.inl (s _ _ h))
  · exact .inl (.inr ⟨o, s _ _ h⟩)
  · exact .inr h
theorem sql_same {K : PySem.W.Frag} {H H' : Hp} {a : Addr} {xs : List V} (s : Same H H') (h : SqL K H a xs) : SqL K H' a xs := by
  rcases h with (h | ⟨o, h⟩) | h
  · exact .inl (.inl (s _ _ h))
  · exact .inl (.inr ⟨o, s _ _ h⟩)
  · exact .inr h
mutual
theorem Tp.same {K : PySem.W.Frag} {H H' : Hp} (s : Same H H') : ∀ (d : PyData) (v : V), Tp K H v d → Tp K H' v d
  | .none, _, h => by cases h; exact .non
  | .bool b, _, h => by cases h; exact .bl b
  | .int i, _, h => by cases h; exact .int i
  | .str x, _, h => by cases h; exact .str x
  | .list ds, _, h => by
    cases h with
    | lst hb hs ha => exact .lst hb (sql_same s hs) (Tp.sameAll s ds _ ha)
  | .tuple ds, _, h => by
    cases h with
    | tup hs ha => exact .tup (sqt_same s hs) (Tp.sameAll s ds _ ha)
  | .dict _, _, h => by
    cases h with
    | dic e => exact .dic (s _ _ e)
theorem Tp.sameAll {K : PySem.W.Frag} {H H' : Hp} (s : Same H H') : ∀ (ds : List PyData) (vs : List V), TpAll K H vs ds → TpAll K H' vs ds
  | [], _, h => by cases h; exact .nil
  | d :: ds, _, h => by
    cases h with
    | cons h1 h2 => exact .cons (Tp.same s d _ h1) (Tp.sameAll s ds _ h2)
end
end TPD

set_option Elab.async false
set_option linter.all false
set_option maxRecDepth 100000
set_option maxHeartbeats 4000000
/-! a tuple compared with (), a list with []; the least and the greatest of two numbers in a tuple -/
namespace WRD
open PySem PySem.Spec PyProof.Rows L2 GG
section
variable {X : Cx}
def rNoneIn (K : PySem.W.Frag) : R2 := fun x y H Q => ∃ (a b : Addr) (xs : List V), x = .ref a ∧ y = .ref b ∧ SqT K H a xs ∧ SqT K H b [] ∧ Q (.bl (decide (xs.length = 0))) H
theorem op_noneIn {K : PySem.W.Frag} (hK : X.K = K) (hu : X.A.units < cLine) : OpR X (compareOp .Eq) (rNoneIn K) := by
  subst hK
  intro pins s σ H x y v u Q I rx ry h
  obtain ⟨a, b, xs, rfl, rfl, ha, hb, q⟩ := h
  cases rx
  cases ry
  obtain ⟨its, r1, p1, _⟩ := I.tuple ha
  obtain ⟨its2, r2, p2, _⟩ := I.tuple hb
  cases r2
  have hl := r1.length
  refine SeqAt.RcAt.tuples (e := fun _ => true) p1 p2 hu (fun j _ h2 => absurd h2 (by simp)) _ _ _ _ ⟨.bl _, H, I, rfl, ?_⟩
  have e : ((List.range (min its.toArray.size ([] : List Value).toArray.size)).all (fun _ => true) && its.toArray.size == ([] : List Value).toArray.size) = decide (xs.length = 0) := by
    rw [hl]
    cases its <;> simp
  rw [e]
  exact q
def rSomeIn (K : PySem.W.Frag) : R2 := fun x y H Q => ∃ (a b : Addr) (xs : List V), x = .ref a ∧ y = .ref b ∧ SqL K H a xs ∧ SqL K H b [] ∧ Q (.bl (!decide (xs.length = 0))) H
theorem op_someIn {K : PySem.W.Frag} (hK : X.K = K) (hu : X.A.units < cLine) : OpR X (compareOp .NotEq) (rSomeIn K) := by
  subst hK
  intro pins s σ H x y v u Q I rx ry h
  obtain ⟨a, b, xs, rfl, rfl, ha, hb, q⟩ := h
  cases rx
  cases ry
  obtain ⟨its, r1, p1, _⟩ := I.list ha
  obtain ⟨its2, r2, p2, _⟩ := I.list hb
  cases r2
  have hl := r1.length
  cases its with
  | nil =>
    have hx : xs = [] := List.length_eq_zero_iff.mp hl
    subst hx
    exact SeqAt.RcNeAt.lists (e := fun _ => true) p1.isList p2.isList rfl hu (fun j _ h2 => absurd h2 (by simp)) _ _ _ _ ⟨.bl _, H, I, rfl, q⟩
  | cons c r =>
    refine SeqAt.RcNeAt.lists_lengths p1.isList p2.isList (by simp) hu _ _ _ _ ⟨.bl true, H, I, rfl, ?_⟩
    rw [decide_eq_false (by rw [hl]; simp)] at q
    exact q
theorem nums_alike (i j : Int) : PySem.W.AlikeAll [.int i, .int j] := by
  refine ⟨fun x hx y hy => ?_, fun x hx => ?_⟩
  · simp only [List.mem_cons, List.not_mem_nil, or_false] at hx hy
    rcases hx with rfl | rfl <;> rcases hy with rfl | rfl <;> rfl
  · simp only [List.mem_cons, List.not_mem_nil, or_false] at hx
    rcases hx with rfl | rfl <;> exact fun h => by cases h
def rLeast (K : PySem.W.Frag) (f : Int → Int → Int) : List V → Hp → VK → Prop := fun vs H Q => ∃ (a : Addr) (i j : Int), vs = [.ref a] ∧ SqT K H a [.int i, .int j] ∧ Q (.int (f i j)) H
theorem cr_least (hc : X.calm = true) (hu : X.A.units + 64 < cLine) : CallR X (.builtin "min") (rLeast X.K min) := by
  intro pins s σ H vs us Q I r h
  obtain ⟨a, i, j, rfl, hs, q⟩ := h
  obtain ⟨u, rfl, ru⟩ := vals1 r
  cases ru
  obtain ⟨its, rv, pl, _⟩ := I.tuple hs
  obtain ⟨u1, u2, rfl, ⟨t1, rfl⟩, ⟨t2, rfl⟩⟩ := vals2 rv
  have rd : ReadsAll s.heap [Value.int i t1, Value.int j t2] [PyData.int i, PyData.int j] _ := ReadsAll.cons (Reads.int i t1) (ReadsAll.cons (Reads.int j t2) ReadsAll.nil)
  refine PySem.W.min_tuple_data (I.ok.hd hc) pl rd (nums_alike i j) (by simp [PyData.depthAll, PyData.depth]; omega) fun k v h' tk bs hv rv hk => ?_
  rw [show PySem.W.minD (.int i) [.int j] = .int (min i j) from PySem.W.minD_ints i [j]] at rv
  cases rv
  exact ⟨.int _, H, I.kept hk, ⟨_, rfl⟩, q⟩
theorem cr_most (hc : X.calm = true) (hu : X.A.units + 64 < cLine) : CallR X (.builtin "max") (rLeast X.K max) := by
  intro pins s σ H vs us Q I r h
  obtain ⟨a, i, j, rfl, hs, q⟩ := h
  obtain ⟨u, rfl, ru⟩ := vals1 r
  cases ru
  obtain ⟨its, rv, pl, _⟩ := I.tuple hs
  obtain ⟨u1, u2, rfl, ⟨t1, rfl⟩, ⟨t2, rfl⟩⟩ := vals2 rv
  have rd : ReadsAll s.heap [Value.int i t1, Value.int j t2] [PyData.int i, PyData.int j] _ := ReadsAll.cons (Reads.int i t1) (ReadsAll.cons (Reads.int j t2) ReadsAll.nil)
  refine PySem.W.max_tuple_data (I.ok.hd hc) pl rd (nums_alike i j) (by simp [PyData.depthAll, PyData.depth]; omega) fun k v h' tk bs hv rv hk => ?_
  rw [show PySem.W.maxD (.int i) [.int j] = .int (max i j) from PySem.W.maxD_ints i [j]] at rv
  cases rv
  exact ⟨.int _, H, I.kept hk, ⟨_, rfl⟩, q⟩
end
end WRD

set_option Elab.async false
set_option linter.all false
set_option maxRecDepth 100000
set_option maxHeartbeats 4000000
/-! a statement that is never met -/
namespace ABS
open PySem PySem.Spec PyProof.Rows L2
theorem ps_never {X : Cx} {st : Stmt} : PS X st (fun _ _ _ => False) := ⟨fun _ _ _ _ _ _ h => h.elim⟩
end ABS

set_option Elab.async false
set_option linter.all false
set_option maxRecDepth 100000
set_option maxHeartbeats 4000000
set_option exponentiation.threshold 20000
namespace Z
open PySem PySem.Spec PyProof.Rows L2 GG M3 M4
abbrev sRr : Stmt := top 22
/-- what reduce_rational takes -/
structure RIn (f g : List Int) : Prop where
  gc : Cand g
  fz : f = [] ∨ (Cand f ∧ GC.Ends f g)
section
variable {P : Program} {w : World} {K : PySem.W.Frag} {mg : Str → Option Value} {base : Heap}
theorem cand_dg {f : List Int} (h : Cand f) : GC.dg f ≤ 59 := by
  have : GC.dg f ≤ f.length := by
    refine GC.dg_le fun t ht => ?_
    show f.getD t 0 = 0
    exact getD_out ht
  have := h.ln
  omega
theorem big59 : (2 ^ 400 : Nat) * (30 + 1) ^ 59 * (2 * 30 + 3) ^ 59 < 2 ^ 8000 := by decide +kernel
/-- a divisor of such a row is not great -/
theorem part_small {f d a : List Int} (h : Cand f) (hv : ∀ x, val x f = val x d * val x a) (t : Nat) : (GC.co a t).natAbs < 2 ^ 8000 := by
  have l59 := cand_dg h
  have b := GC.part_le (X := 30) (H := 2 ^ 400) h.dg hv (by omega) (fun c hc => Nat.le_of_lt (h.sm c hc)) t
  obtain ⟨da, _, e⟩ := GC.scaled_dg (r := 1) (by decide) (v := f) (w := d) (e := a) (fun x => by rw [Int.one_mul, hv]) h.dg
  have b1 : (30 + 1 : Nat) ^ f.length ≤ (30 + 1) ^ 59 := Nat.pow_le_pow_right (by decide) h.ln
  have b2 : (2 * 30 + 3 : Nat) ^ GC.dg a ≤ (2 * 30 + 3) ^ 59 := Nat.pow_le_pow_right (by decide) (by omega)
  exact Nat.lt_of_le_of_lt b (Nat.lt_of_le_of_lt (Nat.mul_le_mul (Nat.mul_le_mul_left _ b1) b2) big59)
def spRr (K : PySem.W.Frag) : Sp := fun vs H Q _ => ∃ (x y : Addr) (f g : List Int), vs = [.ref x, .ref y] ∧ SqT K H x (f.map V.int) ∧ SqT K H y (g.map V.int) ∧ RIn f g ∧
  ∀ (t pu pv : Addr) (u v : List Int) H', Same H H' → H t = none → H' t = some (.tup [.ref pu, .ref pv]) → H' pu = some (.tup (u.map V.int)) → H' pv = some (.tup (v.map V.int)) → GC.RedX f g u v → Q (.ref t) H'
theorem scRr : FnScope ["numerator", "denominator", "divisor"] ["numerator", "denominator"] (defScope sRr) := ⟨rfl, rfl, rfl, by decide +kernel, rfl, by decide +kernel, by decide +kernel⟩
theorem ok_rr {f fc fd_ fi : Addr} {fd cd dd id : FuncData} (F : Fun K "reduce_rational" "reduce_rational" sRr f fd) (GC_ : FnOk P w K mg base CX0 4 fc cd ["one", "other"] (spCd K)) (PC_ : Def K mg "common_divisor" fc cd ["one", "other"])
    (GD_ : FnOk P w K mg base CX0 2 fd_ dd ["polynomial", "other"] (spDiv K)) (PD_ : Def K mg "divide_exactly" fd_ dd ["polynomial", "other"]) (GI : FnOk P w K mg base CX0 2 fi id ["numerator", "denominator"] (spRi K)) (PI_ : Def K mg "reduce_integers" fi id ["numerator", "denominator"]) : FnOk P w K mg base CX0 5 f fd ["numerator", "denominator"] (spRr K) := by
  refine F.ok scRr (fun vs H Q E h => ?_) (fun cdv A outer s H vs Q E hr h => ?_)
  · obtain ⟨x, y, f, g, rfl, _⟩ := h
    rfl
  · obtain ⟨x, y, f, g, rfl, hx, hy, hin, q⟩ := h
    have hu64 : A.units + 3 + 64 < cLine := hr.units
    have hu0 : A.units + 3 < cLine := by omega
    refine ⟨_, (pss_cons (ps_if (pt_cmpR (WRD.op_noneIn (K := K) rfl hu0) (pv 1) (pe_tup pa_nil) (nomark _)) (pss_one ABS.ps_never) pss_nil)
      (pss_cons (ps_if (pt_cmpR (WRD.op_noneIn (K := K) rfl hu0) (pv 0) (pe_tup pa_nil) (nomark _)) (pss_one (ps_ret (pe_tup (pa_cons (pe_tup pa_nil) (pa_cons (pe_tup (pa_cons pe_int pa_nil)) pa_nil))))) pss_nil)
      (pss_cons (ps_set (i := 2) scRr.nd rfl (.inl rfl) (pe_call GC_ (hr.mono (by first | decide | omega)) (by rfl) PC_.is PC_.kp PC_.bi .nil pass0 (pa_cons (pv 0) (pa_cons (pv 1) pa_nil))))
      (pss_one (ps_ret (pe_call GI (hr.mono (by first | decide | omega)) (by rfl) PI_.is PI_.kp PI_.bi .nil pass0 (pa_cons (pe_call GD_ (hr.mono (by first | decide | omega)) (by rfl) PD_.is PD_.kp PD_.bi .nil pass0 (pa_cons (pv 0) (pa_cons (pv 2) pa_nil))) (pa_cons (pe_call GD_ (hr.mono (by first | decide | omega)) (by rfl) PD_.is PD_.kp PD_.bi .nil pass0 (pa_cons (pv 1) (pa_cons (pv 2) pa_nil))) pa_nil)))))))), ?_⟩
    refine ⟨_, rfl, by show 0 ≤ sizeLine; decide, fun e0 ne0 => ?_⟩
    have s0 := Same.upd (o := .tup []) ne0
    have ee0 : SqT K (upd H e0 (.tup [])) e0 [] := tup_of upd_same
    have hx0 := Same.tup s0 hx
    have hy0 := Same.tup s0 hy
    generalize upd H e0 (.tup []) = H0 at s0 ee0 hx0 hy0 ⊢
    refine ⟨y, e0, _, rfl, rfl, hy0, ee0, _, rfl, ?_⟩
    have gl := List.length_pos_iff.mpr hin.gc.pos
    rw [decide_eq_false (by rw [List.length_map]; omega)]
    refine iteF ?_
    refine ⟨_, rfl, by show 0 ≤ sizeLine; decide, fun e1 ne1 => ?_⟩
    have s1 := Same.upd (o := .tup []) ne1
    have ee1 : SqT K (upd H0 e1 (.tup [])) e1 [] := tup_of upd_same
    have hx1 := Same.tup s1 hx0
    have hy1 := Same.tup s1 hy0
    have s01 := s0.trans s1
    generalize upd H0 e1 (.tup []) = H1 at s1 ee1 hx1 hy1 s01 ⊢
    refine ⟨x, e1, _, rfl, rfl, hx1, ee1, _, rfl, ?_⟩
    rcases hin.fz with rfl | ⟨cf, hR⟩
    · refine iteT ?_
      refine ⟨by show 0 ≤ sizeLine; decide, fun z nz => ?_⟩
      have s2 := Same.upd (o := .tup []) nz
      have ez : upd H1 z (.tup []) z = some (.tup (([] : List Int).map V.int)) := upd_same
      generalize upd H1 z (.tup []) = H2 at s2 ez ⊢
      refine ⟨by show 1 ≤ sizeLine; decide, fun o no => ?_⟩
      have s3 := Same.upd (o := .tup [V.int 1]) no
      have eo : upd H2 o (.tup [V.int 1]) o = some (.tup (([1] : List Int).map V.int)) := upd_same
      have ez3 := s3 _ _ ez
      generalize upd H2 o (.tup [V.int 1]) = H3 at s3 eo ez3 ⊢
      refine ⟨by show 2 ≤ sizeLine; decide, fun t nt => ?_⟩
      have s4 := Same.upd (o := .tup [V.ref z, .ref o]) nt
      have s04 := ((s01.trans s2).trans s3)
      exact q t z o [] [1] _ (s04.trans s4) (s04.free nt) upd_same (s4 _ _ ez3) (s4 _ _ eo) GC.red_null
    · have fl := List.length_pos_iff.mpr cf.pos
      rw [decide_eq_false (by rw [List.length_map]; omega)]
      refine iteF ?_
      refine ⟨_, rfl, _, rfl, x, y, f, g, rfl, hx1, hy1, cf, hin.gc, hR, fun d a b a2 b2 t H2 G GG dl dnz s2 nt et => ?_⟩
      have dpos : 0 < GC.dg d := Nat.lt_of_le_of_lt (Nat.zero_le _) (GC.dg_pos dnz)
      have d1 : 1 ≤ d.length := by
        refine Nat.pos_of_ne_zero fun z => dnz ?_
        rw [List.eq_nil_of_length_eq_zero z]
        rfl
      have hdb : ∀ t, (GC.co d t).natAbs ≤ 2 ^ 8000 := fun t => Nat.le_of_lt (part_small (d := a) cf (fun x => (G.fa x).trans (Int.mul_comm _ _)) t)
      have DV : ∀ {ps : List Int}, Cand ps → Dv 400 8000 ps d (GC.co d (d.length - 1)) := fun c => ⟨by decide, by decide, rfl, d1, dnz, by have := c.ln; omega, dl, M3.bd_of fun x hx => Nat.le_of_lt (c.sm x hx), hdb⟩
      obtain ⟨q1, hq1⟩ := GC.quoE_dv (ps := f) (f := d) (l := GC.co d (d.length - 1)) dnz d1 rfl G.fa
      obtain ⟨q2, hq2⟩ := GC.quoE_dv (ps := g) (f := d) (l := GC.co d (d.length - 1)) dnz d1 rfl G.gb
      have v1 := fun x => GC.quoE_some d1 hq1 x
      have v2 := fun x => GC.quoE_some d1 hq2 x
      have hx2 := Same.tup s2 hx1
      have hy2 := Same.tup s2 hy1
      refine ⟨_, rfl, _, rfl, x, t, f, d, _, 400, 8000, rfl, hx2, tup_of et, DV cf, fun h => absurd (hq1.symm.trans h) (by simp), fun q1' hq1' t3 H3 s3 n3 e3 => ?_⟩
      have : q1' = q1 := Option.some.inj (hq1'.symm.trans hq1)
      subst this
      refine ⟨_, rfl, _, rfl, y, t, g, d, _, 400, 8000, rfl, Same.tup s3 hy2, Same.tup s3 (tup_of et), DV hin.gc, fun h => absurd (hq2.symm.trans h) (by simp), fun q2' hq2' t4 H4 s4 n4 e4 => ?_⟩
      have : q2' = q2 := Option.some.inj (hq2'.symm.trans hq2)
      subst this
      have small : ∀ {l : List Int} {ps : List Int}, Cand ps → (∀ x, val x ps = val x d * val x l) → (∀ c ∈ GC.tr l, c.natAbs < 2 ^ 8000) ∧ (GC.tr l).length ≤ 1000 := fun {l ps} c h => by
        refine ⟨fun k hk => ?_, ?_⟩
        · obtain ⟨t, ht, e⟩ := List.getElem_of_mem hk
          have := part_small c h t
          rw [← GC.tr_co l t] at this
          have e2 : GC.co (GC.tr l) t = k := by
            show (GC.tr l).getD t 0 = k
            rw [List.getD_eq_getElem?_getD, List.getElem?_eq_getElem ht, e]
            rfl
          rwa [e2] at this
        · have l59 := cand_dg c
          obtain ⟨_, _, e⟩ := GC.scaled_dg (r := 1) (by decide) (v := ps) (w := d) (e := l) (fun x => by rw [Int.one_mul, h]) c.dg
          have : GC.dg l = (GC.tr l).length := rfl
          omega
      obtain ⟨b1, l1⟩ := small cf v1
      obtain ⟨b2, l2⟩ := small hin.gc v2
      obtain ⟨m, hm, lm⟩ : ∃ m, GC.co (GC.tr q2') m ≠ 0 ∧ ∀ j, j < m → GC.co (GC.tr q2') j = 0 := by
        refine GC.least_not (p := fun t => GC.co (GC.tr q2') t = 0) ?_
        obtain ⟨_, dq, e⟩ := GC.scaled_dg (r := 1) (by decide) (v := g) (w := q2') (e := d) (fun x => by rw [Int.one_mul, v2, Int.mul_comm]) hin.gc.dg
        refine ⟨GC.dg q2' - 1, ?_⟩
        rw [GC.tr_co]
        exact GC.dg_top (by omega)
      refine ⟨t3, t4, GC.tr q1', GC.tr q2', m, rfl, tup_of (s4 _ _ e3), tup_of e4, l1, l2, b1, b2, hm, lm, fun c pu pv t5 H5 hc s5 n5 eu ev et5 => ?_⟩
      have sAll := ((s01.trans s2).trans s3).trans s4
      exact q t5 pu pv _ _ H5 (sAll.trans s5) (sAll.free n5) et5 eu ev (GC.red_of G GG dpos hin.gc.dg v1 v2 hm lm hc)
end
end Z

set_option Elab.async false
set_option linter.all false
set_option maxRecDepth 100000
set_option maxHeartbeats 4000000
/-! a comprehension over zip of two lists; binomials -/
namespace ZC
open PySem PySem.Spec PyProof.Rows L2 GG
theorem lc_zL {K : PySem.W.Frag} {a b : Addr} {xs ys : List V} {g : TG} {tt : TT} {te : TE} {vs : List Nat} {σ : L2.St} {H1 : Hp} {D : Addr} {Qd : Hp → Prop} (len : xs.length = ys.length) (Pv : Nat → Hp → Prop) (h0 : Pv 0 (upd H1 D (.lst []))) (hl : ∀ i H, Pv i H → SqL K H a xs ∧ SqL K H b ys)
    (turn : ∀ i x y H T, xs[i]? = some x → ys[i]? = some y → Pv i H → H T = none → g (.ref T) (wipe σ vs) (upd H T (.tup [x, y])) fun σ2 H2 => wipe σ2 vs = wipe σ vs ∧ tt σ2 H2 fun c H3 =>
      if c = true then te σ2 H3 fun y H4 => ∃ acc, H4 D = some (.lst acc) ∧ acc.length < sizeLine ∧ Pv (i + 1) (upd H4 D (.lst (acc ++ [y]))) else Pv (i + 1) H3) (done : ∀ H, Pv xs.length H → Qd H) :
    ∃ W : Nat → Nat → Hp → Prop, (∃ m, W 0 m (upd H1 D (.lst []))) ∧ ∀ i m H, W i m H →
      ((Itz K a b).stop i H ∧ Qd H) ∨ ((Itz K a b).go i H ∧ ∃ Nx : Hp → Prop, (∀ H', Nx H' → ∃ m', m' < m ∧ W (i + 1) m' H') ∧
        ∀ x H', (Itz K a b).yld i H x H' → g x (wipe σ vs) H' fun σ2 H2 => wipe σ2 vs = wipe σ vs ∧ tt σ2 H2 fun c H3 =>
          if c = true then te σ2 H3 fun y H4 => ∃ acc, H4 D = some (.lst acc) ∧ acc.length < sizeLine ∧ Nx (upd H4 D (.lst (acc ++ [y]))) else Nx H3) := by
  refine ⟨fun i m H => m = xs.length - i ∧ i ≤ xs.length ∧ Pv i H, ⟨_, rfl, Nat.zero_le _, h0⟩, ?_⟩
  rintro i m H ⟨rfl, le, pv⟩
  obtain ⟨qx, qy⟩ := hl i H pv
  rcases Nat.lt_or_ge i xs.length with lt | ge
  · have hx : xs[i]? = some xs[i] := List.getElem?_eq_getElem lt
    have lt2 : i < ys.length := by omega
    have hy : ys[i]? = some ys[i] := List.getElem?_eq_getElem lt2
    refine .inr ⟨⟨xs, ys, _, _, qx, qy, hx, hy⟩, Pv (i + 1), fun H' n => ⟨xs.length - (i + 1), by omega, rfl, lt, n⟩, ?_⟩
    rintro v H' ⟨T, x, y, rfl, nT, rfl, f1, f2⟩
    exact turn i x y H T (f1 xs qx) (f2 ys qy) pv nT
  · have e : i = xs.length := by omega
    subst e
    exact .inl ⟨⟨xs, ys, qx, qy, .inl (Nat.le_refl _)⟩, done H pv⟩

/-- the binomial number -/
def ch : Nat → Nat → Nat
  | _, 0 => 1
  | 0, _ + 1 => 0
  | n + 1, k + 1 => ch n k + ch n (k + 1)
theorem ch_over : ∀ (n k : Nat), n < k → ch n k = 0
  | 0, k + 1, _ => rfl
  | n + 1, k + 1, h => by
    show ch n k + ch n (k + 1) = 0
    rw [ch_over n k (by omega), ch_over n (k + 1) (by omega)]
theorem ch_zero (n : Nat) : ch n 0 = 1 := by cases n <;> rfl
theorem ch_le : ∀ (n k : Nat), ch n k ≤ 2 ^ n
  | n, 0 => by
    rw [ch_zero]
    exact Nat.one_le_two_pow
  | 0, k + 1 => Nat.zero_le _
  | n + 1, k + 1 => by
    show ch n k + ch n (k + 1) ≤ 2 ^ (n + 1)
    have := ch_le n k
    have := ch_le n (k + 1)
    rw [Nat.pow_succ]
    omega
def bin (n : Nat) : List Int := (List.range (n + 1)).map fun k => (ch n k : Int)
theorem bin_len (n : Nat) : (bin n).length = n + 1 := by simp [bin]
theorem bin_get {n k : Nat} (h : k ≤ n) : (bin n)[k]? = some (ch n k : Int) := by
  unfold bin
  rw [List.getElem?_map, List.getElem?_range (by omega)]
  rfl
/-- the two summands at a place -/
theorem bin_left {n k : Nat} (h : k ≤ n + 1) : (bin n ++ [0])[k]? = some (ch n k : Int) := by
  rcases Nat.lt_or_ge k (n + 1) with lt | ge
  · rw [List.getElem?_append_left (by rw [bin_len]; exact lt), bin_get (by omega)]
  · have e : k = n + 1 := by omega
    subst e
    rw [List.getElem?_append_right (by rw [bin_len]; exact Nat.le_refl _), bin_len, Nat.sub_self, ch_over n (n + 1) (by omega)]
    rfl
def low (n : Nat) : Nat → Int
  | 0 => 0
  | j + 1 => (ch n j : Int)
theorem bin_right {n k : Nat} (h : k ≤ n + 1) : ((0 : Int) :: bin n)[k]? = some (low n k) := by
  cases k with
  | zero => rfl
  | succ j =>
    rw [List.getElem?_cons_succ, bin_get (by omega)]
    rfl
theorem bin_step (n k : Nat) : (ch (n + 1) k : Int) = (ch n k : Int) + low n k := by
  cases k with
  | zero => simp [ch_zero, low]
  | succ j =>
    show ((ch n j + ch n (j + 1) : Nat) : Int) = _
    rw [Int.natCast_add]
    exact Int.add_comm _ _
end ZC

set_option Elab.async false
set_option linter.all false
set_option maxRecDepth 100000
set_option maxHeartbeats 4000000
namespace Z
open PySem PySem.Spec PyProof.Rows L2 GG ZC
abbrev sBin : Stmt := top 38
structure NamesR (mg : Str → Option Value) : Prop extends Names mg where
  zip : mg "zip" = none
  enumerate : mg "enumerate" = none
  int : mg "int" = none
section
variable {P : Program} {w : World} {K : PySem.W.Frag} {mg : Str → Option Value} {base : Heap}
def spBin : Sp := fun vs H Q _ => ∃ n : Nat, vs = [.int (n : Nat)] ∧ n ≤ 60 ∧ ∀ p H', Same H H' → H p = none → H' p = some (.lst ((bin n).map V.int)) → Q (.ref p) H'
theorem scBin : FnScope ["many", "found", "k", "a", "b"] ["many"] (defScope sBin) := ⟨rfl, rfl, rfl, by decide +kernel, rfl, by decide +kernel, by decide +kernel⟩
theorem ok_bin {f : Addr} {fd : FuncData} (F : Fun K "_law_binomials" "_law_binomials" sBin f fd) (T : NamesR mg) : FnOk P w K mg base CX0 1 f fd ["many"] spBin := by
  refine F.ok scBin (fun vs H Q E h => ?_) (fun cdv A outer s H vs Q E hr h => ?_)
  · obtain ⟨n, rfl, _⟩ := h
    rfl
  · obtain ⟨n, rfl, hn, q⟩ := h
    refine ⟨_, (pss_cons (ps_set (i := 1) scBin.nd rfl (.inl rfl) (pe_lst (pa_cons pe_int pa_nil)))
      (pss_cons (ps_for PassesOwn.never rfl (pi_range1 rfl T.range (pa_cons (pv 0) pa_nil)) (pg_name (i := 2) scBin.nd rfl (.inl rfl)) (pss_one (ps_setLc (i := 1) (own := [("a", 3), ("b", 4)]) (g := gTup K 2 (gCons (gName 3) (gCons (gName 4) gNil))) (tt := tYes) rfl scBin.nd rfl rfl (sw_true rfl rfl rfl (by decide +kernel)) (pi_zip (by rfl) T.zip (pa_cons (pe_op op_cat (pv 1) (pe_lst (pa_cons pe_int pa_nil))) (pa_cons (pe_op op_cat (pe_lst (pa_cons pe_int pa_nil)) (pv 1)) pa_nil))) (blkOk_by (N := ["many", "found", "k", "a", "b"]) (sc := defScope sBin) (own := [("a", 3), ("b", 4)]) (by decide +kernel)) (fun _ _ _ _ _ => (pg_tup rfl (pgs_cons (pg_name (i := 3) scBin.nd rfl (.inl rfl) (Or.inr rfl)) (pgs_cons (pg_name (i := 4) scBin.nd rfl (.inl rfl) (Or.inr rfl)) pgs_nil)))) (fun _ _ _ _ _ => pts_nil) (fun _ _ _ _ _ => (pe_op op_add (pv 3) (pv 4))))))
      (pss_one (ps_ret (pv 1))))), ?_⟩
    refine ⟨by show 1 ≤ sizeLine; decide, fun D nD => ?_⟩
    have s1 : Same H (upd H D (.lst [.int 1])) := Same.upd nD
    have eD : upd H D (.lst [.int 1]) D = some (.lst ((bin 0).map V.int)) := upd_same
    change (_ : Hp → Prop) (upd H D (.lst [.int 1]))
    generalize upd H D (.lst [.int 1]) = H1 at s1 eD ⊢
    refine ⟨_, rfl, _, rfl, by omega, by omega, for_range (lo := 0) (n := n) (fun i σ H' => ∃ (p : Addr) (v2 : Option V), σ = [some (.int (n : Nat)), some (.ref p), v2, none, none] ∧ Same H H' ∧ H p = none ∧ H' p = some (.lst ((bin i).map V.int))) ⟨D, _, rfl, s1, nD, eD⟩ ?_ ?_⟩
    · rintro i σ H2 hi ⟨p, v2, rfl, s2, np, ep⟩
      have hb : (bin i).length ≤ 60 := by rw [bin_len]; omega
      have line : sizeLine = 16777216 := by decide
      refine ⟨_, rfl, by show 1 ≤ sizeLine; decide, fun z nz => ?_⟩
      have s3 := Same.upd (o := .lst [.int 0]) nz
      have ez : upd H2 z (.lst [.int 0]) z = some (.lst [.int 0]) := upd_same
      generalize upd H2 z (.lst [.int 0]) = H3 at s3 ez ⊢
      refine ⟨p, z, _, _, rfl, rfl, s3 _ _ ep, ez, by rw [List.length_map]; show (bin i).length + 1 ≤ sizeLine; omega, fun a na => ?_⟩
      have s4 := Same.upd (o := .lst ((bin i).map V.int ++ [.int 0])) na
      have ea : upd H3 a (.lst ((bin i).map V.int ++ [.int 0])) a = some (.lst ((bin i ++ [0]).map V.int)) := by rw [upd_same, List.map_append]; rfl
      change (_ : Hp → Prop) (upd H3 a (.lst ((bin i).map V.int ++ [.int 0])))
      generalize upd H3 a (.lst ((bin i).map V.int ++ [.int 0])) = H4 at s4 ea ⊢
      refine ⟨by show 1 ≤ sizeLine; decide, fun y ny => ?_⟩
      have s5 := Same.upd (o := .lst [.int 0]) ny
      have ey : upd H4 y (.lst [.int 0]) y = some (.lst [.int 0]) := upd_same
      generalize upd H4 y (.lst [.int 0]) = H5 at s5 ey ⊢
      refine ⟨_, rfl, y, p, _, _, rfl, rfl, ey, s5 _ _ (s4 _ _ (s3 _ _ ep)), by rw [List.length_map]; show 1 + (bin i).length ≤ sizeLine; omega, fun b nb => ?_⟩
      have s6 := Same.upd (o := .lst ([.int 0] ++ (bin i).map V.int)) nb
      have eb : upd H5 b (.lst ([.int 0] ++ (bin i).map V.int)) b = some (.lst (((0 : Int) :: bin i).map V.int)) := by rw [upd_same]; rfl
      change (_ : Hp → Prop) (upd H5 b (.lst ([.int 0] ++ (bin i).map V.int)))
      generalize upd H5 b (.lst ([.int 0] ++ (bin i).map V.int)) = H6 at s6 eb ⊢
      have ea6 := s6 _ _ (s5 _ _ ea)
      have s26 := ((s3.trans s4).trans s5).trans s6
      refine ⟨a, b, _, _, rfl, SqL.of ea6, SqL.of eb, fun D2 nD2 => ?_⟩
      refine lc_zL (K := K) (xs := (bin i ++ [0]).map V.int) (ys := ((0 : Int) :: bin i).map V.int) (by rw [List.length_map, List.length_map, List.length_append, List.length_cons]; rfl) (fun k H' => H' D2 = some (.lst (((List.range k).map fun t => (ch (i + 1) t : Int)).map V.int)) ∧ Same H6 H') ⟨upd_same, Same.upd nD2⟩ (fun k H' h => ⟨SqL.of (h.2 _ _ ea6), SqL.of (h.2 _ _ eb)⟩) ?_ ?_
      · rintro k x w H7 T0 hx hw ⟨e7, s7⟩ nT
        have hk : k ≤ i + 1 := by
          have := (List.getElem?_eq_some_iff.mp hx).1
          rw [List.length_map, List.length_append, bin_len] at this
          simp at this
          omega
        rw [List.getElem?_map, bin_left hk] at hx
        rw [List.getElem?_map, bin_right hk] at hw
        cases hx
        cases hw
        have s8 := Same.upd (o := .tup [.int (ch i k : Int), .int (low i k)]) nT
        refine ⟨T0, _, rfl, SqT.of upd_same, rfl, _, _, rfl, _, _, rfl, rfl, rfl, ?_⟩
        dsimp only [tYes]
        refine iteT ?_
        refine ⟨_, rfl, _, rfl, _, _, rfl, rfl, _, s8 _ _ e7, by rw [List.length_map, List.length_map, List.length_range]; exact small1000 (by omega), ?_, ?_⟩
        · rw [upd_same, List.range_succ, List.map_append, List.map_append]
          show some (HO.lst (_ ++ [V.int ((ch i k : Int) + low i k)])) = _
          rw [← bin_step]
          rfl
        · intro b o e
          rw [upd_ne (ne_of_none e nD2)]
          exact s8 _ _ (s7 _ _ e)
      · rintro H7 ⟨e7, s7⟩
        rw [List.length_map, List.length_append, bin_len] at e7
        exact ⟨D2, _, rfl, (s2.trans s26).trans s7, (s2.trans s26).free nD2, e7⟩
    · rintro σ H' ⟨p, v2, rfl, s2, np, ep⟩
      exact ⟨_, rfl, q p _ s2 np ep⟩
end
end Z

set_option Elab.async false
set_option linter.all false
set_option maxRecDepth 100000
set_option maxHeartbeats 4000000
namespace Z
open PySem PySem.Spec PyProof.Rows L2 GG ZC
abbrev sRecipe : Stmt := top 40
/-- a recipe's numbers -/
structure WR (m : Nat) (ds es : List Int) : Prop where
  dl : ds.length = m + 1
  el : es.length = m + 1
  ok : ∀ k, k ≤ m → 0 ≤ ds.getD k 0 ∧ ds.getD k 0 ≤ es.getD k 0 ∧ es.getD k 0 ≤ (ch m k : Nat)
  some : ∃ k, k ≤ m ∧ es.getD k 0 ≠ 0
/-- it stands at r -/
def Rec (H : Hp) (r : Addr) (m : Nat) (ds es : List Int) : Prop := ∃ a b, H r = some (.tup [.int (m : Nat), .ref a, .ref b]) ∧ H a = some (.tup (ds.map V.int)) ∧ H b = some (.tup (es.map V.int))
theorem Rec.same {H H' : Hp} {r : Addr} {m : Nat} {ds es : List Int} (h : Rec H r m ds es) (s : Same H H') : Rec H' r m ds es := by
  obtain ⟨a, b, h1, h2, h3⟩ := h
  exact ⟨a, b, s _ _ h1, s _ _ h2, s _ _ h3⟩
theorem Rec.but {H H' : Hp} {p l r : Addr} {m : Nat} {ds es : List Int} (h : Rec H r m ds es) (q : Pen H p l) (b : But p H H') : Rec H' r m ds es := by
  obtain ⟨x, y, h1, h2, h3⟩ := h
  exact ⟨x, y, b.mem (q.notTup h1) h1, b.mem (q.notTup h2) h2, b.mem (q.notTup h3) h3⟩
theorem ch_small {m k : Nat} (h : m ≤ 60) : ((ch m k : Nat) : Int).natAbs < 2 ^ 61 := by
  rw [Int.natAbs_natCast]
  exact Nat.lt_of_le_of_lt (ch_le m k) (Nat.lt_of_le_of_lt (Nat.pow_le_pow_right (by decide) h) (by decide))
theorem sum_some : ∀ {l : List Int}, l.sum ≠ 0 → ∃ x ∈ l, x ≠ 0
  | [], h => absurd rfl h
  | x :: r, h => by
    by_cases e : x = 0
    · have : r.sum ≠ 0 := fun z => h (by rw [List.sum_cons, z, e]; rfl)
      obtain ⟨y, hy, ny⟩ := sum_some this
      exact ⟨y, List.mem_cons_of_mem _ hy, ny⟩
    · exact ⟨x, List.mem_cons_self, e⟩
section
variable {P : Program} {w : World} {K : PySem.W.Frag} {mg : Str → Option Value} {base : Heap}
structure NamesS (mg : Str → Option Value) : Prop extends NamesR mg where
  sum : mg "sum" = none
def spRecipe : Sp := fun vs H Q _ => ∃ (p l : Addr) (most : Nat), vs = [.ref p, .int (most : Nat)] ∧ Pen H p l ∧ most ≤ 40 ∧ ∀ (r : Addr) (m : Nat) (ds es : List Int) H', But p H H' → Pen H' p l → m ≤ most → WR m ds es → H r = none → Rec H' r m ds es → Q (.ref r) H'
theorem scRecipe : FnScope ["pen", "most", "many", "caps", "ends", "cap", "end"] ["pen", "most"] (defScope sRecipe) := ⟨rfl, rfl, rfl, by decide +kernel, rfl, by decide +kernel, by decide +kernel⟩
theorem ok_recipe {f g b : Addr} {fd gd bd : FuncData} (F : Fun K "_law_recipe" "_law_recipe" sRecipe f fd) (T : NamesS mg) (GD : FnOk P w K mg base CX0 2 g gd ["pen", "many"] spDraw) (PD : Def K mg "_law_draw" g gd ["pen", "many"])
    (GB : FnOk P w K mg base CX0 1 b bd ["many"] spBin) (PB : Def K mg "_law_binomials" b bd ["many"]) :
    FnOk P w K mg base CX0 3 f fd ["pen", "most"] spRecipe := by
  refine F.ok scRecipe (fun vs H Q E h => ?_) (fun cdv A outer s H vs Q E hr h => ?_)
  · obtain ⟨p, l, m, rfl, _⟩ := h
    rfl
  · obtain ⟨p, l, most, rfl, pn, hm, q⟩ := h
    refine ⟨_, (pss_cons (ps_set (i := 2) scRecipe.nd rfl (.inl rfl) (pe_call GD (hr.mono (by first | decide | omega)) (by rfl) PD.is PD.kp PD.bi .nil pass0 (pa_cons (pv 0) (pa_cons (pe_op op_add (pv 1) pe_int) pa_nil))))
      (pss_cons (ps_set (i := 3) scRecipe.nd rfl (.inl rfl) (pe_call GB (hr.mono (by first | decide | omega)) (by rfl) PB.is PB.kp PB.bi .nil pass0 (pa_cons (pv 2) pa_nil)))
      (pss_cons (ps_setLc (i := 4) (own := [("cap", 5)]) (g := gName 5) (tt := tYes) rfl scRecipe.nd rfl rfl (sw_true rfl rfl rfl (by decide +kernel)) (pi_list (pv 3)) (blkOk_by (N := ["pen", "most", "many", "caps", "ends", "cap", "end"]) (sc := defScope sRecipe) (own := [("cap", 5)]) (by decide +kernel)) (fun _ _ _ _ _ => (pg_name (i := 5) scRecipe.nd rfl (.inl rfl))) (fun _ _ _ _ _ => pts_nil) (fun _ _ _ _ _ => (pe_call GD (hr.mono (by first | decide | omega)) (by rfl) PD.is PD.kp PD.bi .nil pass0 (pa_cons (pv 0) (pa_cons (pe_op op_add (pv 5) pe_int) pa_nil)))))
      (pss_cons (ps_if (pt_cmpR op_eq (pe_callB (cr_sum rfl) (by rfl) T.sum (by decide +kernel) (pa_cons (pv 4) pa_nil)) pe_int (nomark _)) (pss_one (ps_set (i := 4) scRecipe.nd rfl (.inl rfl) (pv 3))) pss_nil)
      (pss_one (ps_ret (pe_tup (pa_cons (pv 2) (pa_cons (pe_callTy call_tuple_of (by rfl) T.tuple (by decide +kernel) (pa_cons (pe_lc (own := [("end", 6)]) (g := gName 6) (tt := tYes) rfl scRecipe.nd (pi_list (pv 4)) (blkOk_by (N := ["pen", "most", "many", "caps", "ends", "cap", "end"]) (sc := defScope sRecipe) (own := [("end", 6)]) (by decide +kernel)) (fun _ _ _ _ _ => (pg_name (i := 6) scRecipe.nd rfl (.inl rfl))) (fun _ _ _ _ _ => pts_nil) (fun _ _ _ _ _ => (pe_call GD (hr.mono (by first | decide | omega)) (by rfl) PD.is PD.kp PD.bi .nil pass0 (pa_cons (pv 0) (pa_cons (pe_op op_add (pv 6) pe_int) pa_nil))))) pa_nil)) (pa_cons (pe_callTy call_tuple_of (by rfl) T.tuple (by decide +kernel) (pa_cons (pv 4) pa_nil)) pa_nil)))))))))), ?_⟩
    have line : sizeLine = 16777216 := by decide
    refine ⟨.ref p, rfl, _, rfl, _, _, rfl, rfl, p, l, (most : Int) + 1, rfl, pn, by omega, log_le (by omega), fun d H1 d0 d1 b1 p1 => ?_⟩
    obtain ⟨m, rfl⟩ : ∃ m : Nat, d = (m : Int) := ⟨d.toNat, by omega⟩
    refine ⟨_, rfl, m, rfl, by omega, fun c H2 s2 nc ec => ?_⟩
    have ac := p1.apart nc
    have p2 := p1.same s2
    -- ends
    refine ⟨_, rfl, c, rfl, ⟨_, SqL.of ec⟩, fun D nD => ?_⟩
    have aD := p2.apart nD
    have hb : (bin m).length = m + 1 := bin_len m
    refine lc_list (K := K) (a := c) (xs := (bin m).map V.int) (fun i Hx => ∃ es : List Int, Hx D = some (.lst (es.map V.int)) ∧ es.length = i ∧ (∀ k, k < i → 0 ≤ es.getD k 0 ∧ es.getD k 0 ≤ (ch m k : Nat)) ∧ But p H2 Hx ∧ Pen Hx p l) ⟨[], upd_same, rfl, fun k hk => absurd hk (Nat.not_lt_zero _), But.of (Same.upd nD), p2.same (Same.upd nD)⟩ (fun j Hx _ ⟨_, _, _, _, b, _⟩ => SqL.of (b.mem ac.1 ec)) ?_ ?_
    · rintro i x H3 hx ⟨es, e3, len, hes, b3, p3⟩
      have hi : i ≤ m := by
        have := (List.getElem?_eq_some_iff.mp hx).1
        rw [List.length_map, hb] at this
        omega
      rw [List.getElem?_map, bin_get hi] at hx
      cases hx
      refine ⟨rfl, ?_⟩
      dsimp only [tYes]
      have hc := ch_small (m := m) (k := i) (by omega)
      refine iteT ⟨.ref p, rfl, _, rfl, _, _, rfl, rfl, p, l, (ch m i : Int) + 1, rfl, p3, by omega, log_le (by omega), fun u H4 u0 u1 b4 p4 => ?_⟩
      refine ⟨_, b4.mem aD.1 e3, by rw [List.length_map]; omega, es ++ [u], ?_, by simp [len], ?_, ?_, ?_⟩
      · rw [upd_same, List.map_append]
        rfl
      · intro k hk
        rcases Nat.lt_or_ge k i with lt | ge
        · have := hes k lt
          rw [List.getD_eq_getElem?_getD, List.getElem?_append_left (by omega), ← List.getD_eq_getElem?_getD]
          exact this
        · have ek : k = i := by omega
          subst ek
          rw [List.getD_eq_getElem?_getD, List.getElem?_append_right (by omega), len, Nat.sub_self]
          show 0 ≤ u ∧ u ≤ _
          omega
      · intro b o e n
        rw [upd_ne (ne_of_none e nD)]
        exact b4 _ _ (b3 _ _ e n) n
      · obtain ⟨cs, pos, val, h1, h2, h3⟩ := p4
        exact ⟨cs, pos, val, by rw [upd_ne aD.1.symm]; exact h1, by rw [upd_ne aD.2.symm]; exact h2, h3⟩
    · rintro H3 ⟨es, e3, len, hes, b3, p3⟩
      rw [List.length_map, hb] at len hes
      have e3c := b3.mem ac.1 ec
      dsimp only
      refine on (if_tail (fun σ Hx => ∃ (e : Addr) (es : List Int), σ = [some (V.ref p), some (V.int (most : Nat)), some (V.int (m : Nat)), some (V.ref c), some (V.ref e), none, none] ∧ Hx = H3 ∧ H3 e = some (.lst (es.map V.int)) ∧ e ≠ p ∧ es.length = m + 1 ∧ (∀ k, k ≤ m → 0 ≤ es.getD k 0 ∧ es.getD k 0 ≤ (ch m k : Nat)) ∧ ∃ k, k ≤ m ∧ es.getD k 0 ≠ 0) ?_ (fun tl => ?_))
      rotate_left
      · refine ⟨_, rfl, D, es, rfl, SqL.of e3, rfl, _, rfl, ?_⟩
        by_cases h0 : es.sum = 0
        · rw [h0, decide_eq_true rfl]
          refine iteT ⟨_, rfl, tl _ _ ⟨c, bin m, rfl, rfl, e3c, ac.1, hb, ?_, 0, by omega, ?_⟩⟩
          · intro k hk
            rw [List.getD_eq_getElem?_getD, bin_get hk]
            show 0 ≤ (ch m k : Int) ∧ (ch m k : Int) ≤ (ch m k : Nat)
            omega
          · rw [List.getD_eq_getElem?_getD, bin_get (by omega), ch_zero]
            decide
        · rw [decide_eq_false (by intro h; exact h0 (V.int.inj h))]
          refine iteF (tl _ _ ⟨D, es, rfl, rfl, e3, aD.1, len, fun k hk => hes k (by omega), ?_⟩)
          obtain ⟨x, hx, nx⟩ := sum_some h0
          obtain ⟨k, hk, ek⟩ := List.getElem_of_mem hx
          exact ⟨k, by omega, by rw [List.getD_eq_getElem?_getD, List.getElem?_eq_getElem hk, ek]; exact nx⟩
      · rintro σ Hx ⟨e, es, rfl, eHx, ee, ep, len, hes, hsome⟩
        subst eHx
        refine ⟨_, rfl, _, rfl, e, rfl, ⟨_, SqL.of ee⟩, fun D2 nD2 => ?_⟩
        have aD2 := p3.apart nD2
        refine lc_list (K := K) (a := e) (xs := es.map V.int) (fun i Hy => ∃ ds : List Int, Hy D2 = some (.lst (ds.map V.int)) ∧ ds.length = i ∧ (∀ k, k < i → 0 ≤ ds.getD k 0 ∧ ds.getD k 0 ≤ es.getD k 0) ∧ But p Hx Hy ∧ Pen Hy p l) ⟨[], upd_same, rfl, fun k hk => absurd hk (Nat.not_lt_zero _), But.of (Same.upd nD2), p3.same (Same.upd nD2)⟩ (fun j Hx _ ⟨_, _, _, _, b, _⟩ => SqL.of (b.mem ep ee)) ?_ ?_
        · rintro i x H5 hx ⟨ds, e5, ld, hds, b5, p5⟩
          obtain ⟨hi, hx⟩ := List.getElem?_eq_some_iff.mp hx
          rw [List.length_map, len] at hi
          have hx : x = V.int (es.getD i 0) := by
            rw [← hx, List.getElem_map, List.getD_eq_getElem?_getD, List.getElem?_eq_getElem (by omega)]
            rfl
          subst hx
          have hei := hes i (by omega)
          have hc := ch_small (m := m) (k := i) (by omega)
          refine ⟨rfl, ?_⟩
          dsimp only [tYes]
          refine iteT ⟨.ref p, rfl, _, rfl, _, _, rfl, rfl, p, l, es.getD i 0 + 1, rfl, p5, by omega, log_le (by omega), fun u H6 u0 u1 b6 p6 => ?_⟩
          refine ⟨_, b6.mem aD2.1 e5, by rw [List.length_map]; omega, ds ++ [u], ?_, by simp [ld], ?_, ?_, ?_⟩
          · rw [upd_same, List.map_append]
            rfl
          · intro k hk
            rcases Nat.lt_or_ge k i with lt | ge
            · have := hds k lt
              rw [List.getD_eq_getElem?_getD, List.getElem?_append_left (by omega), ← List.getD_eq_getElem?_getD]
              exact this
            · have ek : k = i := by omega
              subst ek
              rw [List.getD_eq_getElem?_getD, List.getElem?_append_right (by omega), ld, Nat.sub_self]
              show 0 ≤ u ∧ u ≤ _
              omega
          · intro b o e n
            rw [upd_ne (ne_of_none e nD2)]
            exact b6 _ _ (b5 _ _ e n) n
          · obtain ⟨cs, pos, val, h1, h2, h3⟩ := p6
            exact ⟨cs, pos, val, by rw [upd_ne aD2.1.symm]; exact h1, by rw [upd_ne aD2.2.symm]; exact h2, h3⟩
        · rintro H5 ⟨ds, e5, ld, hds, b5, p5⟩
          rw [List.length_map, len] at ld hds
          refine ⟨D2, _, rfl, .inl ⟨SqL.of e5, fun t nt => ?_⟩⟩
          have s6 := Same.upd (o := .tup (ds.map V.int)) nt
          have e6 : upd H5 t (.tup (ds.map V.int)) t = some (.tup (ds.map V.int)) := upd_same
          change (_ : Hp → Prop) (upd H5 t (.tup (ds.map V.int)))
          generalize upd H5 t (.tup (ds.map V.int)) = H6 at s6 e6 ⊢
          refine ⟨_, rfl, e, _, rfl, .inl ⟨SqL.of (s6 _ _ (b5.mem ep ee)), fun u nu => ?_⟩⟩
          have s7 := Same.upd (o := .tup (es.map V.int)) nu
          have e7 : upd H6 u (.tup (es.map V.int)) u = some (.tup (es.map V.int)) := upd_same
          change (_ : Hp → Prop) (upd H6 u (.tup (es.map V.int)))
          generalize upd H6 u (.tup (es.map V.int)) = H7 at s7 e7 ⊢
          refine ⟨by show 3 ≤ sizeLine; decide, fun r nr => ?_⟩
          have s8 := Same.upd (o := .tup [.int (m : Nat), .ref t, .ref u]) nr
          have p7 := (p5.same s6).same s7
          have ar := p7.apart nr
          have bb : But p H H7 := ((((b1.trans (But.of s2)).trans b3).trans b5).trans (But.of s6)).trans (But.of s7)
          exact q r m ds es _ (bb.trans (But.of s8)) (p7.same s8) (by omega) ⟨ld, len, fun k hk => ⟨(hds k (by omega)).1, (hds k (by omega)).2, (hes k hk).2⟩, hsome⟩ (bb.free ar.1 nr) ⟨t, u, upd_same, s8 _ _ (s7 _ _ e6), s8 _ _ e7⟩
end
end Z

set_option Elab.async false
set_option linter.all false
set_option maxRecDepth 100000
set_option maxHeartbeats 4000000
set_option exponentiation.threshold 20000
namespace Z
open PySem PySem.Spec PyProof.Rows L2 GG M3 M4 ZC
/-! ### forms as numbers -/
def hv (x : Int) : List Int → Int
  | [] => 0
  | c :: r => c * (1 - x) ^ r.length + x * hv x r
def hF (x : Int) (F : Nat → Int) : Nat → Int
  | 0 => 0
  | n + 1 => F 0 * (1 - x) ^ n + x * hF x (fun t => F (t + 1)) n
theorem hF_congr {x : Int} : ∀ (n : Nat) {F G : Nat → Int}, (∀ t, t < n → F t = G t) → hF x F n = hF x G n
  | 0, _, _, _ => rfl
  | n + 1, F, G, h => by
    show F 0 * _ + x * _ = G 0 * _ + x * _
    rw [h 0 (Nat.zero_lt_succ n), hF_congr n fun t ht => h (t + 1) (by omega)]
theorem hv_hF (x : Int) : ∀ l : List Int, hv x l = hF x (fun t => l.getD t 0) l.length
  | [] => rfl
  | c :: r => by
    show c * _ + x * hv x r = c * _ + x * hF x (fun t => r.getD t 0) r.length
    rw [hv_hF x r]
theorem hF_map (x : Int) (F : Nat → Int) (n : Nat) : hv x ((List.range n).map F) = hF x F n := by
  rw [hv_hF, List.length_map, List.length_range]
  refine hF_congr n fun t ht => ?_
  rw [List.getD_eq_getElem?_getD, List.getElem?_map, List.getElem?_range ht]
  rfl
theorem hF_add (x : Int) : ∀ (n : Nat) (F G : Nat → Int), hF x (fun t => F t + G t) n = hF x F n + hF x G n
  | 0, _, _ => rfl
  | n + 1, F, G => by
    show (F 0 + G 0) * _ + x * hF x (fun t => F (t + 1) + G (t + 1)) n = (F 0 * _ + x * _) + (G 0 * _ + x * _)
    rw [hF_add x n]
    grind
theorem hF_mul (x c : Int) : ∀ (n : Nat) (F : Nat → Int), hF x (fun t => c * F t) n = c * hF x F n
  | 0, _ => by simp [hF]
  | n + 1, F => by
    show (c * F 0) * _ + x * hF x (fun t => c * F (t + 1)) n = c * (F 0 * _ + x * _)
    rw [hF_mul x c n]
    grind
theorem hF_null (x : Int) : ∀ n : Nat, hF x (fun _ => 0) n = 0
  | 0 => rfl
  | n + 1 => by
    show 0 * _ + x * hF x (fun _ => 0) n = 0
    rw [hF_null x n]
    simp
theorem hF_sh (x : Int) (F : Nat → Int) (n : Nat) : hF x (M4.sh F) (n + 1) = x * hF x F n := by
  show (0 : Int) * _ + x * hF x F n = _
  omega
theorem hF_more (x : Int) (k : Nat) : ∀ g : List Int, hF x (fun t => g.getD t 0) (g.length + k) = (1 - x) ^ k * hv x g
  | [] => by
    have e : (fun t => ([] : List Int).getD t 0) = fun _ => 0 := funext fun t => rfl
    rw [e, hF_null]
    show 0 = (1 - x) ^ k * 0
    omega
  | c :: r => by
    rw [List.length_cons, show r.length + 1 + k = (r.length + k) + 1 by omega]
    show c * (1 - x) ^ (r.length + k) + x * hF x (fun t => r.getD t 0) (r.length + k) = (1 - x) ^ k * (c * (1 - x) ^ r.length + x * hv x r)
    rw [hF_more x k r, Int.pow_add]
    grind
theorem hF_pf (x : Int) (g : List Int) : ∀ f : List Int, f ≠ [] → hF x (pf f g) (f.length - 1 + g.length) = hv x f * hv x g
  | [], h => absurd rfl h
  | [c], _ => by
    have e : pf [c] g = fun t => c * g.getD t 0 := funext fun t => by
      cases t with
      | zero => show c * g.getD 0 0 + 0 = _; omega
      | succ t => show c * g.getD (t + 1) 0 + 0 = _; omega
    rw [e, hF_mul]
    show c * hF x _ (0 + g.length) = (c * (1 - x) ^ 0 + x * 0) * _
    rw [Nat.zero_add, ← hv_hF]
    grind
  | c :: d :: r, _ => by
    have ih := hF_pf x g (d :: r) (List.cons_ne_nil _ _)
    have e : pf (c :: d :: r) g = fun t => (c * g.getD t 0) + M4.sh (pf (d :: r) g) t := funext fun t => by
      cases t <;> rfl
    rw [e, hF_add, hF_mul]
    show c * hF x _ ((d :: r).length + g.length) + hF x _ (r.length + 1 + g.length) = (c * (1 - x) ^ (d :: r).length + x * hv x (d :: r)) * _
    rw [Nat.add_comm (d :: r).length, hF_more, show r.length + 1 + g.length = (r.length + g.length) + 1 by omega, hF_sh]
    have ih : hF x (pf (d :: r) g) (r.length + g.length) = hv x (d :: r) * hv x g := ih
    rw [ih]
    grind
/-- the form of the product -/
def cv (f g : List Int) : List Int := (List.range (f.length - 1 + g.length)).map (pf f g)
theorem cv_len (f g : List Int) : (cv f g).length = f.length - 1 + g.length := by simp [cv]
theorem cv_hv (x : Int) {f : List Int} (h : f ≠ []) (g : List Int) : hv x (cv f g) = hv x f * hv x g := by
  unfold cv
  rw [hF_map, hF_pf x g f h]
/-! ### the polynomial of a form -/
def tnl : Nat → List Int
  | 0 => [1]
  | n + 1 => GC.lin 1 (tnl n) (-1) (0 :: tnl n)
theorem co_cons0 (l : List Int) (t : Nat) : GC.co (0 :: l) t = Sh (fn l) t := by cases t <;> rfl
theorem tnl_co : ∀ (n t : Nat), GC.co (tnl n) t = Tn n t
  | 0, 0 => rfl
  | 0, t + 1 => rfl
  | n + 1, t => by
    show GC.co (GC.lin 1 (tnl n) (-1) (0 :: tnl n)) t = Tl (Tn n) t
    have e : fn (tnl n) = Tn n := funext fun s => tnl_co n s
    rw [GC.lin_co, co_cons0, tnl_co n t, e]
    show _ = Tn n t - Sh (Tn n) t
    omega
theorem tnl_val (x : Int) : ∀ n : Nat, val x (tnl n) = (1 - x) ^ n
  | 0 => by
    rw [Int.pow_zero]
    show (1 : Int) + x * 0 = 1
    omega
  | n + 1 => by
    show val x (GC.lin 1 (tnl n) (-1) (0 :: tnl n)) = _
    rw [GC.lin_val]
    show 1 * val x (tnl n) + -1 * (0 + x * val x (tnl n)) = _
    rw [tnl_val x n, Int.pow_succ]
    grind
def exl : List Int → List Int
  | [] => []
  | c :: r => GC.lin c (tnl r.length) 1 (0 :: exl r)
theorem exl_co : ∀ (l : List Int) (t : Nat), GC.co (exl l) t = Ex l t
  | [], _ => rfl
  | c :: r, t => by
    show GC.co (GC.lin c (tnl r.length) 1 (0 :: exl r)) t = c * Tn r.length t + Sh (Ex r) t
    have e : fn (exl r) = Ex r := funext fun s => exl_co r s
    rw [GC.lin_co, co_cons0, tnl_co, e]
    omega
theorem exl_val (x : Int) : ∀ l : List Int, val x (exl l) = hv x l
  | [] => rfl
  | c :: r => by
    show val x (GC.lin c (tnl r.length) 1 (0 :: exl r)) = c * _ + x * _
    rw [GC.lin_val, tnl_val]
    show c * _ + 1 * (0 + x * val x (exl r)) = _
    rw [exl_val x r]
    omega
/-- the polynomial of a form, as from_form gives it -/
def pol (ds : List Int) : List Int := strip (fromK ds ds.length)
theorem pol_fn (ds : List Int) : fn (pol ds) = Ex ds := from_is ds
theorem pol_strip (ds : List Int) : strip (pol ds) = pol ds := strip_strip _
theorem pol_len (ds : List Int) : (pol ds).length ≤ ds.length := Nat.le_trans (strip_len _) (by rw [fromK_len]; exact Nat.le_refl _)
theorem pol_val (x : Int) (ds : List Int) : val x (pol ds) = hv x ds := by
  rw [← exl_val]
  refine GC.val_co fun t => ?_
  rw [exl_co]
  exact congrFun (pol_fn ds) t
theorem pol_of {u ds : List Int} (h : strip u = u) (e : fn u = Ex ds) : u = pol ds := row_ext h (pol_strip ds) (e.trans (pol_fn ds).symm)
theorem pol_rz (ds : List Int) : pol (rz 1 ds) = pol ds := row_ext (pol_strip _) (pol_strip _) (by rw [pol_fn, pol_fn, Ex_rz])
theorem Tn_zero : ∀ n : Nat, Tn n 0 = 1
  | 0 => rfl
  | n + 1 => by
    show Tn n 0 - Sh (Tn n) 0 = 1
    rw [Tn_zero n]
    rfl
theorem Ex_ne : ∀ l : List Int, (∃ k, l.getD k 0 ≠ 0) → ∃ k, Ex l k ≠ 0
  | [], ⟨k, h⟩ => absurd rfl h
  | c :: r, ⟨k, h⟩ => by
    by_cases c0 : c = 0
    · have hr : ∃ k, r.getD k 0 ≠ 0 := by
        cases k with
        | zero => exact absurd c0 h
        | succ k => exact ⟨k, h⟩
      obtain ⟨j, hj⟩ := Ex_ne r hr
      refine ⟨j + 1, ?_⟩
      show c * Tn r.length (j + 1) + Ex r j ≠ 0
      rw [c0]
      omega
    · refine ⟨0, ?_⟩
      show c * Tn r.length 0 + 0 ≠ 0
      rw [Tn_zero]
      omega
theorem pol_ne {ds : List Int} (h : ∃ k, ds.getD k 0 ≠ 0) : 0 < GC.dg (pol ds) := by
  obtain ⟨k, hk⟩ := Ex_ne ds h
  have : GC.co (pol ds) k ≠ 0 := by
    show fn (pol ds) k ≠ 0
    rw [pol_fn]
    exact hk
  exact Nat.lt_of_le_of_lt (Nat.zero_le _) (GC.dg_pos this)
/-! ### what reduce_rational takes of forms -/
theorem last_ne {l : List Int} (h : strip l = l) (ne : 0 < GC.dg l) : GC.co l (l.length - 1) ≠ 0 := by
  have e : GC.dg l = l.length := by
    unfold GC.dg
    exact congrArg List.length h
  rw [← e]
  exact GC.dg_top (by omega)
theorem cand_of {l : List Int} {M : Nat} (h : strip l = l) (ne : 0 < GC.dg l) (ln : l.length ≤ 59) (b : Bd M l) (hM : M < 2 ^ 300) : Cand l := ⟨ln, last_ne h ne, fun c hc => Nat.lt_of_le_of_lt (b.mem hc) (Nat.lt_trans hM (Nat.pow_lt_pow_right (by decide) (by decide)))⟩
theorem rin_of {f g : List Int} {M n : Nat} (hf : strip f = f) (hg : strip g = g) (ng : 0 < GC.dg g) (lf : f.length ≤ n) (lg : g.length ≤ n) (n59 : n ≤ 59) (bf : Bd M f) (bg : Bd M g) (hM : M < 2 ^ 300) (hR : Rb (2 * n) M < 2 ^ 3999) : RIn f g := by
  refine ⟨cand_of hg ng (by omega) bg hM, ?_⟩
  rcases Nat.eq_zero_or_pos (GC.dg f) with z | z
  · left
    have : (GC.tr f).length = 0 := z
    have e : strip f = [] := List.eq_nil_of_length_eq_zero this
    rw [← hf, e]
  · right
    refine ⟨cand_of hf z (by omega) bf hM, GC.Ends.of_rb z ng bf bg (Nat.lt_of_le_of_lt ?_ hR)⟩
    have d1 : GC.dg f ≤ f.length := GC.dg_le fun t ht => getD_out ht
    have d2 : GC.dg g ≤ g.length := GC.dg_le fun t ht => getD_out ht
    have d : GC.dg f + GC.dg g ≤ 2 * n := by omega
    unfold Rb
    have h1 : (GC.dg f + GC.dg g) * M ≤ 2 * n * M := Nat.mul_le_mul_right _ d
    refine Nat.mul_le_mul_left _ (Nat.mul_le_mul h1 ?_)
    exact Nat.le_trans (Nat.pow_le_pow_left (by omega) _) (Nat.pow_le_pow_right (by omega) d)
theorem pol_bd {ds : List Int} {m M : Nat} (hl : ds.length ≤ m) (h : ∀ c ∈ ds, c.natAbs ≤ M) : Bd (m * (M * 2 ^ m)) (pol ds) := fun t => by
  have := Ex_le (M := M) (L := m) ds h hl t
  show (fn (pol ds) t).natAbs ≤ _
  rw [pol_fn]
  exact Nat.le_trans this (Nat.mul_le_mul_right _ hl)
theorem WR.le {m : Nat} {ds es : List Int} (w : WR m ds es) : (∀ c ∈ ds, c.natAbs ≤ 2 ^ m) ∧ ∀ c ∈ es, c.natAbs ≤ 2 ^ m := by
  have key : ∀ k, k ≤ m → (ds.getD k 0).natAbs ≤ 2 ^ m ∧ (es.getD k 0).natAbs ≤ 2 ^ m := fun k hk => by
    obtain ⟨a, b, c⟩ := w.ok k hk
    have := ch_le m k
    have h2 : ((ch m k : Nat) : Int) ≤ ((2 ^ m : Nat) : Int) := by omega
    omega
  have mem : ∀ {l : List Int}, l.length = m + 1 → (∀ k, k ≤ m → (l.getD k 0).natAbs ≤ 2 ^ m) → ∀ c ∈ l, c.natAbs ≤ 2 ^ m := fun hl hk c hc => by
    obtain ⟨i, hi, rfl⟩ := List.getElem_of_mem hc
    have := hk i (by omega)
    rwa [List.getD_eq_getElem?_getD, List.getElem?_eq_getElem hi] at this
  exact ⟨mem w.dl fun k hk => (key k hk).1, mem w.el fun k hk => (key k hk).2⟩
theorem WR.ne {m : Nat} {ds es : List Int} (w : WR m ds es) : 0 < GC.dg (pol es) := by
  obtain ⟨k, _, h⟩ := w.some
  exact pol_ne ⟨k, h⟩
/-! ### recipes of one toss more, and two recipes side by side -/
theorem getD_rz (ds : List Int) (t : Nat) : (rz 1 ds).getD t 0 = ds.getD t 0 + Sh (fn ds) t := by
  have := zp_get 1 (ds ++ [0]) (0 :: ds) (by simp) t
  rw [fn_snoc0, fn_cons0] at this
  show fn (rz 1 ds) t = _
  unfold rz
  rw [this]
  show fn ds t + 1 * Sh (fn ds) t = fn ds t + Sh (fn ds) t
  omega
theorem WR.rz {m : Nat} {ds es : List Int} (w : WR m ds es) : WR (m + 1) (rz 1 ds) (rz 1 es) := by
  have lo : ∀ k, k ≤ m + 1 → 0 ≤ ds.getD k 0 ∧ ds.getD k 0 ≤ es.getD k 0 ∧ es.getD k 0 ≤ (ch m k : Nat) := fun k hk => by
    rcases Nat.lt_or_ge k (m + 1) with l | l
    · exact w.ok k (by omega)
    · rw [getD_out (g := ds) (by rw [w.dl]; omega), getD_out (g := es) (by rw [w.el]; omega)]
      omega
  refine ⟨by rw [rz_len, w.dl], by rw [rz_len, w.el], fun k hk => ?_, ?_⟩
  · rw [getD_rz, getD_rz]
    obtain ⟨a1, a2, a3⟩ := lo k hk
    cases k with
    | zero =>
      show 0 ≤ ds.getD 0 0 + 0 ∧ ds.getD 0 0 + 0 ≤ es.getD 0 0 + 0 ∧ es.getD 0 0 + 0 ≤ (ch (m + 1) 0 : Nat)
      rw [ch_zero] at *
      omega
    | succ k =>
      obtain ⟨b1, b2, b3⟩ := lo k (by omega)
      show 0 ≤ ds.getD (k + 1) 0 + ds.getD k 0 ∧ ds.getD (k + 1) 0 + ds.getD k 0 ≤ es.getD (k + 1) 0 + es.getD k 0 ∧ es.getD (k + 1) 0 + es.getD k 0 ≤ (ch (m + 1) (k + 1) : Nat)
      have : ch (m + 1) (k + 1) = ch m k + ch m (k + 1) := rfl
      omega
  · obtain ⟨k, hk, h⟩ := w.some
    refine ⟨k, by omega, ?_⟩
    rw [getD_rz]
    obtain ⟨a1, a2, a3⟩ := lo k (by omega)
    cases k with
    | zero =>
      show es.getD 0 0 + 0 ≠ 0
      omega
    | succ k =>
      obtain ⟨b1, b2, b3⟩ := lo k (by omega)
      show es.getD (k + 1) 0 + es.getD k 0 ≠ 0
      omega
theorem pf_mono {g g' : List Int} (hg : ∀ t, 0 ≤ g.getD t 0 ∧ g.getD t 0 ≤ g'.getD t 0) : ∀ (f f' : List Int), f.length = f'.length → (∀ t, 0 ≤ f.getD t 0 ∧ f.getD t 0 ≤ f'.getD t 0) → ∀ t, 0 ≤ pf f g t ∧ pf f g t ≤ pf f' g' t
  | [], [], _, _, t => ⟨Int.le_refl _, Int.le_refl _⟩
  | c :: f, c' :: f', hl, h, t => by
    have ih := pf_mono hg f f' (by simpa using hl) (fun t => h (t + 1))
    have h0 := h 0
    have h0 : 0 ≤ c ∧ c ≤ c' := h0
    have hgt := hg t
    have m1 : 0 ≤ c * g.getD t 0 := Int.mul_nonneg h0.1 hgt.1
    have m2 : c * g.getD t 0 ≤ c' * g'.getD t 0 := Int.mul_le_mul h0.2 hgt.2 hgt.1 (by omega)
    cases t with
    | zero =>
      show 0 ≤ c * g.getD 0 0 + 0 ∧ c * g.getD 0 0 + 0 ≤ c' * g'.getD 0 0 + 0
      omega
    | succ t =>
      obtain ⟨i1, i2⟩ := ih t
      show 0 ≤ c * g.getD (t + 1) 0 + pf f g t ∧ c * g.getD (t + 1) 0 + pf f g t ≤ c' * g'.getD (t + 1) 0 + pf f' g' t
      omega
theorem bin_co (n t : Nat) : GC.co (bin n) t = (ch n t : Nat) := by
  rcases Nat.lt_or_ge t (n + 1) with l | l
  · show (bin n).getD t 0 = _
    rw [List.getD_eq_getElem?_getD, bin_get (by omega)]
    rfl
  · show (bin n).getD t 0 = _
    rw [getD_out (by rw [bin_len]; exact l), ch_over n t (by omega)]
    rfl
theorem bin_val (x : Int) : ∀ n : Nat, val x (bin n) = (1 + x) ^ n
  | 0 => by
    have : bin 0 = [1] := rfl
    rw [this, Int.pow_zero]
    show 1 + x * 0 = 1
    omega
  | n + 1 => by
    have e : val x (bin (n + 1)) = val x (GC.lin 1 (bin n) 1 (0 :: bin n)) := GC.val_co fun t => by
      rw [GC.lin_co, bin_co, bin_co]
      cases t with
      | zero =>
        rw [ch_zero, ch_zero]
        show ((1 : Nat) : Int) = 1 * ((1 : Nat) : Int) + 1 * 0
        omega
      | succ t =>
        show ((ch n t + ch n (t + 1) : Nat) : Int) = 1 * _ + 1 * GC.co (bin n) t
        rw [bin_co]
        omega
    rw [e, GC.lin_val]
    show 1 * val x (bin n) + 1 * (0 + x * val x (bin n)) = _
    rw [bin_val x n, Int.pow_succ]
    grind
theorem bin_pf (m n t : Nat) : pf (bin m) (bin n) t = (ch (m + n) t : Nat) := by
  rw [← GC.mul_co, ← bin_co]
  refine GC.ident (fun x => ?_) t
  rw [GC.mul_val, bin_val, bin_val, bin_val, Int.pow_add]
/-! a bound that is true to size: three to the number of tosses -/
def wt : List Int → Int
  | [] => 0
  | c :: r => c * 2 ^ r.length + wt r
theorem wt_zp : ∀ x y : List Int, x.length = y.length → wt (zp 1 x y) = wt x + wt y
  | [], [], _ => rfl
  | a :: x, b :: y, h => by
    have h' : x.length = y.length := by simpa using h
    show (a + 1 * b) * 2 ^ (zp 1 x y).length + wt (zp 1 x y) = (a * 2 ^ x.length + wt x) + (b * 2 ^ y.length + wt y)
    rw [wt_zp x y h', ← h', show (zp 1 x y).length = x.length by simp [zp, h']]
    grind
theorem wt_snoc : ∀ l : List Int, wt (l ++ [0]) = 2 * wt l
  | [] => by simp [wt]
  | c :: r => by
    show c * 2 ^ (r ++ [0]).length + wt (r ++ [0]) = 2 * (c * 2 ^ r.length + wt r)
    rw [wt_snoc r, List.length_append, List.length_singleton, Int.pow_succ]
    grind
theorem wt_rz (l : List Int) : wt (rz 1 l) = 3 * wt l := by
  unfold rz
  rw [wt_zp _ _ (by simp), wt_snoc]
  show 2 * wt l + (0 * 2 ^ l.length + wt l) = _
  omega
theorem wt_mono : ∀ x y : List Int, x.length = y.length → (∀ t, x.getD t 0 ≤ y.getD t 0) → wt x ≤ wt y
  | [], [], _, _ => Int.le_refl _
  | a :: x, b :: y, h, hl => by
    have h' : x.length = y.length := by simpa using h
    have h1 := wt_mono x y h' fun t => hl (t + 1)
    have h0 : a ≤ b := hl 0
    show a * 2 ^ x.length + wt x ≤ b * 2 ^ y.length + wt y
    rw [← h']
    have : a * 2 ^ x.length ≤ b * 2 ^ x.length := Int.mul_le_mul_of_nonneg_right h0 (Int.le_of_lt (Int.pow_pos (by decide)))
    omega
theorem Ex_wt : ∀ (l : List Int), (∀ t, 0 ≤ l.getD t 0) → 0 ≤ wt l ∧ ∀ t, ((Ex l t).natAbs : Int) ≤ wt l
  | [], _ => ⟨Int.le_refl _, fun t => Int.le_refl _⟩
  | c :: r, h => by
    obtain ⟨w0, ih⟩ := Ex_wt r fun t => h (t + 1)
    have c0 : 0 ≤ c := h 0
    have p0 : (0 : Int) < 2 ^ r.length := Int.pow_pos (by decide)
    have cp : 0 ≤ c * 2 ^ r.length := Int.mul_nonneg c0 (Int.le_of_lt p0)
    refine ⟨?_, fun t => ?_⟩
    · show 0 ≤ c * 2 ^ r.length + wt r
      omega
    · show ((c * Tn r.length t + Sh (Ex r) t).natAbs : Int) ≤ c * 2 ^ r.length + wt r
      have b1 : ((c * Tn r.length t).natAbs : Int) ≤ c * 2 ^ r.length := by
        rw [Int.natAbs_mul]
        have h1 := Tn_le r.length t
        have h2 : (c.natAbs * (Tn r.length t).natAbs) ≤ c.natAbs * 2 ^ r.length := Nat.mul_le_mul_left _ h1
        have h3 : ((c.natAbs * 2 ^ r.length : Nat) : Int) = c * 2 ^ r.length := by
          rw [Int.natCast_mul, Int.natAbs_of_nonneg c0, Int.natCast_pow]
          rfl
        omega
      have b2 : ((Sh (Ex r) t).natAbs : Int) ≤ wt r := by
        cases t with
        | zero => exact w0
        | succ t => exact ih t
      omega
theorem bin_rz (m : Nat) : bin (m + 1) = rz 1 (bin m) := by
  refine M3.ext_getD (by rw [bin_len, rz_len, bin_len]) fun t ht => ?_
  rw [getD_rz]
  have e := bin_co (m + 1) t
  have e : (bin (m + 1)).getD t 0 = (ch (m + 1) t : Nat) := e
  rw [e]
  have e2 : (bin m).getD t 0 = (ch m t : Nat) := bin_co m t
  rw [e2]
  cases t with
  | zero =>
    rw [ch_zero, ch_zero]
    rfl
  | succ t =>
    show _ = _ + GC.co (bin m) t
    rw [bin_co]
    show ((ch m t + ch m (t + 1) : Nat) : Int) = _
    omega
theorem wt_bin : ∀ m : Nat, wt (bin m) = 3 ^ m
  | 0 => rfl
  | m + 1 => by rw [bin_rz, wt_rz, wt_bin m, Int.pow_succ, Int.mul_comm]
theorem WR.bd {m : Nat} {ds es : List Int} (w : WR m ds es) : Bd (3 ^ m) (pol ds) ∧ Bd (3 ^ m) (pol es) := by
  have key : ∀ l : List Int, l.length = m + 1 → (∀ k, k ≤ m → 0 ≤ l.getD k 0 ∧ l.getD k 0 ≤ (ch m k : Nat)) → Bd (3 ^ m) (pol l) := fun l hl h t => by
    have lo : ∀ t, 0 ≤ l.getD t 0 ∧ l.getD t 0 ≤ (bin m).getD t 0 := fun t => by
      rcases Nat.lt_or_ge t (m + 1) with lt | ge
      · have e : (bin m).getD t 0 = (ch m t : Nat) := bin_co m t
        rw [e]
        exact h t (by omega)
      · rw [getD_out (g := l) (by omega), getD_out (g := bin m) (by rw [bin_len]; exact ge)]
        omega
    have b := (Ex_wt l fun t => (lo t).1).2 t
    have c := wt_mono l (bin m) (by rw [hl, bin_len]) fun t => (lo t).2
    rw [wt_bin] at c
    show (fn (pol l) t).natAbs ≤ _
    rw [pol_fn]
    have e3 : ((3 ^ m : Nat) : Int) = (3 : Int) ^ m := by simp
    omega
  exact ⟨key ds w.dl fun k hk => by have := w.ok k hk; omega, key es w.el fun k hk => by have := w.ok k hk; omega⟩
theorem rb30 : ∀ m, m ≤ 30 → Rb (2 * (m + 1)) (3 ^ m) < 2 ^ 3999 ∧ 3 ^ m < 2 ^ 300 := by
  unfold Rb
  decide +kernel
theorem WR.rin {m : Nat} {ds es : List Int} (w : WR m ds es) (hm : m ≤ 30) : RIn (pol ds) (pol es) := by
  obtain ⟨h1, h2⟩ := rb30 m hm
  exact rin_of (n := m + 1) (pol_strip _) (pol_strip _) w.ne (Nat.le_trans (pol_len _) (Nat.le_of_eq w.dl)) (Nat.le_trans (pol_len _) (Nat.le_of_eq w.el)) (by omega) w.bd.1 w.bd.2 h2 h1
theorem WR.conv {m n : Nat} {ds es ds2 es2 : List Int} (w : WR m ds es) (w2 : WR n ds2 es2) : WR (m + n) (cv ds ds2) (cv es es2) := by
  have all : ∀ {m : Nat} {ds es : List Int}, WR m ds es → ∀ t, (0 ≤ ds.getD t 0 ∧ ds.getD t 0 ≤ es.getD t 0) ∧ (0 ≤ es.getD t 0 ∧ es.getD t 0 ≤ (bin m).getD t 0) := fun {m ds es} w t => by
    rcases Nat.lt_or_ge t (m + 1) with l | l
    · obtain ⟨a, b, c⟩ := w.ok t (by omega)
      have : (bin m).getD t 0 = (ch m t : Nat) := bin_co m t
      omega
    · rw [getD_out (g := ds) (by rw [w.dl]; omega), getD_out (g := es) (by rw [w.el]; omega), getD_out (g := bin m) (by rw [bin_len]; omega)]
      omega
  have l1 : (cv ds ds2).length = m + n + 1 := by rw [cv_len, w.dl, w2.dl]; omega
  have l2 : (cv es es2).length = m + n + 1 := by rw [cv_len, w.el, w2.el]; omega
  have g1 : ∀ k, k ≤ m + n → (cv ds ds2).getD k 0 = pf ds ds2 k := fun k hk => by
    unfold cv
    rw [List.getD_eq_getElem?_getD, List.getElem?_map, List.getElem?_range (by rw [w.dl, w2.dl]; omega)]
    rfl
  have g2 : ∀ k, k ≤ m + n → (cv es es2).getD k 0 = pf es es2 k := fun k hk => by
    unfold cv
    rw [List.getD_eq_getElem?_getD, List.getElem?_map, List.getElem?_range (by rw [w.el, w2.el]; omega)]
    rfl
  refine ⟨l1, l2, fun k hk => ?_, ?_⟩
  · rw [g1 k hk, g2 k hk]
    have a := pf_mono (fun t => (all w2 t).1) ds es (by rw [w.dl, w.el]) (fun t => (all w t).1) k
    have b := pf_mono (fun t => (all w2 t).2) es (bin m) (by rw [w.el, bin_len]) (fun t => (all w t).2) k
    rw [bin_pf] at b
    exact ⟨a.1, a.2, b.2⟩
  · have hd : 0 < GC.dg (GC.mul es es2) := by
      have h1 : 0 < GC.dg es := by
        obtain ⟨k, _, h⟩ := w.some
        exact Nat.lt_of_le_of_lt (Nat.zero_le _) (GC.dg_pos h)
      have h2 : 0 < GC.dg es2 := by
        obtain ⟨k, _, h⟩ := w2.some
        exact Nat.lt_of_le_of_lt (Nat.zero_le _) (GC.dg_pos h)
      rw [GC.mul_pos_dg h1 h2]
      omega
    have top := GC.dg_top (l := GC.mul es es2) (n := GC.dg (GC.mul es es2) - 1) (by omega)
    rw [GC.mul_co] at top
    generalize GC.dg (GC.mul es es2) - 1 = k at top
    have hk : k ≤ m + n := by
      refine Nat.le_of_not_lt fun h => top (pf_zero es2 es k ?_)
      rw [w.el, w2.el]
      omega
    exact ⟨k, hk, by rw [g2 k hk]; exact top⟩
end Z

set_option Elab.async false
set_option linter.all false
set_option maxRecDepth 100000
set_option maxHeartbeats 4000000
set_option exponentiation.threshold 20000
namespace Z
open PySem PySem.Spec PyProof.Rows L2 GG M3 M4
theorem toF_le {f : List Int} (hf : Bd (2 ^ 101) f) : ∀ k, Le (3 ^ k * 2 ^ 101) (fn (toF f k))
  | 0 => fun t => Nat.zero_le _
  | k + 1 => fun t => by
    have h1 := al_le (rz_ne 1 (toF f k)) (rz_le (toF_le hf k)) (hf k) t
    refine Nat.le_trans h1 ?_
    have h2 : 1 ≤ 3 ^ k := Nat.one_le_pow _ _ (by decide)
    have h3 : 3 ^ (k + 1) = 3 * 3 ^ k := Nat.pow_succ'
    have h4 : 1 * 2 ^ 101 ≤ 3 ^ k * 2 ^ 101 := Nat.mul_le_mul_right _ h2
    rw [h3, Nat.mul_assoc]
    omega
theorem to_is {f : List Int} {n : Nat} (h : f.length ≤ n + 1) : Ex (toF f (n + 1)) = fn f := by
  rw [toF_ex]
  funext t
  show (if t < n + 1 then f.getD t 0 else 0) = f.getD t 0
  by_cases lt : t < n + 1
  · rw [if_pos lt]
  · rw [if_neg lt, getD_out (by omega)]
/-! ### one form for a row and a degree -/
theorem Ex_hd (c : Int) (r : List Int) : Ex (c :: r) 0 = c := by
  show c * Tn r.length 0 + 0 = c
  rw [Tn_zero]
  omega
theorem Ex_inj : ∀ (f g : List Int), f.length = g.length → Ex f = Ex g → f = g
  | [], [], _, _ => rfl
  | c :: r, d :: s, h, e => by
    have h' : r.length = s.length := by simpa using h
    have e0 := congrFun e 0
    rw [Ex_hd, Ex_hd] at e0
    subst e0
    have : Ex r = Ex s := funext fun t => by
      have := congrFun e (t + 1)
      have : c * Tn r.length (t + 1) + Ex r t = c * Tn s.length (t + 1) + Ex s t := this
      rw [h'] at this
      omega
    rw [Ex_inj r s h' this]
end Z

set_option linter.all false
set_option maxRecDepth 100000
/-! values of forms at two numbers; the sign of a divisor of a form without negative entries -/
namespace HG
def hG (y x : Int) : List Int → Int
  | [] => 0
  | c :: r => c * y ^ r.length + x * hG y x r
def sA : List Int → Nat
  | [] => 0
  | c :: r => c.natAbs + sA r
def LowP : List Int → Prop
  | [] => False
  | c :: r => 0 < c ∨ (c = 0 ∧ LowP r)
theorem natAbs_pow (y n : Nat) : ((y : Int) ^ n).natAbs = y ^ n := by
  rw [Int.natAbs_pow, Int.natAbs_natCast]
/-- how great a value is -/
theorem size {K Y x : Nat} (hx : x ≤ K * Y) (hK : 1 ≤ K) : ∀ l : List Int, Y * (hG Y x l).natAbs ≤ sA l * (K * Y) ^ l.length
  | [] => by simp [hG]
  | c :: r => by
    have ih := size hx hK r
    show Y * (c * (Y : Int) ^ r.length + x * hG Y x r).natAbs ≤ (c.natAbs + sA r) * (K * Y) ^ (r.length + 1)
    have h1 : (c * (Y : Int) ^ r.length + x * hG Y x r).natAbs ≤ c.natAbs * Y ^ r.length + x * (hG Y x r).natAbs := by
      have := Int.natAbs_add_le (c * (Y : Int) ^ r.length) (x * hG Y x r)
      rw [Int.natAbs_mul, Int.natAbs_mul, natAbs_pow, Int.natAbs_natCast] at this
      exact this
    have hYK : Y ≤ K * Y := Nat.le_mul_of_pos_left Y hK
    have h2 : Y * (c.natAbs * Y ^ r.length) ≤ c.natAbs * (K * Y) ^ (r.length + 1) := by
      rw [Nat.pow_succ, Nat.mul_left_comm, Nat.mul_comm Y]
      exact Nat.mul_le_mul_left _ (Nat.mul_le_mul (Nat.pow_le_pow_left hYK _) hYK)
    have h3 : Y * (x * (hG Y x r).natAbs) ≤ sA r * (K * Y) ^ (r.length + 1) := by
      have h := Nat.mul_le_mul hx ih
      have e : K * Y * (sA r * (K * Y) ^ r.length) = sA r * ((K * Y) ^ r.length * (K * Y)) := by rw [Nat.mul_left_comm, Nat.mul_comm (K * Y)]
      rw [Nat.mul_left_comm, Nat.pow_succ, ← e]
      exact h
    calc Y * (c * (Y : Int) ^ r.length + x * hG Y x r).natAbs ≤ Y * (c.natAbs * Y ^ r.length + x * (hG Y x r).natAbs) := Nat.mul_le_mul_left _ h1
      _ = Y * (c.natAbs * Y ^ r.length) + Y * (x * (hG Y x r).natAbs) := Nat.mul_add _ _ _
      _ ≤ c.natAbs * (K * Y) ^ (r.length + 1) + sA r * (K * Y) ^ (r.length + 1) := Nat.add_le_add h2 h3
      _ = (c.natAbs + sA r) * (K * Y) ^ (r.length + 1) := (Nat.add_mul _ _ _).symm
/-- how much a value changes in a step -/
theorem step {K Y n : Nat} (hx : n + 1 ≤ K * Y) (hK : 1 ≤ K) : ∀ l : List Int, Y * (Y * (hG Y ((n + 1 : Nat) : Int) l - hG Y n l).natAbs) ≤ l.length * sA l * (K * Y) ^ l.length
  | [] => by simp [hG]
  | c :: r => by
    have ih := step hx hK r
    have sz := size (Y := Y) (x := n + 1) hx hK r
    have e : hG Y ((n + 1 : Nat) : Int) (c :: r) - hG Y n (c :: r) = hG Y ((n + 1 : Nat) : Int) r + n * (hG Y ((n + 1 : Nat) : Int) r - hG Y n r) := by
      show (c * (Y : Int) ^ r.length + ((n + 1 : Nat) : Int) * hG Y ((n + 1 : Nat) : Int) r) - (c * (Y : Int) ^ r.length + n * hG Y n r) = _
      rw [Int.mul_sub, Int.natCast_add, Int.add_mul]
      omega
    rw [e]
    generalize hG Y ((n + 1 : Nat) : Int) r - hG Y n r = dl at *
    generalize hG Y ((n + 1 : Nat) : Int) r = v at *
    have h1 : (v + n * dl).natAbs ≤ v.natAbs + n * dl.natAbs := by
      have := Int.natAbs_add_le v (n * dl)
      rw [Int.natAbs_mul, Int.natAbs_natCast] at this
      exact this
    have hYK : Y ≤ K * Y := Nat.le_mul_of_pos_left Y hK
    have hn : n ≤ K * Y := by omega
    have h2 : Y * (Y * v.natAbs) ≤ sA r * (K * Y) ^ (r.length + 1) := by
      rw [Nat.pow_succ, ← Nat.mul_assoc (sA r), Nat.mul_comm _ (K * Y)]
      exact Nat.mul_le_mul hYK sz
    have h3 : Y * (Y * (n * dl.natAbs)) ≤ r.length * sA r * (K * Y) ^ (r.length + 1) := by
      rw [Nat.mul_left_comm Y n, Nat.mul_left_comm Y n, Nat.pow_succ, ← Nat.mul_assoc (r.length * sA r), Nat.mul_comm _ (K * Y)]
      exact Nat.mul_le_mul hn ih
    have h4 : Y * (Y * (v + n * dl).natAbs) ≤ Y * (Y * v.natAbs) + Y * (Y * (n * dl.natAbs)) := by
      rw [← Nat.mul_add, ← Nat.mul_add]
      exact Nat.mul_le_mul_left _ (Nat.mul_le_mul_left _ h1)
    show Y * (Y * (v + n * dl).natAbs) ≤ (r.length + 1) * (c.natAbs + sA r) * (K * Y) ^ (r.length + 1)
    have h5 : sA r * (K * Y) ^ (r.length + 1) + r.length * sA r * (K * Y) ^ (r.length + 1) ≤ (r.length + 1) * (c.natAbs + sA r) * (K * Y) ^ (r.length + 1) := by
      rw [← Nat.add_mul]
      refine Nat.mul_le_mul_right _ ?_
      have : sA r + r.length * sA r = (r.length + 1) * sA r := by rw [Nat.add_mul, Nat.one_mul, Nat.add_comm]
      rw [this]
      exact Nat.mul_le_mul_left _ (Nat.le_add_left _ _)
    omega
/-- near the left end the first entry rules -/
theorem near : ∀ (l : List Int), LowP l → ∀ {x y : Nat}, 0 < x → x * (sA l + 1) ≤ y → 0 < hG y x l
  | [], h, _, _, _, _ => h.elim
  | c :: r, h, x, y, hx, hy => by
    show 0 < c * (y : Int) ^ r.length + x * hG y x r
    have hy0 : 0 < y := Nat.lt_of_lt_of_le (Nat.mul_pos hx (Nat.succ_pos _)) hy
    have sm : x * (sA r + 1) ≤ y := Nat.le_trans (Nat.mul_le_mul_left _ (by show sA r + 1 ≤ c.natAbs + sA r + 1; omega)) hy
    rcases h with h | ⟨rfl, h⟩
    · have sz := size (K := 1) (Y := y) (x := x) (by
        have : x * 1 ≤ x * (sA r + 1) := Nat.mul_le_mul_left _ (by omega)
        omega) (Nat.le_refl _) r
      rw [Nat.one_mul] at sz
      have sz2 : y * (x * (hG y x r).natAbs) ≤ (x * sA r) * y ^ r.length := by
        rw [Nat.mul_left_comm, Nat.mul_assoc]
        exact Nat.mul_le_mul_left _ sz
      have lt : x * sA r < y := by
        have : x * (sA r + 1) = x * sA r + x := Nat.mul_succ _ _
        omega
      have p0 : 0 < y ^ r.length := Nat.pow_pos hy0
      have lt2 : y * (x * (hG y x r).natAbs) < y * y ^ r.length := Nat.lt_of_le_of_lt sz2 ((Nat.mul_lt_mul_right p0).mpr lt)
      have lt3 : x * (hG y x r).natAbs < y ^ r.length := Nat.lt_of_mul_lt_mul_left lt2
      have lt4 : ((x : Int) * hG y x r).natAbs < y ^ r.length := by rw [Int.natAbs_mul, Int.natAbs_natCast]; exact lt3
      have c1 : (y : Int) ^ r.length ≤ c * (y : Int) ^ r.length := by
        have : (1 : Int) * (y : Int) ^ r.length ≤ c * (y : Int) ^ r.length := Int.mul_le_mul_of_nonneg_right (by omega) (by rw [← Int.natCast_pow]; omega)
        omega
      rw [← Int.natCast_pow] at *
      omega
    · have := near r h hx sm
      have := Int.mul_pos (show (0 : Int) < x by omega) this
      omega
/-- between a value above zero and one that is not there is a step down -/
theorem cross (f : Nat → Int) (a : Nat) : ∀ k, 0 < f a → ¬0 < f (a + k) → ∃ n, a ≤ n ∧ n < a + k ∧ 0 < f n ∧ ¬0 < f (n + 1)
  | 0, h, h' => absurd h h'
  | k + 1, h, h' => by
    by_cases g : 0 < f (a + k)
    · exact ⟨a + k, by omega, by omega, g, h'⟩
    · obtain ⟨n, h1, h2, h3, h4⟩ := cross f a k h g
      exact ⟨n, h1, by omega, h3, h4⟩
theorem nonneg {x y : Nat} : ∀ l : List Int, (∀ c ∈ l, 0 ≤ c) → 0 ≤ hG y x l
  | [], _ => Int.le_refl _
  | c :: r, h => by
    have h1 := nonneg (x := x) (y := y) r fun d hd => h d (List.mem_cons_of_mem _ hd)
    have h2 := h c List.mem_cons_self
    show 0 ≤ c * (y : Int) ^ r.length + x * hG y x r
    have h3 := Int.mul_nonneg h2 (show (0 : Int) ≤ (y : Int) ^ r.length by rw [← Int.natCast_pow]; omega)
    have h4 := Int.mul_nonneg (show (0 : Int) ≤ x by omega) h1
    omega
/-- a form without negative entries is not small -/
theorem great {q x y : Nat} (hq : 1 ≤ q) (hx : y ≤ q * x) : ∀ l : List Int, (∀ c ∈ l, 0 ≤ c) → (∃ c ∈ l, 1 ≤ c) → (y : Int) ^ l.length ≤ (q : Int) ^ l.length * (y * hG y x l)
  | [], _, h => by
    obtain ⟨c, hc, _⟩ := h
    exact absurd hc List.not_mem_nil
  | c :: r, h, h' => by
    show (y : Int) ^ (r.length + 1) ≤ (q : Int) ^ (r.length + 1) * (y * (c * (y : Int) ^ r.length + x * hG y x r))
    have nn := nonneg (x := x) (y := y) r fun d hd => h d (List.mem_cons_of_mem _ hd)
    have c0 := h c List.mem_cons_self
    have hY : (0 : Int) ≤ (y : Int) ^ r.length := by rw [← Int.natCast_pow]; omega
    have hQ : (1 : Int) ≤ (q : Int) ^ r.length := by
      have := Nat.one_le_pow r.length q hq
      rw [← Int.natCast_pow]
      omega
    have hQ1 : (1 : Int) ≤ (q : Int) ^ (r.length + 1) := by
      have := Nat.one_le_pow (r.length + 1) q hq
      rw [← Int.natCast_pow]
      omega
    have hxn : (0 : Int) ≤ x * hG y x r := Int.mul_nonneg (by omega) nn
    have hcy : 0 ≤ c * (y : Int) ^ r.length := Int.mul_nonneg c0 hY
    by_cases c1 : 1 ≤ c
    · have e1 : (y : Int) ^ r.length ≤ c * (y : Int) ^ r.length + x * hG y x r := by
        have : (1 : Int) * (y : Int) ^ r.length ≤ c * (y : Int) ^ r.length := Int.mul_le_mul_of_nonneg_right c1 hY
        omega
      have e2 : (y : Int) * (y : Int) ^ r.length ≤ y * (c * (y : Int) ^ r.length + x * hG y x r) := Int.mul_le_mul_of_nonneg_left e1 (by omega)
      have e0 : 0 ≤ (y : Int) * (c * (y : Int) ^ r.length + x * hG y x r) := Int.mul_nonneg (by omega) (by omega)
      have e3 : 1 * ((y : Int) * (c * (y : Int) ^ r.length + x * hG y x r)) ≤ (q : Int) ^ (r.length + 1) * (y * (c * (y : Int) ^ r.length + x * hG y x r)) := Int.mul_le_mul_of_nonneg_right hQ1 e0
      rw [Int.pow_succ, Int.mul_comm ((y : Int) ^ r.length)]
      omega
    · have h'' : ∃ c ∈ r, 1 ≤ c := by
        obtain ⟨d, hd, h1⟩ := h'
        rcases List.mem_cons.mp hd with rfl | hd
        · exact absurd h1 c1
        · exact ⟨d, hd, h1⟩
      have ih := great hq hx r (fun d hd => h d (List.mem_cons_of_mem _ hd)) h''
      have e1 : (y : Int) ^ (r.length + 1) ≤ y * ((q : Int) ^ r.length * (y * hG y x r)) := by
        rw [Int.pow_succ, Int.mul_comm]
        exact Int.mul_le_mul_of_nonneg_left ih (by omega)
      have e2 : (y : Int) * ((q : Int) ^ r.length * (y * hG y x r)) ≤ (q * x) * ((q : Int) ^ r.length * (y * hG y x r)) := by
        refine Int.mul_le_mul_of_nonneg_right (by rw [← Int.natCast_mul]; omega) ?_
        exact Int.mul_nonneg (by omega) (Int.mul_nonneg (by omega) nn)
      have e3 : ((q : Int) * x) * ((q : Int) ^ r.length * (y * hG y x r)) = (q : Int) ^ (r.length + 1) * (y * (x * hG y x r)) := by
        rw [Int.pow_succ]
        grind
      have e4 : (q : Int) ^ (r.length + 1) * (y * (x * hG y x r)) ≤ (q : Int) ^ (r.length + 1) * (y * (c * (y : Int) ^ r.length + x * hG y x r)) := by
        refine Int.mul_le_mul_of_nonneg_left (Int.mul_le_mul_of_nonneg_left (by omega) (by omega)) (by omega)
      omega
/-- every factor of such a form that begins above zero stays above zero -/
theorem pos {V W E : List Int} {a : Nat} (hE : ∀ x y : Nat, 0 < x → 0 < y → ((x : Int) + y) ^ a * (hG y x V * hG y x W) = hG y x E) (len : E.length + 1 = a + V.length + W.length)
    (nn : ∀ c ∈ E, 0 ≤ c) (some : ∃ c ∈ E, 1 ≤ c) (low : LowP V) {x y : Nat} (hx : 0 < x) (hy : 0 < y) : 0 < hG y x V := by
  refine Classical.byContradiction fun neg => ?_
  -- the places
  obtain ⟨q, hq⟩ : ∃ q, q = sA V + 1 := ⟨_, rfl⟩
  obtain ⟨K, hK⟩ : ∃ K, K = x + 1 := ⟨_, rfl⟩
  have far : y < x * q := Nat.lt_of_not_le fun h => neg (near V low hx (by rw [← hq]; exact h))
  have q1 : 1 ≤ q := by omega
  obtain ⟨C, hC⟩ : ∃ C, C = (2 * K) ^ a * (V.length * sA V * K ^ V.length * (sA W * K ^ W.length)) := ⟨_, rfl⟩
  obtain ⟨N, hN⟩ : ∃ N, N = q ^ E.length * C + 1 := ⟨_, rfl⟩
  obtain ⟨Y, hY⟩ : ∃ Y, Y = q * y * N := ⟨_, rfl⟩
  have N0 : 0 < N := by omega
  have qy : 1 ≤ q * y := Nat.mul_pos q1 hy
  have Y0 : 0 < Y := by rw [hY]; exact Nat.mul_pos qy N0
  -- homogeneous
  have hom : ∀ (k u v : Nat) (l : List Int), hG ((k * v : Nat) : Int) ((k * u : Nat) : Int) l * k = (k : Int) ^ l.length * hG v u l := by
    intro k u v l
    induction l with
    | nil => simp [hG]
    | cons c r ih =>
      show (c * ((k * v : Nat) : Int) ^ r.length + ((k * u : Nat) : Int) * hG ((k * v : Nat) : Int) ((k * u : Nat) : Int) r) * k = (k : Int) ^ (r.length + 1) * (c * (v : Int) ^ r.length + u * hG v u r)
      have e1 : ((k * v : Nat) : Int) ^ r.length = (k : Int) ^ r.length * (v : Int) ^ r.length := by rw [Int.natCast_mul, Int.mul_pow]
      have e2 : ((k * u : Nat) : Int) = k * u := Int.natCast_mul _ _
      rw [e1, e2, Int.pow_succ]
      rw [e2] at ih
      generalize hG ((k * v : Nat) : Int) (k * u) r = A at ih ⊢
      generalize hG v u r = B at ih ⊢
      have : (k : Int) * u * A * k = k * u * ((k : Int) ^ r.length * B) := by rw [← ih]; grind
      grind
  have start : 0 < hG Y ((y * N : Nat) : Int) V := near V low (Nat.mul_pos hy N0) (by rw [← hq, hY, Nat.mul_comm q y, Nat.mul_right_comm]; exact Nat.le_refl _)
  have stop : ¬0 < hG Y ((q * x * N : Nat) : Int) V := by
    intro h
    have e := hom (q * N) x y V
    rw [show q * N * y = Y by rw [hY, Nat.mul_right_comm], show q * N * x = q * x * N by rw [Nat.mul_right_comm]] at e
    have k0 : (0 : Int) < (q * N : Nat) := by have := Nat.mul_pos (show 0 < q by omega) N0; omega
    have h1 : 0 < hG Y ((q * x * N : Nat) : Int) V * (q * N : Nat) := Int.mul_pos h k0
    rw [e] at h1
    have h2 : (0 : Int) < ((q * N : Nat) : Int) ^ V.length := Int.pow_pos k0
    exact neg (Int.lt_of_mul_lt_mul_left (by rw [Int.mul_zero]; exact h1) (Int.le_of_lt h2))
  have dist : y * N ≤ q * x * N := Nat.mul_le_mul_right _ (by rw [Nat.mul_comm q x]; omega)
  obtain ⟨n, h1, h2, h3, h4⟩ := cross (fun n => hG Y (n : Int) V) (y * N) (q * x * N - y * N) start (by rw [show y * N + (q * x * N - y * N) = q * x * N by omega]; exact stop)
  have n0 : 0 < n := Nat.lt_of_lt_of_le (Nat.mul_pos hy N0) h1
  have top : n + 1 ≤ K * Y := by
    have e : q * x * N ≤ x * Y := by
      rw [hY, show q * x * N = x * (q * N) by rw [Nat.mul_comm q x, Nat.mul_assoc]]
      refine Nat.mul_le_mul_left _ (Nat.mul_le_mul_right _ ?_)
      exact Nat.le_mul_of_pos_right q hy
    rw [hK, Nat.add_mul]
    omega
  have K1 : 1 ≤ K := by omega
  -- V is small there
  have st := step top K1 V
  have sV : Y * (Y * (hG Y n V).natAbs) ≤ V.length * sA V * (K * Y) ^ V.length := by
    refine Nat.le_trans (Nat.mul_le_mul_left _ (Nat.mul_le_mul_left _ ?_)) st
    have h3 : 0 < hG Y (n : Int) V := h3
    have h4 : ¬0 < hG Y ((n + 1 : Nat) : Int) V := h4
    omega
  have sW := size (Y := Y) (x := n) (by omega) K1 W
  have gr := great (q := q) (x := n) (y := Y) q1 (by
    have : q * (y * N) ≤ q * n := Nat.mul_le_mul_left _ h1
    rw [hY, Nat.mul_assoc]
    exact this) E nn some
  rw [← hE n Y n0 Y0] at gr
  have gr2 : Y ^ E.length ≤ q ^ E.length * (Y * ((n + Y) ^ a * ((hG Y n V).natAbs * (hG Y n W).natAbs))) := by
    have e0 : (0 : Int) ≤ (Y : Int) ^ E.length := by rw [← Int.natCast_pow]; omega
    have e1 : ((Y : Int) ^ E.length).natAbs ≤ ((q : Int) ^ E.length * (Y * (((n : Int) + Y) ^ a * (hG Y n V * hG Y n W)))).natAbs := by
      generalize (Y : Int) ^ E.length = A at e0 gr ⊢
      generalize (q : Int) ^ E.length * (Y * (((n : Int) + Y) ^ a * (hG Y n V * hG Y n W))) = B at gr ⊢
      omega
    rw [Int.natAbs_mul, Int.natAbs_mul, Int.natAbs_mul, Int.natAbs_mul, ← Int.natCast_add, natAbs_pow, natAbs_pow, natAbs_pow, Int.natAbs_natCast] at e1
    exact e1
  generalize (hG Y n V).natAbs = A at sV gr2
  generalize (hG Y n W).natAbs = B at sW gr2
  have nY : n + Y ≤ 2 * K * Y := by
    have : Y ≤ K * Y := Nat.le_mul_of_pos_left Y K1
    rw [Nat.mul_assoc]
    omega
  have big : Y ^ E.length * Y * Y ≤ q ^ E.length * ((2 * K * Y) ^ a * (V.length * sA V * (K * Y) ^ V.length * (sA W * (K * Y) ^ W.length))) := by
    have e1 : Y ^ E.length * Y * Y ≤ q ^ E.length * (Y * ((n + Y) ^ a * (A * B))) * Y * Y := Nat.mul_le_mul_right _ (Nat.mul_le_mul_right _ gr2)
    have e2 : q ^ E.length * (Y * ((n + Y) ^ a * (A * B))) * Y * Y = q ^ E.length * ((n + Y) ^ a * (Y * (Y * A) * (Y * B))) := by ac_rfl
    rw [e2] at e1
    exact Nat.le_trans e1 (Nat.mul_le_mul_left _ (Nat.mul_le_mul (Nat.pow_le_pow_left nY _) (Nat.mul_le_mul sV sW)))
  have e3 : q ^ E.length * ((2 * K * Y) ^ a * (V.length * sA V * (K * Y) ^ V.length * (sA W * (K * Y) ^ W.length))) = q ^ E.length * C * (Y ^ E.length * Y) := by
    rw [← Nat.pow_succ, show E.length.succ = a + (V.length + W.length) by omega, Nat.pow_add, Nat.pow_add, hC, Nat.mul_pow (2 * K) Y, Nat.mul_pow K Y, Nat.mul_pow K Y]
    ac_rfl
  rw [e3] at big
  have pY : 0 < Y ^ E.length * Y := Nat.mul_pos (Nat.pow_pos Y0) Y0
  rw [Nat.mul_comm (q ^ E.length * C)] at big
  have fin := Nat.le_of_mul_le_mul_left big pY
  have : N ≤ Y := by
    rw [hY]
    exact Nat.le_mul_of_pos_left N qy
  omega
end HG

set_option Elab.async false
set_option linter.all false
set_option maxRecDepth 100000
set_option maxHeartbeats 4000000
set_option exponentiation.threshold 20000
namespace Z
open PySem PySem.Spec PyProof.Rows L2 GG M3 M4 ZC
section
variable {P : Program} {w : World} {K : PySem.W.Frag} {mg : Str → Option Value} {base : Heap}
def Pair (H : Hp) (t : Addr) (u v : List Int) : Prop := ∃ a b, H t = some (.tup [.ref a, .ref b]) ∧ H a = some (.tup (u.map V.int)) ∧ H b = some (.tup (v.map V.int))
theorem Pair.same {H H' : Hp} {t : Addr} {u v : List Int} (h : Pair H t u v) (s : Same H H') : Pair H' t u v := by
  obtain ⟨a, b, h1, h2, h3⟩ := h
  exact ⟨a, b, s _ _ h1, s _ _ h2, s _ _ h3⟩
theorem Pair.but {H H' : Hp} {p l t : Addr} {u v : List Int} (h : Pair H t u v) (q : Pen H p l) (b : But p H H') : Pair H' t u v := by
  obtain ⟨x, y, h1, h2, h3⟩ := h
  exact ⟨x, y, b.mem (q.notTup h1) h1, b.mem (q.notTup h2) h2, b.mem (q.notTup h3) h3⟩
def pairD (u v : List Int) : PyData := .tuple [.tuple (u.map PyData.int), .tuple (v.map PyData.int)]
theorem Pair.dp {H : Hp} {t : Addr} {u v : List Int} (h : Pair H t u v) : Dp K H (.ref t) (pairD u v) := by
  obtain ⟨a, b, h1, h2, h3⟩ := h
  exact .tup (SqT.of h1) (.cons (.tup (SqT.of h2) (dpInts u)) (.cons (.tup (SqT.of h3) (dpInts v)) .nil))
theorem pair_shaped (u v : List Int) : SeqAt.shaped (pairD u v) = true := by
  simp [SeqAt.shaped, pairD, PyData.canLay0, PyData.canLayAll0, PyData.depth, PyData.depthAll, PySem.W.ke_canLayAll0, PySem.W.ke_depthAll]
theorem eqv_row : ∀ ns : List Int, PyData.eqv (.tuple (ns.map PyData.int)) (.tuple (ns.map PyData.int)) = true
  | [] => rfl
  | x :: r => by
    show ((x == x) && PyData.eqv (.tuple (r.map PyData.int)) (.tuple (r.map PyData.int))) = true
    rw [eqv_row r, Bool.and_true]
    exact beq_self_eq_true x
theorem pair_same (u v : List Int) : PyData.eqv (pairD u v) (pairD u v) = true := by
  show (PyData.eqv (.tuple (u.map PyData.int)) (.tuple (u.map PyData.int)) && (PyData.eqv (.tuple (v.map PyData.int)) (.tuple (v.map PyData.int)) && true)) = true
  rw [eqv_row, eqv_row]
  rfl
end
end Z

set_option Elab.async false
set_option linter.all false
set_option maxRecDepth 100000
set_option maxHeartbeats 4000000
set_option exponentiation.threshold 20000
namespace Z
open PySem PySem.Spec PyProof.Rows L2 GG M3 M4 ZC
/-! values of forms at two numbers -/
def gF (y x : Int) (F : Nat → Int) : Nat → Int
  | 0 => 0
  | n + 1 => F 0 * y ^ n + x * gF y x (fun t => F (t + 1)) n
theorem gF_congr {y x : Int} : ∀ (n : Nat) {F G : Nat → Int}, (∀ t, t < n → F t = G t) → gF y x F n = gF y x G n
  | 0, _, _, _ => rfl
  | n + 1, F, G, h => by
    show F 0 * _ + x * _ = G 0 * _ + x * _
    rw [h 0 (Nat.zero_lt_succ n), gF_congr n fun t ht => h (t + 1) (by omega)]
theorem gv_gF (y x : Int) : ∀ l : List Int, HG.hG y x l = gF y x (fun t => l.getD t 0) l.length
  | [] => rfl
  | c :: r => by
    show c * _ + x * HG.hG y x r = c * _ + x * gF y x (fun t => r.getD t 0) r.length
    rw [gv_gF y x r]
theorem gF_map (y x : Int) (F : Nat → Int) (n : Nat) : HG.hG y x ((List.range n).map F) = gF y x F n := by
  rw [gv_gF, List.length_map, List.length_range]
  refine gF_congr n fun t ht => ?_
  rw [List.getD_eq_getElem?_getD, List.getElem?_map, List.getElem?_range ht]
  rfl
theorem gF_add (y x : Int) : ∀ (n : Nat) (F G : Nat → Int), gF y x (fun t => F t + G t) n = gF y x F n + gF y x G n
  | 0, _, _ => rfl
  | n + 1, F, G => by
    show (F 0 + G 0) * _ + x * gF y x (fun t => F (t + 1) + G (t + 1)) n = (F 0 * _ + x * _) + (G 0 * _ + x * _)
    rw [gF_add y x n]
    grind
theorem gF_mul (y x c : Int) : ∀ (n : Nat) (F : Nat → Int), gF y x (fun t => c * F t) n = c * gF y x F n
  | 0, _ => by show (0 : Int) = c * 0; omega
  | n + 1, F => by
    show (c * F 0) * _ + x * gF y x (fun t => c * F (t + 1)) n = c * (F 0 * _ + x * _)
    rw [gF_mul y x c n]
    grind
theorem gF_null (y x : Int) : ∀ n : Nat, gF y x (fun _ => 0) n = 0
  | 0 => rfl
  | n + 1 => by
    show 0 * _ + x * gF y x (fun _ => 0) n = 0
    rw [gF_null y x n]
    simp
theorem gF_sh (y x : Int) (F : Nat → Int) (n : Nat) : gF y x (M4.sh F) (n + 1) = x * gF y x F n := by
  show (0 : Int) * _ + x * gF y x F n = _
  omega
theorem gF_more (y x : Int) (k : Nat) : ∀ g : List Int, gF y x (fun t => g.getD t 0) (g.length + k) = y ^ k * HG.hG y x g
  | [] => by
    have e : (fun t => ([] : List Int).getD t 0) = fun _ => 0 := funext fun t => rfl
    rw [e, gF_null]
    show 0 = y ^ k * 0
    omega
  | c :: r => by
    rw [List.length_cons, show r.length + 1 + k = (r.length + k) + 1 by omega]
    show c * y ^ (r.length + k) + x * gF y x (fun t => r.getD t 0) (r.length + k) = y ^ k * (c * y ^ r.length + x * HG.hG y x r)
    rw [gF_more y x k r, Int.pow_add]
    grind
theorem gF_pf (y x : Int) (g : List Int) : ∀ f : List Int, f ≠ [] → gF y x (pf f g) (f.length - 1 + g.length) = HG.hG y x f * HG.hG y x g
  | [], h => absurd rfl h
  | [c], _ => by
    have e : pf [c] g = fun t => c * g.getD t 0 := funext fun t => by
      cases t with
      | zero => show c * g.getD 0 0 + 0 = _; omega
      | succ t => show c * g.getD (t + 1) 0 + 0 = _; omega
    rw [e, gF_mul]
    show c * gF y x _ (0 + g.length) = (c * y ^ 0 + x * 0) * _
    rw [Nat.zero_add, ← gv_gF]
    grind
  | c :: d :: r, _ => by
    have ih := gF_pf y x g (d :: r) (List.cons_ne_nil _ _)
    have e : pf (c :: d :: r) g = fun t => (c * g.getD t 0) + M4.sh (pf (d :: r) g) t := funext fun t => by
      cases t <;> rfl
    rw [e, gF_add, gF_mul]
    show c * gF y x _ ((d :: r).length + g.length) + gF y x _ (r.length + 1 + g.length) = (c * y ^ (d :: r).length + x * HG.hG y x (d :: r)) * _
    rw [Nat.add_comm (d :: r).length, gF_more, show r.length + 1 + g.length = (r.length + g.length) + 1 by omega, gF_sh]
    have ih : gF y x (pf (d :: r) g) (r.length + g.length) = HG.hG y x (d :: r) * HG.hG y x g := ih
    rw [ih]
    grind
theorem cv_hG (y x : Int) {f : List Int} (h : f ≠ []) (g : List Int) : HG.hG y x (cv f g) = HG.hG y x f * HG.hG y x g := by
  have e : HG.hG y x (cv f g) = gF y x (pf f g) (f.length - 1 + g.length) := by
    unfold cv
    rw [gF_map]
  rw [e, gF_pf y x g f h]
theorem hG_snoc (y x c : Int) : ∀ l : List Int, HG.hG y x (l ++ [c]) = y * HG.hG y x l + c * x ^ l.length
  | [] => by
    show c * y ^ 0 + x * 0 = y * 0 + c * x ^ 0
    simp
  | d :: r => by
    show d * y ^ (r ++ [c]).length + x * HG.hG y x (r ++ [c]) = y * (d * y ^ r.length + x * HG.hG y x r) + c * x ^ (r.length + 1)
    rw [hG_snoc y x c r, List.length_append, List.length_singleton, Int.pow_succ, Int.pow_succ]
    grind
theorem hG_zp (y x : Int) : ∀ a b : List Int, a.length = b.length → HG.hG y x (zp 1 a b) = HG.hG y x a + HG.hG y x b
  | [], [], _ => rfl
  | c :: a, d :: b, h => by
    have h' : a.length = b.length := by simpa using h
    have l : (zp 1 a b).length = a.length := by simp [zp, h']
    show (c + 1 * d) * y ^ (zp 1 a b).length + x * HG.hG y x (zp 1 a b) = (c * y ^ a.length + x * HG.hG y x a) + (d * y ^ b.length + x * HG.hG y x b)
    rw [hG_zp y x a b h', l, ← h']
    grind
theorem hG_rz (y x : Int) (l : List Int) : HG.hG y x (rz 1 l) = (x + y) * HG.hG y x l := by
  unfold rz
  rw [hG_zp y x _ _ (by simp), hG_snoc]
  show y * HG.hG y x l + 0 * x ^ l.length + (0 * y ^ l.length + x * HG.hG y x l) = _
  grind
def rzJ : Nat → List Int → List Int
  | 0, l => l
  | a + 1, l => rz 1 (rzJ a l)
theorem rzJ_len (l : List Int) : ∀ a, (rzJ a l).length = l.length + a
  | 0 => rfl
  | a + 1 => by
    show (rz 1 (rzJ a l)).length = _
    rw [rz_len, rzJ_len l a]
    omega
theorem rzJ_ex (l : List Int) : ∀ a, Ex (rzJ a l) = Ex l
  | 0 => rfl
  | a + 1 => by
    show Ex (rz 1 (rzJ a l)) = _
    rw [Ex_rz, rzJ_ex l a]
theorem rzJ_hG (y x : Int) (l : List Int) : ∀ a, HG.hG y x (rzJ a l) = (x + y) ^ a * HG.hG y x l
  | 0 => by
    show HG.hG y x l = _
    rw [Int.pow_zero, Int.one_mul]
  | a + 1 => by
    show HG.hG y x (rz 1 (rzJ a l)) = _
    rw [hG_rz, rzJ_hG y x l a, Int.pow_succ]
    grind
theorem hG_al (y x c : Int) {l : List Int} (h : l ≠ []) : HG.hG y x (al l c) = HG.hG y x l + c * x ^ (l.length - 1) := by
  obtain ⟨r, d, rfl⟩ := snoc_of h
  rw [al_snoc, hG_snoc, hG_snoc, List.length_append, List.length_singleton, Nat.add_sub_cancel]
  grind
/-- a row at two numbers is its form -/
theorem hG_toF (y x : Int) (f : List Int) : ∀ k, k ≤ f.length → HG.hG (x + y) x (f.take k) = HG.hG y x (toF f k)
  | 0, _ => rfl
  | k + 1, h => by
    have ih := hG_toF y x f k (by omega)
    have et : f.take (k + 1) = f.take k ++ [f.getD k 0] := by
      rw [List.take_succ_eq_append_getElem (by omega), List.getD_eq_getElem?_getD, List.getElem?_eq_getElem (by omega)]
      rfl
    show _ = HG.hG y x (al (rz 1 (toF f k)) (f.getD k 0))
    rw [et, hG_snoc, hG_al y x _ (rz_ne 1 _), hG_rz, ih, rz_len, toF_len, Nat.add_sub_cancel, List.length_take, Nat.min_eq_left (by omega)]
theorem hG_all (y x : Int) (f : List Int) : HG.hG (x + y) x f = HG.hG y x (toF f f.length) := by
  have := hG_toF y x f f.length (Nat.le_refl _)
  rwa [List.take_length] at this
theorem hG_pad (y x : Int) (f : List Int) : ∀ k, HG.hG y x (f ++ List.replicate k 0) = y ^ k * HG.hG y x f
  | 0 => by simp
  | k + 1 => by
    rw [List.replicate_succ', ← List.append_assoc, hG_snoc, hG_pad y x f k, Int.pow_succ]
    grind
theorem toF_pad (f : List Int) (j : Nat) : ∀ k, toF (f ++ List.replicate j 0) k = toF f k
  | 0 => rfl
  | k + 1 => by
    have e : (f ++ List.replicate j 0).getD k 0 = f.getD k 0 := by
      rw [List.getD_eq_getElem?_getD, List.getD_eq_getElem?_getD, List.getElem?_append]
      split
      · rfl
      · rename_i h
        rw [List.getElem?_replicate, List.getElem?_eq_none (by omega)]
        split <;> rfl
    show al (rz 1 (toF (f ++ List.replicate j 0) k)) _ = al (rz 1 (toF f k)) _
    rw [toF_pad f j k, e]
theorem toF_low {f : List Int} {m : Nat} (h : ∀ j, j < m → f.getD j 0 = 0) : ∀ k t, t ≤ m → (toF f k).getD t 0 = if t = m ∧ m < k then f.getD m 0 else 0
  | 0, t, _ => by
    rw [if_neg (by omega)]
    rfl
  | k + 1, t, ht => by
    have ih := toF_low h k
    have e : fn (toF f (k + 1)) t = fn (toF f k) t + Sh (fn (toF f k)) t + f.getD k 0 * (if t = k then 1 else 0) := by
      show fn (al (rz 1 (toF f k)) (f.getD k 0)) t = _
      rw [fn_al (rz_ne 1 _)]
      show (rz 1 (toF f k)).getD t 0 + f.getD k 0 * Sn ((rz 1 (toF f k)).length - 1) t = _
      rw [getD_rz, rz_len, toF_len, Nat.add_sub_cancel, Sn_at]
      rfl
    have i0 : fn (toF f k) t = if t = m ∧ m < k then f.getD m 0 else 0 := ih t ht
    have i1 : Sh (fn (toF f k)) t = 0 := by
      cases t with
      | zero => rfl
      | succ t =>
        show (toF f k).getD t 0 = 0
        rw [ih t (by omega), if_neg (by omega)]
    show fn (toF f (k + 1)) t = _
    rw [e, i0, i1]
    by_cases tk : t = k
    · subst tk
      rw [if_neg (by omega), if_pos rfl]
      by_cases tm : t = m
      · subst tm
        rw [if_pos (by omega)]
        omega
      · rw [if_neg (by omega), h t (by omega)]
        omega
    · rw [if_neg tk]
      by_cases c : t = m ∧ m < k
      · rw [if_pos c, if_pos (by omega)]
        omega
      · rw [if_neg c, if_neg (by omega)]
        omega
theorem lowP_of : ∀ (l : List Int) (m : Nat), 0 < l.getD m 0 → (∀ j, j < m → l.getD j 0 = 0) → HG.LowP l
  | [], m, h, _ => absurd h (by show ¬(0 : Int) < 0; omega)
  | c :: r, 0, h, _ => .inl h
  | c :: r, m + 1, h, z => .inr ⟨z 0 (by omega), lowP_of r m h fun j hj => z (j + 1) (by omega)⟩
end Z

set_option Elab.async false
set_option linter.all false
set_option maxRecDepth 100000
set_option maxHeartbeats 4000000
set_option exponentiation.threshold 20000
namespace Z
open PySem PySem.Spec PyProof.Rows L2 GG M3 M4 ZC
theorem hv_toF (z : Int) {f : List Int} {n : Nat} (h : f.length ≤ n + 1) : hv z (toF f (n + 1)) = val z f := by
  rw [← exl_val]
  refine GC.val_co fun t => ?_
  rw [exl_co, to_is h]
  rfl
theorem Ex_same {a b : List Int} (h : ∀ z, hv z a = hv z b) : Ex a = Ex b := by
  funext t
  have := GC.ident (l := exl a) (m := exl b) (fun z => by rw [exl_val, exl_val]; exact h z) t
  rwa [exl_co, exl_co] at this
/-- the quotient at two numbers -/
theorem ident_at {u v ds es : List Int} {m n : Nat} (dl : ds.length = m + 1) (el : es.length = m + 1) (hu : u.length ≤ n + 1) (hv_ : v.length ≤ n + 1) (eq : ∀ x, val x u * val x (pol es) = val x (pol ds) * val x v) (y x : Int) :
    HG.hG y x (toF u (n + 1)) * HG.hG y x es = HG.hG y x (toF v (n + 1)) * HG.hG y x ds := by
  have n1 : toF u (n + 1) ≠ [] := fun e => by have := toF_len u (n + 1); rw [e] at this; simp at this
  have n2 : toF v (n + 1) ≠ [] := fun e => by have := toF_len v (n + 1); rw [e] at this; simp at this
  have same : cv (toF u (n + 1)) es = cv (toF v (n + 1)) ds := by
    refine Ex_inj _ _ (by rw [cv_len, cv_len, toF_len, toF_len, dl, el]) (Ex_same fun z => ?_)
    rw [cv_hv z n1, cv_hv z n2, hv_toF z hu, hv_toF z hv_, ← pol_val z es, ← pol_val z ds, eq z, Int.mul_comm]
  rw [← cv_hG y x n1, ← cv_hG y x n2, same]
/-- the reduced denominator stays above zero -/
theorem other_pos {v es : List Int} {m : Nat} (el : es.length = m + 1) (nn : ∀ c ∈ es, 0 ≤ c) (some : ∃ c ∈ es, 1 ≤ c) (tv : GC.tr v = v) (nz : 0 < GC.dg v) (sg : ∃ m, 0 < GC.co v m ∧ ∀ j, j < m → GC.co v j = 0) (dv : GC.Dv v (pol es)) (ng : 0 < GC.dg (pol es)) {x y : Nat} (hx : 0 < x) (hy : 0 < y) :
    0 < HG.hG (y : Int) x (toF v v.length) := by
  obtain ⟨e0, he⟩ := dv
  obtain ⟨d, hd⟩ : ∃ d, d = GC.tr e0 := ⟨_, rfl⟩
  have he : ∀ z, val z (pol es) = val z v * val z d := fun z => by rw [hd, GC.val_tr]; exact he z
  obtain ⟨q1, q2, q3⟩ := GC.scaled_dg (r := 1) (by decide) (v := pol es) (w := v) (e := d) (fun z => by rw [Int.one_mul]; exact he z) ng
  have lv : GC.dg v = v.length := by unfold GC.dg; rw [tv]
  have ld : GC.dg d = d.length := by rw [hd]; exact GC.dg_tr _
  have top : GC.dg (pol es) ≤ m + 1 := Nat.le_trans (GC.dg_le fun t ht => getD_out ht) (Nat.le_trans (pol_len es) (by omega))
  obtain ⟨i, hi⟩ : ∃ i, v.length = i + 1 := ⟨v.length - 1, by omega⟩
  obtain ⟨j, hj⟩ : ∃ j, d.length = j + 1 := ⟨d.length - 1, by omega⟩
  obtain ⟨a, ha⟩ : ∃ a, i + j + a = m := ⟨m - (i + j), by omega⟩
  have n1 : toF v (i + 1) ≠ [] := fun e => by have := toF_len v (i + 1); rw [e] at this; simp at this
  have whole : rzJ a (cv (toF v (i + 1)) (toF d (j + 1))) = es := by
    refine Ex_inj _ _ (by rw [rzJ_len, cv_len, toF_len, toF_len, el]; omega) ?_
    rw [rzJ_ex]
    refine Ex_same fun z => ?_
    rw [cv_hv z n1, hv_toF z (by omega), hv_toF z (by omega), ← pol_val z es, he z]
  rw [hi]
  obtain ⟨k, k1, k2⟩ := sg
  have kv : k < v.length := Nat.lt_of_not_le fun h => by
    have : GC.co v k = 0 := getD_out h
    omega
  refine HG.pos (W := toF d (j + 1)) (E := es) (a := a) (fun x y _ _ => ?_) (by rw [toF_len, toF_len, el]; omega) nn some (lowP_of _ k ?_ fun t ht => ?_) hx hy
  · rw [← whole, rzJ_hG, cv_hG _ _ n1]
  · rw [toF_low (f := v) (m := k) k2 (i + 1) k (Nat.le_refl _), if_pos (by omega)]
    exact k1
  · rw [toF_low (f := v) (m := k) k2 (i + 1) t (by omega), if_neg (by omega)]
/-- both at once, as the law reckons them -/
theorem at_point {u v ds es : List Int} {m : Nat} (w : WR m ds es) (R : GC.RedX (pol ds) (pol es) u v) {p q : Nat} (hp : 0 < p) (hq : p < q) {far : Nat} (hf : far = max u.length v.length) :
    (HG.hG (q : Int) p (u ++ List.replicate (far - u.length) 0) * HG.hG ((q : Int) - p) p es = HG.hG (q : Int) p (v ++ List.replicate (far - v.length) 0) * HG.hG ((q : Int) - p) p ds) ∧ 0 < HG.hG (q : Int) p (v ++ List.replicate (far - v.length) 0) := by
  have lv : GC.dg v = v.length := by unfold GC.dg; rw [R.low.tv]
  have v0 : 0 < v.length := by have := R.low.nz; omega
  obtain ⟨n, hn⟩ : ∃ n, far = n + 1 := ⟨far - 1, by omega⟩
  obtain ⟨y, hy⟩ : ∃ y : Nat, q = p + y := ⟨q - p, by omega⟩
  have y0 : 0 < y := by omega
  have ez : (q : Int) = (p : Int) + y := by omega
  have ey : (q : Int) - p = (y : Int) := by omega
  rw [ey, ez]
  have row : ∀ {l : List Int}, l.length ≤ far → HG.hG ((p : Int) + y) p (l ++ List.replicate (far - l.length) 0) = HG.hG (y : Int) p (toF l (n + 1)) := fun {l} hl => by
    rw [hG_all, toF_pad, List.length_append, List.length_replicate, show l.length + (far - l.length) = n + 1 by omega]
  constructor
  · rw [row (by omega), row (by omega)]
    exact ident_at w.dl w.el (by omega) (by omega) R.eq _ _
  · rw [hG_pad]
    refine Int.mul_pos (Int.pow_pos (by omega)) ?_
    rw [hG_all]
    refine other_pos w.el (fun c hc => ?_) ?_ R.low.tv R.low.nz R.low.sg R.dv w.ne hp y0
    · obtain ⟨i, hi, e⟩ := List.getElem_of_mem hc
      have := w.ok i (by have := w.el; omega)
      rw [List.getD_eq_getElem?_getD (l := es), List.getElem?_eq_getElem hi, e] at this
      have h : 0 ≤ ds.getD i 0 ∧ ds.getD i 0 ≤ c ∧ _ := this
      omega
    · obtain ⟨k, hk, h⟩ := w.some
      have hi : k < es.length := by have := w.el; omega
      refine ⟨es[k], List.getElem_mem _, ?_⟩
      have := w.ok k hk
      rw [List.getD_eq_getElem?_getD (l := es), List.getElem?_eq_getElem hi] at this h
      have h' : es[k] ≠ 0 := h
      have h2 : 0 ≤ ds.getD k 0 ∧ ds.getD k 0 ≤ es[k] ∧ _ := this
      omega
end Z

set_option Elab.async false
set_option linter.all false
set_option maxRecDepth 100000
set_option maxHeartbeats 4000000
/-! t[::-1], t a tuple -/
namespace RVT
open PySem PySem.Spec PyProof.Rows L2 GG
theorem turned_list (xs : Array Value) : ((List.range xs.size).filterMap fun (m : Nat) => xs[((xs.size : Int) - 1 + (m : Int) * (-1)).toNat]?) = xs.toList.reverse := by
  refine List.ext_getElem? fun i => ?_
  have key : ∀ n, n ≤ xs.size → ((List.range n).filterMap fun (m : Nat) => xs[((xs.size : Int) - 1 + (m : Int) * (-1)).toNat]?) = xs.toList.reverse.take n := by
    intro n hn
    induction n with
    | zero => rfl
    | succ n ih =>
      rw [List.range_succ, List.filterMap_append, ih (by omega), List.take_succ]
      congr 1
      have e : (((xs.size : Int) - 1 + (n : Int) * (-1)).toNat) = xs.size - 1 - n := by omega
      have l : xs.size - 1 - n < xs.size := by omega
      rw [List.filterMap_cons, e, Array.getElem?_eq_getElem l]
      have h1 : xs.toList.reverse[n]? = some xs[xs.size - 1 - n] := by
        rw [List.getElem?_reverse (by rw [Array.length_toList]; omega), Array.length_toList, Array.getElem?_toList, Array.getElem?_eq_getElem l]
      rw [h1]
      rfl
  rw [key _ (Nat.le_refl _), List.take_of_length_le (by rw [List.length_reverse, Array.length_toList]; exact Nat.le_refl _)]
section
variable {prog : Program} {w : World} {A : Around} {E : Value → Shared → Prop} {s : Shared}
theorem part_back {sl : Addr} {n : Nat} {tk : Tok} {Q : Int × Int × Nat → Shared → Prop} (cc : s.heap.IsSliceOf sl .none .none (.int (-1) tk)) (go : Q ((n : Int) - 1, -1, n) s) :
    wpAny (model prog w) A (Builtin.Slice.sliceApplied (.ref sl) (pure (n : Int))) Q E s := by
  obtain ⟨os, o1, o2, o3⟩ := id cc
  delta Builtin.Slice.sliceApplied Builtin.Slice.sliceFields
  refine wpAny_bind (wpAny_bind (wpAny_field o1 o3 (x := .none) rfl (wpAny_bind (wpAny_field o1 o3 (x := .none) rfl (wpAny_bind (wpAny_field o1 o3 (x := .int (-1) tk) rfl (wpAny_pure ?_)))))))
  refine wpAny_bind (slicePart_int ?_)
  show wpAny _ _ (if ((-1 : Int) == 0) = true then _ else _) _ _ s
  rw [if_neg (by decide)]
  refine wpAny_bind (slicePart_none (wpAny_bind (slicePart_none (wpAny_bind (wpAny_pure ?_)))))
  show wpAny _ _ (pure ((n : Int) - 1, (-1 : Int), Builtin.Slice.slicePlaces ((n : Int) - 1) (-1) (-1))) _ _ s
  have e : Builtin.Slice.slicePlaces ((n : Int) - 1) (-1) (-1) = n := by
    show (if (n : Int) - 1 > -1 then ((n : Int) - 1 - -1 - 1) / (- -1) + 1 else 0).toNat = n
    rw [show (- -1 : Int) = 1 from rfl, Int.ediv_one]
    split <;> omega
  rw [e]
  exact wpAny_pure go
theorem item_back {tu sl : Addr} {items : Array Value} {tk : Tok} {Q : Value → Shared → Prop} (tt : IsTup s.heap tu items) (cc : s.heap.IsSliceOf sl .none .none (.int (-1) tk)) (fits : items.size ≤ sizeLine)
    (go : Q (.ref s.heap.objs.size) { s with heap := s.heap.push { cls := .type "tuple", data := .seq items.toList.reverse.toArray } }) : wpAny (model prog w) A (getItem (.ref tu) (.ref sl)) Q E s := by
  obtain ⟨os, o1, o2, o3⟩ := id cc
  have isSlice : s.TypeIs (.ref sl) "slice" := ⟨os, o1, o2⟩
  have small : sizeOk (.seq items.toList.reverse.toArray) := by
    show items.toList.reverse.toArray.size ≤ sizeLine
    rw [List.size_toArray, List.length_reverse, Array.length_toList]
    exact fits
  unfold getItem
  first | (with_reducible refine wpAny_holding ?_) | skip
  first | (refine wpAny_bind (wpAny_pure ?_)) | skip
  refine wpAny_bind (wpAny_sequenceKey tt.typeIs (by decide) ?_)
  refine wpAny_bind (wpAny_callSpecial?_slot (name := Str.ofString "__getitem__") tt.typeIs PyProof.Rows.slot_tuple_getitem
    (wpAny_call_entry PyProof.Rows.slot_tuple_getitem tt.typeIs entry_tuple_getitem ?_ (args_tuple_getitem _ _)))
  show wpAny _ _ (Builtin.Tuple.tupleItemsOf (.ref tu) >>= _) _ _ s
  refine wpAny_bind (tupleItemsOf_ tt ?_)
  refine wpAny_bind (wpAny_typeOf isSlice ?_)
  rw [if_pos (by decide)]
  refine wpAny_bind (part_back cc ?_)
  have no : ¬ (((((items.size : Int) - 1 : Int) == 0 && ((-1 : Int) == 1) && (items.size == items.size)) = true)) := by
    rw [show ((-1 : Int) == 1) = false from rfl, Bool.and_false, Bool.false_and]
    decide
  show wpAny _ _ (if ((((items.size : Int) - 1 : Int) == 0 && ((-1 : Int) == 1) && (items.size == items.size))) = true then _ else _) _ _ s
  rw [if_neg no, turned_list]
  first
    | exact wpAny_bind (m := Builtin.Tuple.tupleExact _) (wpAny_newObj_type (wpAny_pure ⟨_, rfl, wpAny_pure go⟩) small)
    | exact wpAny_bind (wpAny_bind (m := Builtin.Tuple.tupleExact _) (wpAny_newObj_type (wpAny_pure (wpAny_pure ⟨_, rfl, wpAny_pure go⟩)) small))
    | exact wpAny_bind (wpAny_bind (m := Builtin.Tuple.tupleExact _) (wpAny_newObj_type (wpAny_pure ⟨_, rfl, wpAny_pure go⟩) small))
end
section
variable {X : Cx}
def tTurned (te : TE) : TE := fun σ H Q => te σ H fun x H1 => ∃ (a : Addr) (xs : List V), x = .ref a ∧ H1 a = some (.tup xs) ∧ ∀ p, H1 p = none → Q (.ref p) (upd H1 p (.tup xs.reverse))
theorem vals_turned {xs : List V} {us : List Value} (r : Vals xs us) : Vals xs.reverse us.reverse := by
  induction r with
  | nil => exact .nil
  | cons h _ ih =>
    rw [List.reverse_cons, List.reverse_cons]
    exact ih.append (.cons h .nil)
theorem pe_turned {e back : Expr} {te : TE} {p2 pos : Pos} (he : PE X e te) (hb : PE X back (tUn (rU fun i => .int (-i)) (tC (.int 1)))) (tailed : ∀ (a sl : Addr), subscripted (.Slice none none (some back) p2) false (.ref a) (.ref sl) = operate [.ref a, .ref sl] (getItem (.ref a) (.ref sl)) := by intros; with_unfolding_all rfl) :
    PE X (.Subscript e (.Slice none none (some back) p2) pos) (tTurned te) := by
  constructor
  intro pins s σ H Q I h
  refine Subscript_ (thn (he.run pins s σ H _ I h) fun v s1 ⟨x, H1, I1, r1, a, xs, ex, ha, q⟩ => ?_)
  subst ex
  obtain rfl : v = Value.ref a := r1
  refine wpAny_Slice ?_
  rw [evalPart_none]
  refine wpAny_pure (wpAny_pure ?_)
  rw [evalPart_some]
  refine thn (hb.run pins s1 σ H1 (fun y H2 => y = .int (-1) ∧ H2 = H1) I1 ⟨1, rfl, rfl, rfl⟩) fun c s2 ⟨y, H2, I2, r2, ey, eH⟩ => ?_
  subst ey eH
  obtain ⟨tk, rfl⟩ := r2
  have I4 := I2.kept (t' := s2.toks) fun b ob e => Heap.get?_push_of_some { cls := .type "slice", data := .fields #[.none, .none, .int (-1) tk] } e
  obtain ⟨its, rv, tup, fits⟩ := I4.tuple (SqT.of ha)
  have hl := rv.length
  show wpAny (model X.prog X.w) X.A (subscriptTail e (.Slice none none (some back) p2) (.ref a) (.ref s2.heap.objs.size)) (EP X pins σ Q) X.xe _
  refine tail_any (ops := [.ref a, .ref s2.heap.objs.size]) tup.typeIs PyProof.Rows.slot_tuple_getitem.lookup ?_ (tailed _ _)
  refine item_back tup (Heap.IsSliceOf.new ..) (by rw [List.size_toArray, ← hl]; exact fits) ?_
  have new := I4.hok.fresh (Nat.le_refl _)
  refine ⟨.ref _, _, I4.laid (t' := s2.toks) (o := .tup xs.reverse) (fun b ob e => Heap.get?_push_of_some _ e) (Nat.le_refl _) ⟨by rw [List.length_reverse]; exact fits, its.reverse, vals_turned rv, ?_⟩, rfl, q _ new⟩
  exact IsTup.new _ _
end
end RVT

set_option Elab.async false
set_option linter.all false
set_option maxRecDepth 100000
set_option maxHeartbeats 4000000
set_option exponentiation.threshold 20000
namespace Z
open PySem PySem.Spec PyProof.Rows L2 GG M3 M4 ZC
abbrev sFra : Stmt := top 32
abbrev sPrb : Stmt := top 33
abbrev sVal : Stmt := top 37
abbrev sFva : Stmt := top 42
theorem gcd_step (a b : Int) : Int.gcd b (a % b) = Int.gcd a b := by
  rw [Int.emod_def, Int.gcd_sub_mul_left_right, Int.gcd_comm]
theorem hG_size {y x : Int} {k B : Nat} (hy : y.natAbs ≤ 2 ^ k) (hx : x.natAbs ≤ 2 ^ k) : ∀ l : List Int, (∀ c ∈ l, c.natAbs ≤ 2 ^ B) → (HG.hG y x l).natAbs ≤ l.length * 2 ^ (B + k * l.length)
  | [], _ => by simp [HG.hG]
  | c :: r, h => by
    have ih := hG_size (B := B) hy hx r fun d hd => h d (List.mem_cons_of_mem _ hd)
    have hc := h c List.mem_cons_self
    have e1 := Int.natAbs_add_le (c * y ^ r.length) (x * HG.hG y x r)
    have e2 : (c * y ^ r.length).natAbs ≤ 2 ^ (B + k * (r.length + 1)) := by
      rw [Int.natAbs_mul, Int.natAbs_pow]
      have h1 : y.natAbs ^ r.length ≤ 2 ^ (k * r.length) := by rw [Nat.pow_mul]; exact Nat.pow_le_pow_left hy _
      refine Nat.le_trans (Nat.mul_le_mul hc h1) ?_
      rw [← Nat.pow_add]
      exact Nat.pow_le_pow_right (by decide) (by rw [Nat.mul_succ]; omega)
    have e3 : (x * HG.hG y x r).natAbs ≤ r.length * 2 ^ (B + k * (r.length + 1)) := by
      rw [Int.natAbs_mul]
      refine Nat.le_trans (Nat.mul_le_mul hx ih) ?_
      rw [Nat.mul_left_comm, ← Nat.pow_add]
      exact Nat.mul_le_mul_left _ (Nat.pow_le_pow_right (by decide) (by rw [Nat.mul_succ]; omega))
    show (c * y ^ r.length + x * HG.hG y x r).natAbs ≤ (r.length + 1) * 2 ^ (B + k * (r.length + 1))
    rw [Nat.add_mul, Nat.one_mul]
    omega
theorem hG_fit {y x : Int} (hy : y.natAbs ≤ 2 ^ 10) (hx : x.natAbs ≤ 2 ^ 10) {l : List Int} (hl : l.length ≤ 70) (h : ∀ c ∈ l, c.natAbs ≤ 2 ^ 400) : (HG.hG y x l).natAbs ≤ 2 ^ 1200 := by
  refine Nat.le_trans (hG_size hy hx l h) ?_
  have e1 : 2 ^ (400 + 10 * l.length) ≤ 2 ^ 1100 := Nat.pow_le_pow_right (by decide) (by omega)
  have e2 : l.length ≤ 2 ^ 100 := Nat.le_trans hl (by decide)
  refine Nat.le_trans (Nat.mul_le_mul e2 e1) ?_
  rw [← Nat.pow_add]
  exact Nat.le_refl _
theorem pow_fit {x : Int} (hx : x.natAbs ≤ 2 ^ 10) {n : Nat} (hn : n ≤ 70) : (x ^ n).natAbs ≤ 2 ^ 1200 := by
  rw [Int.natAbs_pow]
  refine Nat.le_trans (Nat.pow_le_pow_left hx n) ?_
  rw [← Nat.pow_mul]
  exact Nat.pow_le_pow_right (by decide) (by omega)
section
variable {P : Program} {w : World} {K : PySem.W.Frag} {mg : Str → Option Value} {base : Heap}
def spFra : Sp := fun vs H Q _ => ∃ (t b : Int), vs = [.int t, .int b] ∧ 0 < t ∧ t < b ∧ b ≤ 1000 ∧ ∀ (p : Addr) (x y : Int) H', 0 < x → x < y → y ≤ 1000 → Same H H' → H p = none → H' p = some (.tup [.int x, .int y]) → Q (.ref p) H'
theorem scFra : FnScope ["top", "bottom", "one", "other", "part"] ["top", "bottom"] (defScope sFra) := ⟨rfl, rfl, rfl, by decide +kernel, rfl, by decide +kernel, by decide +kernel⟩
theorem ok_fra {f0 : Addr} {fd : FuncData} (F : Fun K "_law_fraction" "_law_fraction" sFra f0 fd) (mA : mg "abs" = none) (T : Names mg) : FnOk P w K mg base CX0 1 f0 fd ["top", "bottom"] spFra := by
  refine F.ok scFra (fun vs H Q E h => ?_) (fun cdv A outer s H vs Q E hr h => ?_)
  · obtain ⟨t, b, rfl, _⟩ := h
    rfl
  · obtain ⟨t, b, rfl, t0, tb, b1, q⟩ := h
    refine ⟨_, (pss_cons (ps_par (i := 2) (j := 3) (by rfl) scFra.nd rfl rfl (by decide) rfl rfl (pa_cons (pe_callB call_abs (by rfl) mA (by decide +kernel) (pa_cons (pv 0) pa_nil)) (pa_cons (pe_callB call_abs (by rfl) mA (by decide +kernel) (pa_cons (pv 1) pa_nil)) pa_nil)) (by rfl))
      (pss_cons (ps_while PassesOwn.never (pt_cmpR op_ne (pv 3) pe_int (nomark _)) (pss_one (ps_par (i := 2) (j := 3) (by rfl) scFra.nd rfl rfl (by decide) rfl rfl (pa_cons (pv 3) (pa_cons (pe_op op_mod (pv 2) (pv 3)) pa_nil)) (by rfl))))
      (pss_cons (ps_set (i := 4) scFra.nd rfl (.inl rfl) (pe_ifExp (pt_cmpR op_gt (pv 1) pe_int (nomark _)) (pv 2) (pe_op op_sub pe_int (pv 2))))
      (pss_one (ps_ret (pe_tup (pa_cons (pe_op op_fdivW (pv 0) (pv 4)) (pa_cons (pe_op op_fdivW (pv 1) (pv 4)) pa_nil)))))))), ?_⟩
    refine ⟨_, rfl, t, rfl, _, rfl, b, rfl, _, _, rfl, ?_⟩
    have et : (if t < 0 then -t else t) = t := if_neg (by omega)
    have eb : (if b < 0 then -b else b) = b := if_neg (by omega)
    refine ⟨fun n σ H' => ∃ c d : Int, n = d.toNat ∧ σ = [some (V.int t), some (V.int b), some (V.int c), some (V.int d), none] ∧ 0 ≤ c ∧ 0 ≤ d ∧ Int.gcd c d = Int.gcd t b ∧ H' = H, ⟨b.toNat, if t < 0 then -t else t, if b < 0 then -b else b, by rw [eb], rfl, by rw [et]; omega, by rw [eb]; omega, by rw [et, eb], rfl⟩, ?_⟩
    rintro n σ H' ⟨c, d, rfl, rfl, c0, d0, eg, rfl⟩
    refine ⟨_, rfl, rfl, _, rfl, ?_⟩
    by_cases h : d = 0
    · subst h
      rw [decide_eq_true rfl]
      have ec : c = ((Int.gcd t b : Nat) : Int) := by
        rw [← eg, Int.gcd_zero_right]
        omega
      have g0 : 0 < Int.gcd t b := Int.gcd_pos_of_ne_zero_left _ (by omega)
      obtain ⟨x, hx⟩ : ((Int.gcd t b : Nat) : Int) ∣ t := Int.gcd_dvd_left _ _
      obtain ⟨y, hy⟩ : ((Int.gcd t b : Nat) : Int) ∣ b := Int.gcd_dvd_right _ _
      generalize ((Int.gcd t b : Nat) : Int) = g at ec hx hy
      have gp : 0 < c := by
        rcases Int.lt_or_eq_of_le c0 with h | h
        · exact h
        · rw [← h] at ec
          rw [← ec] at hx
          omega
      subst ec
      have x0 : 0 < x := Int.lt_of_mul_lt_mul_left (a := c) (by rw [Int.mul_zero, ← hx]; exact t0) (by omega)
      have xy : x < y := Int.lt_of_mul_lt_mul_left (a := c) (by rw [← hx, ← hy]; exact tb) (by omega)
      have y1 : y ≤ b := by
        have : 1 * y ≤ c * y := Int.mul_le_mul_of_nonneg_right (by omega) (by omega)
        omega
      have cb : c ≤ b := by
        have : c * 1 ≤ c * y := Int.mul_le_mul_of_nonneg_left (by omega) (by omega)
        omega
      have e1 : t / c = x := by rw [hx]; exact Int.mul_ediv_cancel_left _ (by omega)
      have e2 : b / c = y := by rw [hy]; exact Int.mul_ediv_cancel_left _ (by omega)
      have cd : ∀ z, CDivW z c := fun z => ⟨gp, Nat.lt_of_le_of_lt (Nat.log2_le_self _) (by omega)⟩
      refine iteF ⟨_, rfl, _, _, rfl, rfl, _, rfl, ?_⟩
      rw [decide_eq_true (show (0 : Int) < b by omega)]
      refine iteT ⟨_, rfl, _, rfl, _, rfl, _, _, rfl, rfl, cd _, _, rfl, _, rfl, _, _, rfl, rfl, cd _, by show 2 ≤ sizeLine; decide, fun p np => ?_⟩
      show Q (.ref p) (upd H' p (.tup [.int (t / c), .int (b / c)]))
      rw [e1, e2]
      exact q p x y _ x0 xy (by omega) (Same.upd np) np upd_same
    · rw [decide_eq_false (by intro e; exact h (V.int.inj e))]
      refine iteT ⟨fun σ H2 => ∃ c' d' : Int, d'.toNat < d.toNat ∧ σ = [some (V.int t), some (V.int b), some (V.int c'), some (V.int d'), none] ∧ 0 ≤ c' ∧ 0 ≤ d' ∧ Int.gcd c' d' = Int.gcd t b ∧ H2 = H', ?_, ?_⟩
      · rintro σ H2 ⟨c', d', lt, e1, e2, e3, e4, e5⟩
        exact ⟨d'.toNat, lt, c', d', rfl, e1, e2, e3, e4, e5⟩
      · have h1 := Int.emod_nonneg c h
        have h2 := Int.emod_lt_of_pos c (show 0 < d by omega)
        exact ⟨_, rfl, _, rfl, _, rfl, _, _, rfl, rfl, (show 0 < d by omega), _, _, rfl, d, c % d, by omega, rfl, d0, h1, by rw [gcd_step, eg], rfl⟩
def spPrb : Sp := fun vs H Q _ => ∃ (a l : Addr), vs = [.ref a] ∧ Pen H a l ∧ ∀ (p : Addr) (x y : Int) H', 0 < x → x < y → y ≤ 1000 → But a H H' → Pen H' a l → H' p = some (.tup [.int x, .int y]) → Q (.ref p) H'
theorem scPrb : FnScope ["pen", "bottom"] ["pen"] (defScope sPrb) := ⟨rfl, rfl, rfl, by decide +kernel, rfl, by decide +kernel, by decide +kernel⟩
theorem ok_prb {f0 fd_ ff : Addr} {fd dd df : FuncData} (F : Fun K "_law_probability" "_law_probability" sPrb f0 fd) (T : Names mg) (GD : FnOk P w K mg base CX0 2 fd_ dd ["pen", "many"] spDraw) (PD : Def K mg "_law_draw" fd_ dd ["pen", "many"])
    (GF : FnOk P w K mg base CX0 1 ff df ["top", "bottom"] spFra) (PF_ : Def K mg "_law_fraction" ff df ["top", "bottom"]) : FnOk P w K mg base CX0 3 f0 fd ["pen"] spPrb := by
  refine F.ok scPrb (fun vs H Q E h => ?_) (fun cdv A outer s H vs Q E hr h => ?_)
  · obtain ⟨a, l, rfl, _⟩ := h
    rfl
  · obtain ⟨a, l, rfl, pn, q⟩ := h
    refine ⟨_, (pss_cons (ps_set (i := 1) scPrb.nd rfl (.inl rfl) (pe_op op_add pe_int (pe_call GD (hr.mono (by first | decide | omega)) (by rfl) PD.is PD.kp PD.bi .nil pass0 (pa_cons (pv 0) (pa_cons (pe_ix ix_list (pe_lst (pa_cons pe_int (pa_cons pe_int (pa_cons pe_int pa_nil)))) (pe_call GD (hr.mono (by first | decide | omega)) (by rfl) PD.is PD.kp PD.bi .nil pass0 (pa_cons (pv 0) (pa_cons pe_int pa_nil))) (fun _ _ => rfl)) pa_nil)))))
      (pss_one (ps_ret (pe_call GF (hr.mono (by first | decide | omega)) (by rfl) PF_.is PF_.kp PF_.bi .nil pass0 (pa_cons (pe_op op_add pe_int (pe_call GD (hr.mono (by first | decide | omega)) (by rfl) PD.is PD.kp PD.bi .nil pass0 (pa_cons (pv 0) (pa_cons (pe_op op_sub (pv 1) pe_int) pa_nil)))) (pa_cons (pv 1) pa_nil)))))), ?_⟩
    refine ⟨_, rfl, by show 3 ≤ sizeLine; decide, fun e ne => ?_⟩
    have ee : upd H e (.lst [.int 5, .int 20, .int 900]) e = some (.lst [.int 5, .int 20, .int 900]) := upd_same
    have s1 := Same.upd (o := .lst [.int 5, .int 20, .int 900]) ne
    have p2 := pn.same s1
    have ae := (pn.apart ne).1
    change (_ : Hp → Prop) (upd H e (.lst [.int 5, .int 20, .int 900]))
    generalize upd H e (.lst [.int 5, .int 20, .int 900]) = H2 at ee s1 p2 ⊢
    refine ⟨_, rfl, a, l, 3, rfl, p2, by decide, by decide +kernel, fun d H3 d0 d1 b3 p3 => ?_⟩
    obtain ⟨mx, hv, m1, m2⟩ : ∃ mx : Int, atI [V.int 5, .int 20, .int 900] d = some (.int mx) ∧ 0 < mx ∧ mx ≤ 900 := by
      rcases (show d = 0 ∨ d = 1 ∨ d = 2 by omega) with rfl | rfl | rfl
      · exact ⟨5, rfl, by decide, by decide⟩
      · exact ⟨20, rfl, by decide, by decide⟩
      · exact ⟨900, rfl, by decide, by decide⟩
    have lg : ∀ {z : Int}, 0 ≤ z → z ≤ 1000 → z.natAbs.log2 < 9000 := fun h1 h2 => Nat.lt_of_le_of_lt (Nat.log2_le_self _) (by omega)
    refine ⟨e, _, d, _, rfl, rfl, SqL.of (b3.mem ae ee), hv, a, l, mx, rfl, p3, m1, lg (by omega) (by omega), fun c H4 c0 c1 b4 p4 => ⟨_, _, rfl, rfl, ?_⟩⟩
    refine ⟨_, rfl, _, rfl, _, _, rfl, rfl, a, l, (2 + c) - 1, rfl, p4, by omega, lg (by omega) (by omega), fun g H5 g0 g1 b5 p5 => ⟨_, _, rfl, rfl, _, rfl, 1 + g, 2 + c, rfl, by omega, by omega, by omega, fun p x y H6 x0 xy y1 s6 np ep => ?_⟩⟩
    exact q p x y H6 x0 xy y1 ((((But.of s1).trans b3).trans b4).trans (b5.trans (But.of s6))) (p5.same s6) ep
def spVal (K : PySem.W.Frag) : Sp := fun vs H Q _ => ∃ (x p : Addr) (ns : List Int) (a b : Int), vs = [.ref x, .ref p] ∧ H x = some (.tup (ns.map V.int)) ∧ H p = some (.tup [.int a, .int b]) ∧ ns.length ≤ 70 ∧ Bd (2 ^ 400) ns ∧ a.natAbs ≤ 2 ^ 10 ∧ b.natAbs ≤ 2 ^ 10 ∧ ∀ H', Same H H' → Q (.int (HG.hG b a ns)) H'
theorem scVal : FnScope ["poly", "p", "found", "part", "number"] ["poly", "p"] (defScope sVal) := ⟨rfl, rfl, rfl, by decide +kernel, rfl, by decide +kernel, by decide +kernel⟩
theorem ok_val {f0 : Addr} {fd : FuncData} (F : Fun K "_law_value" "_law_value" sVal f0 fd) (T : Names mg) : FnOk P w K mg base CX0 1 f0 fd ["poly", "p"] (spVal K) := by
  refine F.ok scVal (fun vs H Q E h => ?_) (fun cdv A outer s H vs Q E hr h => ?_)
  · obtain ⟨x, p, ns, a, b, rfl, _⟩ := h
    rfl
  · obtain ⟨x, p, ns, a, b, rfl, hX, hp, hl, hb, ha, hb2, q⟩ := h
    refine ⟨_, (pss_cons (ps_asg (pe_tup (pa_cons pe_int (pa_cons pe_int pa_nil))) (pg_tup rfl (pgs_cons (pg_name (i := 2) scVal.nd rfl (.inl rfl)) (pgs_cons (pg_name (i := 3) scVal.nd rfl (.inl rfl)) pgs_nil))))
      (pss_cons (ps_for PassesOwn.never rfl (pi_tup (RVT.pe_turned (pv 0) (pe_un un_neg pe_int))) (pg_name (i := 4) scVal.nd rfl (.inl rfl)) (pss_cons (ps_set (i := 2) scVal.nd rfl (.inl rfl) (pe_op op_add (pe_op op_mulW (pv 2) (pe_ix ix_tup (pv 1) pe_int (fun _ _ => rfl))) (pe_op op_mulW (pv 4) (pv 3))))
      (pss_one (ps_set (i := 3) scVal.nd rfl (.inl rfl) (pe_op op_mulW (pv 3) (pe_ix ix_tup (pv 1) pe_int (fun _ _ => rfl)))))))
      (pss_one (ps_ret (pv 2))))), ?_⟩
    refine ⟨by show 2 ≤ sizeLine; decide, fun e0 ne0 => ?_⟩
    have s1 := Same.upd (o := .tup [V.int 0, .int 1]) ne0
    refine ⟨e0, _, rfl, tup_of upd_same, rfl, _, _, rfl, _, _, rfl, rfl, ?_⟩
    have hx1 := s1 _ _ hX
    have hp1 := s1 _ _ hp
    generalize upd H e0 (.tup [V.int 0, .int 1]) = H1 at s1 hx1 hp1 ⊢
    refine ⟨_, rfl, x, _, rfl, hx1, fun r nr => ?_⟩
    have s2 := Same.upd (o := .tup (ns.map V.int).reverse) nr
    have er : upd H1 r (.tup (ns.map V.int).reverse) r = some (.tup (ns.reverse.map V.int)) := by rw [upd_same, List.map_reverse]
    have hp2 := s2 _ _ hp1
    have s12 := s1.trans s2
    generalize upd H1 r (.tup (ns.map V.int).reverse) = H2 at s2 er hp2 s12 ⊢
    refine ⟨r, rfl, ⟨_, SqT.of er⟩, ?_⟩
    refine for_tup (K := K) (a := r) (xs := ns.reverse.map V.int) (fun i σ H' => H' = H2 ∧ ∃ v4 : Option V, σ = [some (V.ref x), some (V.ref p), some (V.int (HG.hG b a (ns.drop (ns.length - i)))), some (V.int (b ^ i)), v4]) ⟨rfl, _, by rw [Nat.sub_zero, List.drop_length, Int.pow_zero]; rfl⟩ (fun i σ H' _ h => by rw [h.1]; exact SqT.of er) ?_ ?_
    · rintro i v σ H3 hv ⟨rfl, v4, rfl⟩
      have hi : i < ns.length := by
        have := (List.getElem?_eq_some_iff.mp hv).1
        rwa [List.length_map, List.length_reverse] at this
      have ev : v = .int ns[ns.length - 1 - i] := by
        rw [List.getElem?_map, List.getElem?_reverse hi, List.getElem?_eq_getElem (by omega)] at hv
        exact (Option.some.inj hv).symm
      subst ev
      have ed : ns.drop (ns.length - (i + 1)) = ns[ns.length - 1 - i] :: ns.drop (ns.length - i) := by
        rw [List.drop_eq_getElem_cons (by omega)]
        congr 1
        · congr 1
          omega
        · congr 1
          omega
      have fit : (HG.hG b a (ns.drop (ns.length - i))).natAbs ≤ 2 ^ 1200 := hG_fit hb2 ha (by rw [List.length_drop]; omega) fun c hc => hb.mem (List.mem_of_mem_drop hc)
      have fp := pow_fit hb2 (n := i) (by omega)
      have hc : (ns[ns.length - 1 - i]).natAbs ≤ 2 ^ 400 := hb.mem (List.getElem_mem _)
      refine ⟨_, rfl, _, rfl, p, _, 0, .int a, rfl, rfl, SqT.of hp2, atI_nat (j := 0) rfl, _, _, rfl, rfl, wide_le2 fit ha (by decide), _, rfl, _, rfl, _, _, rfl, rfl, wide_le2 hc fp (by decide), _, _, rfl, rfl, ?_⟩
      refine ⟨_, rfl, _, rfl, p, _, 1, .int b, rfl, rfl, SqT.of hp2, atI_nat (j := 1) rfl, _, _, rfl, rfl, wide_le2 fp hb2 (by decide), rfl, some (V.int ns[ns.length - 1 - i]), ?_⟩
      rw [ed, Int.pow_succ]
      show _ = [some (V.ref x), some (V.ref p), some (V.int (ns[ns.length - 1 - i] * b ^ (ns.drop (ns.length - i)).length + a * HG.hG b a (ns.drop (ns.length - i)))), some (V.int (b ^ i * b)), some (V.int ns[ns.length - 1 - i])]
      rw [List.length_drop, show ns.length - (ns.length - i) = i by omega, Int.add_comm, Int.mul_comm a]
      rfl
    · rintro σ H3 ⟨rfl, v4, rfl⟩
      rw [List.length_map, List.length_reverse, Nat.sub_self, List.drop_zero]
      exact ⟨_, rfl, q _ s12⟩
def spFva (K : PySem.W.Frag) : Sp := fun vs H Q _ => ∃ (x : Addr) (ns : List Int) (h t : Int), vs = [.ref x, .int h, .int t] ∧ SqT K H x (ns.map V.int) ∧ ns.length ≤ 70 ∧ Bd (2 ^ 400) ns ∧ h.natAbs ≤ 2 ^ 10 ∧ t.natAbs ≤ 2 ^ 10 ∧ ∀ H', Same H H' → Q (.int (HG.hG t h ns)) H'
theorem scFva : FnScope ["heap", "h", "t", "found", "part", "number"] ["heap", "h", "t"] (defScope sFva) := ⟨rfl, rfl, rfl, by decide +kernel, rfl, by decide +kernel, by decide +kernel⟩
theorem ok_fva {f0 : Addr} {fd : FuncData} (F : Fun K "_law_form_value" "_law_form_value" sFva f0 fd) (T : Names mg) : FnOk P w K mg base CX0 1 f0 fd ["heap", "h", "t"] (spFva K) := by
  refine F.ok scFva (fun vs H Q E h => ?_) (fun cdv A outer s H vs Q E hr h => ?_)
  · obtain ⟨x, ns, h, t, rfl, _⟩ := h
    rfl
  · obtain ⟨x, ns, h, t, rfl, hX, hl, hb, hh, ht, q⟩ := h
    refine ⟨_, (pss_cons (ps_asg (pe_tup (pa_cons pe_int (pa_cons pe_int pa_nil))) (pg_tup rfl (pgs_cons (pg_name (i := 3) scFva.nd rfl (.inl rfl)) (pgs_cons (pg_name (i := 4) scFva.nd rfl (.inl rfl)) pgs_nil))))
      (pss_cons (ps_for PassesOwn.never rfl (pi_tup (pv 0)) (pg_name (i := 5) scFva.nd rfl (.inl rfl)) (pss_one (ps_par (i := 3) (j := 4) (by rfl) scFva.nd rfl rfl (by decide) rfl rfl (pa_cons (pe_op op_add (pe_op op_mulW (pv 3) (pv 2)) (pe_op op_mulW (pv 5) (pv 4))) (pa_cons (pe_op op_mulW (pv 4) (pv 1)) pa_nil)) (by rfl))))
      (pss_one (ps_ret (pv 3))))), ?_⟩
    refine ⟨by show 2 ≤ sizeLine; decide, fun e0 ne0 => ?_⟩
    have s1 := Same.upd (o := .tup [V.int 0, .int 1]) ne0
    refine ⟨e0, _, rfl, tup_of upd_same, rfl, _, _, rfl, _, _, rfl, rfl, ?_⟩
    have hx1 := Same.tup s1 hX
    generalize upd H e0 (.tup [V.int 0, .int 1]) = H1 at s1 hx1 ⊢
    refine ⟨_, rfl, x, rfl, ⟨_, hx1⟩, ?_⟩
    refine for_tup (K := K) (a := x) (xs := ns.map V.int) (fun i σ H' => H' = H1 ∧ ∃ v5 : Option V, σ = [some (V.ref x), some (V.int h), some (V.int t), some (V.int (HG.hG t h (ns.take i))), some (V.int (h ^ i)), v5]) ⟨rfl, none, by rw [Int.pow_zero]; rfl⟩ (fun i σ H' _ h => by rw [h.1]; exact hx1) ?_ ?_
    · rintro i v σ H3 hv ⟨rfl, v5, rfl⟩
      have hi : i < ns.length := by
        have := (List.getElem?_eq_some_iff.mp hv).1
        rwa [List.length_map] at this
      have ev : v = .int ns[i] := by
        rw [List.getElem?_map, List.getElem?_eq_getElem hi] at hv
        exact (Option.some.inj hv).symm
      subst ev
      have fit : (HG.hG t h (ns.take i)).natAbs ≤ 2 ^ 1200 := hG_fit ht hh (by rw [List.length_take]; omega) fun c hc => hb.mem (List.mem_of_mem_take hc)
      have fp := pow_fit hh (n := i) (by omega)
      have hc : (ns[i]).natAbs ≤ 2 ^ 400 := hb.mem (List.getElem_mem _)
      refine ⟨_, rfl, _, rfl, _, _, rfl, rfl, wide_le2 fit ht (by decide), _, rfl, _, rfl, _, _, rfl, rfl, wide_le2 hc fp (by decide), _, _, rfl, rfl, _, rfl, _, rfl, _, _, rfl, rfl, wide_le2 fp hh (by decide), _, _, rfl, rfl, some (V.int ns[i]), ?_⟩
      rw [List.take_succ_eq_append_getElem hi, hG_snoc, Int.pow_succ, List.length_take, Nat.min_eq_left (by omega), Int.mul_comm t]
      rfl
    · rintro σ H3 ⟨rfl, v5, rfl⟩
      rw [List.length_map, List.take_length]
      exact ⟨_, rfl, q _ s1⟩
end
end Z

set_option Elab.async false
set_option linter.all false
set_option maxRecDepth 100000
set_option maxHeartbeats 4000000
set_option exponentiation.threshold 20000
namespace Z
open PySem PySem.Spec PyProof.Rows L2 GG M3
abbrev sFrom : Stmt := top 11
section
variable {P : Program} {w : World} {K : PySem.W.Frag} {mg : Str → Option Value} {base : Heap}
/-! zeros at a tuple's end -/
def spTrimT (K : PySem.W.Frag) : Sp := fun vs H Q _ => ∃ (a : Addr) (ns : List Int), vs = [.ref a] ∧ SqT K H a (ns.map V.int) ∧ ∀ p H', Same H H' → SqT K H' p ((strip ns).map V.int) → Q (.ref p) H'
theorem ok_trimT {f : Addr} {fd : FuncData} (F : Fun K "trim_zeros" "trim_zeros" sTrim f fd) (T : Names mg) : FnOk P w K mg base CX0 1 f fd ["coefficients"] (spTrimT K) := by
  refine F.ok scTrim (fun vs H Q E h => ?_) (fun cdv A outer s H vs Q E hr h => ?_)
  · obtain ⟨a, ns, rfl, _⟩ := h
    rfl
  · obtain ⟨a, ns, rfl, hS, q⟩ := h
    refine ⟨_, (pss_cons (ps_set (i := 1) scTrim.nd rfl (.inl rfl) (pe_callB call_len_seq (by rfl) T.len PySem.boot_len (pa_cons (pv 0) pa_nil)))
      (pss_cons (ps_while PassesOwn.never (PW.pt (pw_and (pt_cmpR op_gt (pv 1) pe_int (nomark _)) (pw_and1 (pt_cmpR op_eq (pe_ix ix_tup (pv 0) (pe_op op_sub (pv 1) pe_int) (fun _ _ => rfl)) pe_int (nomark _))))) (pss_one (ps_aug (i := 1) scTrim.nd rfl (.inl rfl) pe_int ip_sub)))
      (pss_one (ps_ret (pe_callTy call_tuple_of (by rfl) T.tuple (by decide +kernel) (pa_cons (pe_slice sl_tupA (pv 0) po_none (po_some (pv 1))) pa_nil)))))), ?_⟩
    refine ⟨.ref a, rfl, a, _, rfl, .inr hS, ?_⟩
    refine ⟨fun n σ H' => ∃ j : Nat, n = j ∧ j ≤ ns.length ∧ σ = [some (V.ref a), some (V.int (j : Int))] ∧ H' = H ∧ strip (ns.take j) = strip ns, ⟨ns.length, ns.length, rfl, Nat.le_refl _, by rw [List.length_map]; rfl, rfl, by rw [List.take_length]⟩, ?_⟩
    rintro j σ H' ⟨_, rfl, hj, rfl, rfl, ej⟩
    have fin : ∀ j : Nat, j ≤ ns.length → strip ns = ns.take j → rSlA K (.ref a) none (some (j : Int)) H' fun x H1 => ∃ p ys, [x] = [V.ref p] ∧ ((SqL K H1 p ys ∧ ∀ l, H1 l = none → Q (.ref l) (upd H1 l (.tup ys))) ∨ (SqT K H1 p ys ∧ Q (.ref p) H1)) := fun j hj e =>
      slA hS fun t H5 s5 et => ⟨t, _, rfl, .inr ⟨et, q t H5 s5 (by rw [e, List.map_take]; rw [cut_len, List.length_map, Nat.min_eq_left hj] at et; exact et)⟩⟩
    refine ⟨_, rfl, _, _, rfl, rfl, _, rfl, ?_⟩
    cases j with
    | zero =>
      rw [decide_eq_false (by omega)]
      exact iteF (iteF ⟨.ref a, rfl, _, rfl, ((0 : Nat) : Int), rfl, fin 0 (Nat.zero_le _) (by rw [← ej]; rfl)⟩)
    | succ j =>
      rw [decide_eq_true (by omega)]
      refine iteT ⟨.ref a, rfl, _, rfl, _, _, rfl, rfl, a, _, _, .int (ns.getD j 0), rfl, rfl, hS, at_of (j := j) (by omega) (get_int (by omega)), rfl, _, rfl, ?_⟩
      have et : ns.take (j + 1) = ns.take j ++ [ns.getD j 0] := by
        rw [List.take_succ_eq_append_getElem (by omega), List.getD_eq_getElem?_getD, List.getElem?_eq_getElem (by omega)]
        rfl
      by_cases hz : ns.getD j 0 = 0
      · rw [hz, decide_eq_true rfl]
        refine iteT ⟨fun σ H4 => ∃ j' : Nat, j' < j + 1 ∧ j' ≤ ns.length ∧ σ = [some (V.ref a), some (V.int (j' : Int))] ∧ H4 = H' ∧ strip (ns.take j') = strip ns, ?_, ?_⟩
        · rintro σ H4 ⟨j', lt, h1, h2, h3, h4⟩
          exact ⟨j', lt, j', rfl, h1, h2, h3, h4⟩
        · refine ⟨_, rfl, _, _, rfl, rfl, j, by omega, by omega, ?_, rfl, by rw [← ej, et, hz, strip_zero]⟩
          show [some (V.ref a), some (V.int (((j + 1 : Nat) : Int) - 1))] = _
          rw [show ((j + 1 : Nat) : Int) - 1 = (j : Int) by omega]
      · rw [decide_eq_false (by intro e; exact hz (V.int.inj e))]
        exact iteF ⟨.ref a, rfl, _, rfl, ((j + 1 : Nat) : Int), rfl, fin (j + 1) hj (by rw [← ej, et, strip_last hz])⟩
def spFrom (K : PySem.W.Frag) : Sp := fun vs H Q _ => ∃ (x : Addr) (f : List Int), vs = [.ref x] ∧ SqT K H x (f.map V.int) ∧ f.length ≤ 60 ∧
  ∀ p H', Same H H' → SqT K H' p ((strip (fromK f f.length)).map V.int) → Q (.ref p) H'
theorem scFrom : FnScope ["form", "coefficients", "c", "shifted", "same", "lower"] ["form"] (defScope sFrom) := ⟨rfl, rfl, rfl, by decide +kernel, rfl, by decide +kernel, by decide +kernel⟩
theorem ok_from {f0 fa ft : Addr} {fd da dt : FuncData} (F : Fun K "from_form" "from_form" sFrom f0 fd) (T : Names8 mg) (GA : FnOk P w K mg base CX0 1 fa da ["form", "number"] (spAtl K)) (PA_ : Def K mg "add_to_last" fa da ["form", "number"])
    (GT : FnOk P w K mg base CX0 1 ft dt ["coefficients"] (spTrimT K)) (PT_ : Def K mg "trim_zeros" ft dt ["coefficients"]) : FnOk P w K mg base CX0 2 f0 fd ["form"] (spFrom K) := by
  refine F.ok scFrom (fun vs H Q E h => ?_) (fun cdv A outer s H vs Q E hr h => ?_)
  · obtain ⟨x, f, rfl, _⟩ := h
    rfl
  · obtain ⟨x, f, rfl, hX, hn, q⟩ := h
    refine ⟨_, (pss_cons (ps_set (i := 1) scFrom.nd rfl (.inl rfl) (pe_tup pa_nil))
      (pss_cons (ps_for PassesOwn.never rfl (pi_tup (pv 0)) (pg_name (i := 2) scFrom.nd rfl (.inl rfl)) (pss_cons (ps_setLc (i := 3) (own := [("same", 4), ("lower", 5)]) (g := gTup K 2 (gCons (gName 4) (gCons (gName 5) gNil))) (tt := tYes) rfl scFrom.nd rfl rfl (sw_true rfl rfl rfl (by decide +kernel)) (RZ.pi_zipA (by rfl) T.zip (pa_cons (pe_tup (StX.pa_star (pv 1) (pa_cons pe_int pa_nil))) (pa_cons (pe_tup (pa_cons pe_int (StX.pa_star (pv 1) pa_nil))) pa_nil))) (blkOk_by (N := ["form", "coefficients", "c", "shifted", "same", "lower"]) (sc := defScope sFrom) (own := [("same", 4), ("lower", 5)]) (by decide +kernel)) (fun _ _ _ _ _ => (pg_tup rfl (pgs_cons (pg_name (i := 4) scFrom.nd rfl (.inl rfl) (Or.inr rfl)) (pgs_cons (pg_name (i := 5) scFrom.nd rfl (.inl rfl) (Or.inr rfl)) pgs_nil)))) (fun _ _ _ _ _ => pts_nil) (fun _ _ _ _ _ => (pe_op op_sub (pv 4) (pv 5))))
      (pss_one (ps_set (i := 1) scFrom.nd rfl (.inl rfl) (pe_call GA (hr.mono (by first | decide | omega)) (by rfl) PA_.is PA_.kp PA_.bi .nil pass0 (pa_cons (pv 3) (pa_cons (pv 2) pa_nil)))))))
      (pss_one (ps_ret (pe_call GT (hr.mono (by first | decide | omega)) (by rfl) PT_.is PT_.kp PT_.bi .nil pass0 (pa_cons (pv 1) pa_nil)))))), ?_⟩
    refine ⟨Nat.zero_le _, fun e ne => ?_⟩
    have s1 := Same.upd (o := .tup []) ne
    have e1 : upd H e (.tup []) e = some (.tup ((fromK f 0).map V.int)) := upd_same
    have hX1 := Same.tup s1 hX
    refine ⟨.ref x, rfl, x, rfl, ⟨_, hX1⟩, for_tup (K := K) (a := x) (xs := f.map V.int) (fun i σ H' => ∃ (r : Addr) (v2 v3 : Option V), σ = [some (V.ref x), some (V.ref r), v2, v3, none, none] ∧ Same H H' ∧ H' r = some (.tup ((fromK f i).map V.int)))
      ⟨e, _, _, rfl, s1, e1⟩ (fun i σ H' _ ⟨_, _, _, _, s, _⟩ => Same.tup s hX) ?_ ?_⟩
    · rintro i v σ H' hv ⟨r, v2, v3, rfl, s2, er⟩
      have hi : i < f.length := by
        have := (List.getElem?_eq_some_iff.mp hv).1
        rwa [List.length_map] at this
      have ev : v = .int (f.getD i 0) := by
        rw [get_int hi] at hv
        exact (Option.some.inj hv).symm
      subst ev
      refine on ?_
      have sH := s2
      have hR : SqT K H' r ((fromK f i).map V.int) := tup_of er
      have gl : (fromK f i).length ≤ 100 := by rw [fromK_len]; omega
      generalize hg : fromK f i = g at *
      clear er hv
      refine ⟨.ref r, rfl, r, _, rfl, .inl hR, ?_, fun p1 n1 => ?_⟩
      · rw [List.length_append, List.length_map]
        exact Nat.le_of_lt (small1000 (by show _ + 1 ≤ 1000; omega))
      have s1 := Same.upd (o := .tup (g.map V.int ++ [V.int 0])) n1
      have e1 : upd H' p1 (.tup (g.map V.int ++ [V.int 0])) p1 = some (.tup ((g ++ [0]).map V.int)) := by
        rw [upd_same, List.map_append]
        rfl
      have hR1 := Same.tup s1 hR
      generalize upd H' p1 (.tup (g.map V.int ++ [V.int 0])) = H1 at s1 e1 hR1 ⊢
      refine ⟨.ref r, rfl, r, _, rfl, .inl hR1, ?_, fun p2 n2 => ?_⟩
      · show (V.int 0 :: (g.map V.int ++ [])).length ≤ sizeLine
        rw [List.length_cons, List.append_nil, List.length_map]
        exact Nat.le_of_lt (small1000 (by omega))
      have s2 := Same.upd (o := .tup (V.int 0 :: (g.map V.int ++ []))) n2
      have e2 : upd H1 p2 (.tup (V.int 0 :: (g.map V.int ++ []))) p2 = some (.tup ((0 :: g).map V.int)) := by
        rw [upd_same, List.append_nil]
        rfl
      replace e1 := s2 _ _ e1
      have s12 := s1.trans s2
      generalize upd H1 p2 (.tup (V.int 0 :: (g.map V.int ++ []))) = H2 at s12 e1 e2 ⊢
      refine ⟨p1, p2, _, _, rfl, .inr ⟨tup_of e1, tup_of e2, fun D nD => ?_⟩⟩
      have lx : (g ++ [0]).length = g.length + 1 := by simp
      have ly : (0 :: g).length = g.length + 1 := by simp
      refine lc_zT (K := K) (xs := (g ++ [0]).map V.int) (ys := (0 :: g).map V.int) (by simp) (fun i Hx => Hx D = some (.lst (((List.range i).map fun t => (g ++ [0]).getD t 0 + (-1) * (0 :: g).getD t 0).map V.int)) ∧ Same H2 Hx) ⟨upd_same, Same.upd nD⟩ (fun i Hx h => ⟨Same.tup h.2 (tup_of e1), Same.tup h.2 (tup_of e2)⟩) ?_ ?_
      · rintro j a b H3 T0 ha hb ⟨e3, s3⟩ nT
        have hj : j < g.length + 1 := by
          have := (List.getElem?_eq_some_iff.mp ha).1
          rwa [List.length_map, lx] at this
        have ea : a = .int ((g ++ [0]).getD j 0) := by
          rw [get_int (by omega)] at ha
          exact (Option.some.inj ha).symm
        have eb : b = .int ((0 :: g).getD j 0) := by
          rw [get_int (by omega)] at hb
          exact (Option.some.inj hb).symm
        generalize hu : (g ++ [0]).getD j 0 = u at *
        generalize hv : (0 :: g).getD j 0 = v at *
        subst ea eb
        have s4 := Same.upd (o := .tup [.int u, .int v]) nT
        refine ⟨T0, _, rfl, tup_of upd_same, rfl, _, _, rfl, _, _, rfl, rfl, rfl, ?_⟩
        dsimp only [tYes]
        refine iteT ?_
        refine ⟨_, rfl, _, rfl, _, _, rfl, rfl, _, s4 _ _ e3, by rw [List.length_map, List.length_map, List.length_range]; exact small1000 (by omega), ?_, ?_⟩
        · rw [upd_same, List.range_succ, List.map_append, List.map_append]
          show _ = some (HO.lst (_ ++ [V.int ((g ++ [0]).getD j 0 + (-1) * (0 :: g).getD j 0)]))
          rw [hu, hv, show u + -1 * v = u - v by omega]
        · intro b o e
          rw [upd_ne (ne_of_none e nD)]
          exact s4 _ _ (s3 _ _ e)
      · rintro H3 ⟨e3, s3⟩
        rw [List.length_map, lx, ← rz_map] at e3
        have s13 := s12.trans s3
        refine ⟨.ref D, rfl, _, rfl, D, rz (-1) g, f.getD i 0, rfl, .inr (SqL.of e3), rz_ne _ _, fun p H4 s4 np ep => ?_⟩
        exact ⟨p, _, _, rfl, (sH.trans s13).trans s4, by rw [ep, ← hg]; rfl⟩
    · rintro σ H' ⟨r, v2, v3, rfl, s2, er⟩
      rw [List.length_map] at er
      exact ⟨.ref r, rfl, r, _, rfl, tup_of er, fun p H3 s3 et => q p H3 (s2.trans s3) et⟩
end
end Z

set_option Elab.async false
set_option linter.all false
set_option maxRecDepth 100000
set_option maxHeartbeats 4000000
set_option exponentiation.threshold 20000
namespace Z
open PySem PySem.Spec PyProof.Rows L2 GG M3 M4 ZC
abbrev sRP : Stmt := top 26
section
variable {P : Program} {w : World} {K : PySem.W.Frag} {mg : Str → Option Value} {base : Heap}
/-- a pair of rows stands at t -/
def spRP : Sp := fun vs H Q _ => ∃ (r : Addr) (m : Nat) (ds es : List Int), vs = [.ref r] ∧ Rec H r m ds es ∧ ds.length ≤ 60 ∧ es.length ≤ 60 ∧ RIn (pol ds) (pol es) ∧
  ∀ (t : Addr) (u v : List Int) H', Same H H' → H t = none → Pair H' t u v → GC.RedX (pol ds) (pol es) u v → Q (.ref t) H'
theorem scRP : FnScope ["recipe", "_", "ds", "es"] ["recipe"] (defScope sRP) := ⟨rfl, rfl, rfl, by decide +kernel, rfl, by decide +kernel, by decide +kernel⟩
theorem ok_rp {f fr ff : Addr} {fd rd fd2 : FuncData} (F : Fun K "recipe_probability" "recipe_probability" sRP f fd) (GR : FnOk P w K mg base CX0 5 fr rd ["numerator", "denominator"] (spRr K)) (PR : Def K mg "reduce_rational" fr rd ["numerator", "denominator"])
    (GF : FnOk P w K mg base CX0 2 ff fd2 ["form"] (spFrom K)) (PF_ : Def K mg "from_form" ff fd2 ["form"]) : FnOk P w K mg base CX0 6 f fd ["recipe"] spRP := by
  refine F.ok scRP (fun vs H Q E h => ?_) (fun cdv A outer s H vs Q E hr h => ?_)
  · obtain ⟨r, m, ds, es, rfl, _⟩ := h
    rfl
  · obtain ⟨r, m, ds, es, rfl, ⟨a, b, er, ea, eb⟩, l1, l2, hin, q⟩ := h
    refine ⟨_, (pss_cons (ps_asg (pv 0) (pg_tup rfl (pgs_cons (pg_name (i := 1) scRP.nd rfl (.inl rfl)) (pgs_cons (pg_name (i := 2) scRP.nd rfl (.inl rfl)) (pgs_cons (pg_name (i := 3) scRP.nd rfl (.inl rfl)) pgs_nil)))))
      (pss_one (ps_ret (pe_call GR (hr.mono (by first | decide | omega)) (by rfl) PR.is PR.kp PR.bi .nil pass0 (pa_cons (pe_call GF (hr.mono (by first | decide | omega)) (by rfl) PF_.is PF_.kp PF_.bi .nil pass0 (pa_cons (pv 2) pa_nil)) (pa_cons (pe_call GF (hr.mono (by first | decide | omega)) (by rfl) PF_.is PF_.kp PF_.bi .nil pass0 (pa_cons (pv 3) pa_nil)) pa_nil)))))), ?_⟩
    refine ⟨_, rfl, r, _, rfl, SqT.of er, rfl, _, _, rfl, _, _, rfl, _, _, rfl, rfl, ?_⟩
    refine ⟨_, rfl, a, ds, rfl, SqT.of ea, l1, fun t1 H1 s1 e1 => ?_⟩
    refine ⟨_, rfl, b, es, rfl, Same.tup s1 (SqT.of eb), l2, fun t2 H2 s2 e2 => ?_⟩
    refine ⟨t1, t2, pol ds, pol es, rfl, Same.tup s2 e1, e2, hin, fun t pu pv u v H3 s3 n3 et eu ev red => ?_⟩
    exact q t u v H3 ((s1.trans s2).trans s3) ((s1.trans s2).free n3) ⟨pu, pv, et, eu, ev⟩ red
end
end Z

set_option Elab.async false
set_option linter.all false
set_option maxRecDepth 100000
set_option maxHeartbeats 4000000
set_option exponentiation.threshold 20000
namespace Z
open PySem PySem.Spec PyProof.Rows L2 GG M3
abbrev sExp : Stmt := top 39
section
variable {P : Program} {w : World} {K : PySem.W.Frag} {mg : Str → Option Value} {base : Heap}
def spExp (K : PySem.W.Frag) : Sp := fun vs H Q _ => ∃ (x : Addr) (f : List Int), vs = [.ref x] ∧ SqT K H x (f.map V.int) ∧ f.length ≤ 31 ∧ Bd (2 ^ 150) f ∧
  ∀ p u H', Same H H' → H' p = some (.tup (u.map V.int)) → strip u = u → fn u = Ex f → Q (.ref p) H'
theorem scExp : FnScope ["heap", "found", "heads", "k", "number", "part", "turn"] ["heap"] (defScope sExp) := ⟨rfl, rfl, rfl, by decide +kernel, rfl, by decide +kernel, by decide +kernel⟩
theorem prod_len (f g : List Int) : (strip (prod f g)).length ≤ f.length + g.length := Nat.le_trans (strip_len _) (by simp [prod])
theorem bd_small {l : List Int} {k j : Nat} (h : fn l = Sk k (Tn j)) (hj : j ≤ 100) : Bd (2 ^ 400) l := fun t => by
  have := (Tn_le j).sk k t
  rw [← h] at this
  exact Nat.le_trans this (Nat.pow_le_pow_right (by decide) (by omega))
theorem len_of {l : List Int} {m : Nat} (h : ∀ t, m ≤ t → fn (strip l) t = 0) : (strip l).length ≤ m := by
  show GC.dg l ≤ m
  refine GC.dg_le fun t ht => ?_
  have := h t ht
  rw [strip_getD] at this
  exact this
theorem Tn_out : ∀ j t, j < t → Tn j t = 0
  | 0, 0, h => absurd h (by decide)
  | 0, t + 1, _ => rfl
  | j + 1, 0, h => absurd h (Nat.not_lt_zero _)
  | j + 1, t + 1, h => by
    show Tn j (t + 1) - Tn j t = 0
    rw [Tn_out j (t + 1) (by omega), Tn_out j t (by omega)]
    rfl
theorem Sk_out {f : Nat → Int} {m : Nat} (h : ∀ t, m < t → f t = 0) : ∀ k t, k + m < t → Sk k f t = 0
  | 0, t, ht => h t (by omega)
  | k + 1, 0, ht => absurd ht (Nat.not_lt_zero _)
  | k + 1, t + 1, ht => Sk_out h k t (by omega)
theorem ok_exp {f0 fp fa : Addr} {fd dp da : FuncData} (F : Fun K "_law_expand" "_law_expand" sExp f0 fd) (T : Names8 mg) (GP : FnOk P w K mg base CX0 2 fp dp ["one", "other"] (spProd K)) (PP : Def K mg "_law_product" fp dp ["one", "other"])
    (GA : FnOk P w K mg base CX0 2 fa da ["one", "other"] (spAdd K)) (PA_ : Def K mg "_law_add" fa da ["one", "other"]) : FnOk P w K mg base CX0 3 f0 fd ["heap"] (spExp K) := by
  refine F.ok scExp (fun vs H Q E h => ?_) (fun cdv A outer s H vs Q E hr h => ?_)
  · obtain ⟨x, f, rfl, _⟩ := h
    rfl
  · obtain ⟨x, f, rfl, hX, hn, hb, q⟩ := h
    refine ⟨_, (pss_cons (ps_asg (pe_tup (pa_cons (pe_tup pa_nil) (pa_cons (pe_tup (pa_cons pe_int pa_nil)) pa_nil))) (pg_tup rfl (pgs_cons (pg_name (i := 1) scExp.nd rfl (.inl rfl)) (pgs_cons (pg_name (i := 2) scExp.nd rfl (.inl rfl)) pgs_nil))))
      (pss_cons (ps_for PassesOwn.never rfl (EN.pi_pairs (by rfl) T.enumerate (pa_cons (pv 0) pa_nil)) (pg_tup rfl (pgs_cons (pg_name (i := 3) scExp.nd rfl (.inl rfl)) (pgs_cons (pg_name (i := 4) scExp.nd rfl (.inl rfl)) pgs_nil))) (pss_cons (ps_set (i := 5) scExp.nd rfl (.inl rfl) (pv 2))
      (pss_cons (ps_for PassesOwn.never rfl (pi_range1 rfl T.range (pa_cons (pe_op op_sub (pe_op op_sub (pe_callB call_len_seq (by rfl) T.len PySem.boot_len (pa_cons (pv 0) pa_nil)) pe_int) (pv 3)) pa_nil)) (pg_name (i := 6) scExp.nd rfl (.inl rfl)) (pss_one (ps_set (i := 5) scExp.nd rfl (.inl rfl) (pe_call GP (hr.mono (by first | decide | omega)) (by rfl) PP.is PP.kp PP.bi .nil pass0 (pa_cons (pv 5) (pa_cons (pe_tup (pa_cons pe_int (pa_cons (pe_un un_neg pe_int) pa_nil))) pa_nil))))))
      (pss_cons (ps_set (i := 1) scExp.nd rfl (.inl rfl) (pe_call GA (hr.mono (by first | decide | omega)) (by rfl) PA_.is PA_.kp PA_.bi .nil pass0 (pa_cons (pv 1) (pa_cons (pe_call GP (hr.mono (by first | decide | omega)) (by rfl) PP.is PP.kp PP.bi .nil pass0 (pa_cons (pv 5) (pa_cons (pe_tup (pa_cons (pv 4) pa_nil)) pa_nil))) pa_nil))))
      (pss_one (ps_set (i := 2) scExp.nd rfl (.inl rfl) (pe_call GP (hr.mono (by first | decide | omega)) (by rfl) PP.is PP.kp PP.bi .nil pass0 (pa_cons (pv 2) (pa_cons (pe_tup (pa_cons pe_int (pa_cons pe_int pa_nil))) pa_nil)))))))))
      (pss_one (ps_ret (pv 1))))), ?_⟩
    obtain ⟨n, en⟩ : ∃ n, f.length = n := ⟨_, rfl⟩
    refine ⟨Nat.zero_le _, fun e ne => ⟨by show 1 ≤ sizeLine; decide, fun e2 ne2 => ⟨by show 2 ≤ sizeLine; decide, fun e3 ne3 => ?_⟩⟩⟩
    have s1 := Same.upd (o := .tup []) ne
    have s2 := Same.upd (o := .tup [.int 1]) ne2
    have s3 := Same.upd (o := .tup [.ref e, .ref e2]) ne3
    have ee : upd (upd (upd H e (.tup [])) e2 (.tup [.int 1])) e3 (.tup [.ref e, .ref e2]) e = some (.tup (([] : List Int).map V.int)) := s3 _ _ (s2 _ _ upd_same)
    have ee2 : upd (upd (upd H e (.tup [])) e2 (.tup [.int 1])) e3 (.tup [.ref e, .ref e2]) e2 = some (.tup (([1] : List Int).map V.int)) := s3 _ _ upd_same
    have ee3 : upd (upd (upd H e (.tup [])) e2 (.tup [.int 1])) e3 (.tup [.ref e, .ref e2]) e3 = some (.tup [.ref e, .ref e2]) := upd_same
    have s12 := (s1.trans s2).trans s3
    generalize upd (upd (upd H e (.tup [])) e2 (.tup [.int 1])) e3 (.tup [.ref e, .ref e2]) = H0 at s12 ee ee2 ee3 ⊢
    refine ⟨e3, _, rfl, tup_of ee3, rfl, _, _, rfl, _, _, rfl, rfl, ?_⟩
    refine ⟨.ref x, rfl, x, _, rfl, Same.tup s12 hX, ?_⟩
    refine EN.for_pairs (K := K) (xs := f.map V.int) (fun k σ H' => ∃ (fo he : Addr) (u h : List Int) (v3 v4 v5 v6 : Option V), σ = [some (V.ref x), some (V.ref fo), some (V.ref he), v3, v4, v5, v6] ∧ Same H H' ∧ H' fo = some (.tup (u.map V.int)) ∧ H' he = some (.tup (h.map V.int)) ∧
        fn h = Sn k ∧ h.length ≤ 1 + k ∧ (∀ t, fn u t + Sk k (Ex (f.drop k)) t = Ex f t) ∧ strip u = u ∧ u.length ≤ 60)
      ⟨e, e2, [], [1], _, _, _, _, rfl, s12, ee, ee2, ?_, by decide, fun t => ?_, rfl, by decide⟩ (fun k σ H' _ ⟨_, _, _, _, _, _, _, _, _, s, _⟩ => Same.tup s hX) ?_ ?_
    · funext t
      cases t with
      | zero => rfl
      | succ t => rfl
    · show (0 : Int) + Ex (f.drop 0) t = _
      rw [List.drop_zero, Int.zero_add]
    · rintro k v σ H' T0 hv ⟨fo, he, u, h, v3, v4, v5, v6, rfl, sH, eu, eh, fh, lh, inv, su, lu⟩ nT
      have hk : k < f.length := by
        have := (List.getElem?_eq_some_iff.mp hv).1
        rwa [List.length_map] at this
      have ev : v = .int (f.getD k 0) := by
        rw [get_int hk] at hv
        exact (Option.some.inj hv).symm
      subst ev
      generalize hc : f.getD k 0 = c at *
      have s3 := Same.upd (o := .tup [.int (k : Nat), .int c]) nT
      refine ⟨T0, _, rfl, tup_of upd_same, rfl, _, _, rfl, _, _, rfl, rfl, ?_⟩
      have sH3 := sH.trans s3
      have eu3 := s3 _ _ eu
      have eh3 := s3 _ _ eh
      generalize upd H' T0 (.tup [.int (k : Nat), .int c]) = H3 at sH3 eu3 eh3 ⊢
      refine ⟨_, rfl, ?_⟩
      refine ⟨.ref x, rfl, x, _, rfl, .inr (Same.tup sH3 hX), _, _, rfl, rfl, _, rfl, _, _, rfl, rfl, _, rfl, ?_, ?_, ?_⟩
      · rw [List.length_map]
        omega
      · rw [List.length_map]
        omega
      have er : (((f.map V.int).length : Nat) : Int) - 1 - (k : Nat) = ((n - 1 - k : Nat) : Int) := by
        rw [List.length_map]
        omega
      have er2 : ((((f.map V.int).length : Nat) : Int) - 1 - (k : Nat)).toNat = n - 1 - k := by
        rw [er]
        omega
      rw [er2]
      refine for_range (lo := 0) (n := n - 1 - k) (fun j σ H4 => ∃ (pa : Addr) (pl : List Int) (v6 : Option V), σ = [some (V.ref x), some (V.ref fo), some (V.ref he), some (V.int (k : Nat)), some (V.int c), some (V.ref pa), v6] ∧ Same H3 H4 ∧ H4 pa = some (.tup (pl.map V.int)) ∧
          fn pl = Sk k (Tn j) ∧ pl.length ≤ 1 + k + j) ⟨he, h, _, rfl, Same.refl _, eh3, fh, by omega⟩ ?_ ?_
      · rintro j σ H4 hj ⟨pa, pl, v6, rfl, s4, ep, fp, lp⟩
        refine ⟨.ref pa, rfl, 1, rfl, by show 2 ≤ sizeLine; decide, fun t nt => ?_⟩
        have s5 := Same.upd (o := .tup [.int 1, .int (-1)]) nt
        refine ⟨pa, t, pl, [1, -1], rfl, tup_of (s5 _ _ ep), tup_of upd_same, by omega, by decide, bd_small fp (by omega), ?_, fun p H5 s6 np ep2 => ?_⟩
        · exact bd_of (by decide)
        · refine ⟨p, strip (prod pl [1, -1]), _, rfl, (s4.trans s5).trans s6, ep2, ?_, ?_⟩
          · rw [strip_getD, fn_prod]
            funext t
            rw [pf_one _ _ _ rfl, fp, ← Sk_Tl]
            rfl
          · refine len_of fun t ht => ?_
            have e : fn (strip (prod pl [1, -1])) = Sk k (Tn (j + 1)) := by
              rw [strip_getD, fn_prod]
              funext t
              rw [pf_one _ _ _ rfl, fp, ← Sk_Tl]
              rfl
            rw [e]
            exact Sk_out (fun t ht => Tn_out (j + 1) t ht) k t (by omega)
      · rintro σ H4 ⟨pa, pl, v6, rfl, s4, ep, fp, lp⟩
        have sH4 := sH3.trans s4
        refine ⟨.ref fo, rfl, .ref pa, rfl, _, rfl, by show 1 ≤ sizeLine; decide, fun t nt => ?_⟩
        have s5 := Same.upd (o := .tup [.int c]) nt
        have hc2 : c.natAbs ≤ 2 ^ 150 := by
          rw [← hc]
          exact hb k
        refine ⟨pa, t, pl, [c], rfl, tup_of (s5 _ _ ep), tup_of upd_same, by omega, by show 1 ≤ 60; decide, bd_small fp (by omega), bd_of (fun z hz => ?_), fun p H5 s6 np ep2 => ?_⟩
        · rw [List.mem_singleton.mp hz]
          exact Nat.le_trans hc2 (Nat.pow_le_pow_right (by decide) (by decide))
        have l2 := prod_len pl [c]
        have e1 : ([c] : List Int).length = 1 := rfl
        have s45 := s5.trans s6
        refine ⟨fo, p, u, strip (prod pl [c]), rfl, tup_of (s45 _ _ (s4 _ _ eu3)), tup_of ep2, by omega, by omega, fun p2 H6 s7 np2 ep3 => ?_⟩
        have s47 := s45.trans s7
        refine ⟨.ref he, rfl, by show 2 ≤ sizeLine; decide, fun t2 nt2 => ?_⟩
        have s8 := Same.upd (o := .tup [.int 0, .int 1]) nt2
        refine ⟨he, t2, h, [0, 1], rfl, tup_of (s8 _ _ (s47 _ _ (s4 _ _ eh3))), tup_of upd_same, by omega, by decide, bd_small (j := 0) fh (by decide), bd_of (by decide), fun p3 H7 s9 np3 ep4 => ?_⟩
        have s79 := s8.trans s9
        refine ⟨p2, p3, strip (sumF u (strip (prod pl [c]))), strip (prod h [0, 1]), _, _, _, _, rfl, (sH4.trans s47).trans s79, s79 _ _ ep3, ep4, ?_, ?_, fun t => ?_, strip_strip _, ?_⟩
        · rw [strip_getD, fn_prod]
          funext t
          rw [pf_shift, fh]
          rfl
        · refine len_of fun t ht => ?_
          have e : fn (strip (prod h [0, 1])) = Sn (k + 1) := by
            rw [strip_getD, fn_prod]
            funext t
            rw [pf_shift, fh]
            rfl
          rw [e, Sn_at, if_neg (by omega)]
        · have ed : f.drop k = c :: f.drop (k + 1) := by
            rw [List.drop_eq_getElem_cons hk, ← hc, List.getD_eq_getElem?_getD, List.getElem?_eq_getElem hk]
            rfl
          have q1 := inv t
          rw [ed] at q1
          have e3 : Ex (c :: f.drop (k + 1)) = fun t => c * Tn (n - 1 - k) t + Sh (Ex (f.drop (k + 1))) t := by
            show (fun t => c * Tn (f.drop (k + 1)).length t + _) = _
            rw [List.length_drop, show f.length - (k + 1) = n - 1 - k by omega]
          rw [e3, Sk_add, Sk_mul, Sk_Sh] at q1
          rw [strip_getD, fn_sum, strip_getD, fn_prod]
          show fn u t + pf pl [c] t + Sh (Sk k (Ex (f.drop (k + 1)))) t = _
          rw [pf_num, fp]
          have q2 : fn u t + (c * Sk k (Tn (n - 1 - k)) t + Sh (Sk k (Ex (f.drop (k + 1)))) t) = Ex f t := q1
          omega
        · refine Nat.le_trans (strip_len _) ?_
          simp only [sumF, List.length_map, List.length_range]
          omega
    · rintro σ H' ⟨fo, he, u, h, v3, v4, v5, v6, rfl, sH, eu, eh, fh, lh, inv, su, lu⟩
      refine ⟨.ref fo, rfl, q fo u H' sH eu su ?_⟩
      funext t
      have q1 := inv t
      rw [List.length_map, List.drop_length] at q1
      have z : ∀ k t, Sk k (Ex []) t = 0 := by
        intro k
        induction k with
        | zero => intro t; rfl
        | succ k ih =>
          intro t
          cases t with
          | zero => rfl
          | succ t => exact ih t
      rw [z, Int.add_zero] at q1
      exact q1
end
end Z

set_option Elab.async false
set_option linter.all false
set_option maxRecDepth 100000
set_option maxHeartbeats 4000000
set_option exponentiation.threshold 20000
namespace Z
open PySem PySem.Spec PyProof.Rows L2 GG M3 M4 ZC
abbrev sET : Stmt := top 27
abbrev sIsr : Stmt := top 41
theorem red_rowsG {f g u v : List Int} {M L X : Nat} (R : GC.RedX f g u v) (hg : 0 < GC.dg g) (bf : Bd M f) (bg : Bd M g) (lf : f.length ≤ L) (lg : g.length ≤ L) (hX : L ≤ 2 * X + 1) :
    u.length ≤ L ∧ v.length ≤ L ∧ Bd (M * (X + 1) ^ L * (2 * X + 3) ^ L) u ∧ Bd (M * (X + 1) ^ L * (2 * X + 3) ^ L) v := by
  have one : ∀ {f u : List Int}, GC.tr u = u → GC.Dv u f → 0 < GC.dg f → Bd M f → f.length ≤ L → u.length ≤ L ∧ Bd (M * (X + 1) ^ L * (2 * X + 3) ^ L) u := by
    intro f u tu du hf bf lf
    obtain ⟨e, he⟩ := du
    have he2 : ∀ x, val x f = val x e * val x u := fun x => (he x).trans (Int.mul_comm _ _)
    have d1 : GC.dg f ≤ L := Nat.le_trans (GC.dg_le fun t ht => getD_out ht) lf
    obtain ⟨_, _, dd⟩ := GC.scaled_dg (r := 1) (by decide) (v := f) (w := e) (e := u) (fun x => by rw [Int.one_mul, he2]) hf
    have lu : u.length = GC.dg u := by unfold GC.dg; rw [tu]
    refine ⟨by omega, fun t => ?_⟩
    have b := GC.part_le (X := X) (H := M) hf he2 (by omega) (fun c hc => bf.mem hc) t
    refine Nat.le_trans b ?_
    exact Nat.mul_le_mul (Nat.mul_le_mul_left _ (Nat.pow_le_pow_right (by omega) lf)) (Nat.pow_le_pow_right (by omega) (by omega))
  obtain ⟨v1, v2⟩ := one R.low.tv R.dv hg bg lg
  rcases Nat.eq_zero_or_pos (GC.dg f) with z | z
  · have e : u = [] := by
      refine GC.tr_eq R.low.tu rfl (GC.cancel hg fun x => ?_)
      rw [Int.mul_comm, R.eq, GC.dg_zero_val z]
      show 0 * _ = _ * 0
      omega
    subst e
    exact ⟨Nat.zero_le _, v1, fun t => by show (0 : Int).natAbs ≤ _; exact Nat.zero_le _, v2⟩
  · obtain ⟨u1, u2⟩ := one R.low.tu R.du z bf lf
    exact ⟨u1, v1, u2, v2⟩
def tsn (m : Nat) : List Int := if m = 0 then [] else [(m : Int)]
theorem tsn_ok (m : Nat) : strip (tsn m) = tsn m ∧ (tsn m).length ≤ 1 ∧ Bd (3 ^ m) (tsn m) := by
  unfold tsn
  by_cases h : m = 0
  · rw [if_pos h]
    exact ⟨rfl, by decide, fun t => Nat.zero_le _⟩
  · rw [if_neg h]
    refine ⟨?_, by show 1 ≤ 1; decide, bd_of fun x hx => ?_⟩
    · have : (m : Int) ≠ 0 := by omega
      exact strip_last (l := []) this
    · rw [List.mem_singleton.mp hx, Int.natAbs_natCast]
      exact Nat.le_of_lt (Nat.lt_pow_self (by decide))
theorem big30 : 3 ^ 30 * (15 + 1) ^ 31 * (2 * 15 + 3) ^ 31 < 2 ^ 400 ∧ 2 * (3 ^ 30 * 3 ^ 30 * (62 * 3 ^ 30 * (2 * (62 * 3 ^ 30) + 1) ^ 62)) ≤ 2 ^ 3999 := by decide +kernel
/-- a reduced pair may be reduced again -/
theorem low_in {f u v ds es : List Int} {m : Nat} (w : WR m ds es) (hm : m ≤ 30) (R : GC.RedX f (pol es) u v) (bf : Bd (3 ^ m) f) (lf : f.length ≤ m + 1) : RIn u v ∧ u.length ≤ 31 ∧ v.length ≤ 31 ∧ Bd (2 ^ 400) u ∧ Bd (2 ^ 400) v := by
  have m30 : 3 ^ m ≤ 3 ^ 30 := Nat.pow_le_pow_right (by decide) hm
  have bf := bf.mono m30
  have bg := w.bd.2.mono m30
  have lg : (pol es).length ≤ 31 := Nat.le_trans (pol_len _) (by have := w.el; omega)
  obtain ⟨a, b, c, d⟩ := red_rowsG (X := 15) (L := 31) R w.ne bf bg (by omega) lg (by decide)
  obtain ⟨n1, n2⟩ := big30
  have cand : ∀ {l : List Int}, GC.tr l = l → 0 < GC.dg l → l.length ≤ 31 → Bd (3 ^ 30 * (15 + 1) ^ 31 * (2 * 15 + 3) ^ 31) l → Cand l := fun t p l b => ⟨by omega, last_ne t p, fun c hc => Nat.lt_of_le_of_lt (b.mem hc) n1⟩
  refine ⟨⟨cand R.low.tv R.low.nz b d, ?_⟩, a, b, c.mono (Nat.le_of_lt n1), d.mono (Nat.le_of_lt n1)⟩
  rcases Nat.eq_zero_or_pos (GC.dg u) with z | z
  · left
    have : (GC.tr u).length = 0 := z
    rw [R.low.tu] at this
    exact List.eq_nil_of_length_eq_zero this
  · right
    refine ⟨cand R.low.tu z a c, GC.Ends.of_bz z R.low.nz ?_⟩
    have hf : 0 < GC.dg f := Nat.pos_of_ne_zero fun y => by
      have e : GC.dg u = 0 := by
        have : ∀ t, GC.co u t = GC.co [] t := GC.cancel w.ne fun x => by
          rw [Int.mul_comm, R.eq, GC.dg_zero_val y]
          show 0 * _ = _ * 0
          omega
        exact GC.dg_congr this
      omega
    obtain ⟨s, t, r, r0, rb, hb⟩ := R.bzs hf (3 ^ 30) bf bg
    refine ⟨s, t, r, r0, Nat.le_trans (Nat.mul_le_mul_left 2 (Nat.le_trans rb (Nat.mul_le_mul_left _ ?_))) n2, hb⟩
    have d1 : GC.dg f ≤ f.length := GC.dg_le fun t ht => getD_out ht
    have d2 : GC.dg (pol es) ≤ (pol es).length := GC.dg_le fun t ht => getD_out ht
    have ds : GC.dg f + GC.dg (pol es) ≤ 62 := by omega
    have h1 : (GC.dg f + GC.dg (pol es)) * 3 ^ 30 ≤ 62 * 3 ^ 30 := Nat.mul_le_mul_right _ ds
    exact Nat.mul_le_mul h1 (Nat.le_trans (Nat.pow_le_pow_left (by omega) _) (Nat.pow_le_pow_right (by omega) ds))
theorem rin_tsn {ds es : List Int} {m : Nat} (w : WR m ds es) (hm : m ≤ 30) : RIn (tsn m) (pol es) := by
  obtain ⟨h1, h2⟩ := rb30 m hm
  obtain ⟨a, b, c⟩ := tsn_ok m
  exact rin_of (n := m + 1) a (pol_strip _) w.ne (by omega) (Nat.le_trans (pol_len _) (Nat.le_of_eq w.el)) (by omega) c w.bd.2 h2 h1
theorem red_same {u v : List Int} (L : GC.Low u v) : GC.Red u v u v := ⟨L, fun x => rfl⟩
theorem prod_same {f g u v : List Int} (h : ∀ x, val x u * val x g = val x f * val x v) : strip (prod u g) = strip (prod v f) := by
  refine row_ext (strip_strip _) (strip_strip _) ?_
  rw [strip_getD, strip_getD, fn_prod, fn_prod]
  funext t
  have := GC.ident (l := GC.mul u g) (m := GC.mul v f) (fun x => by rw [GC.mul_val, GC.mul_val, h, Int.mul_comm]) t
  rwa [GC.mul_co, GC.mul_co] at this
section
variable {P : Program} {w : World} {K : PySem.W.Frag} {mg : Str → Option Value} {base : Heap}
def spET : Sp := fun vs H Q _ => ∃ (r : Addr) (m : Nat) (ds es : List Int), vs = [.ref r] ∧ Rec H r m ds es ∧ es.length ≤ 60 ∧ RIn (tsn m) (pol es) ∧
  ∀ (t : Addr) (u v : List Int) H', Same H H' → H t = none → Pair H' t u v → GC.RedX (tsn m) (pol es) u v → Q (.ref t) H'
theorem scET : FnScope ["recipe", "tosses", "_", "es"] ["recipe"] (defScope sET) := ⟨rfl, rfl, rfl, by decide +kernel, rfl, by decide +kernel, by decide +kernel⟩
theorem ok_et {f fr ff : Addr} {fd rd fd2 : FuncData} (F : Fun K "recipe_expected_tosses" "recipe_expected_tosses" sET f fd) (GR : FnOk P w K mg base CX0 5 fr rd ["numerator", "denominator"] (spRr K)) (PR : Def K mg "reduce_rational" fr rd ["numerator", "denominator"])
    (GF : FnOk P w K mg base CX0 2 ff fd2 ["form"] (spFrom K)) (PF_ : Def K mg "from_form" ff fd2 ["form"]) : FnOk P w K mg base CX0 6 f fd ["recipe"] spET := by
  refine F.ok scET (fun vs H Q E h => ?_) (fun cdv A outer s H vs Q E hr h => ?_)
  · obtain ⟨r, m, ds, es, rfl, _⟩ := h
    rfl
  · obtain ⟨r, m, ds, es, rfl, ⟨a, b, er, ea, eb⟩, l2, hin, q⟩ := h
    refine ⟨_, (pss_cons (ps_asg (pv 0) (pg_tup rfl (pgs_cons (pg_name (i := 1) scET.nd rfl (.inl rfl)) (pgs_cons (pg_name (i := 2) scET.nd rfl (.inl rfl)) (pgs_cons (pg_name (i := 3) scET.nd rfl (.inl rfl)) pgs_nil)))))
      (pss_one (ps_ret (pe_call GR (hr.mono (by first | decide | omega)) (by rfl) PR.is PR.kp PR.bi .nil pass0 (pa_cons (pe_ifExp (pt_cmpR op_gt (pv 1) pe_int (nomark _)) (pe_tup (pa_cons (pv 1) pa_nil)) (pe_tup pa_nil)) (pa_cons (pe_call GF (hr.mono (by first | decide | omega)) (by rfl) PF_.is PF_.kp PF_.bi .nil pass0 (pa_cons (pv 3) pa_nil)) pa_nil)))))), ?_⟩
    refine ⟨_, rfl, r, _, rfl, SqT.of er, rfl, _, _, rfl, _, _, rfl, _, _, rfl, rfl, ?_⟩
    have fin : ∀ (t1 : Addr) (H1 : Hp), Same H H1 → H1 t1 = some (.tup ((tsn m).map V.int)) → spFrom K [.ref b] H1 (fun z H2 => spRr K [.ref t1, z] H2 Q E0) E0 := fun t1 H1 s1 e1 => by
      refine ⟨b, es, rfl, Same.tup s1 (SqT.of eb), l2, fun t2 H2 s2 e2 => ?_⟩
      refine ⟨t1, t2, tsn m, pol es, rfl, SqT.of (s2 _ _ e1), e2, hin, fun t pu pv u v H3 s3 n3 et eu ev red => ?_⟩
      exact q t u v H3 ((s1.trans s2).trans s3) ((s1.trans s2).free n3) ⟨pu, pv, et, eu, ev⟩ red
    refine ⟨_, rfl, _, _, rfl, rfl, _, rfl, ?_⟩
    by_cases h : m = 0
    · rw [decide_eq_false (by omega)]
      refine iteF ⟨by show 0 ≤ sizeLine; decide, fun t1 n1 => ⟨_, rfl, fin t1 _ (Same.upd n1) ?_⟩⟩
      rw [upd_same]
      unfold tsn
      rw [if_pos h]
      rfl
    · rw [decide_eq_true (by omega)]
      refine iteT ⟨_, rfl, by show 1 ≤ sizeLine; decide, fun t1 n1 => ⟨_, rfl, fin t1 _ (Same.upd n1) ?_⟩⟩
      rw [upd_same]
      unfold tsn
      rw [if_neg h]
      rfl
def spIsr (K : PySem.W.Frag) : Sp := fun vs H Q _ => ∃ (t x y : Addr) (f g u v : List Int), vs = [.ref t, .ref x, .ref y] ∧ Pair H t u v ∧ SqT K H x (f.map V.int) ∧ SqT K H y (g.map V.int) ∧ GC.RedX f g u v ∧ RIn u v ∧ f.length ≤ 60 ∧ g.length ≤ 60 ∧ u.length ≤ 60 ∧ v.length ≤ 60 ∧ Bd (2 ^ 400) f ∧ Bd (2 ^ 400) g ∧ Bd (2 ^ 400) u ∧ Bd (2 ^ 400) v ∧ ∀ H', Same H H' → Q (.bl true) H'
theorem scIsr : FnScope ["found", "upper", "lower"] ["found", "upper", "lower"] (defScope sIsr) := ⟨rfl, rfl, rfl, by decide +kernel, rfl, by decide +kernel, by decide +kernel⟩
theorem ok_isr {f0 fr fp : Addr} {fd rd dp : FuncData} (F : Fun K "_law_is_reduced" "_law_is_reduced" sIsr f0 fd) (T : Names8 mg) (GR : FnOk P w K mg base CX0 5 fr rd ["numerator", "denominator"] (spRr K)) (PR : Def K mg "reduce_rational" fr rd ["numerator", "denominator"])
    (GP : FnOk P w K mg base CX0 2 fp dp ["one", "other"] (spProd K)) (PP : Def K mg "_law_product" fp dp ["one", "other"]) : FnOk P w K mg base CX0 6 f0 fd ["found", "upper", "lower"] (spIsr K) := by
  refine F.ok scIsr (fun vs H Q E h => ?_) (fun cdv A outer s H vs Q E hr h => ?_)
  · obtain ⟨t, x, y, f, g, u, v, rfl, _⟩ := h
    rfl
  · obtain ⟨t, x, y, f, g, u, v, rfl, pt, hx, hy, R, rin, l1, l2, l3, l4, b1, b2, b3, b4, q⟩ := h
    have hu : A.units + 3 + 64 < cLine := hr.units
    obtain ⟨a, b, et, ea, eb⟩ := id pt
    refine ⟨_, (pss_cons (ps_if (PW.pt (pw_or (pt_not (pt_val (pe_callB call_isi (by rfl) T.isinstance (by decide +kernel) (pa_cons (pv 0) (pa_cons (pe_bltn (v := .ty "tuple") (by rfl) T.tuple (by decide +kernel) rfl) pa_nil))))) (pw_or (pt_cmpR op_ne (pe_callB call_len_seq (by rfl) T.len PySem.boot_len (pa_cons (pv 0) pa_nil)) pe_int (nomark _)) (pw_or1 (pt_cmpR (op_neD hu) (pv 0) (pe_call GR (hr.mono (by first | decide | omega)) (by rfl) PR.is PR.kp PR.bi .nil pass0 (pa_cons (pe_ix ix_tup (pv 0) pe_int (fun _ _ => rfl)) (pa_cons (pe_ix ix_tup (pv 0) pe_int (fun _ _ => rfl)) pa_nil))) (nomark _)))))) (pss_one (ps_ret pe_bl)) pss_nil)
      (pss_one (ps_ret (pe_cmpR (op_eqD hu) (pe_call GP (hr.mono (by first | decide | omega)) (by rfl) PP.is PP.kp PP.bi .nil pass0 (pa_cons (pe_ix ix_tup (pv 0) pe_int (fun _ _ => rfl)) (pa_cons (pv 2) pa_nil))) (pe_call GP (hr.mono (by first | decide | omega)) (by rfl) PP.is PP.kp PP.bi .nil pass0 (pa_cons (pe_ix ix_tup (pv 0) pe_int (fun _ _ => rfl)) (pa_cons (pv 1) pa_nil))) (nomark _))))), ?_⟩
    refine ⟨_, rfl, _, .ty "tuple", .type "tuple", .type "tuple", true, rfl, .ty "tuple", .base (.tup et), kit_ty (by decide +kernel), true, rfl, ?_⟩
    refine iteF ⟨_, rfl, t, _, rfl, .inr (SqT.of et), rfl, _, rfl, ?_⟩
    rw [decide_eq_true (show V.int ((([V.ref a, V.ref b] : List V).length : Nat) : Int) = V.int 2 from rfl)]
    refine iteF ⟨_, rfl, _, rfl, t, _, 0, .ref a, rfl, rfl, SqT.of et, atI_nat (j := 0) rfl, _, rfl, t, _, 1, .ref b, rfl, rfl, SqT.of et, atI_nat (j := 1) rfl, a, b, u, v, rfl, SqT.of ea, SqT.of eb, rin, fun t2 pu pv u' v' H1 s1 n1 et2 eu ev red => ?_⟩
    obtain ⟨x1, x2⟩ := GC.Red.uniq red.toRed (red_same R.low) R.low.nz R.low.nz (fun x => rfl)
    subst x1 x2
    refine ⟨pairD u' v', pairD u' v', (pt.same s1).dp, Pair.dp ⟨pu, pv, et2, eu, ev⟩, pair_shaped _ _, pair_shaped _ _, _, rfl, ?_⟩
    rw [pair_same]
    refine iteF ?_
    have hx1 := Same.tup s1 hx
    have hy1 := Same.tup s1 hy
    refine ⟨_, rfl, t, _, 0, .ref a, rfl, rfl, SqT.of (s1 _ _ et), atI_nat (j := 0) rfl, _, rfl, a, y, u', g, rfl, SqT.of (s1 _ _ ea), hy1, l3, l2, b3, b2, fun p1 H2 s2 np1 e1 => ?_⟩
    have s12 := s1.trans s2
    refine ⟨_, rfl, t, _, 1, .ref b, rfl, rfl, SqT.of (s12 _ _ et), atI_nat (j := 1) rfl, _, rfl, b, x, v', f, rfl, SqT.of (s12 _ _ eb), Same.tup s12 hx, l4, l1, b4, b1, fun p2 H3 s3 np2 e2 => ?_⟩
    have e13 := s3 _ _ e1
    rw [← prod_same R.eq] at e2
    refine ⟨_, _, .tup (SqT.of e13) (dpInts _), .tup (SqT.of e2) (dpInts _), shaped_ints _, shaped_ints _, ?_⟩
    rw [eqv_row]
    exact q _ (s12.trans s3)
end
end Z

set_option Elab.async false
set_option linter.all false
set_option maxRecDepth 100000
set_option maxHeartbeats 4000000
/-! t * k, k 0 or more -/
namespace TR
open PySem PySem.Spec PyProof.Rows L2
theorem mul_one_ (l : Addr) (items : Array Value) (n : Nat) (dd : Option Addr) (sl : Array (Option Value)) (x : Int) (u : Tok) (h1 : x = 1) :
    Meets (Builtin.«tuple.__mul__» ⟨[.ref l, .int x u], []⟩) (fun _ R s => s.heap.get? l = some { cls := .type "tuple", dict := dd, data := .seq items n, slots := sl } ∧ R (.ok (.ret (.ref l))) s) := by
  refine .of_wp fun prog w A R s h => ?_
  obtain ⟨hp, g, d, tk, os⟩ := s
  obtain ⟨hl, h⟩ := h
  subst h1
  have ix := AutoSeq1.idx_int
  have c0 : ¬ ((decide ((1 : Int) < -(2 ^ 63)) || decide ((1 : Int) ≥ 2 ^ 63)) = true) := by decide
  have c1 : (items.isEmpty || (1 : Int) == 1) = true := by simp
  wp_walk using wpAny_loadPart' hl
  repeat (first
    | (refine wpAny_ite_false (decide_eq_false c0) ?_; wp_walk using wpAny_loadPart' hl)
    | (refine wpAny_ite_true (decide_eq_true c1) ?_; wp_walk using wpAny_loadPart' hl))
  exact ⟨_, rfl, h⟩
theorem mul_none_ (l : Addr) (items : Array Value) (n : Nat) (dd : Option Addr) (sl : Array (Option Value)) (x : Int) (u : Tok) (h1 : x = 0) (ne : items.isEmpty = false) :
    Meets (Builtin.«tuple.__mul__» ⟨[.ref l, .int x u], []⟩) (fun _ R s => s.heap.get? l = some { cls := .type "tuple", dict := dd, data := .seq items n, slots := sl } ∧
      R (.ok (.ret (.ref s.heap.objs.size))) { s with heap := s.heap.push { cls := .type "tuple", data := .seq #[] }, toks := s.toks }) := by
  refine .of_wp fun prog w A R s h => ?_
  obtain ⟨hp, g, d, tk, os⟩ := s
  obtain ⟨hl, h⟩ := h
  subst h1
  have ix := AutoSeq1.idx_int
  have c0 : ¬ ((decide ((0 : Int) < -(2 ^ 63)) || decide ((0 : Int) ≥ 2 ^ 63)) = true) := by decide
  have c1 : ¬ ((items.isEmpty || (0 : Int) == 1) = true) := by rw [ne]; decide
  have c2 : (decide ((0 : Int) ≤ 0) || items.isEmpty) = true := by simp
  wp_walk using wpAny_loadPart' hl
  repeat (first
    | (refine wpAny_ite_false (decide_eq_false c0) ?_; wp_walk using wpAny_loadPart' hl)
    | (refine wpAny_ite_false (decide_eq_false c1) ?_; wp_walk using wpAny_loadPart' hl)
    | (refine wpAny_ite_true (decide_eq_true c2) ?_; wp_walk using wpAny_loadPart' hl))
  exact ⟨_, rfl, h⟩
section
variable {X : Cx}
def rRepA (K : PySem.W.Frag) : R2 := fun x y H Q => ∃ (l : Addr) (k : Int) (xs : List V), x = .ref l ∧ y = .int k ∧ SqT K H l xs ∧ xs ≠ [] ∧ 0 ≤ k ∧ k ≤ 1000 ∧ xs.length ≤ 1000 ∧ (k = 1 → Q (.ref l) H) ∧ (k ≠ 1 → ∀ p, H p = none → Q (.ref p) (upd H p (.tup (List.replicate k.toNat xs).flatten)))
theorem op_repA : OpR X (binaryOp .Mult) (rRepA X.K) := by
  intro pins s σ H x y v u Q I rx ry h
  obtain ⟨l, k, xs, rfl, rfl, hT, hne, h1, h2, hz, q1, q2⟩ := h
  by_cases two : 2 ≤ k
  · exact op_repT pins s σ H _ _ v u Q I rx ry ⟨l, k, xs, rfl, rfl, hT, hne, two, h2, hz, q2 (by omega)⟩
  · cases rx
    obtain ⟨t, rfl⟩ := ry
    obtain ⟨its, r, ⟨⟨cls, dd, data, sl⟩, ho, hc, n, hd⟩, hs⟩ := I.tuple hT
    simp only at hc hd
    subst hc hd
    by_cases one : k = 1
    · refine wpAny_binaryOp_repeat_ref (T := "tuple") (U := "int") (by decide) ⟨_, ho, rfl⟩ (fun s' => typeIs_int s' k t) noFill_tuple_mul F.fills_int_mul F.slot_int_rmul repeat_tuple F.slot_int_index.lookup ?_
      refine call_meets F.slot_int_rmul (typeIs_int s k t) F.entry_int_rmul (F.args_int_rmul_2 _ _) (int_rmul_tuple k t l its.toArray n dd sl) ⟨ho, rfl, ⟨_, ho, rfl⟩, ?_⟩
      exact call_meets F.slot_tuple_mul ⟨_, ho, rfl⟩ F.entry_tuple_mul (F.args_tuple_mul_2 _ _) (mul_one_ l its.toArray n dd sl k t one) ⟨ho, ⟨.ref l, H, I, rfl, q1 one⟩⟩
    · have ne : its.toArray.isEmpty = false := by
        have len := r.length
        cases its with
        | nil => exact absurd (List.eq_nil_of_length_eq_zero len) hne
        | cons a b => rfl
      have zero : k = 0 := by omega
      refine wpAny_binaryOp_repeat_ref (T := "tuple") (U := "int") (by decide) ⟨_, ho, rfl⟩ (fun s' => typeIs_int s' k t) noFill_tuple_mul F.fills_int_mul F.slot_int_rmul repeat_tuple F.slot_int_index.lookup ?_
      refine call_meets F.slot_int_rmul (typeIs_int s k t) F.entry_int_rmul (F.args_int_rmul_2 _ _) (int_rmul_tuple k t l its.toArray n dd sl) ⟨ho, rfl, ⟨_, ho, rfl⟩, ?_⟩
      refine call_meets F.slot_tuple_mul ⟨_, ho, rfl⟩ F.entry_tuple_mul (F.args_tuple_mul_2 _ _) (mul_none_ l its.toArray n dd sl k t zero ne) ⟨ho, ?_⟩
      have q := q2 one
      rw [zero] at q
      refine ⟨.ref s.heap.objs.size, _, I.laid (t' := s.toks) (o := .tup []) (fun b ob q => Heap.get?_push_of_some _ q) (Nat.le_refl _) ?_, rfl, q _ (I.hok.fresh (Nat.le_refl _))⟩
      exact ⟨Nat.zero_le _, _, .nil, IsTup.new _ _⟩
end
end TR

set_option Elab.async false
set_option linter.all false
set_option maxRecDepth 100000
set_option maxHeartbeats 4000000
/-! data that stands on its own objects, none of them in N; slices and sums of tuples without a split by cases -/
namespace DSD
open PySem PySem.Spec PyProof.Rows L2 GG TPD
/-- all but what is in N stays -/
def BN (N : Addr → Prop) (H H' : Hp) : Prop := ∀ b o, H b = some o → ¬ N b → H' b = some o
mutual
inductive Ds (N : Addr → Prop) (H : Hp) : V → PyData → Prop
  | non : Ds N H .non .none
  | bl (b : Bool) : Ds N H (.bl b) (.bool b)
  | int (i : Int) : Ds N H (.int i) (.int i)
  | str (x : Str) : Ds N H (.str x) (.str x)
  | lst {a : Addr} {xs : List V} {ds : List PyData} : sysModules < a → H a = some (.lst xs) → ¬ N a → DsAll N H xs ds → Ds N H (.ref a) (.list ds)
  | tup {a : Addr} {xs : List V} {ds : List PyData} : H a = some (.tup xs) → ¬ N a → DsAll N H xs ds → Ds N H (.ref a) (.tuple ds)
  | dic {a : Addr} : H a = some (.dK []) → ¬ N a → Ds N H (.ref a) (.dict [])
inductive DsAll (N : Addr → Prop) (H : Hp) : List V → List PyData → Prop
  | nil : DsAll N H [] []
  | cons {v : V} {vs : List V} {d : PyData} {ds : List PyData} : Ds N H v d → DsAll N H vs ds → DsAll N H (v :: vs) (d :: ds)
end
section
variable {N : Addr → Prop} {H H' : Hp}
mutual
theorem Ds.bn (b : BN N H H') : ∀ (d : PyData) (v : V), Ds N H v d → Ds N H' v d
  | .none, _, h => by cases h; exact .non
  | .bool c, _, h => by cases h; exact .bl c
  | .int i, _, h => by cases h; exact .int i
  | .str x, _, h => by cases h; exact .str x
  | .list ds, _, h => by
    cases h with
    | lst h0 h1 h2 h3 => exact .lst h0 (b _ _ h1 h2) h2 (Ds.bnAll b ds _ h3)
  | .tuple ds, _, h => by
    cases h with
    | tup h1 h2 h3 => exact .tup (b _ _ h1 h2) h2 (Ds.bnAll b ds _ h3)
  | .dict _, _, h => by
    cases h with
    | dic h1 h2 => exact .dic (b _ _ h1 h2) h2
theorem Ds.bnAll (b : BN N H H') : ∀ (ds : List PyData) (vs : List V), DsAll N H vs ds → DsAll N H' vs ds
  | [], _, h => by cases h; exact .nil
  | d :: ds, _, h => by
    cases h with
    | cons h1 h2 => exact .cons (Ds.bn b d _ h1) (Ds.bnAll b ds _ h2)
end
mutual
theorem Ds.tp {K : PySem.W.Frag} : ∀ (d : PyData) (v : V), Ds N H v d → Tp K H v d
  | .none, _, h => by cases h; exact .non
  | .bool c, _, h => by cases h; exact .bl c
  | .int i, _, h => by cases h; exact .int i
  | .str x, _, h => by cases h; exact .str x
  | .list ds, _, h => by
    cases h with
    | lst h0 h1 h2 h3 => exact .lst h0 (SqL.of h1) (Ds.tpAll ds _ h3)
  | .tuple ds, _, h => by
    cases h with
    | tup h1 h2 h3 => exact .tup (SqT.of h1) (Ds.tpAll ds _ h3)
  | .dict _, _, h => by
    cases h with
    | dic h1 h2 => exact .dic h1
theorem Ds.tpAll {K : PySem.W.Frag} : ∀ (ds : List PyData) (vs : List V), DsAll N H vs ds → TpAll K H vs ds
  | [], _, h => by cases h; exact .nil
  | d :: ds, _, h => by
    cases h with
    | cons h1 h2 => exact .cons (Ds.tp d _ h1) (Ds.tpAll ds _ h2)
end
theorem DsAll.len : ∀ {vs : List V} {ds : List PyData}, DsAll N H vs ds → vs.length = ds.length
  | _, _, .nil => rfl
  | _, _, .cons _ t => congrArg Nat.succ t.len
theorem DsAll.app : ∀ {vs ws : List V} {ds es : List PyData}, DsAll N H vs ds → DsAll N H ws es → DsAll N H (vs ++ ws) (ds ++ es)
  | _, _, _, _, .nil, h => h
  | _, _, _, _, .cons a t, h => .cons a (t.app h)
theorem DsAll.drop : ∀ {vs : List V} {ds : List PyData} (n : Nat), DsAll N H vs ds → DsAll N H (vs.drop n) (ds.drop n)
  | _, _, 0, h => h
  | _, _, n + 1, .nil => .nil
  | _, _, n + 1, .cons a t => t.drop n
theorem DsAll.take : ∀ {vs : List V} {ds : List PyData} (n : Nat), DsAll N H vs ds → DsAll N H (vs.take n) (ds.take n)
  | _, _, 0, h => .nil
  | _, _, n + 1, .nil => .nil
  | _, _, n + 1, .cons a t => .cons a (t.take n)
end
section
variable {X : Cx}
def rCutU : V → Option Int → Option Int → Hp → VK → Prop := fun x lo hi H Q => ∃ (a : Addr) (xs : List V), x = .ref a ∧ H a = some (.tup xs) ∧ ∀ (p : Addr) H', Same H H' → H' p = some (.tup (cutV xs lo hi)) → (p = a ∨ H p = none) → Q (.ref p) H'
theorem sl_cutU : SlR X rCutU := by
  intro pins s σ H x v vl vu lo hi sl Q I rx hs pl pu h
  obtain ⟨a, xs, rfl, ha, q⟩ := h
  refine sl_tupA pins s σ H _ v vl vu lo hi sl Q I rx hs pl pu ⟨a, xs, rfl, SqT.of ha, fun w => ?_, fun _ p np => ?_⟩
  · refine q a H (Same.refl _) ?_ (.inl rfl)
    rw [ha]
    unfold cutV
    rw [w.1, w.2, List.drop_zero, Nat.sub_zero, List.take_length]
  · exact q p _ (fun b o e => by rw [upd_ne (ne_of_none e np)]; exact e) upd_same (.inr np)
def rCatU : R2 := fun x y H Q => ∃ (a b : Addr) (xs ys : List V), x = .ref a ∧ y = .ref b ∧ H a = some (.tup xs) ∧ H b = some (.tup ys) ∧ xs.length + ys.length ≤ sizeLine ∧ ∀ (p : Addr) H', Same H H' → H' p = some (.tup (xs ++ ys)) → (p = a ∨ p = b ∨ H p = none) → Q (.ref p) H'
theorem op_catU : OpR X (binaryOp .Add) rCatU := by
  intro pins s σ H x y v u Q I rx ry h
  obtain ⟨a, b, xs, ys, rfl, rfl, ha, hb, hz, q⟩ := h
  refine op_catA pins s σ H _ _ v u Q I rx ry ⟨a, b, xs, ys, rfl, rfl, SqT.of ha, SqT.of hb, hz, fun e => ?_, fun _ e => ?_, fun _ _ p np => ?_⟩
  · subst e
    exact q b H (Same.refl _) hb (.inr (.inl rfl))
  · subst e
    exact q a H (Same.refl _) (by rw [List.append_nil]; exact ha) (.inl rfl)
  · exact q p _ (fun b o e => by rw [upd_ne (ne_of_none e np)]; exact e) upd_same (.inr (.inr np))
end
end DSD

set_option Elab.async false
set_option linter.all false
set_option maxRecDepth 100000
set_option maxHeartbeats 4000000
/-! rules with the written part named, for use within comprehensions -/
namespace KX
open PySem PySem.Spec PyProof.Rows L2 GG
theorem ix_tupK {X : Cx} {K : PySem.W.Frag} (hK : X.K = K) : IxR X (rIxT K) := by
  subst hK
  exact ix_tup
theorem ix_listK {X : Cx} {K : PySem.W.Frag} (hK : X.K = K) : IxR X (rIxL K) := by
  subst hK
  exact ix_list
theorem call_tupK {X : Cx} {K : PySem.W.Frag} (hK : X.K = K) : CallR X (.type "tuple") (fun vs H Q => ∃ p ys, vs = [.ref p] ∧ ((SqL K H p ys ∧ ∀ l, H l = none → Q (.ref l) (upd H l (.tup ys))) ∨ (SqT K H p ys ∧ Q (.ref p) H))) := by
  subst hK
  exact call_tuple_of
theorem call_listK {X : Cx} {K : PySem.W.Frag} (hK : X.K = K) : CallR X (.type "list") (fun xs H Q => ∃ p ys, xs = [.ref p] ∧ (SqL K H p ys ∨ SqT K H p ys) ∧ ∀ l, H l = none → Q (.ref l) (upd H l (.lst ys))) := by
  subst hK
  exact call_list_of
theorem op_inK {X : Cx} {K : PySem.W.Frag} (hK : X.K = K) : OpR X (compareOp .In) (rIn K false) := by
  subst hK
  exact op_in_seq
theorem op_notInK {X : Cx} {K : PySem.W.Frag} (hK : X.K = K) : OpR X (compareOp .NotIn) (rIn K true) := by
  subst hK
  exact op_notIn_seq
end KX

set_option Elab.async false
set_option linter.all false
set_option maxRecDepth 100000
set_option maxHeartbeats 4000000
/-! zip within a comprehension -/
namespace KX4
open PySem PySem.Spec PyProof.Rows L2 GG
theorem pi_zipK {X : Cx} {K : PySem.W.Frag} (hK : X.K = K) {e e2 : Expr} {ta : TA} {p pos tpos : Pos} {elts : List Expr} {kk : Nat} (hg : Gl X "zip") (hm : X.mg "zip" = none) (ha : PA X [e, e2] ta)
    (hs : starEach [e, e2] X.env = (false, eval e X.env) :: starEach [e2] X.env := by rfl) (hpl : (backTo pos (starEach [e2] X.env)).any (·.1) = false := by rfl) :
    PI X (.Tuple elts kk tpos) (.Call (.Name "zip" p) [e, e2] [] pos) (RZ.iZipA K ta) := by
  subst hK
  exact RZ.pi_zipA hg hm ha hs hpl
end KX4

set_option Elab.async false
set_option linter.all false
set_option maxRecDepth 100000
set_option maxHeartbeats 4000000
/-! one parameter, by its name -/
namespace NM
open PySem PySem.Spec PyProof.Rows L2 GG
theorem named1 {K : PySem.W.Frag} {x qual : Str} {st : Stmt} {f : Addr} {fd : FuncData} {a : Str} (F : Fun K x qual st f fd)
    (h : ∀ (kV doc pm : Value) (an : Option Addr) (cd ct u : Value), bindArgs (PySem.W.fnOf x qual (defArgs st) (defBody st) (defScope st) .none kV doc pm an cd ct) ⟨[], [(a, u)]⟩ = pure [(a, u)]) :
    KBn K fd [a] 0 [a] (fun _ ws => ws) (fun _ zs => zs) := by
  obtain ⟨oc, od, kV, doc, pm, an, cd, ct, slots, rfl, found, code⟩ := F.ex
  refine ⟨fun s us ws _ l0 l2 => ?_, fun _ r => r⟩
  match us, ws, l0, l2 with
  | [], [u], _, _ => exact .of_eq (h kV doc pm an cd ct u)
end NM

set_option Elab.async false
set_option linter.all false
set_option maxRecDepth 100000
set_option maxHeartbeats 4000000
set_option exponentiation.threshold 20000
namespace Z
open PySem PySem.Spec PyProof.Rows L2 GG M3 M4 ZC
abbrev sLaw : Stmt := top 43
section
variable {P : Program} {w : World} {K : PySem.W.Frag} {mg : Str → Option Value} {base : Heap}
def spLaw (K : PySem.W.Frag) : Sp := fun vs H Q _ => ∃ (a : Addr) (ns : List Int), vs = [.ref a] ∧ SqL K H a (ns.map V.int) ∧ ns.length ≤ 63 ∧ ∀ H', Q (.bl true) H'
theorem scLaw : FnScope ["script", "pen", "turn", "much", "some", "upper", "lower", "p", "h", "t", "yes", "ends", "found", "far", "one", "other"] ["script"] (defScope sLaw) := ⟨rfl, rfl, rfl, by decide +kernel, rfl, by decide +kernel, by decide +kernel⟩
structure NamesK (mg : Str → Option Value) : Prop extends Names8 mg where
  int : mg "int" = none
theorem repZ {K : PySem.W.Frag} {H : Hp} {l : Addr} {k : Int} {n : Nat} {Q : VK} (h : H l = some (.tup [.int 0])) (e : k = (n : Nat)) (hk : n ≤ 1000) (q : ∀ z H', Same H H' → H' z = some (.tup ((List.replicate n (0 : Int)).map V.int)) → Q (.ref z) H') : TR.rRepA K (.ref l) (.int k) H Q := by
  subst e
  refine ⟨l, _, [.int 0], rfl, rfl, SqT.of h, by simp, by omega, by omega, by decide, fun e => q l H (Same.refl _) ?_, fun _ p np => q p _ (Same.upd np) ?_⟩
  · have : n = 1 := by omega
    subst this
    exact h
  · rw [upd_same, Int.toNat_natCast, many_zeros]
theorem cons_tail {te : TE} {ta : TA} {σ : L2.St} {H : Hp} {Q : List V → Hp → Prop} (P : V → Hp → Prop) (h1 : ∀ v H', P v H' → ta σ H' fun vs H2 => Q (v :: vs) H2) (h2 : ∀ Q' : VK, (∀ v H', P v H' → Q' v H') → te σ H Q') : tCons te ta σ H Q := h2 _ h1
theorem WR.same {m : Nat} {ds es : List Int} (w : WR m ds es) : WR m es es := ⟨w.el, w.el, fun k hk => by have := w.ok k hk; omega, w.some⟩
theorem WR.null {m : Nat} {ds es : List Int} (w : WR m ds es) : WR m (List.replicate (m + 1) 0) es := ⟨by simp, w.el, fun k hk => by
  have h := w.ok k hk
  have e : (List.replicate (m + 1) (0 : Int)).getD k 0 = 0 := by
    rw [List.getD_eq_getElem?_getD, List.getElem?_replicate]
    split <;> rfl
  rw [e]
  omega, w.some⟩
theorem ok_law {f fP fD fR fC fT fX fI fB fF fV : Addr} {fd dP dD dR dC dT dX dI dB dF dV : FuncData} (F : Fun K "law" "law" sLaw f fd) (T : NamesK mg)
    (GP : FnOk P w K mg base CX0 1 fP dP ["script"] (spPen K)) (P1 : Def K mg "_law_pen" fP dP ["script"])
    (GD : FnOk P w K mg base CX0 2 fD dD ["pen", "many"] spDraw) (P2 : Def K mg "_law_draw" fD dD ["pen", "many"])
    (GR : FnOk P w K mg base CX0 3 fR dR ["pen", "most"] spRecipe) (P3 : Def K mg "_law_recipe" fR dR ["pen", "most"])
    (GC_ : FnOk P w K mg base CX0 6 fC dC ["recipe"] spRP) (P4 : Def K mg "recipe_probability" fC dC ["recipe"]) (B4 : KBn K dC ["recipe"] 0 ["recipe"] (fun _ ws => ws) (fun _ zs => zs))
    (GT : FnOk P w K mg base CX0 6 fT dT ["recipe"] spET) (P5 : Def K mg "recipe_expected_tosses" fT dT ["recipe"]) (B5 : KBn K dT ["recipe"] 0 ["recipe"] (fun _ ws => ws) (fun _ zs => zs))
    (GX : FnOk P w K mg base CX0 3 fX dX ["heap"] (spExp K)) (P6 : Def K mg "_law_expand" fX dX ["heap"])
    (GI : FnOk P w K mg base CX0 6 fI dI ["found", "upper", "lower"] (spIsr K)) (P7 : Def K mg "_law_is_reduced" fI dI ["found", "upper", "lower"])
    (GB : FnOk P w K mg base CX0 3 fB dB ["pen"] spPrb) (P8 : Def K mg "_law_probability" fB dB ["pen"])
    (GF : FnOk P w K mg base CX0 1 fF dF ["heap", "h", "t"] (spFva K)) (P9 : Def K mg "_law_form_value" fF dF ["heap", "h", "t"])
    (GV : FnOk P w K mg base CX0 1 fV dV ["poly", "p"] (spVal K)) (P10 : Def K mg "_law_value" fV dV ["poly", "p"]) :
    FnG P w K mg base 7 f fd ["script"] (spLaw K) := by
  refine fnG_of F scLaw (fun vs H Q E h => ?_) (fun cdv A outer s H vs Q E hg hr h => ?_)
  · obtain ⟨a, ns, rfl, _⟩ := h
    rfl
  · obtain ⟨a, ns, rfl, hS, hlen, q⟩ := h
    have hu : A.units + 3 + 64 < cLine := hr.units
    have line : sizeLine = 16777216 := by decide
    refine ⟨_, (pss_cons (ps_set (i := 1) scLaw.nd rfl (.inl rfl) (pe_call GP (hr.mono (by first | decide | omega)) (by rfl) P1.is P1.kp P1.bi .nil pass0 (pa_cons (pv 0) pa_nil)))
      (pss_cons (ps_for PassesOwn.never rfl (pi_range1 rfl T.range (pa_cons pe_int pa_nil)) (pg_name (i := 2) scLaw.nd rfl (.inl rfl)) (pss_cons (ps_set (i := 3) scLaw.nd rfl (.inl rfl) (pe_call GR (hr.mono (by first | decide | omega)) (by rfl) P3.is P3.kp P3.bi .nil pass0 (pa_cons (pv 1) (pa_cons (pe_ix ix_list (pe_lst (pa_cons pe_int (pa_cons pe_int (pa_cons pe_int (pa_cons (pe_ix ix_list (pe_lst (pa_cons pe_int (pa_cons pe_int pa_nil))) (pe_callTy call_int1 (by rfl) T.int (by decide +kernel) (pa_cons (pe_cmpR op_eq (pv 2) pe_int (nomark _)) pa_nil)) (fun _ _ => rfl)) pa_nil))))) (pe_call GD (hr.mono (by first | decide | omega)) (by rfl) P2.is P2.kp P2.bi .nil pass0 (pa_cons (pv 1) (pa_cons pe_int pa_nil))) (fun _ _ => rfl)) pa_nil))))
      (pss_cons (ps_set (i := 4) scLaw.nd rfl (.inl rfl) (pe_ix ix_list (pe_lst (pa_cons (pv 3) (pa_cons (pe_tup (pa_cons (pe_ix ix_tup (pv 3) pe_int (fun _ _ => rfl)) (pa_cons (pe_ix ix_tup (pv 3) pe_int (fun _ _ => rfl)) (pa_cons (pe_ix ix_tup (pv 3) pe_int (fun _ _ => rfl)) pa_nil)))) (pa_cons (pe_tup (pa_cons (pe_ix ix_tup (pv 3) pe_int (fun _ _ => rfl)) (pa_cons (pe_op TR.op_repA (pe_tup (pa_cons pe_int pa_nil)) (pe_callB call_len_seq (by rfl) T.len PySem.boot_len (pa_cons (pe_ix ix_tup (pv 3) pe_int (fun _ _ => rfl)) pa_nil))) (pa_cons (pe_ix ix_tup (pv 3) pe_int (fun _ _ => rfl)) pa_nil)))) pa_nil)))) (pe_op op_fdivW (pe_call GD (hr.mono (by first | decide | omega)) (by rfl) P2.is P2.kp P2.bi .nil pass0 (pa_cons (pv 1) (pa_cons pe_int pa_nil))) pe_int) (fun _ _ => rfl)))
      (pss_cons (ps_par (i := 5) (j := 6) (by rfl) scLaw.nd rfl rfl (by decide) rfl rfl (pa_cons (pe_call GX (hr.mono (by first | decide | omega)) (by rfl) P6.is P6.kp P6.bi .nil pass0 (pa_cons (pe_ix ix_tup (pv 4) pe_int (fun _ _ => rfl)) pa_nil)) (pa_cons (pe_call GX (hr.mono (by first | decide | omega)) (by rfl) P6.is P6.kp P6.bi .nil pass0 (pa_cons (pe_ix ix_tup (pv 4) pe_int (fun _ _ => rfl)) pa_nil)) pa_nil)) (by rfl))
      (pss_cons (ps_if (pt_not (pt_val (pe_call GI (hr.mono (by first | decide | omega)) (by rfl) P7.is P7.kp P7.bi .nil pass0 (pa_cons (pe_call GC_ (hr.mono (by first | decide | omega)) (by rfl) P4.is P4.kp P4.bi .nil pass0 (pa_cons (pv 4) pa_nil)) (pa_cons (pv 5) (pa_cons (pv 6) pa_nil)))))) (pss_one (ps_ret pe_bl)) pss_nil)
      (pss_cons (ps_if (pt_not (pt_val (pe_call GI (hr.mono (by first | decide | omega)) (by rfl) P7.is P7.kp P7.bi .nil pass0 (pa_cons (pe_call GT (hr.mono (by first | decide | omega)) (by rfl) P5.is P5.kp P5.bi .nil pass0 (pa_cons (pv 4) pa_nil)) (pa_cons (pe_ifExp (pt_cmpR op_gt (pe_ix ix_tup (pv 4) pe_int (fun _ _ => rfl)) pe_int (nomark _)) (pe_tup (pa_cons (pe_ix ix_tup (pv 4) pe_int (fun _ _ => rfl)) pa_nil)) (pe_tup pa_nil)) (pa_cons (pv 6) pa_nil)))))) (pss_one (ps_ret pe_bl)) pss_nil)
      (pss_cons (ps_if (pt_cmpR (op_neD hu) (pe_named GC_ (hr.mono (by first | decide | omega)) (by rfl) P4.is P4.kp B4 pass0 (pk_cons (pv 4) pk_nil)) (pe_call GC_ (hr.mono (by first | decide | omega)) (by rfl) P4.is P4.kp P4.bi .nil pass0 (pa_cons (pv 4) pa_nil)) (nomark _)) (pss_one (ps_ret pe_bl)) pss_nil)
      (pss_cons (ps_if (pt_cmpR (op_neD hu) (pe_named GT (hr.mono (by first | decide | omega)) (by rfl) P5.is P5.kp B5 pass0 (pk_cons (pv 4) pk_nil)) (pe_call GT (hr.mono (by first | decide | omega)) (by rfl) P5.is P5.kp P5.bi .nil pass0 (pa_cons (pv 4) pa_nil)) (nomark _)) (pss_one (ps_ret pe_bl)) pss_nil)
      (pss_cons (ps_set (i := 7) scLaw.nd rfl (.inl rfl) (pe_call GB (hr.mono (by first | decide | omega)) (by rfl) P8.is P8.kp P8.bi .nil pass0 (pa_cons (pv 1) pa_nil)))
      (pss_cons (ps_par (i := 8) (j := 9) (by rfl) scLaw.nd rfl rfl (by decide) rfl rfl (pa_cons (pe_ix ix_tup (pv 7) pe_int (fun _ _ => rfl)) (pa_cons (pe_op op_sub (pe_ix ix_tup (pv 7) pe_int (fun _ _ => rfl)) (pe_ix ix_tup (pv 7) pe_int (fun _ _ => rfl))) pa_nil)) (by rfl))
      (pss_cons (ps_par (i := 10) (j := 11) (by rfl) scLaw.nd rfl rfl (by decide) rfl rfl (pa_cons (pe_call GF (hr.mono (by first | decide | omega)) (by rfl) P9.is P9.kp P9.bi .nil pass0 (pa_cons (pe_ix ix_tup (pv 4) pe_int (fun _ _ => rfl)) (pa_cons (pv 8) (pa_cons (pv 9) pa_nil)))) (pa_cons (pe_call GF (hr.mono (by first | decide | omega)) (by rfl) P9.is P9.kp P9.bi .nil pass0 (pa_cons (pe_ix ix_tup (pv 4) pe_int (fun _ _ => rfl)) (pa_cons (pv 8) (pa_cons (pv 9) pa_nil)))) pa_nil)) (by rfl))
      (pss_cons (ps_set (i := 12) scLaw.nd rfl (.inl rfl) (pe_call GC_ (hr.mono (by first | decide | omega)) (by rfl) P4.is P4.kp P4.bi .nil pass0 (pa_cons (pv 4) pa_nil)))
      (pss_cons (ps_set (i := 13) scLaw.nd rfl (.inl rfl) (pe_callB (max_is rfl) (by rfl) T.max (by decide +kernel) (pa_cons (pe_callB call_len_seq (by rfl) T.len PySem.boot_len (pa_cons (pe_ix ix_tup (pv 12) pe_int (fun _ _ => rfl)) pa_nil)) (pa_cons (pe_callB call_len_seq (by rfl) T.len PySem.boot_len (pa_cons (pe_ix ix_tup (pv 12) pe_int (fun _ _ => rfl)) pa_nil)) pa_nil))))
      (pss_cons (ps_set (i := 14) scLaw.nd rfl (.inl rfl) (pe_call GV (hr.mono (by first | decide | omega)) (by rfl) P10.is P10.kp P10.bi .nil pass0 (pa_cons (pe_op DSD.op_catU (pe_ix ix_tup (pv 12) pe_int (fun _ _ => rfl)) (pe_op TR.op_repA (pe_tup (pa_cons pe_int pa_nil)) (pe_op op_sub (pv 13) (pe_callB call_len_seq (by rfl) T.len PySem.boot_len (pa_cons (pe_ix ix_tup (pv 12) pe_int (fun _ _ => rfl)) pa_nil))))) (pa_cons (pv 7) pa_nil))))
      (pss_cons (ps_set (i := 15) scLaw.nd rfl (.inl rfl) (pe_call GV (hr.mono (by first | decide | omega)) (by rfl) P10.is P10.kp P10.bi .nil pass0 (pa_cons (pe_op DSD.op_catU (pe_ix ix_tup (pv 12) pe_int (fun _ _ => rfl)) (pe_op TR.op_repA (pe_tup (pa_cons pe_int pa_nil)) (pe_op op_sub (pv 13) (pe_callB call_len_seq (by rfl) T.len PySem.boot_len (pa_cons (pe_ix ix_tup (pv 12) pe_int (fun _ _ => rfl)) pa_nil))))) (pa_cons (pv 7) pa_nil))))
      (pss_one (ps_if (PW.pt (pw_or (pt_cmpR op_ne (pe_op op_mulW (pv 14) (pv 11)) (pe_op op_mulW (pv 15) (pv 10)) (nomark _)) (pw_or1 (pt_cmpR op_le (pv 15) pe_int (nomark _))))) (pss_one (ps_ret pe_bl)) pss_nil)))))))))))))))))
      (pss_one (ps_ret pe_bl)))), ?_⟩
    refine ⟨.ref a, rfl, a, ns, rfl, hS, hlen, fun p l H1 s1 np nl p1 => ?_⟩
    refine ⟨(4 : Int), rfl, by omega, by omega, ?_⟩
    rw [show (4 : Int).toNat = 4 from rfl]
    refine for_range (lo := 0) (n := 4) (fun i σ Hx => ∃ w2 w3 w4 w5 w6 w7 w8 w9 w10 w11 w12 w13 w14 w15 : Option V, σ = [some (V.ref a), some (V.ref p), w2, w3, w4, w5, w6, w7, w8, w9, w10, w11, w12, w13, w14, w15] ∧ Pen Hx p l) ⟨_, _, _, _, _, _, _, _, _, _, _, _, _, _, rfl, p1⟩ ?_ ?_
    · rintro i σ H2 hi ⟨w2, w3, w4, w5, w6, w7, w8, w9, w10, w11, w12, w13, w14, w15, rfl, p2⟩
      refine ⟨_, rfl, ?_⟩
      refine ⟨by show 2 ≤ sizeLine; omega, fun e1 ne1 => ?_⟩
      have ee1 : upd H2 e1 (.lst [.int 5, .int 30]) e1 = some (.lst [.int 5, .int 30]) := upd_same
      have p3 := p2.same (Same.upd (o := .lst [.int 5, .int 30]) ne1)
      change (_ : Hp → Prop) (upd H2 e1 (.lst [.int 5, .int 30]))
      generalize upd H2 e1 (.lst [.int 5, .int 30]) = H3 at ee1 p3 ⊢
      obtain ⟨v0, hv0, hv1⟩ : ∃ v0 : Nat, atI [V.int 5, .int 30] (if (decide (V.int (0 + (i : Nat)) = V.int 0)) = true then 1 else 0) = some (.int (v0 : Nat)) ∧ v0 ≤ 30 := by
        split
        · exact ⟨30, rfl, by decide⟩
        · exact ⟨5, rfl, by decide⟩
      refine ⟨_, rfl, rfl, .inr ⟨_, rfl, e1, _, _, _, rfl, rfl, SqL.of ee1, hv0, ?_⟩⟩
      refine ⟨by show 4 ≤ sizeLine; omega, fun e2 ne2 => ?_⟩
      have ee2 : upd H3 e2 (.lst [.int 2, .int 5, .int 12, .int (v0 : Nat)]) e2 = some (.lst [.int 2, .int 5, .int 12, .int (v0 : Nat)]) := upd_same
      have p4 := p3.same (Same.upd (o := .lst [.int 2, .int 5, .int 12, .int (v0 : Nat)]) ne2)
      have ae2 := (p3.apart ne2).1
      change (_ : Hp → Prop) (upd H3 e2 (.lst [.int 2, .int 5, .int 12, .int (v0 : Nat)]))
      generalize upd H3 e2 (.lst [.int 2, .int 5, .int 12, .int (v0 : Nat)]) = H4 at ee2 p4 ⊢
      refine ⟨_, rfl, p, l, 4, rfl, p4, by decide, by decide +kernel, fun d H5 d0 d1 b5 p5 => ?_⟩
      obtain ⟨most, hv, hmost⟩ : ∃ most : Nat, atI [V.int 2, .int 5, .int 12, .int (v0 : Nat)] d = some (.int (most : Nat)) ∧ most ≤ 30 := by
        rcases (show d = 0 ∨ d = 1 ∨ d = 2 ∨ d = 3 by omega) with rfl | rfl | rfl | rfl
        · exact ⟨2, rfl, by decide⟩
        · exact ⟨5, rfl, by decide⟩
        · exact ⟨12, rfl, by decide⟩
        · exact ⟨v0, rfl, hv1⟩
      refine ⟨e2, _, d, _, rfl, rfl, SqL.of (b5.mem ae2 ee2), hv, p, l, most, rfl, p5, by omega, fun r m ds0 es H6 _ p6 hm wr0 nr rc0 => ?_⟩
      have hm30 : m ≤ 30 := by omega
      have dl0 := wr0.dl
      have el := wr0.el
      obtain ⟨da, ea, er, ed, ee⟩ := id rc0
      -- some
      refine ⟨_, rfl, ?_⟩
      refine ⟨_, rfl, r, _, 0, .int (m : Nat), rfl, rfl, SqT.of er, atI_nat (j := 0) rfl, _, rfl, r, _, 2, .ref ea, rfl, rfl, SqT.of er, atI_nat (j := 2) rfl, _, rfl, r, _, 2, .ref ea, rfl, rfl, SqT.of er, atI_nat (j := 2) rfl, by show 3 ≤ sizeLine; omega, fun t1 nt1 => ?_⟩
      have s7 := Same.upd (o := .tup [V.int (m : Nat), .ref ea, .ref ea]) nt1
      have rt1 : Rec (upd H6 t1 (.tup [V.int (m : Nat), .ref ea, .ref ea])) t1 m es es := ⟨ea, ea, upd_same, s7 _ _ ee, s7 _ _ ee⟩
      have rc7 := rc0.same s7
      have p7 := p6.same s7
      have er7 := s7 _ _ er
      have ed7 := s7 _ _ ed
      have ee7 := s7 _ _ ee
      generalize upd H6 t1 (.tup [V.int (m : Nat), .ref ea, .ref ea]) = H7 at s7 rt1 rc7 p7 er7 ed7 ee7 ⊢
      refine ⟨_, rfl, r, _, 0, .int (m : Nat), rfl, rfl, SqT.of er7, atI_nat (j := 0) rfl, by show 1 ≤ sizeLine; omega, fun z1 nz1 => ?_⟩
      have s8 := Same.upd (o := .tup [V.int 0]) nz1
      have ez : upd H7 z1 (.tup [V.int 0]) z1 = some (.tup [V.int 0]) := upd_same
      generalize upd H7 z1 (.tup [V.int 0]) = H8 at s8 ez ⊢
      refine ⟨_, rfl, r, _, 1, .ref da, rfl, rfl, SqT.of (s8 _ _ er7), atI_nat (j := 1) rfl, da, _, rfl, .inr (SqT.of (s8 _ _ ed7)), repZ ez (n := m + 1) (by rw [List.length_map, dl0]) (by omega) fun z2 H9 s9 e9 => ?_⟩
      have s89 := s8.trans s9
      refine ⟨_, rfl, r, _, 2, .ref ea, rfl, rfl, SqT.of (s89 _ _ er7), atI_nat (j := 2) rfl, by show 3 ≤ sizeLine; omega, fun t2 nt2 => ?_⟩
      have s10 := Same.upd (o := .tup [V.int (m : Nat), .ref z2, .ref ea]) nt2
      have rt2 : Rec (upd H9 t2 (.tup [V.int (m : Nat), .ref z2, .ref ea])) t2 m (List.replicate (m + 1) 0) es := ⟨z2, ea, upd_same, s10 _ _ e9, s10 _ _ (s89 _ _ ee7)⟩
      have s710 := s89.trans s10
      have rc10 := rc7.same s710
      have rt10 := rt1.same s710
      have p10 := p7.same s710
      generalize upd H9 t2 (.tup [V.int (m : Nat), .ref z2, .ref ea]) = H10 at rt2 rc10 rt10 p10 ⊢
      refine ⟨by show 3 ≤ sizeLine; omega, fun e3 ne3 => ?_⟩
      have s11 := Same.upd (o := .lst [V.ref r, .ref t1, .ref t2]) ne3
      have ee3 : upd H10 e3 (.lst [V.ref r, .ref t1, .ref t2]) e3 = some (.lst [V.ref r, .ref t1, .ref t2]) := upd_same
      have ae3 := (p10.apart ne3).1
      have rc11 := rc10.same s11
      have rt11 := rt10.same s11
      have ru11 := rt2.same s11
      have p11 := p10.same s11
      change (_ : Hp → Prop) (upd H10 e3 (.lst [V.ref r, .ref t1, .ref t2]))
      generalize upd H10 e3 (.lst [V.ref r, .ref t1, .ref t2]) = H11 at ee3 rc11 rt11 ru11 p11 ⊢
      refine ⟨_, rfl, p, l, 6, rfl, p11, by decide, by decide +kernel, fun d2 H12 d20 d21 b12 p12 => ⟨_, _, rfl, rfl, ⟨by decide, by decide⟩, ?_⟩⟩
      obtain ⟨sm, ds, hsm, wr, rc⟩ : ∃ (sm : Addr) (ds : List Int), atI [V.ref r, .ref t1, .ref t2] (d2 / 2) = some (.ref sm) ∧ WR m ds es ∧ Rec H12 sm m ds es := by
        rcases (show d2 / 2 = 0 ∨ d2 / 2 = 1 ∨ d2 / 2 = 2 by omega) with h | h | h
        · exact ⟨r, ds0, by rw [h]; rfl, wr0, rc11.but p11 b12⟩
        · exact ⟨t1, es, by rw [h]; rfl, wr0.same, rt11.but p11 b12⟩
        · exact ⟨t2, _, by rw [h]; rfl, wr0.null, ru11.but p11 b12⟩
      refine ⟨e3, _, _, _, rfl, rfl, SqL.of (b12.mem ae3 ee3), hsm, ?_⟩
      clear rc0 er ed ee rt1 rc7 p7 er7 ed7 ee7 s7 s8 s9 s89 ez e9 s10 rt2 s710 rc10 rt10 p10 s11 rc11 rt11 ru11 ee3
      have dl := wr.dl
      obtain ⟨db, eb, er, ed, ee⟩ := id rc
      have bd150 : ∀ {l : List Int}, (∀ c ∈ l, c.natAbs ≤ 2 ^ m) → Bd (2 ^ 150) l := fun h => M3.bd_of fun c hc => Nat.le_trans (h c hc) (Nat.pow_le_pow_right (by decide) (by omega))
      -- upper, lower
      refine ⟨_, rfl, sm, _, 1, .ref db, rfl, rfl, SqT.of er, atI_nat (j := 1) rfl, db, ds, rfl, SqT.of ed, by omega, bd150 wr.le.1, fun x1 u1 H13 s13 e13 st1 fn1 => ?_⟩
      have eu1 := pol_of st1 fn1
      subst eu1
      refine ⟨_, rfl, sm, _, 2, .ref eb, rfl, rfl, SqT.of (s13 _ _ er), atI_nat (j := 2) rfl, eb, es, rfl, SqT.of (s13 _ _ ee), by omega, bd150 wr.le.2, fun x2 u2 H14 s14 e14 st2 fn2 => ⟨_, _, rfl, ?_⟩⟩
      have eu2 := pol_of st2 fn2
      subst eu2
      have rc14 := rc.same (s13.trans s14)
      have p14 := p12.same (s13.trans s14)
      have e13 := s14 _ _ e13
      have rin := wr.rin hm30
      have b30 : 3 ^ m ≤ 2 ^ 400 := Nat.le_trans (Nat.pow_le_pow_right (by decide) hm30) (by decide +kernel)
      have bds := wr.bd
      have lds : (pol ds).length ≤ m + 1 := Nat.le_trans (pol_len _) (by omega)
      have les : (pol es).length ≤ m + 1 := Nat.le_trans (pol_len _) (by omega)
      -- the chance
      refine ⟨_, rfl, sm, m, ds, es, rfl, rc14, by omega, by omega, rin, fun Fa u v H15 s15 n15 pF red => ?_⟩
      obtain ⟨ri, lu, lv, bu, bv⟩ := low_in wr hm30 red bds.1 lds
      refine ⟨_, rfl, _, rfl, Fa, x1, x2, pol ds, pol es, u, v, rfl, pF, SqT.of (s15 _ _ e13), SqT.of (s15 _ _ e14), red, ri, by omega, by omega, by omega, by omega, bds.1.mono b30, bds.2.mono b30, bu, bv, fun H16 s16 => ⟨_, rfl, ?_⟩⟩
      refine iteF ?_
      have s1416 := s15.trans s16
      have rc16 := rc14.same s1416
      have p16 := p14.same s1416
      have e13 := s1416 _ _ e13
      have e14 := s1416 _ _ e14
      clear s15 s16 s1416 pF
      -- the mean
      refine ⟨_, rfl, sm, m, ds, es, rfl, rc16, by omega, rin_tsn wr hm30, fun Fb u2 v2 H17 s17 n17 pG redm => ?_⟩
      obtain ⟨t1k, t2k, t3k⟩ := tsn_ok m
      obtain ⟨ri2, lu2, lv2, bu2, bv2⟩ := low_in wr hm30 redm t3k (by omega)
      have rc17 := rc16.same s17
      obtain ⟨_, _, er17, _, _⟩ := id rc17
      refine cons_tail (fun v H' => ∃ x3 : Addr, v = .ref x3 ∧ Same H17 H' ∧ H' x3 = some (.tup ((tsn m).map V.int))) ?_ (fun Q' tl => ?_)
      rotate_left
      · refine ⟨_, rfl, sm, _, 0, .int (m : Nat), rfl, rfl, SqT.of er17, atI_nat (j := 0) rfl, _, _, rfl, rfl, _, rfl, ?_⟩
        by_cases h : m = 0
        · rw [decide_eq_false (by omega)]
          refine iteF ⟨by show 0 ≤ sizeLine; omega, fun t1 n1 => tl _ _ ⟨t1, rfl, Same.upd n1, ?_⟩⟩
          rw [upd_same]
          unfold tsn
          rw [if_pos h]
          rfl
        · rw [decide_eq_true (by omega)]
          refine iteT ⟨_, rfl, sm, _, 0, .int (m : Nat), rfl, rfl, SqT.of er17, atI_nat (j := 0) rfl, by show 1 ≤ sizeLine; omega, fun t1 n1 => tl _ _ ⟨t1, rfl, Same.upd n1, ?_⟩⟩
          rw [upd_same]
          unfold tsn
          rw [if_neg h]
          rfl
      rintro _ H18 ⟨x3, rfl, s18, e18⟩
      refine ⟨_, rfl, Fb, x3, x2, tsn m, pol es, u2, v2, rfl, pG.same s18, SqT.of e18, SqT.of (s18 _ _ (s17 _ _ e14)), redm, ri2, by omega, by omega, by omega, by omega, t3k.mono b30, bds.2.mono b30, bu2, bv2, fun H19 s19 => ⟨_, rfl, ?_⟩⟩
      refine iteF ?_
      have s1619 := (s17.trans s18).trans s19
      have rc19 := rc16.same s1619
      have p19 := p16.same s1619
      clear s17 s18 s19 s1619 pG e18 er17 rc17
      -- the same by keywords
      refine ⟨_, rfl, rfl, sm, m, ds, es, rfl, rc19, by omega, by omega, rin, fun tA uA vA HA sA nA pA redA => ?_⟩
      refine ⟨_, rfl, sm, m, ds, es, rfl, rc19.same sA, by omega, by omega, rin, fun tB uB vB HB sB nB pB redB => ?_⟩
      obtain ⟨k1, k2⟩ := GC.Red.uniq redA.toRed red.toRed wr.ne wr.ne (fun x => rfl)
      obtain ⟨k3, k4⟩ := GC.Red.uniq redB.toRed red.toRed wr.ne wr.ne (fun x => rfl)
      rw [k1, k2] at pA
      rw [k3, k4] at pB
      refine ⟨pairD u v, pairD u v, (pA.same sB).dp, pB.dp, pair_shaped _ _, pair_shaped _ _, _, rfl, ?_⟩
      rw [pair_same]
      refine iteF ?_
      have sAB := sA.trans sB
      have rcB := rc19.same sAB
      have pnB := p19.same sAB
      clear sA sB sAB pA pB k1 k2 k3 k4
      refine ⟨_, rfl, rfl, sm, m, ds, es, rfl, rcB, by omega, rin_tsn wr hm30, fun tC uC vC HC sC nC pC redC => ?_⟩
      refine ⟨_, rfl, sm, m, ds, es, rfl, rcB.same sC, by omega, rin_tsn wr hm30, fun tD uD vD HD sD nD pD redD => ?_⟩
      obtain ⟨k1, k2⟩ := GC.Red.uniq redC.toRed redm.toRed wr.ne wr.ne (fun x => rfl)
      obtain ⟨k3, k4⟩ := GC.Red.uniq redD.toRed redm.toRed wr.ne wr.ne (fun x => rfl)
      rw [k1, k2] at pC
      rw [k3, k4] at pD
      refine ⟨pairD u2 v2, pairD u2 v2, (pC.same sD).dp, pD.dp, pair_shaped _ _, pair_shaped _ _, _, rfl, ?_⟩
      rw [pair_same]
      refine iteF ?_
      have sCD := sC.trans sD
      have rcD := rcB.same sCD
      have pnD := pnB.same sCD
      clear sC sD sCD pC pD k1 k2 k3 k4
      -- at a point
      refine ⟨_, rfl, p, l, rfl, pnD, fun pt px py HE x0 xy y1 bE pE ep => ?_⟩
      have rcE := rcD.but pnD bE
      obtain ⟨pn, rfl⟩ : ∃ pn : Nat, px = pn := ⟨px.toNat, by omega⟩
      obtain ⟨qn, rfl⟩ : ∃ qn : Nat, py = qn := ⟨py.toNat, by omega⟩
      have hp10 : ((pn : Nat) : Int).natAbs ≤ 2 ^ 10 := by
        have : (2 : Nat) ^ 10 = 1024 := rfl
        omega
      have hq10 : ((qn : Nat) : Int).natAbs ≤ 2 ^ 10 := by
        have : (2 : Nat) ^ 10 = 1024 := rfl
        omega
      have ht10 : (((qn : Nat) : Int) - (pn : Nat)).natAbs ≤ 2 ^ 10 := by
        have : (2 : Nat) ^ 10 = 1024 := rfl
        omega
      refine ⟨_, rfl, pt, _, 0, .int (pn : Nat), rfl, rfl, SqT.of ep, atI_nat (j := 0) rfl, _, rfl, pt, _, 1, .int (qn : Nat), rfl, rfl, SqT.of ep, atI_nat (j := 1) rfl, _, rfl, pt, _, 0, .int (pn : Nat), rfl, rfl, SqT.of ep, atI_nat (j := 0) rfl, _, _, rfl, rfl, _, _, rfl, ?_⟩
      obtain ⟨dc, ec, erE, edE, eeE⟩ := id rcE
      have m400 : (2 : Nat) ^ 150 ≤ 2 ^ 400 := Nat.pow_le_pow_right (by decide) (by decide)
      refine ⟨_, rfl, sm, _, 1, .ref dc, rfl, rfl, SqT.of erE, atI_nat (j := 1) rfl, _, rfl, _, rfl, dc, ds, _, _, rfl, SqT.of edE, by omega, (bd150 wr.le.1).mono m400, hp10, ht10, fun HF sF => ?_⟩
      refine ⟨_, rfl, sm, _, 2, .ref ec, rfl, rfl, SqT.of (sF _ _ erE), atI_nat (j := 2) rfl, _, rfl, _, rfl, ec, es, _, _, rfl, SqT.of (sF _ _ eeE), by omega, (bd150 wr.le.2).mono m400, hp10, ht10, fun HG_ sG => ⟨_, _, rfl, ?_⟩⟩
      have sEG := sF.trans sG
      have rcG := rcE.same sEG
      have pG2 := pE.same sEG
      have epG := sEG _ _ ep
      refine ⟨_, rfl, sm, m, ds, es, rfl, rcG, by omega, by omega, rin, fun Ff uF vF HH sH nH pF redF => ?_⟩
      have pH := pG2.same sH
      have epH := sH _ _ epG
      obtain ⟨_, lu, lv, bu, bv⟩ := low_in wr hm30 redF bds.1 lds
      obtain ⟨ca, cb, eF, eca, ecb⟩ := id pF
      obtain ⟨far, hfar⟩ : ∃ far : Nat, far = max uF.length vF.length := ⟨_, rfl⟩
      refine ⟨_, rfl, Ff, _, 0, .ref ca, rfl, rfl, SqT.of eF, atI_nat (j := 0) rfl, ca, _, rfl, .inr (SqT.of eca), _, rfl, Ff, _, 1, .ref cb, rfl, rfl, SqT.of eF, atI_nat (j := 1) rfl, cb, _, rfl, .inr (SqT.of ecb), _, _, ((far : Nat) : Int), rfl, ?_, ?_⟩
      · rw [List.length_map, List.length_map]
        split <;> omega
      have eoF := eF
      have eoR := eca
      have eoP := epH
      refine ⟨_, rfl, Ff, _, 0, .ref ca, rfl, rfl, SqT.of eoF, atI_nat (j := 0) rfl, by show 1 ≤ sizeLine; omega, fun zo nzo => ?_⟩
      have go := Same.upd (o := .tup [V.int 0]) nzo
      have ezo : upd HH zo (.tup [V.int 0]) zo = some (.tup [V.int 0]) := upd_same
      have f1o := go _ _ eoF
      have f2o := go _ _ eoR
      have f3o := go _ _ eoP
      change (_ : Hp → Prop) (upd HH zo (.tup [V.int 0]))
      generalize upd HH zo (.tup [V.int 0]) = HZo at go ezo f1o f2o f3o ⊢
      refine ⟨_, rfl, _, rfl, Ff, _, 0, .ref ca, rfl, rfl, SqT.of f1o, atI_nat (j := 0) rfl, ca, _, rfl, .inr (SqT.of f2o), _, _, rfl, rfl, repZ ezo (n := far - uF.length) (by rw [List.length_map]; omega) (by omega) fun woz HWo gwo ewo => ?_⟩
      refine ⟨ca, woz, _, _, rfl, rfl, gwo _ _ f2o, ewo, by rw [List.length_map, List.length_map, List.length_replicate]; omega, fun pco HCo gco eco _ => ?_⟩
      have eco : HCo pco = some (.tup ((uF ++ List.replicate (far - uF.length) 0).map V.int)) := by rw [eco, List.map_append]
      have gto := (go.trans gwo).trans gco
      have bwo : Bd (2 ^ 400) (uF ++ List.replicate (far - uF.length) 0) := bd_of fun c hc => by
        rcases List.mem_append.mp hc with h | h
        · exact bu.mem h
        · rw [(List.mem_replicate.mp h).2]
          exact Nat.zero_le _
      have lwo : (uF ++ List.replicate (far - uF.length) (0 : Int)).length ≤ 70 := by
        rw [List.length_append, List.length_replicate]
        omega
      refine ⟨_, rfl, pco, pt, _, _, _, rfl, eco, gco _ _ (gwo _ _ f3o), lwo, bwo, hp10, hq10, fun HY gvo => ?_⟩
      have gzo := gto.trans gvo
      have etF := gzo _ _ eF
      have etR := gzo _ _ ecb
      have etP := gzo _ _ epH
      refine ⟨_, rfl, Ff, _, 1, .ref cb, rfl, rfl, SqT.of etF, atI_nat (j := 1) rfl, by show 1 ≤ sizeLine; omega, fun zt nzt => ?_⟩
      have gt := Same.upd (o := .tup [V.int 0]) nzt
      have ezt : upd HY zt (.tup [V.int 0]) zt = some (.tup [V.int 0]) := upd_same
      have f1t := gt _ _ etF
      have f2t := gt _ _ etR
      have f3t := gt _ _ etP
      change (_ : Hp → Prop) (upd HY zt (.tup [V.int 0]))
      generalize upd HY zt (.tup [V.int 0]) = HZt at gt ezt f1t f2t f3t ⊢
      refine ⟨_, rfl, _, rfl, Ff, _, 1, .ref cb, rfl, rfl, SqT.of f1t, atI_nat (j := 1) rfl, cb, _, rfl, .inr (SqT.of f2t), _, _, rfl, rfl, repZ ezt (n := far - vF.length) (by rw [List.length_map]; omega) (by omega) fun wtz HWt gwt ewt => ?_⟩
      refine ⟨cb, wtz, _, _, rfl, rfl, gwt _ _ f2t, ewt, by rw [List.length_map, List.length_map, List.length_replicate]; omega, fun pct HCt gct ect _ => ?_⟩
      have ect : HCt pct = some (.tup ((vF ++ List.replicate (far - vF.length) 0).map V.int)) := by rw [ect, List.map_append]
      have gtt := (gt.trans gwt).trans gct
      have bwt : Bd (2 ^ 400) (vF ++ List.replicate (far - vF.length) 0) := bd_of fun c hc => by
        rcases List.mem_append.mp hc with h | h
        · exact bv.mem h
        · rw [(List.mem_replicate.mp h).2]
          exact Nat.zero_le _
      have lwt : (vF ++ List.replicate (far - vF.length) (0 : Int)).length ≤ 70 := by
        rw [List.length_append, List.length_replicate]
        omega
      refine ⟨_, rfl, pct, pt, _, _, _, rfl, ect, gct _ _ (gwt _ _ f3t), lwt, bwt, hp10, hq10, fun HX gvt => ?_⟩
      have gzt := gtt.trans gvt
      obtain ⟨same, above⟩ := at_point wr redF (p := pn) (q := qn) (by omega) (by omega) hfar
      have fit1 := hG_fit hq10 hp10 lwo fun c hc => bwo.mem hc
      have fit2 := hG_fit hq10 hp10 lwt fun c hc => bwt.mem hc
      have fit3 : (HG.hG (((qn : Nat) : Int) - (pn : Nat)) (pn : Nat) es).natAbs ≤ 2 ^ 1200 := hG_fit ht10 hp10 (by omega) fun c hc => ((bd150 wr.le.2).mono m400).mem hc
      have fit4 : (HG.hG (((qn : Nat) : Int) - (pn : Nat)) (pn : Nat) ds).natAbs ≤ 2 ^ 1200 := hG_fit ht10 hp10 (by omega) fun c hc => ((bd150 wr.le.1).mono m400).mem hc
      refine ⟨_, rfl, _, rfl, _, _, rfl, rfl, wide_le2 fit1 fit3 (by decide), _, rfl, _, rfl, _, _, rfl, rfl, wide_le2 fit2 fit4 (by decide), rfl, _, rfl, ?_⟩
      have sm1 := same
      generalize hone : HG.hG ((qn : Nat) : Int) (pn : Nat) (uF ++ List.replicate (far - uF.length) 0) = one at *
      generalize hoth : HG.hG ((qn : Nat) : Int) (pn : Nat) (vF ++ List.replicate (far - vF.length) 0) = oth at *
      generalize hend : HG.hG (((qn : Nat) : Int) - (pn : Nat)) (pn : Nat) es = en at *
      generalize hyes : HG.hG (((qn : Nat) : Int) - (pn : Nat)) (pn : Nat) ds = ye at *
      have ne : (!decide (V.int (one * en) = V.int (oth * ye))) = false := by rw [sm1, decide_eq_true rfl]; rfl
      dsimp only
      rw [ne]
      refine iteF ⟨_, rfl, _, _, rfl, rfl, _, rfl, ?_⟩
      rw [decide_eq_false (Int.not_le.mpr above)]
      exact iteF ⟨_, _, _, _, _, _, _, _, _, _, _, _, _, _, rfl, pH.same (gzo.trans gzt)⟩
    · rintro σ H2 ⟨w2, w3, w4, w5, w6, w7, w8, w9, w10, w11, w12, w13, w14, w15, rfl, p2⟩
      exact q _
end
theorem all_mk {w : World} {K : PySem.W.Frag} {h : Heap} {mg : Str → Option Value} {fa f0 f1 f2 f3 f4 f5 f6 f7 f8 f9 f10 f11 f12 f13 f14 f15 f16 f17 f18 f19 f20 f21 f22 f23 f24 f25 f26 f27 f28 f29 f30 f31 f32 : Addr} (X : K.In h) (G : h.Ns mainGlobals mg) (hfa : mg "law" = some (.ref fa))
    {od0 an0 od1 an1 od2 an2 od3 an3 od4 an4 od5 an5 od6 an6 od7 an7 od8 an8 od9 an9 od10 an10 od11 an11 od12 an12 od13 an13 od14 an14 od15 an15 od16 an16 od17 an17 od18 an18 od19 an19 od20 an20 od21 an21 od22 an22 od23 an23 od24 an24 od25 an25 od26 an26 od27 an27 od28 an28 od29 an29 od30 an30 od31 an31 od32 an32 : Option Addr} {sl0 sl1 sl2 sl3 sl4 sl5 sl6 sl7 sl8 sl9 sl10 sl11 sl12 sl13 sl14 sl15 sl16 sl17 sl18 sl19 sl20 sl21 sl22 sl23 sl24 sl25 sl26 sl27 sl28 sl29 sl30 sl31 sl32 : Array (Option Value)} {oc0 kV0 dc0 pm0 cd0 ct0 oc1 kV1 dc1 pm1 cd1 ct1 oc2 kV2 dc2 pm2 cd2 ct2 oc3 kV3 dc3 pm3 cd3 ct3 oc4 kV4 dc4 pm4 cd4 ct4 oc5 kV5 dc5 pm5 cd5 ct5 oc6 kV6 dc6 pm6 cd6 ct6 oc7 kV7 dc7 pm7 cd7 ct7 oc8 kV8 dc8 pm8 cd8 ct8 oc9 kV9 dc9 pm9 cd9 ct9 oc10 kV10 dc10 pm10 cd10 ct10 oc11 kV11 dc11 pm11 cd11 ct11 oc12 kV12 dc12 pm12 cd12 ct12 oc13 kV13 dc13 pm13 cd13 ct13 oc14 kV14 dc14 pm14 cd14 ct14 oc15 kV15 dc15 pm15 cd15 ct15 oc16 kV16 dc16 pm16 cd16 ct16 oc17 kV17 dc17 pm17 cd17 ct17 oc18 kV18 dc18 pm18 cd18 ct18 oc19 kV19 dc19 pm19 cd19 ct19 oc20 kV20 dc20 pm20 cd20 ct20 oc21 kV21 dc21 pm21 cd21 ct21 oc22 kV22 dc22 pm22 cd22 ct22 oc23 kV23 dc23 pm23 cd23 ct23 oc24 kV24 dc24 pm24 cd24 ct24 oc25 kV25 dc25 pm25 cd25 ct25 oc26 kV26 dc26 pm26 cd26 ct26 oc27 kV27 dc27 pm27 cd27 ct27 oc28 kV28 dc28 pm28 cd28 ct28 oc29 kV29 dc29 pm29 cd29 ct29 oc30 kV30 dc30 pm30 cd30 ct30 oc31 kV31 dc31 pm31 cd31 ct31 oc32 kV32 dc32 pm32 cd32 ct32 : Value}
    {tM : Tok}
    (a0 : PySem.W.nsIn K mainGlobals "_law_pen" = some (some (.ref f0))) (l0 : K.lookup f0 = some ⟨oc0, od0, .func (PySem.W.fnOf "_law_pen" "_law_pen" (defArgs sPen) (defBody sPen) (defScope sPen) .none kV0 dc0 pm0 an0 cd0 ct0), sl0⟩) (c0 : PySem.W.codeIn K cd0 "_law_pen" = true) (k0 : PySem.W.keepIn K (.ref f0) = true)
    (a1 : PySem.W.nsIn K mainGlobals "_law_fresh" = some (some (.ref f1))) (l1 : K.lookup f1 = some ⟨oc1, od1, .func (PySem.W.fnOf "_law_fresh" "_law_fresh" (defArgs sFresh) (defBody sFresh) (defScope sFresh) .none kV1 dc1 pm1 an1 cd1 ct1), sl1⟩) (c1 : PySem.W.codeIn K cd1 "_law_fresh" = true) (k1 : PySem.W.keepIn K (.ref f1) = true)
    (a2 : PySem.W.nsIn K mainGlobals "_law_draw" = some (some (.ref f2))) (l2 : K.lookup f2 = some ⟨oc2, od2, .func (PySem.W.fnOf "_law_draw" "_law_draw" (defArgs sDraw) (defBody sDraw) (defScope sDraw) .none kV2 dc2 pm2 an2 cd2 ct2), sl2⟩) (c2 : PySem.W.codeIn K cd2 "_law_draw" = true) (k2 : PySem.W.keepIn K (.ref f2) = true)
    (a3 : PySem.W.nsIn K mainGlobals "trim_zeros" = some (some (.ref f3))) (l3 : K.lookup f3 = some ⟨oc3, od3, .func (PySem.W.fnOf "trim_zeros" "trim_zeros" (defArgs sTrim) (defBody sTrim) (defScope sTrim) .none kV3 dc3 pm3 an3 cd3 ct3), sl3⟩) (c3 : PySem.W.codeIn K cd3 "trim_zeros" = true) (k3 : PySem.W.keepIn K (.ref f3) = true)
    (a4 : PySem.W.nsIn K mainGlobals "value_at_power" = some (some (.ref f4))) (l4 : K.lookup f4 = some ⟨oc4, od4, .func (PySem.W.fnOf "value_at_power" "value_at_power" (defArgs sVap) (defBody sVap) (defScope sVap) .none kV4 dc4 pm4 an4 cd4 ct4), sl4⟩) (c4 : PySem.W.codeIn K cd4 "value_at_power" = true) (k4 : PySem.W.keepIn K (.ref f4) = true)
    (a5 : PySem.W.nsIn K mainGlobals "read_coefficients" = some (some (.ref f5))) (l5 : K.lookup f5 = some ⟨oc5, od5, .func (PySem.W.fnOf "read_coefficients" "read_coefficients" (defArgs sRead) (defBody sRead) (defScope sRead) .none kV5 dc5 pm5 an5 cd5 ct5), sl5⟩) (c5 : PySem.W.codeIn K cd5 "read_coefficients" = true) (k5 : PySem.W.keepIn K (.ref f5) = true)
    (a6 : PySem.W.nsIn K mainGlobals "divide_exactly" = some (some (.ref f6))) (l6 : K.lookup f6 = some ⟨oc6, od6, .func (PySem.W.fnOf "divide_exactly" "divide_exactly" (defArgs sDiv) (defBody sDiv) (defScope sDiv) .none kV6 dc6 pm6 an6 cd6 ct6), sl6⟩) (c6 : PySem.W.codeIn K cd6 "divide_exactly" = true) (k6 : PySem.W.keepIn K (.ref f6) = true)
    (a7 : PySem.W.nsIn K mainGlobals "integer_content" = some (some (.ref f7))) (l7 : K.lookup f7 = some ⟨oc7, od7, .func (PySem.W.fnOf "integer_content" "integer_content" (defArgs sCont) (defBody sCont) (defScope sCont) .none kV7 dc7 pm7 an7 cd7 ct7), sl7⟩) (c7 : PySem.W.codeIn K cd7 "integer_content" = true) (k7 : PySem.W.keepIn K (.ref f7) = true)
    (a8 : PySem.W.nsIn K mainGlobals "divide_by_integer" = some (some (.ref f8))) (l8 : K.lookup f8 = some ⟨oc8, od8, .func (PySem.W.fnOf "divide_by_integer" "divide_by_integer" (defArgs sDbi) (defBody sDbi) (defScope sDbi) .none kV8 dc8 pm8 an8 cd8 ct8), sl8⟩) (c8 : PySem.W.codeIn K cd8 "divide_by_integer" = true) (k8 : PySem.W.keepIn K (.ref f8) = true)
    (a9 : PySem.W.nsIn K mainGlobals "primitive_part" = some (some (.ref f9))) (l9 : K.lookup f9 = some ⟨oc9, od9, .func (PySem.W.fnOf "primitive_part" "primitive_part" (defArgs sPrim) (defBody sPrim) (defScope sPrim) .none kV9 dc9 pm9 an9 cd9 ct9), sl9⟩) (c9 : PySem.W.codeIn K cd9 "primitive_part" = true) (k9 : PySem.W.keepIn K (.ref f9) = true)
    (a10 : PySem.W.nsIn K mainGlobals "divides" = some (some (.ref f10))) (l10 : K.lookup f10 = some ⟨oc10, od10, .func (PySem.W.fnOf "divides" "divides" (defArgs sDvs) (defBody sDvs) (defScope sDvs) .none kV10 dc10 pm10 an10 cd10 ct10), sl10⟩) (c10 : PySem.W.codeIn K cd10 "divides" = true) (k10 : PySem.W.keepIn K (.ref f10) = true)
    (a11 : PySem.W.nsIn K mainGlobals "first_bits" = some (some (.ref f11))) (l11 : K.lookup f11 = some ⟨oc11, od11, .func (PySem.W.fnOf "first_bits" "first_bits" (defArgs sFb) (defBody sFb) (defScope sFb) .none kV11 dc11 pm11 an11 cd11 ct11), sl11⟩) (c11 : PySem.W.codeIn K cd11 "first_bits" = true) (k11 : PySem.W.keepIn K (.ref f11) = true)
    (a12 : PySem.W.nsIn K mainGlobals "guess_divisor" = some (some (.ref f12))) (l12 : K.lookup f12 = some ⟨oc12, od12, .func (PySem.W.fnOf "guess_divisor" "guess_divisor" (defArgs sGd) (defBody sGd) (defScope sGd) .none kV12 dc12 pm12 an12 cd12 ct12), sl12⟩) (c12 : PySem.W.codeIn K cd12 "guess_divisor" = true) (k12 : PySem.W.keepIn K (.ref f12) = true)
    (a13 : PySem.W.nsIn K mainGlobals "common_divisor" = some (some (.ref f13))) (l13 : K.lookup f13 = some ⟨oc13, od13, .func (PySem.W.fnOf "common_divisor" "common_divisor" (defArgs sCd) (defBody sCd) (defScope sCd) .none kV13 dc13 pm13 an13 cd13 ct13), sl13⟩) (c13 : PySem.W.codeIn K cd13 "common_divisor" = true) (k13 : PySem.W.keepIn K (.ref f13) = true)
    (a14 : PySem.W.nsIn K mainGlobals "first_nonzero" = some (some (.ref f14))) (l14 : K.lookup f14 = some ⟨oc14, od14, .func (PySem.W.fnOf "first_nonzero" "first_nonzero" (defArgs sFn) (defBody sFn) (defScope sFn) .none kV14 dc14 pm14 an14 cd14 ct14), sl14⟩) (c14 : PySem.W.codeIn K cd14 "first_nonzero" = true) (k14 : PySem.W.keepIn K (.ref f14) = true)
    (a15 : PySem.W.nsIn K mainGlobals "reduce_integers" = some (some (.ref f15))) (l15 : K.lookup f15 = some ⟨oc15, od15, .func (PySem.W.fnOf "reduce_integers" "reduce_integers" (defArgs sRi) (defBody sRi) (defScope sRi) .none kV15 dc15 pm15 an15 cd15 ct15), sl15⟩) (c15 : PySem.W.codeIn K cd15 "reduce_integers" = true) (k15 : PySem.W.keepIn K (.ref f15) = true)
    (a16 : PySem.W.nsIn K mainGlobals "reduce_rational" = some (some (.ref f16))) (l16 : K.lookup f16 = some ⟨oc16, od16, .func (PySem.W.fnOf "reduce_rational" "reduce_rational" (defArgs sRr) (defBody sRr) (defScope sRr) .none kV16 dc16 pm16 an16 cd16 ct16), sl16⟩) (c16 : PySem.W.codeIn K cd16 "reduce_rational" = true) (k16 : PySem.W.keepIn K (.ref f16) = true)
    (a17 : PySem.W.nsIn K mainGlobals "add_to_last" = some (some (.ref f17))) (l17 : K.lookup f17 = some ⟨oc17, od17, .func (PySem.W.fnOf "add_to_last" "add_to_last" (defArgs sAtl) (defBody sAtl) (defScope sAtl) .none kV17 dc17 pm17 an17 cd17 ct17), sl17⟩) (c17 : PySem.W.codeIn K cd17 "add_to_last" = true) (k17 : PySem.W.keepIn K (.ref f17) = true)
    (a18 : PySem.W.nsIn K mainGlobals "from_form" = some (some (.ref f18))) (l18 : K.lookup f18 = some ⟨oc18, od18, .func (PySem.W.fnOf "from_form" "from_form" (defArgs sFrom) (defBody sFrom) (defScope sFrom) .none kV18 dc18 pm18 an18 cd18 ct18), sl18⟩) (c18 : PySem.W.codeIn K cd18 "from_form" = true) (k18 : PySem.W.keepIn K (.ref f18) = true)
    (a19 : PySem.W.nsIn K mainGlobals "recipe_probability" = some (some (.ref f19))) (l19 : K.lookup f19 = some ⟨oc19, od19, .func (PySem.W.fnOf "recipe_probability" "recipe_probability" (defArgs sRP) (defBody sRP) (defScope sRP) .none kV19 dc19 pm19 an19 cd19 ct19), sl19⟩) (c19 : PySem.W.codeIn K cd19 "recipe_probability" = true) (k19 : PySem.W.keepIn K (.ref f19) = true)
    (a20 : PySem.W.nsIn K mainGlobals "recipe_expected_tosses" = some (some (.ref f20))) (l20 : K.lookup f20 = some ⟨oc20, od20, .func (PySem.W.fnOf "recipe_expected_tosses" "recipe_expected_tosses" (defArgs sET) (defBody sET) (defScope sET) .none kV20 dc20 pm20 an20 cd20 ct20), sl20⟩) (c20 : PySem.W.codeIn K cd20 "recipe_expected_tosses" = true) (k20 : PySem.W.keepIn K (.ref f20) = true)
    (a21 : PySem.W.nsIn K mainGlobals "_law_fraction" = some (some (.ref f21))) (l21 : K.lookup f21 = some ⟨oc21, od21, .func (PySem.W.fnOf "_law_fraction" "_law_fraction" (defArgs sFra) (defBody sFra) (defScope sFra) .none kV21 dc21 pm21 an21 cd21 ct21), sl21⟩) (c21 : PySem.W.codeIn K cd21 "_law_fraction" = true) (k21 : PySem.W.keepIn K (.ref f21) = true)
    (a22 : PySem.W.nsIn K mainGlobals "_law_probability" = some (some (.ref f22))) (l22 : K.lookup f22 = some ⟨oc22, od22, .func (PySem.W.fnOf "_law_probability" "_law_probability" (defArgs sPrb) (defBody sPrb) (defScope sPrb) .none kV22 dc22 pm22 an22 cd22 ct22), sl22⟩) (c22 : PySem.W.codeIn K cd22 "_law_probability" = true) (k22 : PySem.W.keepIn K (.ref f22) = true)
    (a23 : PySem.W.nsIn K mainGlobals "_law_strip" = some (some (.ref f23))) (l23 : K.lookup f23 = some ⟨oc23, od23, .func (PySem.W.fnOf "_law_strip" "_law_strip" (defArgs sStrip) (defBody sStrip) (defScope sStrip) .none kV23 dc23 pm23 an23 cd23 ct23), sl23⟩) (c23 : PySem.W.codeIn K cd23 "_law_strip" = true) (k23 : PySem.W.keepIn K (.ref f23) = true)
    (a24 : PySem.W.nsIn K mainGlobals "_law_add" = some (some (.ref f24))) (l24 : K.lookup f24 = some ⟨oc24, od24, .func (PySem.W.fnOf "_law_add" "_law_add" (defArgs sAdd) (defBody sAdd) (defScope sAdd) .none kV24 dc24 pm24 an24 cd24 ct24), sl24⟩) (c24 : PySem.W.codeIn K cd24 "_law_add" = true) (k24 : PySem.W.keepIn K (.ref f24) = true)
    (a25 : PySem.W.nsIn K mainGlobals "_law_product" = some (some (.ref f25))) (l25 : K.lookup f25 = some ⟨oc25, od25, .func (PySem.W.fnOf "_law_product" "_law_product" (defArgs sProd) (defBody sProd) (defScope sProd) .none kV25 dc25 pm25 an25 cd25 ct25), sl25⟩) (c25 : PySem.W.codeIn K cd25 "_law_product" = true) (k25 : PySem.W.keepIn K (.ref f25) = true)
    (a26 : PySem.W.nsIn K mainGlobals "_law_value" = some (some (.ref f26))) (l26 : K.lookup f26 = some ⟨oc26, od26, .func (PySem.W.fnOf "_law_value" "_law_value" (defArgs sVal) (defBody sVal) (defScope sVal) .none kV26 dc26 pm26 an26 cd26 ct26), sl26⟩) (c26 : PySem.W.codeIn K cd26 "_law_value" = true) (k26 : PySem.W.keepIn K (.ref f26) = true)
    (a27 : PySem.W.nsIn K mainGlobals "_law_binomials" = some (some (.ref f27))) (l27 : K.lookup f27 = some ⟨oc27, od27, .func (PySem.W.fnOf "_law_binomials" "_law_binomials" (defArgs sBin) (defBody sBin) (defScope sBin) .none kV27 dc27 pm27 an27 cd27 ct27), sl27⟩) (c27 : PySem.W.codeIn K cd27 "_law_binomials" = true) (k27 : PySem.W.keepIn K (.ref f27) = true)
    (a28 : PySem.W.nsIn K mainGlobals "_law_expand" = some (some (.ref f28))) (l28 : K.lookup f28 = some ⟨oc28, od28, .func (PySem.W.fnOf "_law_expand" "_law_expand" (defArgs sExp) (defBody sExp) (defScope sExp) .none kV28 dc28 pm28 an28 cd28 ct28), sl28⟩) (c28 : PySem.W.codeIn K cd28 "_law_expand" = true) (k28 : PySem.W.keepIn K (.ref f28) = true)
    (a29 : PySem.W.nsIn K mainGlobals "_law_recipe" = some (some (.ref f29))) (l29 : K.lookup f29 = some ⟨oc29, od29, .func (PySem.W.fnOf "_law_recipe" "_law_recipe" (defArgs sRecipe) (defBody sRecipe) (defScope sRecipe) .none kV29 dc29 pm29 an29 cd29 ct29), sl29⟩) (c29 : PySem.W.codeIn K cd29 "_law_recipe" = true) (k29 : PySem.W.keepIn K (.ref f29) = true)
    (a30 : PySem.W.nsIn K mainGlobals "_law_is_reduced" = some (some (.ref f30))) (l30 : K.lookup f30 = some ⟨oc30, od30, .func (PySem.W.fnOf "_law_is_reduced" "_law_is_reduced" (defArgs sIsr) (defBody sIsr) (defScope sIsr) .none kV30 dc30 pm30 an30 cd30 ct30), sl30⟩) (c30 : PySem.W.codeIn K cd30 "_law_is_reduced" = true) (k30 : PySem.W.keepIn K (.ref f30) = true)
    (a31 : PySem.W.nsIn K mainGlobals "_law_form_value" = some (some (.ref f31))) (l31 : K.lookup f31 = some ⟨oc31, od31, .func (PySem.W.fnOf "_law_form_value" "_law_form_value" (defArgs sFva) (defBody sFva) (defScope sFva) .none kV31 dc31 pm31 an31 cd31 ct31), sl31⟩) (c31 : PySem.W.codeIn K cd31 "_law_form_value" = true) (k31 : PySem.W.keepIn K (.ref f31) = true)
    (a32 : PySem.W.nsIn K mainGlobals "law" = some (some (.ref f32))) (l32 : K.lookup f32 = some ⟨oc32, od32, .func (PySem.W.fnOf "law" "law" (defArgs sLaw) (defBody sLaw) (defScope sLaw) .none kV32 dc32 pm32 an32 cd32 ct32), sl32⟩) (c32 : PySem.W.codeIn K cd32 "law" = true) (k32 : PySem.W.keepIn K (.ref f32) = true)
    (z_list : PySem.W.nsIn K mainGlobals "list" = some none)
    (z_tuple : PySem.W.nsIn K mainGlobals "tuple" = some none)
    (z_len : PySem.W.nsIn K mainGlobals "len" = some none)
    (z_range : PySem.W.nsIn K mainGlobals "range" = some none)
    (z_zip : PySem.W.nsIn K mainGlobals "zip" = some none)
    (z_sum : PySem.W.nsIn K mainGlobals "sum" = some none)
    (z_enumerate : PySem.W.nsIn K mainGlobals "enumerate" = some none)
    (z_int : PySem.W.nsIn K mainGlobals "int" = some none)
    (z_isinstance : PySem.W.nsIn K mainGlobals "isinstance" = some none)
    (z_all : PySem.W.nsIn K mainGlobals "all" = some none)
    (z_any : PySem.W.nsIn K mainGlobals "any" = some none)
    (z_repr : PySem.W.nsIn K mainGlobals "repr" = some none)
    (z_max : PySem.W.nsIn K mainGlobals "max" = some none)
    (z_min : PySem.W.nsIn K mainGlobals "min" = some none)
    (z_reversed : PySem.W.nsIn K mainGlobals "reversed" = some none)
    (z_divmod : PySem.W.nsIn K mainGlobals "divmod" = some none)
    (z_abs : PySem.W.nsIn K mainGlobals "abs" = some none)
    (x_gcd : PySem.W.nsIn K mainGlobals "gcd" = some (some (.builtin "math.gcd")))
    (x_MAX_ROOM : PySem.W.nsIn K mainGlobals "MAX_ROOM" = some (some (.int 100 tM)))
    : ∃ fd : FuncData, (∀ (s : Shared) (v : Value), BindsTo s fd ⟨[v], []⟩ [("script", v)]) ∧ ∀ base : Heap, K.In base → base.Ns mainGlobals mg → FnG (PySem.Challenge.rw_bentcoin_k44_chances_of_recipes).prog w K mg base 7 fa fd ["script"] (spLaw K) := by
  have e := hfa.symm.trans (PySem.W.mg_of X G a32)
  cases e
  have F0 := fun_mk (st := sPen) l0 c0 k0
  have b0 := F0.binds (ps := ["script"]) fun _ _ _ _ _ _ us hl => match us, hl with | [_], _ => rfl
  have F1 := fun_mk (st := sFresh) l1 c1 k1
  have b1 := F1.binds (ps := ["pen"]) fun _ _ _ _ _ _ us hl => match us, hl with | [_], _ => rfl
  have F2 := fun_mk (st := sDraw) l2 c2 k2
  have b2 := F2.binds (ps := ["pen", "many"]) fun _ _ _ _ _ _ us hl => match us, hl with | [_, _], _ => rfl
  have F3 := fun_mk (st := sTrim) l3 c3 k3
  have b3 := F3.binds (ps := ["coefficients"]) fun _ _ _ _ _ _ us hl => match us, hl with | [_], _ => rfl
  have F4 := fun_mk (st := sVap) l4 c4 k4
  have b4 := F4.binds (ps := ["polynomial", "bits"]) fun _ _ _ _ _ _ us hl => match us, hl with | [_, _], _ => rfl
  have F5 := fun_mk (st := sRead) l5 c5 k5
  have b5 := F5.binds (ps := ["value", "bits"]) fun _ _ _ _ _ _ us hl => match us, hl with | [_, _], _ => rfl
  have F6 := fun_mk (st := sDiv) l6 c6 k6
  have b6 := F6.binds (ps := ["polynomial", "other"]) fun _ _ _ _ _ _ us hl => match us, hl with | [_, _], _ => rfl
  have F7 := fun_mk (st := sCont) l7 c7 k7
  have b7 := F7.binds (ps := ["polynomial"]) fun _ _ _ _ _ _ us hl => match us, hl with | [_], _ => rfl
  have F8 := fun_mk (st := sDbi) l8 c8 k8
  have b8 := F8.binds (ps := ["polynomial", "divisor"]) fun _ _ _ _ _ _ us hl => match us, hl with | [_, _], _ => rfl
  have F9 := fun_mk (st := sPrim) l9 c9 k9
  have b9 := F9.binds (ps := ["polynomial"]) fun _ _ _ _ _ _ us hl => match us, hl with | [_], _ => rfl
  have F10 := fun_mk (st := sDvs) l10 c10 k10
  have b10 := F10.binds (ps := ["divisor", "polynomial"]) fun _ _ _ _ _ _ us hl => match us, hl with | [_, _], _ => rfl
  have F11 := fun_mk (st := sFb) l11 c11 k11
  have b11 := F11.binds (ps := ["one", "other"]) fun _ _ _ _ _ _ us hl => match us, hl with | [_, _], _ => rfl
  have F12 := fun_mk (st := sGd) l12 c12 k12
  have b12 := F12.binds (ps := ["one", "other", "bits"]) fun _ _ _ _ _ _ us hl => match us, hl with | [_, _, _], _ => rfl
  have F13 := fun_mk (st := sCd) l13 c13 k13
  have b13 := F13.binds (ps := ["one", "other"]) fun _ _ _ _ _ _ us hl => match us, hl with | [_, _], _ => rfl
  have F14 := fun_mk (st := sFn) l14 c14 k14
  have b14 := F14.binds (ps := ["polynomial"]) fun _ _ _ _ _ _ us hl => match us, hl with | [_], _ => rfl
  have F15 := fun_mk (st := sRi) l15 c15 k15
  have b15 := F15.binds (ps := ["numerator", "denominator"]) fun _ _ _ _ _ _ us hl => match us, hl with | [_, _], _ => rfl
  have F16 := fun_mk (st := sRr) l16 c16 k16
  have b16 := F16.binds (ps := ["numerator", "denominator"]) fun _ _ _ _ _ _ us hl => match us, hl with | [_, _], _ => rfl
  have F17 := fun_mk (st := sAtl) l17 c17 k17
  have b17 := F17.binds (ps := ["form", "number"]) fun _ _ _ _ _ _ us hl => match us, hl with | [_, _], _ => rfl
  have F18 := fun_mk (st := sFrom) l18 c18 k18
  have b18 := F18.binds (ps := ["form"]) fun _ _ _ _ _ _ us hl => match us, hl with | [_], _ => rfl
  have F19 := fun_mk (st := sRP) l19 c19 k19
  have b19 := F19.binds (ps := ["recipe"]) fun _ _ _ _ _ _ us hl => match us, hl with | [_], _ => rfl
  have F20 := fun_mk (st := sET) l20 c20 k20
  have b20 := F20.binds (ps := ["recipe"]) fun _ _ _ _ _ _ us hl => match us, hl with | [_], _ => rfl
  have F21 := fun_mk (st := sFra) l21 c21 k21
  have b21 := F21.binds (ps := ["top", "bottom"]) fun _ _ _ _ _ _ us hl => match us, hl with | [_, _], _ => rfl
  have F22 := fun_mk (st := sPrb) l22 c22 k22
  have b22 := F22.binds (ps := ["pen"]) fun _ _ _ _ _ _ us hl => match us, hl with | [_], _ => rfl
  have F23 := fun_mk (st := sStrip) l23 c23 k23
  have b23 := F23.binds (ps := ["numbers"]) fun _ _ _ _ _ _ us hl => match us, hl with | [_], _ => rfl
  have F24 := fun_mk (st := sAdd) l24 c24 k24
  have b24 := F24.binds (ps := ["one", "other"]) fun _ _ _ _ _ _ us hl => match us, hl with | [_, _], _ => rfl
  have F25 := fun_mk (st := sProd) l25 c25 k25
  have b25 := F25.binds (ps := ["one", "other"]) fun _ _ _ _ _ _ us hl => match us, hl with | [_, _], _ => rfl
  have F26 := fun_mk (st := sVal) l26 c26 k26
  have b26 := F26.binds (ps := ["poly", "p"]) fun _ _ _ _ _ _ us hl => match us, hl with | [_, _], _ => rfl
  have F27 := fun_mk (st := sBin) l27 c27 k27
  have b27 := F27.binds (ps := ["many"]) fun _ _ _ _ _ _ us hl => match us, hl with | [_], _ => rfl
  have F28 := fun_mk (st := sExp) l28 c28 k28
  have b28 := F28.binds (ps := ["heap"]) fun _ _ _ _ _ _ us hl => match us, hl with | [_], _ => rfl
  have F29 := fun_mk (st := sRecipe) l29 c29 k29
  have b29 := F29.binds (ps := ["pen", "most"]) fun _ _ _ _ _ _ us hl => match us, hl with | [_, _], _ => rfl
  have F30 := fun_mk (st := sIsr) l30 c30 k30
  have b30 := F30.binds (ps := ["found", "upper", "lower"]) fun _ _ _ _ _ _ us hl => match us, hl with | [_, _, _], _ => rfl
  have F31 := fun_mk (st := sFva) l31 c31 k31
  have b31 := F31.binds (ps := ["heap", "h", "t"]) fun _ _ _ _ _ _ us hl => match us, hl with | [_, _, _], _ => rfl
  have F32 := fun_mk (st := sLaw) l32 c32 k32
  refine ⟨PySem.W.fnOf "law" "law" (defArgs sLaw) (defBody sLaw) (defScope sLaw) .none kV32 dc32 pm32 an32 cd32 ct32, fun s v => .of_eq rfl, fun base _ _ => ?_⟩
  have N : Names mg := ⟨(PySem.W.mg_none_of X G z_list), (PySem.W.mg_none_of X G z_tuple), (PySem.W.mg_none_of X G z_len), (PySem.W.mg_none_of X G z_range)⟩
  have N3 : Names3 mg := ⟨N, (PySem.W.mg_none_of X G z_max), (PySem.W.mg_none_of X G z_min), (PySem.W.mg_none_of X G z_reversed), (PySem.W.mg_none_of X G z_divmod), (PySem.W.mg_none_of X G z_enumerate), (PySem.W.mg_none_of X G z_any), (PySem.W.mg_none_of X G z_all), (PySem.W.mg_none_of X G z_repr)⟩
  have N8 : Names8 mg := ⟨N, (PySem.W.mg_none_of X G z_max), (PySem.W.mg_none_of X G z_enumerate), (PySem.W.mg_none_of X G z_repr), (PySem.W.mg_none_of X G z_zip), (PySem.W.mg_none_of X G z_isinstance), (PySem.W.mg_none_of X G z_all)⟩
  have NS : NamesS mg := ⟨⟨N, (PySem.W.mg_none_of X G z_zip), (PySem.W.mg_none_of X G z_enumerate), (PySem.W.mg_none_of X G z_int)⟩, (PySem.W.mg_none_of X G z_sum)⟩
  have NK : NamesK mg := ⟨N8, (PySem.W.mg_none_of X G z_int)⟩
  have m : ∀ {x : Str} {u : Value}, PySem.W.nsIn K mainGlobals x = some (some u) → mg x = some u := fun e => PySem.W.mg_of X G e
  have G0 := ok_pen (P := PySem.Challenge.pw_bentcoin_k44_chances_of_recipes) (w := w) (mg := mg) (base := base) F0 N
  have G1 := ok_fresh (P := PySem.Challenge.pw_bentcoin_k44_chances_of_recipes) (w := w) (mg := mg) (base := base) F1 N
  have G2 := ok_draw F2 G1 (m a1) k1 b1
  have G3 := ok_trim (P := PySem.Challenge.pw_bentcoin_k44_chances_of_recipes) (w := w) (mg := mg) (base := base) F3 N
  have G3x := ok_trimT (P := PySem.Challenge.pw_bentcoin_k44_chances_of_recipes) (w := w) (mg := mg) (base := base) F3 N
  have G4 := ok_vap (P := PySem.Challenge.pw_bentcoin_k44_chances_of_recipes) (w := w) (mg := mg) (base := base) F4 (PySem.W.mg_none_of X G z_reversed)
  have G5 := ok_read (P := PySem.Challenge.pw_bentcoin_k44_chances_of_recipes) (w := w) (mg := mg) (base := base) F5
  have G6 := ok_div F6 N3 G3 ⟨m a3, k3, b3⟩
  have G7 := ok_cont (P := PySem.Challenge.pw_bentcoin_k44_chances_of_recipes) (w := w) (mg := mg) (base := base) F7 (m x_gcd)
  have G8 := ok_dbi (P := PySem.Challenge.pw_bentcoin_k44_chances_of_recipes) (w := w) (mg := mg) (base := base) F8 N3
  have G9 := ok_prim F9 G7 ⟨m a7, k7, b7⟩ G8 ⟨m a8, k8, b8⟩
  have G10 := ok_dvs F10 G6 ⟨m a6, k6, b6⟩
  have G11 := ok_fb (P := PySem.Challenge.pw_bentcoin_k44_chances_of_recipes) (w := w) (mg := mg) (base := base) F11 N3 (PySem.W.mg_none_of X G z_max) (PySem.W.mg_none_of X G z_abs) (m x_MAX_ROOM)
  have G12 := ok_gd F12 (m x_gcd) G4 ⟨m a4, k4, b4⟩ G5 ⟨m a5, k5, b5⟩ G3 ⟨m a3, k3, b3⟩ G9 ⟨m a9, k9, b9⟩
  have G13 := ok_cd F13 G9 ⟨m a9, k9, b9⟩ G11 ⟨m a11, k11, b11⟩ G12 ⟨m a12, k12, b12⟩ G10 ⟨m a10, k10, b10⟩
  have G14 := ok_fn (P := PySem.Challenge.pw_bentcoin_k44_chances_of_recipes) (w := w) (mg := mg) (base := base) F14
  have G15 := ok_ri F15 (m x_gcd) G7 ⟨m a7, k7, b7⟩ G8 ⟨m a8, k8, b8⟩ G14 ⟨m a14, k14, b14⟩
  have G16 := ok_rr F16 G13 ⟨m a13, k13, b13⟩ G6 ⟨m a6, k6, b6⟩ G15 ⟨m a15, k15, b15⟩
  have G17 := ok_atl (P := PySem.Challenge.pw_bentcoin_k44_chances_of_recipes) (w := w) (mg := mg) (base := base) F17 N8
  have G18 := ok_from F18 N8 G17 ⟨m a17, k17, b17⟩ G3x ⟨m a3, k3, b3⟩
  have G19 := ok_rp F19 G16 ⟨m a16, k16, b16⟩ G18 ⟨m a18, k18, b18⟩
  have G20 := ok_et F20 G16 ⟨m a16, k16, b16⟩ G18 ⟨m a18, k18, b18⟩
  have G21 := ok_fra (P := PySem.Challenge.pw_bentcoin_k44_chances_of_recipes) (w := w) (mg := mg) (base := base) F21 (PySem.W.mg_none_of X G z_abs) N
  have G22 := ok_prb F22 N G2 ⟨m a2, k2, b2⟩ G21 ⟨m a21, k21, b21⟩
  have G23 := ok_strip (P := PySem.Challenge.pw_bentcoin_k44_chances_of_recipes) (w := w) (mg := mg) (base := base) F23 N
  have G24 := ok_add F24 N8 G23 ⟨m a23, k23, b23⟩
  have G25 := ok_prod F25 N8 G23 ⟨m a23, k23, b23⟩
  have G26 := ok_val (P := PySem.Challenge.pw_bentcoin_k44_chances_of_recipes) (w := w) (mg := mg) (base := base) F26 N
  have G27 := ok_bin (P := PySem.Challenge.pw_bentcoin_k44_chances_of_recipes) (w := w) (mg := mg) (base := base) F27 NS.toNamesR
  have G28 := ok_exp F28 N8 G25 ⟨m a25, k25, b25⟩ G24 ⟨m a24, k24, b24⟩
  have G29 := ok_recipe F29 NS G2 ⟨m a2, k2, b2⟩ G27 ⟨m a27, k27, b27⟩
  have G30 := ok_isr F30 N8 G16 ⟨m a16, k16, b16⟩ G25 ⟨m a25, k25, b25⟩
  have G31 := ok_fva (P := PySem.Challenge.pw_bentcoin_k44_chances_of_recipes) (w := w) (mg := mg) (base := base) F31 N
  exact ok_law F32 NK G0 ⟨m a0, k0, b0⟩ G2 ⟨m a2, k2, b2⟩ G29 ⟨m a29, k29, b29⟩ G19 ⟨m a19, k19, b19⟩ (NM.named1 F19 fun _ _ _ _ _ _ _ => rfl) G20 ⟨m a20, k20, b20⟩ (NM.named1 F20 fun _ _ _ _ _ _ _ => rfl) G28 ⟨m a28, k28, b28⟩ G30 ⟨m a30, k30, b30⟩ G22 ⟨m a22, k22, b22⟩ G31 ⟨m a31, k31, b31⟩ G26 ⟨m a26, k26, b26⟩
end Z
open PySem PySem.W PyProof.Rows
set_option maxRecDepth 100000 in
set_option maxHeartbeats 0 in
theorem PySem.Challenge.cw_bentcoin_k44_chances_of_recipes_holds : PySem.Challenge.rw_bentcoin_k44_chances_of_recipes.Holds := by
  w_on; o_law; k_head; (case hw => w_witness2)
  k_fill
  refine GG.walkG (l := PySem.Challenge.rw_bentcoin_k44_chances_of_recipes) (n := 63) (k := 7) (x := "script") (sp := Z.spLaw) rfl (by decide) rfl ⟨rfl, by decide, by decide⟩ (fun w h Y => PySem.W.kIn_of Y) ?F (fun _ _ a ns hl hS => ⟨a, ns, rfl, hS, hl, fun _ => rfl⟩)
  case F =>
    intro w mg fa h KX G hmg
    refine' Z.all_mk KX G hmg ?a0 ?l0 ?c0 ?k0 ?a1 ?l1 ?c1 ?k1 ?a2 ?l2 ?c2 ?k2 ?a3 ?l3 ?c3 ?k3 ?a4 ?l4 ?c4 ?k4 ?a5 ?l5 ?c5 ?k5 ?a6 ?l6 ?c6 ?k6 ?a7 ?l7 ?c7 ?k7 ?a8 ?l8 ?c8 ?k8 ?a9 ?l9 ?c9 ?k9 ?a10 ?l10 ?c10 ?k10 ?a11 ?l11 ?c11 ?k11 ?a12 ?l12 ?c12 ?k12 ?a13 ?l13 ?c13 ?k13 ?a14 ?l14 ?c14 ?k14 ?a15 ?l15 ?c15 ?k15 ?a16 ?l16 ?c16 ?k16 ?a17 ?l17 ?c17 ?k17 ?a18 ?l18 ?c18 ?k18 ?a19 ?l19 ?c19 ?k19 ?a20 ?l20 ?c20 ?k20 ?a21 ?l21 ?c21 ?k21 ?a22 ?l22 ?c22 ?k22 ?a23 ?l23 ?c23 ?k23 ?a24 ?l24 ?c24 ?k24 ?a25 ?l25 ?c25 ?k25 ?a26 ?l26 ?c26 ?k26 ?a27 ?l27 ?c27 ?k27 ?a28 ?l28 ?c28 ?k28 ?a29 ?l29 ?c29 ?k29 ?a30 ?l30 ?c30 ?k30 ?a31 ?l31 ?c31 ?k31 ?a32 ?l32 ?c32 ?k32 ?z_list ?z_tuple ?z_len ?z_range ?z_zip ?z_sum ?z_enumerate ?z_int ?z_isinstance ?z_all ?z_any ?z_repr ?z_max ?z_min ?z_reversed ?z_divmod ?z_abs ?x_gcd ?x_MAX_ROOM
    (case a0 => k_is)
    (case l0 => k_is)
    (case c0 => k_is)
    (case k0 => k_is)
    (case a1 => k_is)
    (case l1 => k_is)
    (case c1 => k_is)
    (case k1 => k_is)
    (case a2 => k_is)
    (case l2 => k_is)
    (case c2 => k_is)
    (case k2 => k_is)
    (case a3 => k_is)
    (case l3 => k_is)
    (case c3 => k_is)
    (case k3 => k_is)
    (case a4 => k_is)
    (case l4 => k_is)
    (case c4 => k_is)
    (case k4 => k_is)
    (case a5 => k_is)
    (case l5 => k_is)
    (case c5 => k_is)
    (case k5 => k_is)
    (case a6 => k_is)
    (case l6 => k_is)
    (case c6 => k_is)
    (case k6 => k_is)
    (case a7 => k_is)
    (case l7 => k_is)
    (case c7 => k_is)
    (case k7 => k_is)
    (case a8 => k_is)
    (case l8 => k_is)
    (case c8 => k_is)
    (case k8 => k_is)
    (case a9 => k_is)
    (case l9 => k_is)
    (case c9 => k_is)
    (case k9 => k_is)
    (case a10 => k_is)
    (case l10 => k_is)
    (case c10 => k_is)
    (case k10 => k_is)
    (case a11 => k_is)
    (case l11 => k_is)
    (case c11 => k_is)
    (case k11 => k_is)
    (case a12 => k_is)
    (case l12 => k_is)
    (case c12 => k_is)
    (case k12 => k_is)
    (case a13 => k_is)
    (case l13 => k_is)
    (case c13 => k_is)
    (case k13 => k_is)
    (case a14 => k_is)
    (case l14 => k_is)
    (case c14 => k_is)
    (case k14 => k_is)
    (case a15 => k_is)
    (case l15 => k_is)
    (case c15 => k_is)
    (case k15 => k_is)
    (case a16 => k_is)
    (case l16 => k_is)
    (case c16 => k_is)
    (case k16 => k_is)
    (case a17 => k_is)
    (case l17 => k_is)
    (case c17 => k_is)
    (case k17 => k_is)
    (case a18 => k_is)
    (case l18 => k_is)
    (case c18 => k_is)
    (case k18 => k_is)
    (case a19 => k_is)
    (case l19 => k_is)
    (case c19 => k_is)
    (case k19 => k_is)
    (case a20 => k_is)
    (case l20 => k_is)
    (case c20 => k_is)
    (case k20 => k_is)
    (case a21 => k_is)
    (case l21 => k_is)
    (case c21 => k_is)
    (case k21 => k_is)
    (case a22 => k_is)
    (case l22 => k_is)
    (case c22 => k_is)
    (case k22 => k_is)
    (case a23 => k_is)
    (case l23 => k_is)
    (case c23 => k_is)
    (case k23 => k_is)
    (case a24 => k_is)
    (case l24 => k_is)
    (case c24 => k_is)
    (case k24 => k_is)
    (case a25 => k_is)
    (case l25 => k_is)
    (case c25 => k_is)
    (case k25 => k_is)
    (case a26 => k_is)
    (case l26 => k_is)
    (case c26 => k_is)
    (case k26 => k_is)
    (case a27 => k_is)
    (case l27 => k_is)
    (case c27 => k_is)
    (case k27 => k_is)
    (case a28 => k_is)
    (case l28 => k_is)
    (case c28 => k_is)
    (case k28 => k_is)
    (case a29 => k_is)
    (case l29 => k_is)
    (case c29 => k_is)
    (case k29 => k_is)
    (case a30 => k_is)
    (case l30 => k_is)
    (case c30 => k_is)
    (case k30 => k_is)
    (case a31 => k_is)
    (case l31 => k_is)
    (case c31 => k_is)
    (case k31 => k_is)
    (case a32 => k_is)
    (case l32 => k_is)
    (case c32 => k_is)
    (case k32 => k_is)
    (case z_list => k_is)
    (case z_tuple => k_is)
    (case z_len => k_is)
    (case z_range => k_is)
    (case z_zip => k_is)
    (case z_sum => k_is)
    (case z_enumerate => k_is)
    (case z_int => k_is)
    (case z_isinstance => k_is)
    (case z_all => k_is)
    (case z_any => k_is)
    (case z_repr => k_is)
    (case z_max => k_is)
    (case z_min => k_is)
    (case z_reversed => k_is)
    (case z_divmod => k_is)
    (case z_abs => k_is)
    (case x_gcd => k_is)
    (case x_MAX_ROOM => k_is)
