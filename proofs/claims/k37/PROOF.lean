import PyProof.Rows.All
import Wide.All
import OpenK.AllK
import Wide.FinOn
import HandS.ForMost
import HandS.Defaults
import HandS.Wide
import HandS.Rev
import HandS.Flow
import HandS.Conv
import KE.GoesEnum
import PyProof.StrLawsIn
import HandS.Zip
import PyProof.StrOps2
import HandS.Text
import HandS.Sort
import HandS.More
import HandS.DictComp
import KE.DataAny
import HandS.WideBits
import HandS.WordsDict
import HandS.Gcd
import KE.KMathGC
import HandS.IsInst
import PySem.Challenge.RW_bentcoin_k37_recipes_of_machines
set_option Elab.async false
set_option maxRecDepth 100000
set_option maxHeartbeats 4000000
/-! Defs that are run where no text of an object is being made: so that repr gives the whole text. -/
namespace GG
open PySem PySem.Spec PyProof.Rows L2
section
variable {P : Program} {w : World} {K : PySem.W.Frag} {mg : Str → Option Value} {base : Heap}
structure FnG (P : Program) (w : World) (K : PySem.W.Frag) (mg : Str → Option Value) (base : Heap) (k : Nat) (f : Addr) (fd : FuncData) (ps : List Str) (sp : Sp) : Prop where
  size : ∀ vs H Q E, sp vs H Q E → vs.length = ps.length
  goes : ∀ (A : Around) (o : List Env) (s : Shared) (H : Hp) (ar : Args) (us : List Value) (vs : List V) (Q : VK) (E : XK),
    A.guards = some [] → Room k A → Env0 P w K mg base A o s H → BindsTo s fd ar (ps.zip us) → Vals vs us → sp vs H Q E →
    codeAny (model P w) A (.call (.ref f) ar) (CR CX0 o P w H s Q E) s

theorem fnG_of {x qual : Str} {st : Stmt} {f : Addr} {fd : FuncData} {N ps : List Str} {k : Nat} {sp : Sp}
    (F : Fun K x qual st f fd) (S : FnScope N ps (defScope st)) (size : ∀ vs H Q E, sp vs H Q E → vs.length = ps.length)
    (body : ∀ (cd : Value) (A : Around) (o : List Env) (s : Shared) (H : Hp) (vs : List V) (Q : VK) (E : XK),
      A.guards = some [] → Room k (A.deeper (envOfC qual (defScope st) s.heap.objs.size f cd)) → sp vs H Q E →
      ∃ t, PSs (cxOf CX0 P w K mg base N qual (defScope st) f cd A o s H E).nox (defBody st) t ∧
        t { nx := fun _ H' => Q .non H', rt := Q } (start N vs) H) :
    FnG P w K mg base (k + 1) f fd ps sp := by
  obtain ⟨oc, od, kV, doc, pm, an, cd, ct, slots, rfl, found, code⟩ := F.ex
  refine ⟨size, ?_⟩
  intro A o s H ar us vs Q E gA room e0 hbind given asked
  have inK : K.In s.heap := e0.mod.kin.keeps fun b u e => (e0.bs b u e).1
  have free : s.heap.NoLimit := e0.mod.nolimit.keeps fun b u e => (e0.bs b u e).1
  have many := size vs H Q E asked
  have kinds : ∀ y ∈ ps.zip us, (defScope st).names.lookup y.1 = some .local ∨ ((defScope st).names.lookup y.1 = some .cell ∧
      ((cellsFrom (s.heap.objs.size + 1) (defScope st).names []).lookup y.1).isSome = true) := by
    rintro ⟨n, v⟩ hy
    cases S.par n (List.of_mem_zip hy).1 with
    | inl q => exact Or.inl q
    | inr q => exact Or.inr ⟨q, PySem.W.cellsFrom_some _ _ _ (Or.inl q)⟩
  apply codeAny_call_function room.depth (inK _ _ found) rfl S.co S.gen rfl (PySem.W.codeRec_of inK code)
  apply hbind
  apply wpAny_newFunctionEnv_cells S.kind kinds
  intro env he s1 ready
  subst he
  refine ⟨free.keeps ready.toInCall.keep, ?_⟩
  apply codeAny_func
  obtain ⟨t, ht, hq⟩ := body cd A o s H vs Q E gA (room.deeper _) asked
  have first := inv_start (E := E) (CX := CX0) S room.hd e0 many given ready
  refine wpAny_mono (ht.nox.run [] s1 (start N vs) H _ first hq) (fun fl s' hs => ?_) (fun e s' hs => hs)
  cases fl with
  | next =>
    obtain ⟨σ', H', J, q⟩ := hs
    exact ⟨V.non, H', J.os, J.bare, J.base, J.hok, rfl, q⟩
  | ret u =>
    obtain ⟨v, σ', H', J, rv, q⟩ := hs
    exact ⟨v, H', J.os, J.bare, J.base, J.hok, rv, q⟩
  | brk => exact hs.elim fun _ z => z.elim fun _ z => z.elim fun _ z => z.elim
  | cont => exact hs.elim fun _ z => z.elim fun _ z => z.elim fun _ z => z.elim

/-- what is left of the heap when the script stands alone in it -/
def one (a : Addr) (o : HO) : Hp := fun b => if b = a then some o else none
theorem one_at {a : Addr} {o : HO} : one a o a = some o := if_pos rfl
theorem one_no {a b : Addr} {o : HO} (h : b ≠ a) : one a o b = none := if_neg h

section
variable {mb : Str → Option Value} {k : Nat} {fa a : Addr} {fd : FuncData} {x : Str} {sp : Sp} {s₁ : Shared} {vs : List Value} {ns : List Int}
abbrev Fine (s₁ : Shared) (r : Result) (s' : Shared) : Prop := r = .ok (.ret (.bool true)) ∧ OldK s₁.heap s'.heap ∧ s'.os = s₁.os ∧ AllBare s'.gens

/-- from a heap in which at most the script is told of -/
theorem from_heap {H : Hp} (inK : K.In (hidT s₁.heap H)) (names : (hidT s₁.heap H).Ns mainGlobals mg) (blt : (hidT s₁.heap H).Ns builtinsNs mb)
    (known : ∀ y : Str, y ≠ "__name__" → mb y = bootBuiltins y) (free : (hidT s₁.heap H).NoLimit) (none_ : s₁.gens = #[])
    (alone : ∀ b, H b = none ∨ ∃ o xs, H b = some (.frz o (.lst xs))) (hok : HOk P w H s₁.heap) (room : Room k callerA)
    (F : FnG P w K mg (hidT s₁.heap H) k fa fd [x] sp) (binds : ∀ (s : Shared) (u : Value), BindsTo s fd ⟨[u], []⟩ [(x, u)])
    (asked : sp [.ref a] H (fun v _ => v = .bl true) fun _ _ _ => False) :
    codeAny (model P w) callerA (.call (.ref fa) ⟨[.ref a], []⟩) (Fine s₁) s₁ := by
  have entry : Env0 P w K mg (hidT s₁.heap H) callerA [] s₁ H :=
    { frames := rfl, mod := ⟨inK, names, ⟨mb, blt, known⟩, free⟩, bs := fun b u e => of_hidT e, bsz := Nat.le_of_eq (hidT_size _ _), funs := trivial,
      frf := fun b hb => absurd (show b ∈ ([] : List Addr) from hb) (by simp), hok := hok, bare := .of_eq none_ }
  have run := F.goes callerA [] s₁ H ⟨[.ref a], []⟩ [.ref a] [.ref a] _ _ rfl room entry (binds s₁ (.ref a)) (.cons rfl .nil) asked
  refine codeAny_mono run fun r s' got => ?_
  cases r with
  | error e => exact False.elim got
  | ok fl =>
    cases fl with
    | ret u =>
      obtain ⟨v, H', os, bare, un, hok', ru, yes⟩ := got
      have yes' : v = .bl true := yes
      subst yes'
      have eu : u = Value.bool true := ru
      subst eu
      refine ⟨rfl, OldK.of_keep ?_, os, bare⟩
      intro b u e
      rcases alone b with q | ⟨ob, xs, q⟩
      · exact un.keep b u e q (fun z => absurd (show b ∈ ([] : List Addr) from z) (by simp)) (by simp)
      · have e1 := (hok b _ q).1
        have e2 := (hok' b _ (un.frzs b ob _ q)).1
        rw [e] at e1
        cases e1
        exact e2
    | next => exact False.elim got
    | brk => exact False.elim got
    | cont => exact False.elim got
/-- the law's call, its promise once -/
theorem lawG (inK : K.In s₁.heap) (names : s₁.heap.Ns mainGlobals mg) (blt : s₁.heap.Ns builtinsNs mb) (known : ∀ y : Str, y ≠ "__name__" → mb y = bootBuiltins y)
    (free : s₁.heap.NoLimit) (none_ : s₁.gens = #[]) (script : s₁.heap.get? a = some { cls := .type "list", data := .seq vs.toArray }) (nums : IntsAre vs ns)
    (few : ns.length ≤ sizeLine) (room : Room k callerA) (F : ∀ base : Heap, K.In base → base.Ns mainGlobals mg → FnG P w K mg base k fa fd [x] sp)
    (binds : ∀ (s : Shared) (u : Value), BindsTo s fd ⟨[u], []⟩ [(x, u)]) (asked : ∀ H : Hp, SqL K H a (ns.map V.int) → sp [.ref a] H (fun v _ => v = .bl true) fun _ _ _ => False) :
    codeAny (model P w) callerA (.call (.ref fa) ⟨[.ref a], []⟩) (Fine s₁) s₁ := by
  have rel := vals_ints nums
  have len := nums.length
  cases look : K.lookup a with
  | some o =>
    have e := inK a o look
    rw [script] at e
    cases e
    have keep : ∀ {b : Addr} {u : Obj}, s₁.heap.get? b = some u → (hidT s₁.heap fun _ => none).get? b = some u := fun e => hidT_get e rfl
    have ns' : ∀ {b : Addr} {m : Str → Option Value}, s₁.heap.Ns b m → (hidT s₁.heap fun _ => none).Ns b m := fun ⟨o, es, ep, e, d, r⟩ => ⟨o, es, ep, keep e, d, r⟩
    have inK' : K.In (hidT s₁.heap fun _ => none) := fun b u e => keep (inK b u e)
    refine from_heap inK' (ns' names) (ns' blt) known (let ⟨mc, h1, h2⟩ := free; ⟨mc, ns' h1, h2⟩) none_ (fun _ => .inl rfl) (fun b u z => nomatch z) room (F _ inK' (ns' names)) binds ?_
    exact asked _ (.inr ⟨_, vs.toArray, _, look, rfl, rfl, rfl, by rw [List.size_toArray, len]; exact few, by simpa using rel⟩)
  | none =>
    have keep : ∀ {b : Addr} {u : Obj}, b ≠ a → s₁.heap.get? b = some u → (hidT s₁.heap (one a (.frz { cls := .type "list", data := .seq vs.toArray } (.lst (ns.map V.int))))).get? b = some u := fun n e => hidT_get e (one_no n)
    have ns' : ∀ {b : Addr} {m : Str → Option Value}, s₁.heap.Ns b m → (hidT s₁.heap (one a (.frz { cls := .type "list", data := .seq vs.toArray } (.lst (ns.map V.int))))).Ns b m := by
      rintro b m ⟨o, es, ep, e, d, r⟩
      refine ⟨o, es, ep, keep (fun z => ?_) e, d, r⟩
      rw [z, script] at e
      cases e
      cases d
    have inK' : K.In (hidT s₁.heap (one a (.frz { cls := .type "list", data := .seq vs.toArray } (.lst (ns.map V.int))))) := fun b u e => keep (fun z => by rw [z, look] at e; cases e) (inK b u e)
    refine from_heap inK' (ns' names) (ns' blt) known (let ⟨mc, h1, h2⟩ := free; ⟨mc, ns' h1, h2⟩) none_ (fun b => ?_) (fun b u z => ?_) room (F _ inK' (ns' names)) binds (asked _ (.inl (.inr ⟨_, one_at⟩)))
    · by_cases e : b = a
      · exact .inr ⟨_, _, by rw [e]; exact one_at⟩
      · exact .inl (one_no e)
    · by_cases e : b = a
      · subst e
        have z' := one_at.symm.trans z
        cases z'
        exact ⟨script, by rw [List.length_map]; exact few, vs, _, rel, script⟩
      · have z' := (one_no e).symm.trans z
        cases z'
end
end
/-- the end of a proof: as the layer's own, for such a promise -/
theorem walkG {l : PySem.W.OpenLaw} {n k : Nat} {q : Program} {loose : List Str} {XP : (Str → Option Value) → Heap → Prop} {YP : World → Heap → Prop} {d : DefRec} {K : Params → PySem.W.Frag}
    {sp : PySem.W.Frag → Sp} {x : Str} (most : l.most = some n) (few : n ≤ sizeLine) (plain : d.params.defaults = []) (room : Room k callerA) (inY : ∀ (w : World) (h : Heap), YP w h → (K w.params).In h)
    (F : ∀ (w : World) (mg : Str → Option Value) (fa : Addr) (h : Heap), (K w.params).In h → h.Ns mainGlobals mg → mg d.name = some (.ref fa) →
      ∃ fd : FuncData, (∀ (s : Shared) (u : Value), BindsTo s fd ⟨[u], []⟩ [(x, u)]) ∧
        ∀ base : Heap, (K w.params).In base → base.Ns mainGlobals mg → FnG l.prog w (K w.params) mg base k fa fd [x] (sp (K w.params)))
    (asked : ∀ (K : PySem.W.Frag) (H : Hp) (a : Addr) (ns : List Int), ns.length ≤ n → SqL K H a (ns.map V.int) → sp K [.ref a] H (fun v _ => v = .bl true) fun _ _ _ => False) :
    PySem.W.WalkO q loose XP YP l.row.toRowW d [] (fun f vs => PySem.call f vs) := by
  apply Att.attach_call most plain
  intro w s₀ s₁ mg mb fa o pm cd doc a vs ns G Y _ _ _ named script nums size none_
  have inK := inY w _ Y
  obtain ⟨fd, binds, hF⟩ := F w mg fa _ inK G.T.g named
  exact lawG inK G.T.g G.T.b G.T.builtins G.T.nolimit none_ script nums (Nat.le_trans size few) room hF binds fun H hs => asked _ H a ns size hs

/-! the text of data -/
/-- data whose text is made: no dict, no int too long, not too deep, not too many -/
structure Shows (d : PyData) (deep many : Nat) : Prop where
  s : d.showable = true
  l : d.leavesShort 1922 = true
  h : d.hasDict = false
  p : d.depth ≤ deep
  b : d.bulk ≤ many
theorem Shows.mono {d : PyData} {a b a' b' : Nat} (x : Shows d a b) (h1 : a ≤ a') (h2 : b ≤ b') : Shows d a' b' := ⟨x.s, x.l, x.h, Nat.le_trans x.p h1, Nat.le_trans x.b h2⟩
theorem Shows.room {d : PyData} (x : Shows d 50 8000) : d.shown.length ≤ sizeLine := by
  have h := PyData.shown_le_bulk 1922 (by decide) d x.l
  have hb := x.b
  have e : sizeLine = 16777216 := by decide
  have := Nat.mul_le_mul_left 1924 hb
  omega
theorem short_int {i : Int} (h : i.natAbs.log2 < 1920) : (PyData.int i).leavesShort 1922 = true := by
  simp only [PyData.leavesShort, decide_eq_true_eq]
  have e := int_text_length_le (k := 1920) (by decide) h
  rw [PyData.shown_int, PySem.ofString_length]
  omega
theorem ints_show : ∀ {ns : List Int}, (∀ n ∈ ns, n.natAbs.log2 < 1920) → PyData.showableAll (ns.map PyData.int) = true ∧ PyData.leavesShortAll 1922 (ns.map PyData.int) = true ∧ PyData.hasDictAll (ns.map PyData.int) = false ∧ PyData.depthAll (ns.map PyData.int) = 0 ∧ PyData.bulkAll (ns.map PyData.int) = ns.length
  | [], _ => ⟨rfl, rfl, rfl, rfl, rfl⟩
  | n :: r, h => by
    obtain ⟨h1, h2, h3, h4, h5⟩ := ints_show (ns := r) fun m hm => h m (List.mem_cons_of_mem _ hm)
    have hn := h n List.mem_cons_self
    have hs := short_int hn
    refine ⟨?_, ?_, ?_, ?_, ?_⟩
    · simp [PyData.showableAll, PyData.showable, h1, hn]
    · simp [PyData.leavesShortAll, h2, hs]
    · simp [PyData.hasDictAll, PyData.hasDict, h3]
    · simp [PyData.depthAll, PyData.depth, h4]
    · simp [PyData.bulkAll, PyData.bulk, h5]; omega
theorem shows_ints {ns : List Int} (h : ∀ n ∈ ns, n.natAbs.log2 < 1920) : Shows (.tuple (ns.map PyData.int)) 1 ns.length := by
  obtain ⟨h1, h2, h3, h4, h5⟩ := ints_show h
  exact ⟨by simp [PyData.showable, h1], by simp [PyData.leavesShort, h2], by simp [PyData.hasDict, h3], by simp [PyData.depth, h4], by simp [PyData.bulk, h5]⟩
section
variable {X : Cx}
def rRepr (K : PySem.W.Frag) : List V → Hp → VK → Prop := fun vs H Q => ∃ (a : Addr) (d : PyData), vs = [.ref a] ∧ Dp K H (.ref a) d ∧ Shows d 50 8000 ∧ Q (.str d.shown) H
theorem call_repr {k : Nat} (hg : X.A.guards = some []) (room : Room k X.A) : CallR X (.builtin "repr") (rRepr X.K) := by
  intro pins s σ H vs us Q I r h
  obtain ⟨a, d, rfl, hd, hs, q⟩ := h
  obtain ⟨u, rfl, ru⟩ := vals1 r
  have eu : u = Value.ref a := ru
  subst eu
  obtain ⟨as, reads⟩ := Dp.reads I d (.ref a) (.ref a) hd rfl
  have hu := room.un
  have hp := hs.p
  refine repr_of_reads' reads hs.s (fun e => by rw [hs.h] at e; cases e) hg (by omega) (fun _ _ e => e) (fun h' u tk hk => ?_) hs.room
  exact ⟨.str d.shown, H, I.kept hk, ⟨u, rfl⟩, q⟩
/-! x *= e of ints -/
theorem ip_mulW : PIp X .Mult (fun x y H Q => ∃ i j : Int, x = .int i ∧ y = .int j ∧ IntMulOk i j ∧ Q (.int (i * j)) H) := by
  intro pins s σ H x y v u Q I rx ry h
  obtain ⟨i, j, ex, ey, ok, q⟩ := h
  subst ex ey
  obtain ⟨t, et⟩ := rx
  obtain ⟨t', et'⟩ := ry
  subst et et'
  exact imul_int ⟨V.int (i * j), H, I.tok _, ⟨_, rfl⟩, q⟩ ok
/-! f(k = v, ..): all by their names -/
variable {CX : CXT} {k : Nat} {f : Addr} {fd : FuncData} {ps ks : List Str} {sp : Sp} {E : XK} {x : Str} {p pos : Pos} {kws : List Keyword} {t tk : TA}
  {g : List Value → List Value → List Value} {gV : List V → List V → List V}
def tNamed (sp : Sp) (gV : List V → List V → List V) (E : XK) (m : Nat) (tk : TA) : TE := fun σ H Q => tk σ H fun zs H1 => zs.length = m ∧ sp (gV [] zs) H1 Q E
theorem pe_named (F : FnOk X.prog X.w X.K X.mg X.base CX k f fd ps sp) (room : Room k X.A) (glob : Gl X x) (is : X.mg x = some (.ref f)) (keep : PySem.W.keepIn X.K (.ref f) = true)
    (bound : KBn X.K fd ps 0 ks g gV) (pass : Passes CX X E) (args : PK X kws tk) (all : (backToKw pos (keywordEach kws X.env)).all (·.1.isSome) = true := by rfl)
    (names : (backToKw pos (keywordEach kws X.env)).filterMap (·.1) = ks := by rfl) (nodebug : (x == ("__debug__" : Str)) = false := by decide)
    (plain : ((backTo pos (starEach [] X.env)).any (·.1) || (backToKw pos (keywordEach kws X.env)).any (·.1.isNone)) = false := by rfl) :
    PE X (.Call (.Name x p) [] kws pos) (tNamed sp gV E ks.length tk) := by
  constructor
  intro pins s σ H Q I h
  apply wpAny_Call_Name_kw
  refine ld_glob I glob is ?_ nodebug
  apply PySem.W.callWith_KW0 I.ok.mod.kin keep all _ plain
  have run := args.run pos pins s σ H _ I h
  refine thn run fun ws s2 done => ?_
  obtain ⟨zs, H2, I2, rz, many, q⟩ := done
  refine ⟨I2.kIn, ?_⟩
  rw [names]
  have few : ws.length = ks.length := by rw [← rz.length]; exact many
  first
  | exact run_fnN (us := []) (vs := []) F room bound pass I2 .nil rz rfl few q
  | exact run_fnN (us := []) (vs := []) F room bound pass I2 .nil rz rfl many q
def turned {α : Type} : List α → List α
  | [u, v] => [v, u]
  | l => l
theorem turned_vals : ∀ {zs : List V} {ws : List Value}, Vals zs ws → Vals (turned zs) (turned ws)
  | _, _, .nil => .nil
  | _, _, .cons a .nil => .cons a .nil
  | _, _, .cons a (.cons b .nil) => .cons b (.cons a .nil)
  | _, _, .cons a (.cons b (.cons c r)) => .cons a (.cons b (.cons c r))
/-- two parameters, both by name, the second ahead -/
theorem named2 {K : PySem.W.Frag} {x qual : Str} {st : Stmt} {a b : Str} (F : Fun K x qual st f fd)
    (h : ∀ (kV doc pm : Value) (an : Option Addr) (cd ct u v : Value), bindArgs (PySem.W.fnOf x qual (defArgs st) (defBody st) (defScope st) .none kV doc pm an cd ct) ⟨[], [(b, u), (a, v)]⟩ = pure [(a, v), (b, u)]) :
    KBn K fd [a, b] 0 [b, a] (fun _ ws => turned ws) (fun _ zs => turned zs) := by
  obtain ⟨oc, od, kV, doc, pm, an, cd, ct, slots, rfl, found, code⟩ := F.ex
  refine ⟨fun s us ws _ l0 l2 => ?_, fun _ r => turned_vals r⟩
  match us, ws, l0, l2 with
  | [], [u, v], _, _ => exact .of_eq (h kV doc pm an cd ct u v)
theorem max_is (calm : X.calm = true) : CallR X (.builtin "max") (fun vs H Q => ∃ i j k : Int, vs = [.int i, .int j] ∧ k = (if j > i then j else i) ∧ Q (.int k) H) := by
  intro pins s σ H vs us Q I r h
  obtain ⟨i, j, k, e, ek, q⟩ := h
  subst ek
  exact call_max2 calm pins s σ H vs us Q I r ⟨i, j, e, q⟩
/-! a def that wants that no text is being made, called -/
theorem pe_callG {F : FuncData} {es : List Expr} {e : Expr} (G : FnG X.prog X.w X.K X.mg X.base k f F ps sp) (quiet : X.A.guards = some []) (room : Room k X.A) (glob : Gl X x) (is : X.mg x = some (.ref f)) (keep : PySem.W.keepIn X.K (.ref f) = true)
    (bound : Binds X.K F ps []) (args : PA X (e :: es) t) (nodebug : (x == ("__debug__" : Str)) = false := by decide) (star : starEach (e :: es) X.env = (false, eval e X.env) :: starEach es X.env := by rfl)
    (plain : (backTo pos (starEach es X.env)).any (·.1) = false := by rfl) : PE X (.Call (.Name x p) (e :: es) [] pos) (tCall sp [] E0 t) := by
  constructor
  intro pins s σ H Q I h
  apply wpAny_Call_Name_kw
  refine ld_glob I glob is ?_ nodebug
  refine PySem.W.callWith_K (h₀ := X.base) I.ok.mod.kin keep (thn (args.run pos pins s σ H _ I h) fun us s1 got => ?_) star plain
  obtain ⟨vs, H1, I1, r, asked⟩ := got
  refine ⟨I1.kIn, ?_⟩
  have asked' : sp vs H1 Q E0 := by simpa using asked
  have many : (us ++ []).length = ps.length := by rw [List.append_nil, ← r.length]; exact G.size _ _ _ _ asked'
  have bind := bound s1 us I1.kIn many
  rw [List.append_nil] at bind
  apply wpAny_call
  refine codeAny_mono (G.goes X.A X.stack s1 H1 ⟨us, []⟩ us vs Q E0 quiet room I1.env0 bind r asked') fun res s' hq => ?_
  cases res with
  | error e => exact False.elim hq
  | ok fl =>
    cases fl with
    | ret u => exact I1.after hq
    | next => exact False.elim hq
    | brk => exact False.elim hq
    | cont => exact False.elim hq
/-! repr of None, or of data -/
def rRepr2 (K : PySem.W.Frag) : List V → Hp → VK → Prop := fun vs H Q => (vs = [.non] ∧ Q (.str "None") H) ∨ rRepr K vs H Q
theorem call_repr2 {k : Nat} (hg : X.A.guards = some []) (room : Room k X.A) : CallR X (.builtin "repr") (rRepr2 X.K) := by
  intro pins s σ H vs us Q I r h
  rcases h with ⟨ev, q⟩ | h
  · subst ev
    obtain ⟨u, eu, ru⟩ := vals1 r
    subst eu
    have e : u = Value.none := ru
    subst e
    exact PySem.P.repr_of_none ⟨.str _, H, I.tok _, ⟨_, rfl⟩, q⟩
  · exact call_repr hg room pins s σ H vs us Q I r h
end
end GG

set_option Elab.async false
set_option linter.all false
set_option maxRecDepth 100000
set_option maxHeartbeats 4000000
namespace Z
open PySem PySem.Spec PyProof.Rows L2 GG
def top (i : Nat) : Stmt := PySem.Challenge.pw_bentcoin_k37_recipes_of_machines.main.body.getD i (.Pass ⟨0, 0, 0, 0⟩)
abbrev sPen : Stmt := top 26
abbrev sFresh : Stmt := top 27
abbrev sDraw : Stmt := top 28
/-- what follows an if, once for all ways to it -/
theorem if_tail {c : TT} {a b : TS} {D : Ends} {σ : L2.St} {H : Hp} (W : L2.St → Hp → Prop) (tail : ∀ σ H, W σ H → D.nx σ H) (go : (∀ σ H, W σ H → D.nx σ H) → tIfS c a b D σ H) : tIfS c a b D σ H := go tail
theorem on {t u : TS} {D : Ends} {σ : L2.St} {H : Hp} (h : t { D with nx := u D } σ H) : tSeq t u D σ H := h
theorem put_c {v : V} {i : Nat} {D : Ends} {σ : L2.St} {H : Hp} (h : D.nx (σ.set i (some v)) H) : tAsg (tC v) (gName i) D σ H := h
/-! heaps -/
theorem Same.upd {H : Hp} {p : Addr} {o : HO} (h : H p = none) : Same H (L2.upd H p o) := fun b x e => by
  rw [upd_ne (ne_of_none e h)]
  exact e
/-- all that was told of stands, but what is at a -/
def But (a : Addr) (H H' : Hp) : Prop := ∀ b o, H b = some o → b ≠ a → H' b = some o
theorem But.refl (a : Addr) (H : Hp) : But a H H := fun _ _ e _ => e
theorem But.trans {a : Addr} {H H1 H2 : Hp} (x : But a H H1) (y : But a H1 H2) : But a H H2 := fun b o e n => y b o (x b o e n) n
theorem But.of {a : Addr} {H H1 : Hp} (x : Same H H1) : But a H H1 := fun b o e _ => x b o e
theorem But.put {a : Addr} {H : Hp} {o : HO} : But a H (L2.upd H a o) := fun b u e n => by
  rw [upd_ne n]
  exact e
theorem But.free {a : Addr} {H H' : Hp} {l : Addr} (e : But a H H') (n : l ≠ a) (h : H' l = none) : H l = none := by
  cases q : H l with
  | none => rfl
  | some o =>
    rw [e l o q n] at h
    cases h
theorem But.same {a : Addr} {H H0 H' : Hp} (s : Same H0 H) (n : H0 a = none) (b : But a H H') : Same H0 H' := fun c o e => b c o (s c o e) (ne_of_none e n)
theorem But.seq {a c : Addr} {K : PySem.W.Frag} {H H' : Hp} {xs : List V} (e : But a H H') (n : c ≠ a) (h : SqL K H c xs) : SqL K H' c xs := by
  rcases h with (h | ⟨o, h⟩) | h
  · exact .inl (.inl (e _ _ h n))
  · exact .inl (.inr ⟨o, e _ _ h n⟩)
  · exact .inr h
/-- a pen stands at a -/
def Pen (H : Hp) (a l : Addr) : Prop := ∃ (cs : List Int) (pos val : Int), H a = some (.lst [.ref l, .int pos, .int val]) ∧ H l = some (.lst (cs.map V.int)) ∧ 0 ≤ pos
theorem Pen.ne {H : Hp} {a l : Addr} {cs : List Int} {p v : Int} (h : H a = some (.lst [.ref l, .int p, .int v])) (e : H l = some (.lst (cs.map V.int))) : l ≠ a := by
  intro z
  subst z
  rw [h] at e
  cases cs with
  | nil => cases e
  | cons x r => cases e
theorem Pen.put {H : Hp} {a l : Addr} {cs : List Int} {p v q u : Int} (h : H a = some (.lst [.ref l, .int p, .int v])) (e : H l = some (.lst (cs.map V.int))) (hq : 0 ≤ q) : Pen (upd H a (.lst [.ref l, .int q, .int u])) a l :=
  ⟨cs, q, u, upd_same, by rw [upd_ne (Pen.ne h e)]; exact e, hq⟩
theorem Pen.same {H H' : Hp} {a l : Addr} (p : Pen H a l) (s : Same H H') : Pen H' a l := by
  obtain ⟨cs, q, v, h1, h2, h3⟩ := p
  exact ⟨cs, q, v, s _ _ h1, s _ _ h2, h3⟩
theorem dpInts {K : PySem.W.Frag} {H : Hp} : ∀ ns : List Int, DpAll K H (ns.map V.int) (ns.map PyData.int)
  | [] => .nil
  | n :: r => .cons (.int n) (dpInts r)
theorem cut_to {α : Type} (xs : List V) (n : Nat) : ∃ m, cutV xs none (some (n : Int)) = xs.take m := ⟨_, by unfold cutV; rw [HT.sIx_none]; rfl⟩
/-- a row without the zeros at its end -/
def strip (l : List Int) : List Int := (l.reverse.dropWhile (· == 0)).reverse
theorem strip_nil : strip [] = [] := rfl
theorem strip_zero (l : List Int) : strip (l ++ [0]) = strip l := by
  unfold strip
  rw [List.reverse_append]
  rfl
theorem strip_last {l : List Int} {z : Int} (h : z ≠ 0) : strip (l ++ [z]) = l ++ [z] := by
  unfold strip
  rw [List.reverse_append]
  show (List.dropWhile (· == 0) (z :: l.reverse)).reverse = _
  rw [List.dropWhile_cons_of_neg (by simpa using h), List.reverse_cons, List.reverse_reverse]
theorem strip_mem {l : List Int} {c : Int} (h : c ∈ strip l) : c ∈ l := by
  unfold strip at h
  rw [List.mem_reverse] at h
  exact List.mem_reverse.mp ((List.dropWhile_sublist _).subset h)
theorem strip_len (l : List Int) : (strip l).length ≤ l.length := by
  unfold strip
  rw [List.length_reverse]
  have := (List.dropWhile_sublist (· == 0) (l := l.reverse)).length_le
  rwa [List.length_reverse] at this
theorem strip_strip (l : List Int) : strip (strip l) = strip l := by
  rcases List.eq_nil_or_concat (strip l) with e | ⟨r, z, e⟩
  · rw [e]; rfl
  · rw [List.concat_eq_append] at e
    by_cases h : z = 0
    · exfalso
      have e2 : l.reverse.dropWhile (· == 0) = z :: r.reverse := by
        have := congrArg List.reverse e
        unfold strip at this
        rw [List.reverse_reverse, List.reverse_append] at this
        exact this
      have := List.head?_dropWhile_not (p := fun x : Int => x == 0) (l := l.reverse)
      rw [e2] at this
      simp [h] at this
    · rw [e, strip_last h]
theorem eqv_nil : ∀ {xs : List Int}, xs ≠ [] → (!PyData.eqv (.list (xs.map PyData.int)) (.list [])) = true
  | [], h => absurd rfl h
  | _ :: _, _ => rfl
structure Names (mg : Str → Option Value) : Prop where
  list : mg "list" = none
  tuple : mg "tuple" = none
  len : mg "len" = none
  range : mg "range" = none
structure Def (K : PySem.W.Frag) (mg : Str → Option Value) (x : Str) (f : Addr) (fd : FuncData) (ps : List Str) : Prop where
  is : mg x = some (.ref f)
  kp : PySem.W.keepIn K (.ref f) = true
  bi : Binds K fd ps []
theorem Pen.apart {H : Hp} {a l e : Addr} (p : Pen H a l) (h : H e = none) : e ≠ a ∧ e ≠ l := by
  obtain ⟨cs, pos, val, ha, hl, _⟩ := p
  exact ⟨(ne_of_none ha h).symm, (ne_of_none hl h).symm⟩
theorem Pen.notTup {H : Hp} {a l e : Addr} {xs : List V} (p : Pen H a l) (h : H e = some (.tup xs)) : e ≠ a := by
  obtain ⟨cs, pos, val, ha, hl, _⟩ := p
  rintro rfl
  rw [ha] at h
  cases h
theorem But.mem {a p : Addr} {H H' : Hp} {o : HO} (b : But a H H') (n : p ≠ a) (e : H p = some o) : H' p = some o := b p o e n
/-- what follows a value, once for all ways to it -/
theorem asg_tail {te : TE} {g : TG} {D : Ends} {σ : L2.St} {H : Hp} (W : V → Hp → Prop) (tail : ∀ v H', W v H' → g v σ H' D.nx) (go : (∀ v H', W v H' → g v σ H' D.nx) → te σ H fun x H1 => g x σ H1 D.nx) : tAsg te g D σ H := go tail
theorem log_le {b : Int} (h : b.natAbs < 2 ^ 100) : b.natAbs.log2 < 9000 := Nat.lt_of_lt_of_le (PySem.Flt.log2_lt_of (k := 100) (by decide) h) (by decide)
section
variable {P : Program} {w : World} {K : PySem.W.Frag} {mg : Str → Option Value} {base : Heap}
/-! ### the pen -/
def spPen (K : PySem.W.Frag) : Sp := fun vs H Q _ => ∃ (s : Addr) (ns : List Int), vs = [.ref s] ∧ SqL K H s (ns.map V.int) ∧ ns.length ≤ 63 ∧ ∀ p l H', Same H H' → H p = none → H l = none → Pen H' p l → Q (.ref p) H'
theorem scPen : FnScope ["script"] ["script"] (defScope sPen) := ⟨rfl, rfl, rfl, by decide +kernel, rfl, by decide +kernel, by decide +kernel⟩
theorem ok_pen {f : Addr} {fd : FuncData} (F : Fun K "_law_pen" "_law_pen" sPen f fd) (T : Names mg) : FnOk P w K mg base CX0 1 f fd ["script"] (spPen K) := by
  refine F.ok scPen (fun vs H Q E h => ?_) (fun cdv A outer s H vs Q E hr h => ?_)
  · obtain ⟨a, ns, rfl, _⟩ := h
    rfl
  · obtain ⟨a, ns, rfl, hS, hlen, q⟩ := h
    refine ⟨_, pss_one (ps_ret (pe_lst (pa_cons (pe_callTy call_list_of (by rfl) T.list (by decide +kernel) (pa_cons (pe_slice sl_list (pv 0) po_none (po_some pe_int)) pa_nil)) (pa_cons pe_int (pa_cons pe_int pa_nil))))), ?_⟩
    refine ⟨.ref a, rfl, 63, rfl, a, _, rfl, hS, fun c nc => ?_⟩
    refine ⟨c, _, rfl, .inl (.inl (.inl upd_same)), fun l nl => ?_⟩
    refine ⟨by show 3 ≤ sizeLine; decide, fun p np => ?_⟩
    obtain ⟨m, em⟩ := cut_to (α := Int) (ns.map V.int) 63
    have em : cutV (ns.map V.int) none (some 63) = (ns.map V.int).take m := em
    have lp : l ≠ p := ne_of_none upd_same np
    have h1 := (Same.trans (Same.upd (o := .lst (cutV (ns.map V.int) none (some 63))) nc) (Same.trans (Same.upd (o := .lst (cutV (ns.map V.int) none (some 63))) nl) (Same.upd (o := .lst [.ref l, .int 0, .int 0]) np)))
    refine q p l _ h1 (Same.free (Same.trans (Same.upd nc) (Same.upd nl)) np) (Same.free (Same.upd nc) nl) ⟨ns.take m, 0, 0, upd_same, ?_, by decide⟩
    rw [upd_ne lp, upd_same, em, List.map_take]
/-! ### a fresh number -/
def spFresh : Sp := fun vs H Q _ => ∃ (a l : Addr), vs = [.ref a] ∧ Pen H a l ∧ ∀ (v : Int) H', But a H H' → Pen H' a l → Q (.int v) H'
theorem scFresh : FnScope ["pen", "at", "cell", "p", "one", "found", "turn"] ["pen"] (defScope sFresh) := ⟨rfl, rfl, rfl, by decide +kernel, rfl, by decide +kernel, by decide +kernel⟩
theorem ok_fresh {f : Addr} {fd : FuncData} (F : Fun K "_law_fresh" "_law_fresh" sFresh f fd) (T : Names mg) : FnOk P w K mg base CX0 1 f fd ["pen"] spFresh := by
  refine F.ok scFresh (fun vs H Q E h => ?_) (fun cdv A outer s H vs Q E hr h => ?_)
  · obtain ⟨a, l, rfl, _⟩ := h
    rfl
  · obtain ⟨a, l, rfl, ⟨cs, pos, val, ha, hl, hp⟩, q⟩ := h
    have hu : A.units + 3 + 64 < cLine := hr.units
    refine ⟨_, pss_cons (ps_set (i := 1) scFresh.nd rfl (.inl rfl) (pe_ix ix_list (pv 0) pe_int (fun _ _ => rfl)))
      (pss_cons (ps_asg (pe_op op_add (pv 1) pe_int) (pg_sub (pv 0) pe_int set_list))
      (pss_cons (ps_set (i := 2) scFresh.nd rfl (.inl rfl) pe_int)
      (pss_cons (ps_if (pt_cmpR (op_neD hu) (pe_ix ix_list (pv 0) pe_int (fun _ _ => rfl)) (pe_lst pa_nil) (nomark _))
        (pss_one (ps_set (i := 2) scFresh.nd rfl (.inl rfl) (pe_ix ix_list (pe_ix ix_list (pv 0) pe_int (fun _ _ => rfl)) (pe_op op_mod (pv 1) (pe_callB call_len_seq (by rfl) T.len PySem.boot_len (pa_cons (pe_ix ix_list (pv 0) pe_int (fun _ _ => rfl)) pa_nil))) (fun _ _ => rfl)))) pss_nil)
      (pss_cons (ps_if (PW.pt (pw_and (pt_cmpR op_lt (pv 1) (pe_callB call_len_seq (by rfl) T.len PySem.boot_len (pa_cons (pe_ix ix_list (pv 0) pe_int (fun _ _ => rfl)) pa_nil)) (nomark _)) (pw_and1 (pt_cmpR op_ge (pv 2) (pe_op op_pow pe_int pe_int) (nomark _)))))
        (pss_one (ps_ret (pe_op op_sub (pv 2) (pe_op op_pow pe_int pe_int)))) pss_nil)
      (pss_cons (ps_set (i := 3) scFresh.nd rfl (.inl rfl) pe_int)
      (pss_cons (ps_set (i := 4) scFresh.nd rfl (.inl rfl) (pe_op op_mod (pe_op op_add (pe_op op_add (pe_op op_mul (pv 2) pe_int) (pe_op op_mul pe_int (pv 1))) pe_int) (pv 3)))
      (pss_cons (ps_set (i := 5) scFresh.nd rfl (.inl rfl) (pv 4))
      (pss_cons (ps_for PassesOwn.never rfl (pi_range1 rfl T.range (pa_cons pe_int pa_nil)) (pg_name (i := 6) scFresh.nd rfl (.inl rfl))
        (pss_cons (ps_set (i := 4) scFresh.nd rfl (.inl rfl) (pe_op op_mod (pe_op op_add (pe_op op_add (pe_op op_mul (pv 4) (pv 4)) (pe_op op_mul (pe_op op_mul pe_int (pe_op op_add (pv 6) pe_int)) (pe_op op_add (pv 1) pe_int))) (pv 2)) (pv 3)))
        (pss_one (ps_set (i := 5) scFresh.nd rfl (.inl rfl) (pe_op op_add (pe_op op_mul (pv 5) (pv 3)) (pv 4))))))
      (pss_one (ps_ret (pv 5))))))))))), ?_⟩
    -- position = pen[1]; pen[1] = position + 1; cell = 0
    refine ⟨.ref a, rfl, a, _, 1, .int pos, rfl, rfl, SqL.of ha, atI_nat (j := 1) rfl, ?_⟩
    refine ⟨_, rfl, _, _, rfl, rfl, .ref a, rfl, a, _, 1, 1, rfl, rfl, ha, rfl, ?_⟩
    have ha1 : upd H a (.lst [.ref l, .int (pos + 1), .int val]) a = some (.lst [.ref l, .int (pos + 1), .int val]) := upd_same
    have hl1 : upd H a (.lst [.ref l, .int (pos + 1), .int val]) l = some (.lst (cs.map V.int)) := by
      rw [upd_ne (Pen.ne ha hl)]
      exact hl
    have b1 : But a H (upd H a (.lst [.ref l, .int (pos + 1), .int val])) := But.put
    change (_ : Hp → Prop) (upd H a (.lst [.ref l, .int (pos + 1), .int val]))
    generalize upd H a (.lst [.ref l, .int (pos + 1), .int val]) = H1 at ha1 hl1 b1 ⊢
    -- if pen[0] != []
    have ec : cs = [] ∨ ∃ x r, cs = x :: r := by
      cases cs with
      | nil => exact .inl rfl
      | cons x r => exact .inr ⟨x, r, rfl⟩
    dsimp only
    refine on (put_c ?_)
    dsimp only
    refine on (if_tail (fun σ H' => ∃ cell : Int, σ = [some (V.ref a), some (V.int pos), some (V.int cell), none, none, none, none] ∧ Same H1 H') ?_ (fun t => ?_))
    rotate_left
    · refine ⟨.ref a, rfl, a, _, 0, .ref l, rfl, rfl, SqL.of ha1, atI_nat (j := 0) rfl, Nat.zero_le _, fun e0 ne0 => ?_⟩
      have s2 : Same H1 (upd H1 e0 (.lst [])) := Same.upd ne0
      have ha2 := s2 _ _ ha1
      have hl2 := s2 _ _ hl1
      have d0 : Dp K (upd H1 e0 (.lst [])) (.ref e0) (.list []) := .lst (SqL.of upd_same) .nil
      generalize upd H1 e0 (.lst []) = H2 at s2 ha2 hl2 d0 ⊢
      refine ⟨.list (cs.map PyData.int), .list [], .lst (SqL.of hl2) (dpInts cs), d0, PySem.W.ke_shaped_ints cs, rfl, _, rfl, ?_⟩
      rcases ec with rfl | ⟨x, r, rfl⟩
      · exact iteF (t _ _ ⟨0, rfl, s2⟩)
      · refine iteT ?_
        have hpos : pos % (((x :: r).length : Nat) : Int) < ((x :: r).length : Nat) ∧ 0 ≤ pos % (((x :: r).length : Nat) : Int) := by
          have : (0 : Int) < ((x :: r).length : Nat) := by rw [List.length_cons]; omega
          exact ⟨Int.emod_lt_of_pos _ this, Int.emod_nonneg _ (by omega)⟩
        obtain ⟨j, ej⟩ : ∃ j : Nat, pos % (((x :: r).length : Nat) : Int) = (j : Int) := ⟨(pos % (((x :: r).length : Nat) : Int)).toNat, by omega⟩
        have hj : j < (x :: r).length := by omega
        refine ⟨.ref a, rfl, a, _, 0, .ref l, rfl, rfl, SqL.of ha2, atI_nat (j := 0) rfl, .int pos, rfl, .ref a, rfl, a, _, 0, .ref l, rfl, rfl, SqL.of ha2, atI_nat (j := 0) rfl, l, _, rfl, .inl (SqL.of hl2), _, _, rfl, rfl, ?_, ?_⟩
        · show (0 : Int) < _
          rw [List.length_map, List.length_cons]
          omega
        · refine ⟨l, _, _, .int (x :: r)[j], rfl, rfl, SqL.of hl2, ?_, t _ _ ⟨_, rfl, s2⟩⟩
          rw [List.length_map, ej]
          exact atI_nat (by rw [List.getElem?_map, List.getElem?_eq_getElem hj]; rfl)
    · rintro σ H' ⟨cell, rfl, s2⟩
      have ha2 := s2 _ _ ha1
      have hl2 := s2 _ _ hl1
      have b2 : But a H H' := b1.trans (But.of s2)
      have p2 : Pen H' a l := ⟨cs, pos + 1, val, ha2, hl2, by omega⟩
      -- if position < len(pen[0]) and cell >= 10 ** 18: return cell - 10 ** 18
      dsimp only
      refine on (if_tail (fun σ H3 => σ = [some (V.ref a), some (V.int pos), some (V.int cell), none, none, none, none] ∧ H3 = H') ?_ (fun t => ?_))
      rotate_left
      · refine ⟨_, rfl, .ref a, rfl, a, _, 0, .ref l, rfl, rfl, SqL.of ha2, atI_nat (j := 0) rfl, l, _, rfl, .inl (SqL.of hl2), _, _, rfl, rfl, _, rfl, ite2 (fun _ => ?_) (fun _ => iteF (t _ _ ⟨rfl, rfl⟩))⟩
        refine ⟨_, rfl, _, _, rfl, rfl, ⟨by decide, by decide, by decide⟩, _, _, rfl, rfl, _, rfl, ite2 (fun _ => ?_) (fun _ => t _ _ ⟨rfl, rfl⟩)⟩
        exact ⟨_, rfl, _, _, rfl, rfl, ⟨by decide, by decide, by decide⟩, _, _, rfl, rfl, q _ _ b2 p2⟩
      · rintro σ H3 ⟨rfl, rfl⟩
        -- state, mixed, the six turns
        refine ⟨_, rfl, _, _, rfl, rfl, .inr ⟨by decide, by decide⟩, _, rfl, _, _, rfl, rfl, .inl ⟨by decide, by decide⟩, _, _, rfl, rfl, _, _, rfl, rfl, _, rfl, _, _, rfl, rfl, (by show (0 : Int) < 2305843009213693951; decide), _, rfl,
          6, rfl, by decide, by decide, for_range (lo := 0) (n := 6) (fun i σ H4 => ∃ (st mx : Int) (v : Option V), σ = [some (V.ref a), some (V.int pos), some (V.int cell), some (V.int 2305843009213693951), some (V.int st), some (V.int mx), v] ∧ H4 = H3 ∧ 0 ≤ st ∧ st < 2305843009213693951)
            ⟨_, _, none, rfl, rfl, Int.emod_nonneg _ (by decide), Int.emod_lt_of_pos _ (by decide)⟩ ?_ ?_⟩
        · rintro i σ H4 hi ⟨st, mx, v, rfl, rfl, h0, h1⟩
          refine ⟨_, rfl, _, rfl, _, _, rfl, rfl, .inl ⟨by omega, by omega⟩, _, rfl, _, _, rfl, rfl, _, _, rfl, rfl, .inl ⟨by decide, by decide⟩, _, rfl, _, _, rfl, rfl, _, _, rfl, rfl, .inl ⟨by show -(2 ^ 64) < (69621 : Int) * (0 + (i : Int) + 1); omega, by show (69621 : Int) * (0 + (i : Int) + 1) < 2 ^ 64; omega⟩, _, _, rfl, rfl,
            _, rfl, _, _, rfl, rfl, _, rfl, _, _, rfl, rfl, (by show (0 : Int) < 2305843009213693951; decide), _, rfl, _, rfl, _, _, rfl, rfl, .inr ⟨by decide, by decide⟩, _, rfl, _, _, rfl, rfl, ?_⟩
          exact ⟨_, _, _, rfl, rfl, Int.emod_nonneg _ (by decide), Int.emod_lt_of_pos _ (by decide)⟩
        · rintro σ H4 ⟨st, mx, v, rfl, rfl, h0, h1⟩
          exact ⟨_, rfl, q _ _ b2 p2⟩
/-! ### a number below a bound -/
def spDraw : Sp := fun vs H Q _ => ∃ (a l : Addr) (b : Int), vs = [.ref a, .int b] ∧ Pen H a l ∧ 0 < b ∧ b.natAbs.log2 < 9000 ∧ ∀ (d : Int) H', 0 ≤ d → d < b → But a H H' → Pen H' a l → Q (.int d) H'
theorem scDraw : FnScope ["pen", "many", "digit"] ["pen", "many"] (defScope sDraw) := ⟨rfl, rfl, rfl, by decide +kernel, rfl, by decide +kernel, by decide +kernel⟩
theorem ok_draw {f g : Addr} {fd gd : FuncData} (F : Fun K "_law_draw" "_law_draw" sDraw f fd) (GF : FnOk P w K mg base CX0 1 g gd ["pen"] spFresh) (mF : mg "_law_fresh" = some (.ref g)) (kF : PySem.W.keepIn K (.ref g) = true) (bF : Binds K gd ["pen"] []) :
    FnOk P w K mg base CX0 2 f fd ["pen", "many"] spDraw := by
  refine F.ok scDraw (fun vs H Q E h => ?_) (fun cdv A outer s H vs Q E hr h => ?_)
  · obtain ⟨a, l, b, rfl, _⟩ := h
    rfl
  · obtain ⟨a, l, b, rfl, pn, hb, hb2, q⟩ := h
    refine ⟨_, pss_cons (ps_if (pt_cmpR op_lt (pe_ix ix_list (pv 0) pe_int (fun _ _ => rfl)) (pv 1) (nomark _))
        (pss_one (ps_asg (pe_call GF hr (by rfl) mF kF bF .nil pass0 (pa_cons (pv 0) pa_nil)) (pg_sub (pv 0) pe_int set_list))) pss_nil)
      (pss_cons (ps_set (i := 2) scDraw.nd rfl (.inl rfl) (pe_op op_mod (pe_ix ix_list (pv 0) pe_int (fun _ _ => rfl)) (pv 1)))
      (pss_cons (ps_asg (pe_op op_fdivW (pe_ix ix_list (pv 0) pe_int (fun _ _ => rfl)) (pv 1)) (pg_sub (pv 0) pe_int set_list))
      (pss_one (ps_ret (pv 2))))), ?_⟩
    refine on (if_tail (fun σ H' => σ = [some (V.ref a), some (V.int b), none] ∧ Pen H' a l ∧ But a H H') ?_ (fun t => ?_))
    rotate_left
    · obtain ⟨cs, pos, val, ha, hl, hp⟩ := id pn
      refine ⟨.ref a, rfl, a, _, 2, .int val, rfl, rfl, SqL.of ha, atI_nat (j := 2) rfl, _, rfl, _, _, rfl, rfl, _, rfl, ite2 (fun _ => ?_) (fun _ => t _ _ ⟨rfl, pn, But.refl _ _⟩)⟩
      refine ⟨.ref a, rfl, a, l, rfl, pn, fun v H1 b1 p1 => ?_⟩
      obtain ⟨cs, pos, val, ha, hl, hp⟩ := p1
      exact ⟨.ref a, rfl, a, _, 2, 2, rfl, rfl, ha, rfl, t _ _ ⟨rfl, Pen.put ha hl hp, b1.trans But.put⟩⟩
    · rintro σ H1 ⟨rfl, ⟨cs, pos, val, ha, hl, hp⟩, b1⟩
      refine ⟨.ref a, rfl, a, _, 2, .int val, rfl, rfl, SqL.of ha, atI_nat (j := 2) rfl, _, rfl, _, _, rfl, rfl, hb, .ref a, rfl, a, _, 2, .int val, rfl, rfl, SqL.of ha, atI_nat (j := 2) rfl, _, rfl, _, _, rfl, rfl, ⟨hb, hb2⟩, .ref a, rfl, a, _, 2, 2, rfl, rfl, ha, rfl, _, rfl, ?_⟩
      exact q _ _ (Int.emod_nonneg _ (by omega)) (Int.emod_lt_of_pos _ hb) (b1.trans But.put) (Pen.put ha hl hp)
end
end Z

set_option Elab.async false
set_option linter.all false
set_option maxRecDepth 100000
set_option maxHeartbeats 4000000
namespace Z
open PySem PySem.Spec PyProof.Rows L2 GG
abbrev sEnds : Stmt := top 30
abbrev sMach : Stmt := top 31
abbrev sNumb : Stmt := top 32
/-! ### machines -/
inductive Pl where
  | toss (a b : Int)
  | fin (n : Int)
  | never
def Pl.row : Pl → List V
  | .toss a b => [.str "toss", .int a, .int b]
  | .fin n => [.str "end", .int n]
  | .never => [.str "never"]
def Pl.ok (m : Nat) : Pl → Prop
  | .toss a b => 0 ≤ a ∧ a < m ∧ 0 ≤ b ∧ b < m
  | .fin n => 0 ≤ n ∧ n < 100
  | .never => True
def Pl.still (p : Pl) : Prop := p = .never ∨ ∃ n, p = .fin n ∧ 0 ≤ n ∧ n < 100
theorem Pl.still.ok {p : Pl} (h : p.still) (m : Nat) : p.ok m := by
  rcases h with rfl | ⟨n, rfl, h1, h2⟩
  · trivial
  · exact ⟨h1, h2⟩
def Pl.isT : Pl → Bool
  | .toss _ _ => true
  | _ => false
theorem Pl.still.isT {p : Pl} (h : p.still) : p.isT = false := by
  rcases h with rfl | ⟨n, rfl, _⟩ <;> rfl
inductive Pls (H : Hp) : List V → List Pl → Prop where
  | nil : Pls H [] []
  | cons {t : Addr} {p : Pl} {rs : List V} {ps : List Pl} : H t = some (.tup p.row) → Pls H rs ps → Pls H (.ref t :: rs) (p :: ps)
theorem Pls.mono {H H' : Hp} (f : ∀ t xs, H t = some (.tup xs) → H' t = some (.tup xs)) {rs : List V} {ps : List Pl} (h : Pls H rs ps) : Pls H' rs ps := by
  induction h with
  | nil => exact .nil
  | cons e _ ih => exact .cons (f _ _ e) ih
theorem Pls.snoc {H : Hp} {rs : List V} {ps : List Pl} (h : Pls H rs ps) {t : Addr} {p : Pl} (e : H t = some (.tup p.row)) : Pls H (rs ++ [.ref t]) (ps ++ [p]) := by
  induction h with
  | nil => exact .cons e .nil
  | cons e' _ ih => exact .cons e' ih
theorem Pls.len {H : Hp} {rs : List V} {ps : List Pl} (h : Pls H rs ps) : rs.length = ps.length := by
  induction h with
  | nil => rfl
  | cons _ _ ih => simp [ih]
theorem Pls.get {H : Hp} {rs : List V} {ps : List Pl} (h : Pls H rs ps) : ∀ {i : Nat} {p : Pl}, ps[i]? = some p → ∃ t, rs[i]? = some (.ref t) ∧ H t = some (.tup p.row) := by
  induction h with
  | nil => intro i p e; simp at e
  | @cons t q rs ps e' _ ih =>
    intro i p e
    cases i with
    | zero =>
      have : q = p := by simpa using e
      subst this
      exact ⟨t, rfl, e'⟩
    | succ i => exact ih (by simpa using e)
def Mach (H : Hp) (m : Addr) (ps : List Pl) : Prop := ∃ rs, H m = some (.tup rs) ∧ Pls H rs ps
theorem Mach.mono {H H' : Hp} (f : ∀ t xs, H t = some (.tup xs) → H' t = some (.tup xs)) {m : Addr} {ps : List Pl} (h : Mach H m ps) : Mach H' m ps := by
  obtain ⟨rs, e, h⟩ := h
  exact ⟨rs, f _ _ e, h.mono f⟩
theorem Mach.same {H H' : Hp} (s : Same H H') {m : Addr} {ps : List Pl} (h : Mach H m ps) : Mach H' m ps := h.mono fun t xs e => s _ _ e
theorem Mach.but {H H' : Hp} {a l m : Addr} {ps : List Pl} (pn : Pen H a l) (b : But a H H') (h : Mach H m ps) : Mach H' m ps := h.mono fun t xs e => b.mem (pn.notTup e) e
structure WF (ps : List Pl) : Prop where
  ne : 0 < ps.length
  le : ps.length ≤ 30
  ok : ∀ p ∈ ps, p.ok ps.length
theorem WF.get {ps : List Pl} (w : WF ps) {a : Int} (h0 : 0 ≤ a) (h1 : a < ps.length) : ∃ p, ps[a.toNat]? = some p ∧ p.ok ps.length := by
  have lt : a.toNat < ps.length := by omega
  exact ⟨ps[a.toNat], List.getElem?_eq_getElem lt, w.ok _ (List.getElem_mem lt)⟩
theorem str_toss_end : (V.str "end" : V) ≠ V.str "toss" := by intro h; exact absurd (V.str.inj h) (by decide +kernel)
theorem str_toss_never : (V.str "never" : V) ≠ V.str "toss" := by intro h; exact absurd (V.str.inj h) (by decide +kernel)
theorem str_end_toss : (V.str "toss" : V) ≠ V.str "end" := by intro h; exact absurd (V.str.inj h) (by decide +kernel)
theorem str_end_never : (V.str "never" : V) ≠ V.str "end" := by intro h; exact absurd (V.str.inj h) (by decide +kernel)
theorem str_never_toss : (V.str "toss" : V) ≠ V.str "never" := by intro h; exact absurd (V.str.inj h) (by decide +kernel)
theorem str_never_end : (V.str "end" : V) ≠ V.str "never" := by intro h; exact absurd (V.str.inj h) (by decide +kernel)
section
variable {P : Program} {w : World} {K : PySem.W.Frag} {mg : Str → Option Value} {base : Heap}
def spEnds : Sp := fun vs H Q _ => ∃ (a l q : Addr) (ns : List Int), vs = [.ref a, .ref q] ∧ Pen H a l ∧ H q = some (.lst (ns.map V.int)) ∧ 0 < ns.length ∧ ns.length ≤ 60 ∧ (∀ n ∈ ns, 0 ≤ n ∧ n < 100) ∧
  ∀ (t : Addr) (p : Pl) H', But a H H' → H t = none → H' t = some (.tup p.row) → Pen H' a l → p.still → Q (.ref t) H'
theorem Pen.notInts {H : Hp} {a l q : Addr} {ns : List Int} (p : Pen H a l) (h : H q = some (.lst (ns.map V.int))) : q ≠ a := by
  obtain ⟨cs, pos, val, ha, hl, _⟩ := p
  rintro rfl
  rw [ha] at h
  cases ns with
  | nil => cases h
  | cons x r => cases h
theorem scEnds : FnScope ["pen", "answers"] ["pen", "answers"] (defScope sEnds) := ⟨rfl, rfl, rfl, by decide +kernel, rfl, by decide +kernel, by decide +kernel⟩
theorem ok_ends {f g : Addr} {fd gd : FuncData} (F : Fun K "_law_ends" "_law_ends" sEnds f fd) (T : Names mg) (GD : FnOk P w K mg base CX0 2 g gd ["pen", "many"] spDraw) (PD : Def K mg "_law_draw" g gd ["pen", "many"]) :
    FnOk P w K mg base CX0 3 f fd ["pen", "answers"] spEnds := by
  refine F.ok scEnds (fun vs H Q E h => ?_) (fun cdv A outer s H vs Q E hr h => ?_)
  · obtain ⟨a, l, q, ns, rfl, _⟩ := h
    rfl
  · obtain ⟨a, l, r, ns, rfl, pn, hr1, h0, h60, hns, q⟩ := h
    refine ⟨_, (pss_cons (ps_if (pt_cmpR op_eq (pe_call GD (hr.mono (by decide)) (by rfl) PD.is PD.kp PD.bi .nil pass0 (pa_cons (pv 0) (pa_cons pe_int pa_nil))) pe_int (nomark _)) (pss_one (ps_ret (pe_tup (pa_cons pe_str pa_nil)))) pss_nil)
      (pss_one (ps_ret (pe_tup (pa_cons pe_str (pa_cons (pe_ix ix_list (pv 1) (pe_call GD (hr.mono (by decide)) (by rfl) PD.is PD.kp PD.bi .nil pass0 (pa_cons (pv 0) (pa_cons (pe_callB call_len_seq (by rfl) T.len PySem.boot_len (pa_cons (pv 1) pa_nil)) pa_nil))) (fun _ _ => rfl)) pa_nil)))))), ?_⟩
    refine ⟨.ref a, rfl, a, l, 7, rfl, pn, by decide, by decide +kernel, fun d H1 u0 u1 b1 p1 => ⟨rfl, _, rfl, ite2 (fun _ => ?_) (fun _ => ?_)⟩⟩
    · refine ⟨by show 1 ≤ sizeLine; decide, fun t nt => ?_⟩
      exact q t .never _ (b1.trans (But.of (Same.upd nt))) (b1.free (p1.apart nt).1 nt) upd_same (p1.same (Same.upd nt)) (.inl rfl)
    · have hr2 := b1.mem (pn.notInts hr1) hr1
      refine ⟨.ref r, rfl, .ref a, rfl, .ref r, rfl, r, _, rfl, .inl (SqL.of hr2), a, l, _, rfl, p1, ?_, ?_, fun d2 H2 v0 v1 b2 p2 => ?_⟩
      · rw [List.length_map]
        omega
      · rw [List.length_map]
        refine log_le (Nat.lt_of_le_of_lt (show _ ≤ 60 by omega) (by decide))
      · rw [List.length_map] at v1
        obtain ⟨j, rfl⟩ : ∃ j : Nat, d2 = (j : Int) := ⟨d2.toNat, by omega⟩
        have hj : j < ns.length := by omega
        refine ⟨r, _, j, .int ns[j], rfl, rfl, SqL.of (b2.mem (p1.notInts hr2) hr2), atI_nat (by rw [List.getElem?_map, List.getElem?_eq_getElem hj]; rfl), by show 2 ≤ sizeLine; decide, fun t nt => ?_⟩
        have b3 := b1.trans b2
        exact q t (.fin ns[j]) _ (b3.trans (But.of (Same.upd nt))) (b3.free (p2.apart nt).1 nt) upd_same (p2.same (Same.upd nt)) (.inr ⟨_, rfl, hns _ (List.getElem_mem hj)⟩)
/-! ### the numbers of the places changed -/
structure Order (n : Nat) (os : List Int) : Prop where
  len : os.length = n
  all : ∀ k : Int, 0 ≤ k → k < n → k ∈ os
  ok : ∀ k ∈ os, 0 ≤ k ∧ k < n
def spNumb : Sp := fun vs H Q _ => ∃ (m o : Addr) (ps : List Pl) (os : List Int), vs = [.ref m, .ref o] ∧ Mach H m ps ∧ WF ps ∧ H o = some (.lst (os.map V.int)) ∧ Order ps.length os ∧
  ∀ (t : Addr) (qs : List Pl) H', Same H H' → H t = none → Mach H' t qs → WF qs → qs.length = ps.length → ((∃ p ∈ ps, p.isT = false) → ∃ q ∈ qs, q.isT = false) → Q (.ref t) H'
theorem flat_ints : ∀ ns : List Int, (ns.map V.int).all flatV = true
  | [] => rfl
  | _ :: r => flat_ints r
theorem find_int {os : List Int} {k : Int} (h : k ∈ os) : ∃ j : Nat, j < os.length ∧ (os.map V.int)[j]? = some (V.int k) ∧ ∀ (m : Nat) (z : V), m < j → (os.map V.int)[m]? = some z → eqV z (V.int k) = false := by
  induction os with
  | nil => cases h
  | cons x r ih =>
    by_cases e : x = k
    · subst e
      exact ⟨0, by simp, rfl, fun m z hm => absurd hm (Nat.not_lt_zero m)⟩
    · have h' : k ∈ r := by
        rcases List.mem_cons.mp h with z | z
        · exact absurd z.symm e
        · exact z
      obtain ⟨j, h1, h2, h3⟩ := ih h'
      refine ⟨j + 1, by simpa using h1, h2, fun m z hm hz => ?_⟩
      cases m with
      | zero =>
        have : z = V.int x := by simpa using hz.symm
        subst this
        show (x == k) = false
        simpa using e
      | succ m => exact h3 m z (by omega) (by simpa using hz)
theorem scNumb : FnScope ["machine", "order", "found", "old", "place"] ["machine", "order"] (defScope sNumb) := ⟨rfl, rfl, rfl, by decide +kernel, rfl, by decide +kernel, by decide +kernel⟩
theorem ok_numb {f : Addr} {fd : FuncData} (F : Fun K "_law_numbered" "_law_numbered" sNumb f fd) (T : Names mg) : FnOk P w K mg base CX0 1 f fd ["machine", "order"] spNumb := by
  refine F.ok scNumb (fun vs H Q E h => ?_) (fun cdv A outer s H vs Q E hr h => ?_)
  · obtain ⟨m, o, ps, os, rfl, _⟩ := h
    rfl
  · obtain ⟨m, o, ps, os, rfl, hm, hw, ho, hos, q⟩ := h
    refine ⟨_, (pss_cons (ps_set (i := 2) scNumb.nd rfl (.inl rfl) (pe_lst pa_nil))
      (pss_cons (ps_for PassesOwn.never rfl (pi_list (pv 1)) (pg_name (i := 3) scNumb.nd rfl (.inl rfl)) (pss_cons (ps_set (i := 4) scNumb.nd rfl (.inl rfl) (pe_ix ix_tup (pv 0) (pv 3) (fun _ _ => rfl)))
      (pss_cons (ps_if (pt_cmpR op_eq (pe_ix ix_tup (pv 4) pe_int (fun _ _ => rfl)) pe_str (nomark _)) (pss_one (ps_set (i := 4) scNumb.nd rfl (.inl rfl) (pe_tup (pa_cons pe_str (pa_cons (pe_bm PySem.F.plainAttrs_list PySem.F.slot_list_index PySem.F.type_list_index mt_index (pv 1) (pa_cons (pe_ix ix_tup (pv 4) pe_int (fun _ _ => rfl)) pa_nil)) (pa_cons (pe_bm PySem.F.plainAttrs_list PySem.F.slot_list_index PySem.F.type_list_index mt_index (pv 1) (pa_cons (pe_ix ix_tup (pv 4) pe_int (fun _ _ => rfl)) pa_nil)) pa_nil)))))) pss_nil)
      (pss_one (ps_expr (pe_bm PySem.F.plainAttrs_list PySem.F.slot_list_append PySem.F.type_list_append mt_append (pv 2) (pa_cons (pv 4) pa_nil)))))))
      (pss_one (ps_ret (pe_callTy call_tuple_of (by rfl) T.tuple (by decide +kernel) (pa_cons (pv 2) pa_nil)))))), ?_⟩
    refine ⟨Nat.zero_le _, fun L nL => ?_⟩
    have s1 : Same H (upd H L (.lst [])) := Same.upd nL
    have eL : upd H L (.lst []) L = some (.lst []) := upd_same
    change (_ : Hp → Prop) (upd H L (.lst []))
    generalize upd H L (.lst []) = H1 at s1 eL ⊢
    refine ⟨.ref o, rfl, o, rfl, ⟨_, SqL.of (s1 _ _ ho)⟩, for_list (K := K) (a := o) (xs := os.map V.int) (fun i σ H' => ∃ (v3 v4 : Option V) (rs : List V) (qs : List Pl), σ = [some (V.ref m), some (V.ref o), some (V.ref L), v3, v4] ∧ Same H H' ∧ H' L = some (.lst rs) ∧ Pls H' rs qs ∧ qs.length = i ∧ (∀ p ∈ qs, p.ok ps.length) ∧ ∀ (j k : Nat) (p : Pl), j < i → os[j]? = some ((k : Nat) : Int) → ps[k]? = some p → ∃ q, qs[j]? = some q ∧ q.isT = p.isT)
      ⟨_, _, [], [], rfl, s1, eL, .nil, rfl, by simp, fun j k p h => absurd h (Nat.not_lt_zero _)⟩ (fun i σ H' _ ⟨_, _, _, _, _, s, _⟩ => SqL.of (s _ _ ho)) ?_ ?_⟩
    · rintro i x σ H2 hx ⟨v3, v4, rs, qs, rfl, s2, e2, pl, len, okq, still⟩
      have hi : i < os.length := by
        have := (List.getElem?_eq_some_iff.mp hx).1
        rwa [List.length_map] at this
      have ex : x = .int os[i] := by
        rw [List.getElem?_map, List.getElem?_eq_getElem hi] at hx
        exact (Option.some.inj hx).symm
      subst ex
      obtain ⟨k0, k1⟩ := hos.ok _ (List.getElem_mem hi)
      obtain ⟨p, hp, okp⟩ := hw.get k0 k1
      obtain ⟨rs0, em, pls0⟩ := hm.same s2
      obtain ⟨t, ht, et⟩ := pls0.get hp
      obtain ⟨j, ej⟩ : ∃ j : Nat, os[i] = (j : Int) := ⟨os[i].toNat, by omega⟩
      rw [ej, Int.toNat_natCast] at hp ht
      have hlen : rs.length < sizeLine := by
        have := pl.len
        have := hos.len
        have := hw.le
        have e : sizeLine = 16777216 := by decide
        omega
      refine ⟨.ref m, rfl, .int os[i], rfl, m, rs0, _, .ref t, rfl, rfl, SqT.of em, by rw [ej]; exact atI_nat ht, ?_⟩
      dsimp only
      refine on (if_tail (fun σ H3 => ∃ (t' : Addr) (p' : Pl), σ = [some (V.ref m), some (V.ref o), some (V.ref L), some (V.int os[i]), some (V.ref t')] ∧ Same H2 H3 ∧ H3 t' = some (.tup p'.row) ∧ p'.ok ps.length ∧ p'.isT = p.isT) ?_ (fun tl => ?_))
      rotate_left
      · cases p with
        | toss x y =>
          refine ⟨.ref t, rfl, t, _, 0, .str "toss", rfl, rfl, SqT.of et, atI_nat (j := 0) rfl, rfl, _, rfl, ?_⟩
          rw [decide_eq_true rfl]
          refine iteT ?_
          obtain ⟨x0, x1, y0, y1⟩ := okp
          obtain ⟨jx, jx1, jx2, jx3⟩ := find_int (hos.all x x0 x1)
          obtain ⟨jy, jy1, jy2, jy3⟩ := find_int (hos.all y y0 y1)
          have ho2 := s2 _ _ ho
          refine ⟨.ref o, rfl, .inl ⟨rfl, _, SqL.of ho2⟩, .ref t, rfl, t, _, 1, .int x, rfl, rfl, SqT.of et, atI_nat (j := 1) rfl, o, _, .int x, jx, .int x, rfl, rfl, SqL.of ho2, rfl, flat_ints os, jx2, by show (x == x) = true; simp, jx3, ?_⟩
          refine ⟨.ref o, rfl, .inl ⟨rfl, _, SqL.of ho2⟩, .ref t, rfl, t, _, 2, .int y, rfl, rfl, SqT.of et, atI_nat (j := 2) rfl, o, _, .int y, jy, .int y, rfl, rfl, SqL.of ho2, rfl, flat_ints os, jy2, by show (y == y) = true; simp, jy3, ?_⟩
          refine ⟨by show 3 ≤ sizeLine; decide, fun t' nt => tl _ _ ⟨t', .toss (jx : Nat) (jy : Nat), rfl, Same.upd nt, upd_same, ?_⟩⟩
          have := hos.len
          exact ⟨⟨by omega, by omega, by omega, by omega⟩, rfl⟩
        | fin n =>
          refine ⟨.ref t, rfl, t, _, 0, .str "end", rfl, rfl, SqT.of et, atI_nat (j := 0) rfl, rfl, _, rfl, ?_⟩
          rw [decide_eq_false str_toss_end]
          exact iteF (tl _ _ ⟨t, .fin n, rfl, Same.refl _, et, okp, rfl⟩)
        | never =>
          refine ⟨.ref t, rfl, t, _, 0, .str "never", rfl, rfl, SqT.of et, atI_nat (j := 0) rfl, rfl, _, rfl, ?_⟩
          rw [decide_eq_false str_toss_never]
          exact iteF (tl _ _ ⟨t, .never, rfl, Same.refl _, et, okp, rfl⟩)
      · rintro σ H3 ⟨t', p', rfl, s3, et', okp', same'⟩
        have e3 := s3 _ _ e2
        refine ⟨.ref L, rfl, .inl ⟨rfl, _, SqL.of e3⟩, .ref t', rfl, L, _, _, rfl, rfl, e3, hlen, ?_⟩
        have ntL : ∀ b xs, H3 b = some (.tup xs) → b ≠ L := by
          rintro b xs e rfl
          rw [e3] at e
          cases e
        refine ⟨_, _, rs ++ [.ref t'], qs ++ [p'], rfl, ?_, upd_same, ?_, by simp [len], ?_, ?_⟩
        · intro b u e
          rw [upd_ne (ne_of_none e nL)]
          exact s3 _ _ (s2 _ _ e)
        · exact ((pl.mono fun b xs e => s3 _ _ e).snoc et').mono fun b xs e => by rw [upd_ne (ntL _ _ e)]; exact e
        · intro x hx
          rcases List.mem_append.mp hx with hx | hx
          · exact okq x hx
          · rw [List.mem_singleton.mp hx]
            exact okp'
        · intro j' k' p2 hj' ho' hp'
          rcases Nat.lt_or_ge j' i with l | l
          · obtain ⟨q', hq', e'⟩ := still j' k' p2 l ho' hp'
            exact ⟨q', by rw [List.getElem?_append_left (by omega)]; exact hq', e'⟩
          · have ei : j' = i := by omega
            subst ei
            rw [List.getElem?_eq_getElem hi, ej] at ho'
            have ek : k' = j := by
              have := Option.some.inj ho'
              omega
            subst ek
            rw [hp] at hp'
            have ep := Option.some.inj hp'
            subst ep
            exact ⟨p', by rw [List.getElem?_append_right (by omega), len, Nat.sub_self]; rfl, same'⟩
    · rintro σ H2 ⟨v3, v4, rs, qs, rfl, s2, e2, pl, len, okq, still⟩
      rw [List.length_map] at still
      rw [List.length_map, hos.len] at len
      refine ⟨.ref L, rfl, L, _, rfl, .inl ⟨SqL.of e2, fun t nt => ?_⟩⟩
      have s3 := Same.upd (o := .tup rs) nt
      exact q t qs _ (s2.trans s3) (s2.free nt) ⟨rs, upd_same, pl.mono fun b xs e => s3 _ _ e⟩ ⟨by have := hw.ne; omega, by have := hw.le; omega, by rw [len]; exact okq⟩ len (fun ⟨p, hp, hf⟩ => by
        obtain ⟨k, hk, ek⟩ := List.getElem_of_mem hp
        obtain ⟨j, hj, ej⟩ := List.getElem_of_mem (hos.all (k : Nat) (by omega) (by omega))
        obtain ⟨q', hq', e'⟩ := still j k p hj (by rw [List.getElem?_eq_getElem hj, ej]) (by rw [List.getElem?_eq_getElem hk, ek])
        exact ⟨q', List.mem_of_getElem? hq', e'.trans hf⟩)
/-! ### a machine that is drawn -/
theorem ixN_nat {n j : Nat} (h : j < n) : ixN n (j : Int) = some j := by
  unfold ixN
  rw [if_pos (by omega), if_pos (by omega)]
  simp
theorem order_swap {n z : Nat} (h : z < n) : Order n ((((List.range n).map fun i : Nat => (i : Int)).set 0 (z : Int)).set z 0) := by
  have len : ((List.range n).map fun i : Nat => (i : Int)).length = n := by simp
  refine ⟨by simp, fun k k0 k1 => ?_, fun k hk => ?_⟩
  · obtain ⟨j, rfl⟩ : ∃ j : Nat, k = (j : Int) := ⟨k.toNat, by omega⟩
    have hj : j < n := by omega
    refine List.mem_of_getElem? (i := if j = 0 then z else if j = z then 0 else j) ?_
    rw [List.getElem?_set, List.getElem?_set]
    by_cases e0 : j = 0
    · subst e0
      rw [if_pos rfl, if_pos rfl, List.length_set, len, if_pos h]
      rfl
    · rw [if_neg e0]
      by_cases ez : j = z
      · subst ez
        rw [if_pos rfl, if_neg e0, if_pos rfl, len, if_pos (by omega)]
      · rw [if_neg ez, if_neg (fun q => ez q.symm), if_neg (fun q => e0 q.symm), List.getElem?_map, List.getElem?_range hj]
        rfl
  · rcases List.mem_or_eq_of_mem_set hk with hk | rfl
    · rcases List.mem_or_eq_of_mem_set hk with hk | rfl
      · obtain ⟨i, hi, rfl⟩ := List.mem_map.mp hk
        have := List.mem_range.mp hi
        omega
      · omega
    · omega
theorem first_is {n : Nat} (h : 0 < n) {d : Int} (d0 : 0 ≤ d) (d1 : d < 6) : ∃ z : Nat, z < n ∧ atI [V.int ((n : Int) - 1), V.int 0, V.int 0, V.int 0, V.int 0, V.int 0] d = some (V.int (z : Nat)) := by
  rcases (show d = 0 ∨ d = 1 ∨ d = 2 ∨ d = 3 ∨ d = 4 ∨ d = 5 by omega) with rfl | rfl | rfl | rfl | rfl | rfl
  · refine ⟨n - 1, by omega, ?_⟩
    rw [show ((n - 1 : Nat) : Int) = (n : Int) - 1 by omega]
    rfl
  all_goals exact ⟨0, h, rfl⟩
theorem rg_is (n : Nat) : rgV 0 (n : Int) = ((List.range n).map fun i : Nat => (i : Int)).map V.int := by
  unfold rgV
  rw [List.map_map, show ((n : Int) - 0).toNat = n by omega]
  refine List.map_congr_left fun i _ => ?_
  show V.int (0 + (i : Int)) = V.int (i : Int)
  rw [Int.zero_add]
def spMach : Sp := fun vs H Q _ => ∃ (a l r : Addr) (m : Int) (ns : List Int), vs = [.ref a, .int m, .ref r] ∧ Pen H a l ∧ 0 ≤ m ∧ m ≤ 20 ∧ H r = some (.lst (ns.map V.int)) ∧ 0 < ns.length ∧ ns.length ≤ 60 ∧ (∀ n ∈ ns, 0 ≤ n ∧ n < 100) ∧
  ∀ (t : Addr) (ps : List Pl) H', But a H H' → H t = none → Mach H' t ps → WF ps → Pen H' a l → (ps.length : Int) ≤ m + 3 → (∃ p ∈ ps, p.isT = false) → Q (.ref t) H'
theorem scMach : FnScope ["pen", "most", "answers", "tosses", "others", "many", "first", "places", "at", "order"] ["pen", "most", "answers"] (defScope sMach) := ⟨rfl, rfl, rfl, by decide +kernel, rfl, by decide +kernel, by decide +kernel⟩
theorem ok_mach {f g e n : Addr} {fd gd ed nd : FuncData} (F : Fun K "_law_machine" "_law_machine" sMach f fd) (T : Names mg) (GD : FnOk P w K mg base CX0 2 g gd ["pen", "many"] spDraw) (PD : Def K mg "_law_draw" g gd ["pen", "many"])
    (GE : FnOk P w K mg base CX0 3 e ed ["pen", "answers"] spEnds) (PE_ : Def K mg "_law_ends" e ed ["pen", "answers"]) (GN : FnOk P w K mg base CX0 1 n nd ["machine", "order"] spNumb) (PN : Def K mg "_law_numbered" n nd ["machine", "order"]) :
    FnOk P w K mg base CX0 4 f fd ["pen", "most", "answers"] spMach := by
  refine F.ok scMach (fun vs H Q E h => ?_) (fun cdv A outer s H vs Q E hr h => ?_)
  · obtain ⟨a, l, r, m, ns, rfl, _⟩ := h
    rfl
  · obtain ⟨a, l, r, m, ns, rfl, pn, m0, m20, hr1, h0, h60, hns, q⟩ := h
    refine ⟨_, (pss_cons (ps_par (i := 3) (j := 4) (by rfl) scMach.nd rfl rfl (by decide) rfl rfl (pa_cons (pe_call GD (hr.mono (by decide)) (by rfl) PD.is PD.kp PD.bi .nil pass0 (pa_cons (pv 0) (pa_cons (pe_op op_add (pv 1) pe_int) pa_nil))) (pa_cons (pe_op op_add pe_int (pe_call GD (hr.mono (by decide)) (by rfl) PD.is PD.kp PD.bi .nil pass0 (pa_cons (pv 0) (pa_cons pe_int pa_nil)))) pa_nil)) (by rfl))
      (pss_cons (ps_set (i := 5) scMach.nd rfl (.inl rfl) (pe_op op_add (pv 3) (pv 4)))
      (pss_cons (ps_set (i := 6) scMach.nd rfl (.inl rfl) (pe_ifExp (pt_cmpR op_gt (pv 3) pe_int (nomark _)) (pe_ix ix_list (pe_lst (pa_cons (pe_op op_sub (pv 5) pe_int) (pa_cons pe_int (pa_cons pe_int (pa_cons pe_int (pa_cons pe_int (pa_cons pe_int pa_nil))))))) (pe_call GD (hr.mono (by decide)) (by rfl) PD.is PD.kp PD.bi .nil pass0 (pa_cons (pv 0) (pa_cons pe_int pa_nil))) (fun _ _ => rfl)) pe_int))
      (pss_cons (ps_set (i := 7) scMach.nd rfl (.inl rfl) (pe_lst pa_nil))
      (pss_cons (ps_for PassesOwn.never rfl (pi_range1 rfl T.range (pa_cons (pv 5) pa_nil)) (pg_name (i := 8) scMach.nd rfl (.inl rfl)) (pss_one (ps_if (pt_cmpR op_lt (pv 8) (pv 3) (nomark _)) (pss_one (ps_expr (pe_bm PySem.F.plainAttrs_list PySem.F.slot_list_append PySem.F.type_list_append mt_append (pv 7) (pa_cons (pe_tup (pa_cons pe_str (pa_cons (pe_call GD (hr.mono (by decide)) (by rfl) PD.is PD.kp PD.bi .nil pass0 (pa_cons (pv 0) (pa_cons (pv 5) pa_nil))) (pa_cons (pe_call GD (hr.mono (by decide)) (by rfl) PD.is PD.kp PD.bi .nil pass0 (pa_cons (pv 0) (pa_cons (pv 5) pa_nil))) pa_nil)))) pa_nil)))) (pss_one (ps_expr (pe_bm PySem.F.plainAttrs_list PySem.F.slot_list_append PySem.F.type_list_append mt_append (pv 7) (pa_cons (pe_call GE (hr.mono (by decide)) (by rfl) PE_.is PE_.kp PE_.bi .nil pass0 (pa_cons (pv 0) (pa_cons (pv 2) pa_nil))) pa_nil)))))))
      (pss_cons (ps_set (i := 9) scMach.nd rfl (.inl rfl) (pe_listRg rfl (by rfl) T.list (prg_1 (by rfl) T.range (pv 5))))
      (pss_cons (ps_asg (pe_tup (pa_cons (pe_ix ix_list (pv 9) (pv 6) (fun _ _ => rfl)) (pa_cons (pe_ix ix_list (pv 9) pe_int (fun _ _ => rfl)) pa_nil))) (pg_tup rfl (pgs_cons (pg_sub (pv 9) pe_int set_list) (pgs_cons (pg_sub (pv 9) (pv 6) set_list) pgs_nil))))
      (pss_one (ps_ret (pe_call GN (hr.mono (by decide)) (by rfl) PN.is PN.kp PN.bi .nil pass0 (pa_cons (pe_callTy call_tuple_of (by rfl) T.tuple (by decide +kernel) (pa_cons (pv 7) pa_nil)) (pa_cons (pv 9) pa_nil)))))))))))), ?_⟩
    refine ⟨.ref a, rfl, .int m, rfl, _, _, rfl, rfl, a, l, m + 1, rfl, pn, by omega, log_le (Nat.lt_of_le_of_lt (show _ ≤ 100 by omega) (by decide)), fun d H1 u0 u1 b1 p1 => ?_⟩
    refine ⟨.ref a, rfl, a, l, 3, rfl, p1, by decide, by decide +kernel, fun d2 H2 v0 v1 b2 p2 => ⟨_, _, rfl, rfl, _, _, rfl, ?_⟩⟩
    obtain ⟨n, hn⟩ : ∃ n : Nat, d + (1 + d2) = (n : Int) := ⟨(d + (1 + d2)).toNat, by omega⟩
    refine ⟨_, rfl, _, rfl, _, _, rfl, rfl, ?_⟩
    dsimp only
    rw [hn]
    have n0 : 0 < n := by omega
    have n30 : n ≤ 30 := by omega
    have b12 := b1.trans b2
    refine on (asg_tail (fun v H' => ∃ z : Nat, v = .int (z : Nat) ∧ z < n ∧ But a H H' ∧ Pen H' a l) ?_ (fun t => ?_))
    rotate_left
    · refine ⟨_, rfl, _, _, rfl, rfl, _, rfl, ite2 (fun _ => ?_) (fun _ => t _ _ ⟨0, rfl, n0, b12, p2⟩)⟩
      refine ⟨_, rfl, _, _, rfl, rfl, by show 6 ≤ sizeLine; decide, fun e ne => ?_⟩
      have s3 : Same H2 (upd H2 e (.lst [.int ((n : Int) - 1), .int 0, .int 0, .int 0, .int 0, .int 0])) := Same.upd ne
      have he : upd H2 e (.lst [.int ((n : Int) - 1), .int 0, .int 0, .int 0, .int 0, .int 0]) e = some (.lst [.int ((n : Int) - 1), .int 0, .int 0, .int 0, .int 0, .int 0]) := upd_same
      have p3 := p2.same s3
      have nea := (p2.apart ne).1
      generalize upd H2 e (.lst [.int ((n : Int) - 1), .int 0, .int 0, .int 0, .int 0, .int 0]) = H3 at s3 he p3 ⊢
      refine ⟨.ref a, rfl, a, l, 6, rfl, p3, by decide, by decide +kernel, fun d3 H4 w0 w1 b4 p4 => ?_⟩
      obtain ⟨z, hz, ez⟩ := first_is n0 w0 w1
      exact ⟨e, _, d3, .int (z : Nat), rfl, rfl, SqL.of (b4.mem nea he), ez, t _ _ ⟨z, rfl, hz, (b12.trans (But.of s3)).trans b4, p4⟩⟩
    · rintro v H3 ⟨z, rfl, hz, b3, p3⟩
      refine ⟨Nat.zero_le _, fun L nL => ?_⟩
      have aL := p3.apart nL
      have nLH : H L = none := b3.free aL.1 nL
      have b4 : But a H (upd H3 L (.lst [])) := b3.trans (But.of (Same.upd nL))
      have p4 : Pen (upd H3 L (.lst [])) a l := p3.same (Same.upd nL)
      have eL : upd H3 L (.lst []) L = some (.lst []) := upd_same
      change (_ : Hp → Prop) (upd H3 L (.lst []))
      generalize upd H3 L (.lst []) = H4 at b4 p4 eL ⊢
      clear nL
      refine ⟨_, rfl, _, rfl, by omega, by omega, for_range (lo := 0) (n := n) (fun i σ H' => ∃ (v8 : Option V) (rs : List V) (ps : List Pl), σ = [some (V.ref a), some (V.int m), some (V.ref r), some (V.int d), some (V.int (1 + d2)), some (V.int (n : Nat)), some (V.int (z : Nat)), some (V.ref L), v8, none] ∧ But a H H' ∧ Pen H' a l ∧ H' L = some (.lst rs) ∧ Pls H' rs ps ∧ ps.length = i ∧ (∀ p ∈ ps, p.ok n) ∧ ∀ k : Nat, d ≤ k → k < i → ∃ p, ps[k]? = some p ∧ p.isT = false)
        ⟨_, [], [], rfl, b4, p4, eL, .nil, rfl, by simp, fun k _ h => absurd h (Nat.not_lt_zero _)⟩ ?_ ?_⟩
      · rintro i σ H5 hi ⟨v8, rs, ps, rfl, b5, p5, e5, pl, len, okp, quiet⟩
        have hlen : rs.length < sizeLine := by
          have := pl.len
          have e : sizeLine = 16777216 := by decide
          omega
        have fin : ∀ (t : Addr) (p : Pl) (H7 : Hp), But a H5 H7 → Pen H7 a l → H7 t = some (.tup p.row) → p.ok n → (d ≤ ((i : Nat) : Int) → p.isT = false) → H7 L = some (.lst rs) ∧ ∃ (v8 : Option V) (rs' : List V) (ps' : List Pl), [some (V.ref a), some (V.int m), some (V.ref r), some (V.int d), some (V.int (1 + d2)), some (V.int (n : Nat)), some (V.int (z : Nat)), some (V.ref L), some (V.int (0 + (i : Nat))), none] = [some (V.ref a), some (V.int m), some (V.ref r), some (V.int d), some (V.int (1 + d2)), some (V.int (n : Nat)), some (V.int (z : Nat)), some (V.ref L), v8, none] ∧
            But a H (upd H7 L (.lst (rs ++ [V.ref t]))) ∧ Pen (upd H7 L (.lst (rs ++ [V.ref t]))) a l ∧ upd H7 L (.lst (rs ++ [V.ref t])) L = some (.lst rs') ∧ Pls (upd H7 L (.lst (rs ++ [V.ref t]))) rs' ps' ∧ ps'.length = i + 1 ∧ (∀ p ∈ ps', p.ok n) ∧ ∀ k : Nat, d ≤ k → k < i + 1 → ∃ p, ps'[k]? = some p ∧ p.isT = false := by
          intro t p H7 b7 p7 et okt tq
          have e7 := b7.mem aL.1 e5
          refine ⟨e7, _, rs ++ [V.ref t], ps ++ [p], rfl, ?_, ?_, upd_same, ?_, by simp [len], ?_, ?_⟩
          · intro b o e nb
            rw [upd_ne (ne_of_none e nLH)]
            exact b7 _ _ (b5 _ _ e nb) nb
          · obtain ⟨cs, pos, val, h1, h2, h3⟩ := p7
            exact ⟨cs, pos, val, by rw [upd_ne aL.1.symm]; exact h1, by rw [upd_ne aL.2.symm]; exact h2, h3⟩
          · have pl7 : Pls H7 rs ps := pl.mono fun b xs e => b7.mem (p5.notTup e) e
            refine (pl7.snoc et).mono fun b xs e => ?_
            rw [upd_ne (by rintro rfl; rw [e7] at e; cases e)]
            exact e
          · intro x hx
            rcases List.mem_append.mp hx with hx | hx
            · exact okp x hx
            · rw [List.mem_singleton.mp hx]
              exact okt
          · intro k hk hk2
            rcases Nat.lt_or_ge k i with l | l
            · obtain ⟨p', hp', e'⟩ := quiet k hk l
              exact ⟨p', by rw [List.getElem?_append_left (by omega)]; exact hp', e'⟩
            · have ek : k = i := by omega
              subst ek
              exact ⟨p, by rw [List.getElem?_append_right (by omega), len, Nat.sub_self]; rfl, tq hk⟩
        have hb : (0 : Int) < (n : Nat) := by omega
        have hb2 : ((n : Nat) : Int).natAbs.log2 < 9000 := log_le (Nat.lt_of_le_of_lt (show _ ≤ 100 by omega) (by decide))
        refine ⟨_, rfl, _, rfl, _, _, rfl, rfl, _, rfl, ite2 (fun hlt => ?_) (fun _ => ?_)⟩
        · have hlt : (0 : Int) + (i : Nat) < d := by simpa using hlt
          refine ⟨.ref L, rfl, .inl ⟨rfl, _, SqL.of e5⟩, .ref a, rfl, _, rfl, a, l, _, rfl, p5, hb, hb2, fun x H6 x0 x1 b6 p6 => ?_⟩
          refine ⟨.ref a, rfl, _, rfl, a, l, _, rfl, p6, hb, hb2, fun y H7 y0 y1 b7 p7 => ⟨by show 3 ≤ sizeLine; decide, fun t nt => ?_⟩⟩
          obtain ⟨e8, go⟩ := fin t (.toss x y) _ ((b6.trans b7).trans (But.of (Same.upd nt))) (p7.same (Same.upd nt)) upd_same ⟨x0, x1, y0, y1⟩ (fun h => by omega)
          exact ⟨L, _, _, rfl, rfl, e8, hlen, go⟩
        · refine ⟨.ref L, rfl, .inl ⟨rfl, _, SqL.of e5⟩, .ref a, rfl, .ref r, rfl, a, l, r, ns, rfl, p5, b5.mem (pn.notInts hr1) hr1, h0, h60, hns, fun t p H6 b6 nt et p6 st => ?_⟩
          obtain ⟨e8, go⟩ := fin t p H6 b6 p6 et (st.ok n) (fun _ => st.isT)
          exact ⟨L, _, _, rfl, rfl, e8, hlen, go⟩
      · rintro σ H5 ⟨v8, rs, ps, rfl, b5, p5, e5, pl, len, okp, quiet⟩
        refine ⟨_, rfl, _, rfl, RgOk.of_le (by decide) (by omega) (by decide) (by omega), fun O nO => ?_⟩
        rw [rg_is]
        have aO := p5.apart nO
        have nOH : H O = none := b5.free aO.1 nO
        have s6 := Same.upd (o := .lst (((List.range n).map fun i : Nat => (i : Int)).map V.int)) nO
        have e6 : upd H5 O (.lst (((List.range n).map fun i : Nat => (i : Int)).map V.int)) O = some (.lst (((List.range n).map fun i : Nat => (i : Int)).map V.int)) := upd_same
        generalize upd H5 O (.lst (((List.range n).map fun i : Nat => (i : Int)).map V.int)) = H6 at s6 e6 ⊢
        have gz : ∀ j : Nat, j < n → (((List.range n).map fun i : Nat => (i : Int)).map V.int)[j]? = some (V.int (j : Nat)) := fun j hj => by
          rw [List.getElem?_map, List.getElem?_map, List.getElem?_range hj]
          rfl
        refine ⟨.ref O, rfl, _, rfl, O, _, _, .int (z : Nat), rfl, rfl, SqL.of e6, atI_nat (gz z hz), .ref O, rfl, O, _, 0, .int 0, rfl, rfl, SqL.of e6, atI_nat (j := 0) (gz 0 n0), by show 2 ≤ sizeLine; decide, fun t nt => ?_⟩
        have s7 := Same.upd (o := .tup [.int (z : Nat), .int 0]) nt
        have e7 := s7 _ _ e6
        have et : upd H6 t (.tup [.int (z : Nat), .int 0]) t = some (.tup [.int (z : Nat), .int 0]) := upd_same
        generalize upd H6 t (.tup [.int (z : Nat), .int 0]) = H7 at s7 e7 et ⊢
        have ln : (((List.range n).map fun i : Nat => (i : Int)).map V.int).length = n := by simp
        refine ⟨t, _, rfl, SqT.of et, rfl, _, _, rfl, .ref O, rfl, O, _, 0, 0, rfl, rfl, e7, by rw [ln]; exact ixN_nat (j := 0) n0, ?_⟩
        refine ⟨_, _, rfl, .ref O, rfl, _, rfl, O, _, _, z, rfl, rfl, upd_same, by rw [List.length_set, ln]; exact ixN_nat hz, rfl, ?_⟩
        have nOO : ∀ b o, H5 b = some o → b ≠ O := fun b o e => ne_of_none e nO
        have s57 := s6.trans s7
        have up : ∀ (x y : HO) b o, H5 b = some o → upd (upd H7 O x) O y b = some o := fun x y b o e => by
          rw [upd_ne (nOO b o e), upd_ne (nOO b o e)]
          exact s57 _ _ e
        have e8 : upd (upd H7 O (.lst ((((List.range n).map fun i : Nat => (i : Int)).map V.int).set 0 (.int (z : Nat))))) O (.lst (((((List.range n).map fun i : Nat => (i : Int)).map V.int).set 0 (.int (z : Nat))).set z (.int 0))) O = some (.lst (((((List.range n).map fun i : Nat => (i : Int)).set 0 (z : Int)).set z 0).map V.int)) := by
          rw [upd_same, List.map_set, List.map_set]
        have up := up (.lst ((((List.range n).map fun i : Nat => (i : Int)).map V.int).set 0 (.int (z : Nat)))) (.lst (((((List.range n).map fun i : Nat => (i : Int)).map V.int).set 0 (.int (z : Nat))).set z (.int 0)))
        change (_ : Hp → Prop) (upd (upd H7 O (.lst ((((List.range n).map fun i : Nat => (i : Int)).map V.int).set 0 (.int (z : Nat))))) O (.lst (((((List.range n).map fun i : Nat => (i : Int)).map V.int).set 0 (.int (z : Nat))).set z (.int 0))))
        generalize upd (upd H7 O (.lst ((((List.range n).map fun i : Nat => (i : Int)).map V.int).set 0 (.int (z : Nat))))) O (.lst (((((List.range n).map fun i : Nat => (i : Int)).map V.int).set 0 (.int (z : Nat))).set z (.int 0))) = H8 at e8 up ⊢
        have s58 : Same H5 H8 := up
        refine ⟨.ref L, rfl, L, _, rfl, .inl ⟨SqL.of (up _ _ e5), fun p np => ?_⟩⟩
        have s9 := Same.upd (o := .tup rs) np
        have s59 := s58.trans s9
        refine ⟨.ref O, rfl, p, O, ps, _, rfl, ⟨rs, upd_same, pl.mono fun b xs e => s59 _ _ e⟩, ⟨by omega, by omega, by rw [len]; exact okp⟩, s9 _ _ e8, by rw [len]; exact order_swap hz, fun t qs H9 s10 nt hm hw hq hstill => ?_⟩
        have s50 := s59.trans s10
        exact q t qs H9 (b5.trans (But.of s50)) (b5.free ((p5.same s59).apart nt).1 (s59.free nt)) hm hw (p5.same s50) (by rw [hq, len]; omega) (hstill (by
          obtain ⟨p', hp', e'⟩ := quiet d.toNat (by omega) (by omega)
          exact ⟨p', List.mem_of_getElem? hp', e'⟩))
end
end Z

set_option Elab.async false
set_option maxRecDepth 100000
set_option maxHeartbeats 4000000
/-! enumerate(t), t a tuple -/
namespace EN
open PySem PySem.Spec PyProof.Rows L2
open Sem (wp)
theorem new_enum {v : Value} {o : Obj} {G : Heap → Prop} (B : Begins v o G) :
    Meets (Builtin.«enumerate.__new__» ⟨[.type "enumerate", v], []⟩) (fun _ R s => G s.heap ∧
      R (.ok (.ret (.ref (s.heap.push o).objs.size)))
        { s with heap := (s.heap.push o).push { cls := .type "enumerate", data := .fields #[.none, .bool false, .ref s.heap.objs.size, rawInt 0, .none, .none] } }) := by
  refine .of_wp fun prog w A R s h => ?_
  obtain ⟨hp, g, d, tk, os⟩ := s
  obtain ⟨hG, h⟩ := h
  have sub := sub_enumerate
  have begin_ : ∀ {A' : Around} {E : Value → Shared → Prop} {Q : Value → Shared → Prop}, Q (.ref hp.objs.size) ⟨hp.push o, g, d, tk, os⟩ →
      wpAny (model prog w) A' (pyIter v) Q E ⟨hp, g, d, tk, os⟩ := fun q => B.iter prog w _ _ ⟨hp, g, d, tk, os⟩ _ hG q
  wp_walk using begin_
  refine wpAny_stack_any fun st => wpAny_pure ?_
  split
  · rename_i c _ _ _ _ _
    cases (c == Value.type "enumerate")
    all_goals
      wp_walk using begin_
      exact ⟨_, rfl, h⟩
  · wp_walk using begin_
    exact ⟨_, rfl, h⟩
theorem call_enum {prog : Program} {w : World} {A : Around} {E : Value → Shared → Prop} {s : Shared} {v : Value} {o : Obj} {G : Heap → Prop} {Q : Value → Shared → Prop} (B : Begins v o G) (hG : G s.heap)
    (h : ∀ h', IsEnum h' (s.heap.objs.size + 1) s.heap.objs.size 0 .none → h'.get? s.heap.objs.size = some o →
      (∀ b u, s.heap.get? b = some u → h'.get? b = some u) → Q (.ref (s.heap.objs.size + 1)) { s with heap := h' }) :
    wpAny (model prog w) A (call (.type "enumerate") [v]) Q E s := by
  apply callType_new F.called_enumerate (by decide) (F.typeCall_enumerate_1 _) (F.newCall_enumerate_1 _) (fun obj => F.args_object_init_2 obj _) F.entry_enumerate_new (new_enum B)
  refine ⟨hG, ?_⟩
  have size : (s.heap.push o).objs.size = s.heap.objs.size + 1 := Heap.size_push ..
  show _ ∧ _
  rw [size]
  have made : IsEnum ((s.heap.push o).push { cls := .type "enumerate", data := .fields #[.none, .bool false, .ref s.heap.objs.size, rawInt 0, .none, .none] }) (s.heap.objs.size + 1) s.heap.objs.size 0 .none := by
    have e := Heap.get?_push_size (s.heap.push o) (o := { cls := .type "enumerate", data := .fields #[.none, .bool false, .ref s.heap.objs.size, rawInt 0, .none, .none] }) rfl
    rwa [size] at e
  refine ⟨⟨_, made, rfl⟩, h _ made ?_ ?_⟩
  · exact Heap.get?_push_of_some _ (Heap.get?_push_size _ B.free)
  · intro b u e
    exact Heap.get?_push_of_some _ (Heap.get?_push_of_some _ e)

/-- the tuple at a, each item in a new pair with its place -/
def Pairs (K : PySem.W.Frag) (a : Addr) : It where
  go := fun i H => ∃ (xs : List V) (x : V), SqT K H a xs ∧ xs[i]? = some x
  yld := fun i H v H' => ∃ T x, v = .ref T ∧ H T = none ∧ H' = upd H T (.tup [.int (i : Nat), x]) ∧ ∀ xs, SqT K H a xs → xs[i]? = some x
  stop := fun i H => ∃ xs : List V, SqT K H a xs ∧ xs.length ≤ i
theorem turn_pairs {P : Program} {w : World} {K : PySem.W.Frag} {elts : List Expr} {kk : Nat} {tpos : Pos} (a e it : Addr) :
    Turn P w K (.Tuple elts kk tpos) (Pairs K a) [e, it] e (fun i h => (∃ old, IsEnum h e it ((i : Nat) : Int) old) ∧ h.IsTupleIter it a i ∧ e ≠ it) where
  mem := List.mem_cons_self ..
  obj := by
    rintro i h ⟨⟨old, he⟩, ⟨o, ho, hc, hd⟩, _⟩ b hb
    simp only [List.mem_cons, List.not_mem_nil, or_false] at hb
    rcases hb with rfl | rfl
    · exact ⟨_, he, fun v q => nomatch q⟩
    · exact ⟨o, ho, fun v q => by rw [hd] at q; cases q⟩
  keep := by
    rintro i h h' ⟨⟨old, he⟩, hi, hne⟩ k
    exact ⟨⟨old, k e (by simp) _ he⟩, hi.at fun o q => k it (by simp) o q, hne⟩
  item := by
    intro X hP hw hK calm i pins s σ H E I hf st hg
    subst hP hw hK
    obtain ⟨⟨old, he⟩, hit, hne⟩ := st
    obtain ⟨xs, x, hq, hx⟩ := hg
    obtain ⟨its, rv, p, hz⟩ := I.tuple hq
    obtain ⟨u, hu, ru⟩ := rv.get hx
    have le : e < s.heap.objs.size := Heap.lt_size he
    have li : it < s.heap.objs.size := by obtain ⟨_, q, _⟩ := hit; exact Heap.lt_size q
    have tup : s.heap.IsTuple a its.toArray := p
    have nai : a ≠ it := by
      rintro rfl
      obtain ⟨o1, q1, c1, _⟩ := tup
      obtain ⟨o2, q2, c2, _⟩ := hit
      rw [q1] at q2
      cases q2
      rw [c1] at c2
      injection c2 with c3
      exact absurd c3 (by decide)
    have nae : a ≠ e := by
      rintro rfl
      obtain ⟨o1, q1, c1, _⟩ := tup
      have q2 : s.heap.get? a = _ := he
      rw [q1] at q2
      cases q2
      injection c1 with c3
      exact absurd c3 (by decide)
    have lt : i < its.toArray.size := by
      have := (List.getElem?_eq_some_iff.mp hu).1
      simpa using this
    refine wpAny_pyNext_enum_itemD (Draws.tuple (A := X.A.in1) (by exact I.ok.hd calm) it a nai its.toArray) he ⟨hit, tup⟩ lt hne (by simp [hne, Ne.symm nae]) fun y h' tk hy ho st' hT hsz hk => ?_
    have ey : y = u := by
      have : its.toArray[i]? = some u := by simpa using hu
      exact Option.some.inj (hy.symm.trans this)
    subst ey
    refine ⟨_, rfl, wpAny_letOwnedTupleGo_enum (s := { s with heap := h', toks := tk + 1 }) ho fun h2 he2 sb => ?_⟩
    have sb' : Heap.SameBut e h' h2 := sb
    have hT2 : h2.get? s.heap.objs.size = some { cls := .type "tuple", data := .seq #[.int i tk, y] } := (sb'.2 _ (Nat.ne_of_gt le)).trans hT
    have new : ObjOk X.prog X.w (upd H s.heap.objs.size (.tup [.int (i : Nat), x])) h2 s.heap.objs.size (.tup [.int (i : Nat), x]) :=
      ⟨by show 2 ≤ sizeLine; decide, [.int i tk, y], .cons ⟨_, rfl⟩ (.cons ru .nil), ⟨_, hT2, rfl, _, rfl⟩⟩
    have I2 : Inv X pins σ (upd H s.heap.objs.size (.tup [.int (i : Nat), x])) { s with heap := h2, toks := tk + 1 } := by
      refine I.turnedNew (ch := [e, it]) (fun b ob hb q => ?_) hf (Nat.le_refl _) new
      have ne : b ≠ e := fun z => hb (by simp [z])
      have ni : b ≠ it := fun z => hb (by simp [z])
      exact (sb'.2 b ne).trans (hk b ob ne ni q)
    refine ⟨.ref s.heap.objs.size, _, I2, rfl, ⟨_, x, rfl, I.hok.fresh (Nat.le_refl _), rfl, fun ys hy => by rw [I.tuple_inj hy hq]; exact hx⟩, ⟨⟨y, ?_⟩, st'.1.at fun o q => (sb'.2 it (Ne.symm hne)).trans q, hne⟩, fun b hb => ?_⟩
    · have e1 : ((i + 1 : Nat) : Int) = (i : Int) + 1 := by omega
      rw [e1]
      exact he2
    · have lb : b < s.heap.objs.size := by
        simp only [List.mem_cons, List.not_mem_nil, or_false] at hb
        rcases hb with rfl | rfl
        · exact le
        · exact li
      rw [upd_ne (Nat.ne_of_lt lb)]
      exact (hf b hb).1
  done := by
    intro X hP hw hK calm i pins s σ H E I hf st hg
    subst hP hw hK
    obtain ⟨⟨old, he⟩, hit, hne⟩ := st
    obtain ⟨xs, hq, hx⟩ := hg
    obtain ⟨its, rv, p, hz⟩ := I.tuple hq
    have tup : s.heap.IsTuple a its.toArray := p
    have nai : a ≠ it := by
      rintro rfl
      obtain ⟨o1, q1, c1, _⟩ := tup
      obtain ⟨o2, q2, c2, _⟩ := hit
      rw [q1] at q2
      cases q2
      rw [c1] at c2
      injection c2 with c3
      exact absurd c3 (by decide)
    obtain ⟨f0, f1, f2, f3, f4, f5⟩ := hf it (by simp)
    have hl := rv.length
    have none_ : its.toArray[i]? = none := by simp; omega
    have hT : s.TypeIs (.ref e) "enumerate" := ⟨_, he, rfl⟩
    unfold pyNext
    refine wpAny_bind (wpAny_attempt (wpAny_callSpecial?_slot (name := Str.ofString "__next__") hT F.slot_enumerate_next
      (wpAny_call_entry F.slot_enumerate_next hT F.entry_enumerate_next ?_ (F.args_enumerate_next_1 _))))
    show wpAny _ _ (field (.ref e) 2 >>= _) _ _ _
    refine wpAny_bind (wpAny_field he rfl (x := .ref it) rfl ?_)
    refine wpAny_bind (wpAny_nextOf_tuple_end (I.ok.hd calm) hit tup none_ fun h' x he' hx' => ?_)
    obtain ⟨o, ho, hc⟩ := hx'
    refine wpAny_bind (wpAny_isInstance (T := "StopIteration") (b := true) ⟨o, ho, hc⟩ isSubtype_stop ?_)
    refine wpAny_pure ⟨rfl, ?_⟩
    exact I.turned (t' := s.toks) (fun b o hb q => he' b o hb q) f0 f1 f3 f4 f5
  self := by
    rintro A i s Q E ⟨⟨old, he⟩, _⟩ h
    exact wpAny_pyIter_enum he h
section
variable {X : Cx}
def tPairs (K : PySem.W.Frag) (ta : TA) : TI := fun σ H R => ta σ H fun vs H1 => ∃ a xs, vs = [.ref a] ∧ SqT K H1 a xs ∧ R (Pairs K a) H1
theorem pi_pairs {e : Expr} {ta : TA} {p pos tpos : Pos} {elts : List Expr} {kk : Nat} (glob : Gl X "enumerate") (none_ : X.mg "enumerate" = none) (args : PA X [e] ta)
    (star : starEach [e] X.env = [(false, eval e X.env)] := by rfl) : PI X (.Tuple elts kk tpos) (.Call (.Name "enumerate" p) [e] [] pos) (tPairs X.K ta) := by
  constructor
  intro pins s σ H R I h
  refine Call_ (ld_blt I glob none_ boot_enumerate ?_)
  refine PyProof.Rows.callWith_type1 (thn (args.run pos pins s σ H _ I h) fun us s1 got => ?_) star rfl
  obtain ⟨vs, H1, I1, r1, a, xs, ex, hq, q⟩ := got
  subst ex
  obtain ⟨u, eu, ru⟩ := vals1 r1
  subst eu
  have eu : u = Value.ref a := ru
  subst eu
  obtain ⟨its, rv, p', hz⟩ := I1.tuple hq
  refine call_enum (begins_tuple a its.toArray) p' fun h' he hit hk => wpAny_pyIter_enum he ?_
  have I2 : Inv X pins σ H1 { s1 with heap := h' } := I1.kept (t' := s1.toks) hk
  refine ⟨s1.heap.objs.size + 1, [s1.heap.objs.size + 1, s1.heap.objs.size], _, _, H1, rfl, I2, turn_pairs a (s1.heap.objs.size + 1) s1.heap.objs.size, ⟨⟨.none, he⟩, ⟨_, hit, rfl, rfl⟩, Nat.succ_ne_self _⟩, fun b hb => ?_, q⟩
  have above : s1.heap.objs.size ≤ b := by
    simp only [List.mem_cons, List.not_mem_nil, or_false] at hb
    rcases hb with rfl | rfl
    · exact Nat.le_add_right _ _
    · exact Nat.le_refl _
  exact I1.fpOk above (I1.hok.fresh above)
/-- the loop over the pairs -/
theorem for_pairs {K : PySem.W.Frag} {a : Addr} {xs : List V} {g : TG} {tb : TS} {D : Ends} {σ : L2.St} {H : Hp} (Pv : Nat → L2.St → Hp → Prop) (h0 : Pv 0 σ H) (hl : ∀ i σ H, i ≤ xs.length → Pv i σ H → SqT K H a xs)
    (turn : ∀ i x σ H T, xs[i]? = some x → Pv i σ H → H T = none → g (.ref T) σ (upd H T (.tup [.int (i : Nat), x])) fun σ2 H2 => tb { D with nx := Pv (i + 1), ct := Pv (i + 1), bk := D.nx } σ2 H2) (done : ∀ σ H, Pv xs.length σ H → D.nx σ H) :
    ∃ W : Nat → Nat → L2.St → Hp → Prop, (∃ m, W 0 m σ H) ∧ ∀ i m σ H, W i m σ H →
      ((Pairs K a).stop i H ∧ D.nx σ H) ∨ ((Pairs K a).go i H ∧ ∃ N : L2.St → Hp → Prop, (∀ σ' H', N σ' H' → ∃ m', m' < m ∧ W (i + 1) m' σ' H') ∧ ∀ x H', (Pairs K a).yld i H x H' → g x σ H' fun σ2 H2 => tb { D with nx := N, ct := N, bk := D.nx } σ2 H2) := by
  refine ⟨fun i m σ H => m = xs.length - i ∧ i ≤ xs.length ∧ Pv i σ H, ⟨xs.length, by simp, Nat.zero_le _, h0⟩, ?_⟩
  rintro i m σ H ⟨rfl, le, pv⟩
  have here := hl i σ H le pv
  rcases Nat.lt_or_ge i xs.length with lt | ge
  · refine .inr ⟨⟨xs, xs[i], here, List.getElem?_eq_getElem lt⟩, Pv (i + 1), fun σ' H' n => ⟨xs.length - (i + 1), by omega, rfl, lt, n⟩, ?_⟩
    rintro v H' ⟨T, x, rfl, nT, rfl, hx⟩
    exact turn i x σ H T (hx xs here) pv nT
  · have e : i = xs.length := by omega
    subst e
    exact .inl ⟨⟨xs, here, Nat.le_refl _⟩, done σ H pv⟩
end
end EN

set_option Elab.async false
set_option linter.all false
set_option maxRecDepth 100000
set_option maxHeartbeats 4000000
/-! enumerate(z), z a text -/
namespace EN
open PySem PySem.Spec PyProof.Rows L2
open Sem (wp)
def Signs (z : Str) : It where
  go := fun i _ => i < z.cps.size
  yld := fun i H v H' => ∃ T c, v = .ref T ∧ H T = none ∧ H' = upd H T (.tup [.int (i : Nat), .str ⟨#[c]⟩]) ∧ z.cps[i]? = some c
  stop := fun i _ => z.cps.size ≤ i
theorem turn_signs {P : Program} {w : World} {K : PySem.W.Frag} {elts : List Expr} {kk : Nat} {tpos : Pos} (z : Str) (t : Tok) (e it : Addr) :
    Turn P w K (.Tuple elts kk tpos) (Signs z) [e, it] e (fun i h => i ≤ z.cps.size ∧ (∃ old, IsEnum h e it ((i : Nat) : Int) old) ∧ h.IsStrIter it (strIterType z) z t i ∧ e ≠ it) where
  mem := List.mem_cons_self ..
  obj := by
    rintro i h ⟨_, ⟨old, he⟩, ⟨o, ho, hc, hd⟩, _⟩ b hb
    simp only [List.mem_cons, List.not_mem_nil, or_false] at hb
    rcases hb with rfl | rfl
    · exact ⟨_, he, fun v q => nomatch q⟩
    · exact ⟨o, ho, fun v q => by rw [hd] at q; cases q⟩
  keep := by
    rintro i h h' ⟨le, ⟨old, he⟩, hi, hne⟩ k
    obtain ⟨o, ho, r⟩ := hi
    exact ⟨le, ⟨old, k e (by simp) _ he⟩, ⟨o, k it (by simp) o ho, r⟩, hne⟩
  item := by
    intro X hP hw hK calm i pins s σ H E I hf st hg
    subst hP hw hK
    obtain ⟨_, ⟨old, he⟩, hit, hne⟩ := st
    have lt : i < z.cps.size := hg
    have le : e < s.heap.objs.size := Heap.lt_size he
    have li : it < s.heap.objs.size := by obtain ⟨_, q, _⟩ := hit; exact Heap.lt_size q
    refine wpAny_pyNext_enum_itemD (Draws.text (A := X.A.in1) (by exact I.ok.hd calm) it z t) he hit lt hne (by simp [hne]) fun y h' tk hy ho st' hT hsz hk => ?_
    obtain ⟨c, u, hc, rfl⟩ := hy
    refine ⟨_, rfl, wpAny_letOwnedTupleGo_enum (s := { s with heap := h', toks := tk + 1 }) ho fun h2 he2 sb => ?_⟩
    have sb' : Heap.SameBut e h' h2 := sb
    have hT2 : h2.get? s.heap.objs.size = some { cls := .type "tuple", data := .seq #[.int i tk, .str ⟨#[c]⟩ u] } := (sb'.2 _ (Nat.ne_of_gt le)).trans hT
    have new : ObjOk X.prog X.w (upd H s.heap.objs.size (.tup [.int (i : Nat), .str ⟨#[c]⟩])) h2 s.heap.objs.size (.tup [.int (i : Nat), .str ⟨#[c]⟩]) :=
      ⟨by show 2 ≤ sizeLine; decide, [.int i tk, .str ⟨#[c]⟩ u], .cons ⟨_, rfl⟩ (.cons ⟨_, rfl⟩ .nil), ⟨_, hT2, rfl, _, rfl⟩⟩
    have I2 : Inv X pins σ (upd H s.heap.objs.size (.tup [.int (i : Nat), .str ⟨#[c]⟩])) { s with heap := h2, toks := tk + 1 } := by
      refine I.turnedNew (ch := [e, it]) (fun b ob hb q => ?_) hf (Nat.le_refl _) new
      have ne : b ≠ e := fun z => hb (by simp [z])
      have ni : b ≠ it := fun z => hb (by simp [z])
      exact (sb'.2 b ne).trans (hk b ob ne ni q)
    refine ⟨.ref s.heap.objs.size, _, I2, rfl, ⟨_, c, rfl, I.hok.fresh (Nat.le_refl _), rfl, hc⟩, ⟨lt, ⟨.str ⟨#[c]⟩ u, ?_⟩, ?_, hne⟩, fun b hb => ?_⟩
    · have e1 : ((i + 1 : Nat) : Int) = (i : Int) + 1 := by omega
      rw [e1]
      exact he2
    · obtain ⟨o, q, r⟩ := st'
      exact ⟨o, (sb'.2 it (Ne.symm hne)).trans q, r⟩
    · have lb : b < s.heap.objs.size := by
        simp only [List.mem_cons, List.not_mem_nil, or_false] at hb
        rcases hb with rfl | rfl
        · exact le
        · exact li
      rw [upd_ne (Nat.ne_of_lt lb)]
      exact (hf b hb).1
  done := by
    intro X hP hw hK calm i pins s σ H E I hf st hg
    subst hP hw hK
    obtain ⟨le, ⟨old, he⟩, hit, hne⟩ := st
    have ge : z.cps.size ≤ i := hg
    obtain rfl : i = z.cps.size := by omega
    obtain ⟨f0, f1, f2, f3, f4, f5⟩ := hf it (by simp)
    have hT : s.TypeIs (.ref e) "enumerate" := ⟨_, he, rfl⟩
    unfold pyNext
    refine wpAny_bind (wpAny_attempt (wpAny_callSpecial?_slot (name := Str.ofString "__next__") hT F.slot_enumerate_next
      (wpAny_call_entry F.slot_enumerate_next hT F.entry_enumerate_next ?_ (F.args_enumerate_next_1 _))))
    show wpAny _ _ (field (.ref e) 2 >>= _) _ _ _
    refine wpAny_bind (wpAny_field he rfl (x := .ref it) rfl ?_)
    refine wpAny_bind ((Draws.text (prog := X.prog) (w := X.w) (A := X.A.in1) (by exact I.ok.hd calm) it z t).done s _ _ hit fun h' x he' hx' => ?_)
    obtain ⟨o, ho, hc⟩ := hx'
    refine wpAny_bind (wpAny_isInstance (T := "StopIteration") (b := true) ⟨o, ho, hc⟩ isSubtype_stop ?_)
    refine wpAny_pure ⟨rfl, ?_⟩
    exact I.turned (t' := s.toks) (fun b o hb q => he' b o hb q) f0 f1 f3 f4 f5
  self := by
    rintro A i s Q E ⟨_, ⟨old, he⟩, _⟩ h
    exact wpAny_pyIter_enum he h
section
variable {X : Cx}
def tSigns (ta : TA) : TI := fun σ H R => ta σ H fun vs H1 => ∃ z : Str, vs = [.str z] ∧ R (Signs z) H1
theorem pi_signs {e : Expr} {ta : TA} {p pos tpos : Pos} {elts : List Expr} {kk : Nat} (glob : Gl X "enumerate") (none_ : X.mg "enumerate" = none) (args : PA X [e] ta)
    (star : starEach [e] X.env = [(false, eval e X.env)] := by rfl) : PI X (.Tuple elts kk tpos) (.Call (.Name "enumerate" p) [e] [] pos) (tSigns ta) := by
  constructor
  intro pins s σ H R I h
  refine Call_ (ld_blt I glob none_ boot_enumerate ?_)
  refine PyProof.Rows.callWith_type1 (thn (args.run pos pins s σ H _ I h) fun us s1 got => ?_) star rfl
  obtain ⟨vs, H1, I1, r1, z, ex, q⟩ := got
  subst ex
  obtain ⟨u, eu, ru⟩ := vals1 r1
  subst eu
  obtain ⟨t, eu⟩ : ∃ t, u = Value.str z t := ru
  subst eu
  refine call_enum (begins_text z t) trivial fun h' he hit hk => wpAny_pyIter_enum he ?_
  have I2 : Inv X pins σ H1 { s1 with heap := h' } := I1.kept (t' := s1.toks) hk
  refine ⟨s1.heap.objs.size + 1, [s1.heap.objs.size + 1, s1.heap.objs.size], _, _, H1, rfl, I2, turn_signs z t (s1.heap.objs.size + 1) s1.heap.objs.size, ⟨Nat.zero_le _, ⟨.none, he⟩, ⟨_, hit, rfl, rfl⟩, Nat.succ_ne_self _⟩, fun b hb => ?_, q⟩
  have above : s1.heap.objs.size ≤ b := by
    simp only [List.mem_cons, List.not_mem_nil, or_false] at hb
    rcases hb with rfl | rfl
    · exact Nat.le_add_right _ _
    · exact Nat.le_refl _
  exact I1.fpOk above (I1.hok.fresh above)
/-- the loop over the signs -/
theorem for_signs {z : Str} {g : TG} {tb : TS} {D : Ends} {σ : L2.St} {H : Hp} (Pv : Nat → L2.St → Hp → Prop) (h0 : Pv 0 σ H)
    (turn : ∀ i c σ H T, z.cps[i]? = some c → Pv i σ H → H T = none → g (.ref T) σ (upd H T (.tup [.int (i : Nat), .str ⟨#[c]⟩])) fun σ2 H2 => tb { D with nx := Pv (i + 1), ct := Pv (i + 1), bk := D.nx } σ2 H2) (done : ∀ σ H, Pv z.cps.size σ H → D.nx σ H) :
    ∃ W : Nat → Nat → L2.St → Hp → Prop, (∃ m, W 0 m σ H) ∧ ∀ i m σ H, W i m σ H →
      ((Signs z).stop i H ∧ D.nx σ H) ∨ ((Signs z).go i H ∧ ∃ N : L2.St → Hp → Prop, (∀ σ' H', N σ' H' → ∃ m', m' < m ∧ W (i + 1) m' σ' H') ∧ ∀ x H', (Signs z).yld i H x H' → g x σ H' fun σ2 H2 => tb { D with nx := N, ct := N, bk := D.nx } σ2 H2) := by
  refine ⟨fun i m σ H => m = z.cps.size - i ∧ i ≤ z.cps.size ∧ Pv i σ H, ⟨z.cps.size, by simp, Nat.zero_le _, h0⟩, ?_⟩
  rintro i m σ H ⟨rfl, le, pv⟩
  rcases Nat.lt_or_ge i z.cps.size with lt | ge
  · refine .inr ⟨lt, Pv (i + 1), fun σ' H' n => ⟨z.cps.size - (i + 1), by omega, rfl, lt, n⟩, ?_⟩
    rintro v H' ⟨T, c, rfl, nT, rfl, hc⟩
    exact turn i c σ H T hc pv nT
  · have e : i = z.cps.size := by omega
    subst e
    exact .inl ⟨Nat.le_refl _, done σ H pv⟩
end
end EN

set_option Elab.async false
set_option linter.all false
set_option maxRecDepth 100000
set_option maxHeartbeats 4000000
/-! z.count(one sign); tapes as texts -/
namespace CO
open PySem PySem.StrLaws PySem.Builtin PySem.Builtin.Str
theorem walk (x : Str) (c : Nat) : ∀ (n a : Nat) (st : Array Nat × Nat), st.fst.size ≤ a → st.snd ≤ a → a + n ≤ x.length + 1 →
    ((forIn (List.range' a n) st (occBody x ⟨#[c]⟩ x.length (x.length + 1))).run.fst).size = st.fst.size + ((x.cps.toList.drop a).take n).count c
  | 0, a, st, _, _, _ => by simp
  | n + 1, a, st, h1, h2, h3 => by
    rw [List.range'_succ, List.forIn_cons]
    have one := subAt_one x c a
    have len : (⟨#[c]⟩ : Str).length = 1 := rfl
    have step : ((x.cps.toList.drop a).take (n + 1)).count c = (if x.cps.toList[a]? = some c then 1 else 0) + ((x.cps.toList.drop (a + 1)).take n).count c := by
      cases e : x.cps.toList[a]? with
      | none =>
        have ge : x.cps.toList.length ≤ a := by simpa using e
        rw [List.drop_eq_nil_of_le ge, List.drop_eq_nil_of_le (by omega)]
        simp
      | some d =>
        obtain ⟨lt, ed⟩ := List.getElem?_eq_some_iff.mp e
        rw [List.drop_eq_getElem_cons lt, List.take_succ_cons, List.count_cons, ed]
        by_cases hd : d = c
        · subst hd
          simp
          omega
        · simp [hd]
    rw [step]
    unfold occBody
    by_cases hc : x.cps.toList[a]? = some c
    · obtain ⟨q1, q2⟩ := one.mpr hc
      rw [if_pos ⟨⟨⟨by omega, h2⟩, q1⟩, q2⟩, if_pos hc]
      show ((forIn (List.range' (a + 1) n) (st.fst.push a, a + (⟨#[c]⟩ : Str).length) (occBody x ⟨#[c]⟩ x.length (x.length + 1))).run.fst).size = _
      rw [walk x c n (a + 1) _ (by show (st.fst.push a).size ≤ _; rw [Array.size_push]; omega) (by show a + 1 ≤ a + 1; exact Nat.le_refl _) (by omega)]
      show (st.fst.push a).size + _ = _
      rw [Array.size_push]
      omega
    · rw [if_neg (fun z => hc (one.mp ⟨z.1.2, z.2⟩)), if_neg hc]
      show ((forIn (List.range' (a + 1) n) (st.fst, st.snd) (occBody x ⟨#[c]⟩ x.length (x.length + 1))).run.fst).size = _
      rw [walk x c n (a + 1) _ (by show st.fst.size ≤ _; omega) (by show st.snd ≤ _; omega) (by omega)]
      show st.fst.size + _ = _
      simp only [if_neg hc, Nat.zero_add]
theorem count_one (x : Str) (c : Nat) : Txt.count x ⟨#[c]⟩ = (x.cps.toList.count c : Nat) := by
  unfold Txt.count
  rw [occ_eq]
  have h := walk x c (x.length + 1 - 0) 0 (#[], 0) (Nat.le_refl _) (Nat.le_refl _) (by omega)
  have e : (x.cps.toList.drop 0).take (x.length + 1 - 0) = x.cps.toList := by
    rw [List.drop_zero]
    exact List.take_of_length_le (by rw [Array.length_toList]; show x.length ≤ _; omega)
  rw [e] at h
  rw [Array.length_toList, h]
  simp
end CO

set_option Elab.async false
set_option linter.all false
set_option maxRecDepth 100000
set_option maxHeartbeats 4000000
/-! a comprehension over zip of two lists; binomials -/
namespace ZC
open PySem PySem.Spec PyProof.Rows L2 GG
theorem lc_zL {K : PySem.W.Frag} {a b : Addr} {xs ys : List V} {g : TG} {tt : TT} {te : TE} {vs : List Nat} {σ : L2.St} {H1 : Hp} {D : Addr} {Qd : Hp → Prop} (len : xs.length = ys.length) (Pv : Nat → Hp → Prop) (h0 : Pv 0 (upd H1 D (.lst []))) (hl : ∀ i H, Pv i H → SqL K H a xs ∧ SqL K H b ys)
    (turn : ∀ i x y H T, xs[i]? = some x → ys[i]? = some y → Pv i H → H T = none → g (.ref T) (wipe σ vs) (upd H T (.tup [x, y])) fun σ2 H2 => wipe σ2 vs = wipe σ vs ∧ tt σ2 H2 fun c H3 =>
      if c = true then te σ2 H3 fun y H4 => ∃ acc, H4 D = some (.lst acc) ∧ acc.length < sizeLine ∧ Pv (i + 1) (upd H4 D (.lst (acc ++ [y]))) else Pv (i + 1) H3) (done : ∀ H, Pv xs.length H → Qd H) :
    ∃ W : Nat → Nat → Hp → Prop, (∃ m, W 0 m (upd H1 D (.lst []))) ∧ ∀ i m H, W i m H →
      ((Itz K a b).stop i H ∧ Qd H) ∨ ((Itz K a b).go i H ∧ ∃ Nx : Hp → Prop, (∀ H', Nx H' → ∃ m', m' < m ∧ W (i + 1) m' H') ∧
        ∀ x H', (Itz K a b).yld i H x H' → g x (wipe σ vs) H' fun σ2 H2 => wipe σ2 vs = wipe σ vs ∧ tt σ2 H2 fun c H3 =>
          if c = true then te σ2 H3 fun y H4 => ∃ acc, H4 D = some (.lst acc) ∧ acc.length < sizeLine ∧ Nx (upd H4 D (.lst (acc ++ [y]))) else Nx H3) := by
  refine ⟨fun i m H => m = xs.length - i ∧ i ≤ xs.length ∧ Pv i H, ⟨_, rfl, Nat.zero_le _, h0⟩, ?_⟩
  rintro i m H ⟨rfl, le, pv⟩
  obtain ⟨qx, qy⟩ := hl i H pv
  rcases Nat.lt_or_ge i xs.length with lt | ge
  · have hx : xs[i]? = some xs[i] := List.getElem?_eq_getElem lt
    have lt2 : i < ys.length := by omega
    have hy : ys[i]? = some ys[i] := List.getElem?_eq_getElem lt2
    refine .inr ⟨⟨xs, ys, _, _, qx, qy, hx, hy⟩, Pv (i + 1), fun H' n => ⟨xs.length - (i + 1), by omega, rfl, lt, n⟩, ?_⟩
    rintro v H' ⟨T, x, y, rfl, nT, rfl, f1, f2⟩
    exact turn i x y H T (f1 xs qx) (f2 ys qy) pv nT
  · have e : i = xs.length := by omega
    subst e
    exact .inl ⟨⟨xs, ys, qx, qy, .inl (Nat.le_refl _)⟩, done H pv⟩

/-- the binomial number -/
def ch : Nat → Nat → Nat
  | _, 0 => 1
  | 0, _ + 1 => 0
  | n + 1, k + 1 => ch n k + ch n (k + 1)
theorem ch_over : ∀ (n k : Nat), n < k → ch n k = 0
  | 0, k + 1, _ => rfl
  | n + 1, k + 1, h => by
    show ch n k + ch n (k + 1) = 0
    rw [ch_over n k (by omega), ch_over n (k + 1) (by omega)]
theorem ch_zero (n : Nat) : ch n 0 = 1 := by cases n <;> rfl
theorem ch_le : ∀ (n k : Nat), ch n k ≤ 2 ^ n
  | n, 0 => by
    rw [ch_zero]
    exact Nat.one_le_two_pow
  | 0, k + 1 => Nat.zero_le _
  | n + 1, k + 1 => by
    show ch n k + ch n (k + 1) ≤ 2 ^ (n + 1)
    have := ch_le n k
    have := ch_le n (k + 1)
    rw [Nat.pow_succ]
    omega
def bin (n : Nat) : List Int := (List.range (n + 1)).map fun k => (ch n k : Int)
theorem bin_len (n : Nat) : (bin n).length = n + 1 := by simp [bin]
theorem bin_get {n k : Nat} (h : k ≤ n) : (bin n)[k]? = some (ch n k : Int) := by
  unfold bin
  rw [List.getElem?_map, List.getElem?_range (by omega)]
  rfl
/-- the two summands at a place -/
theorem bin_left {n k : Nat} (h : k ≤ n + 1) : (bin n ++ [0])[k]? = some (ch n k : Int) := by
  rcases Nat.lt_or_ge k (n + 1) with lt | ge
  · rw [List.getElem?_append_left (by rw [bin_len]; exact lt), bin_get (by omega)]
  · have e : k = n + 1 := by omega
    subst e
    rw [List.getElem?_append_right (by rw [bin_len]; exact Nat.le_refl _), bin_len, Nat.sub_self, ch_over n (n + 1) (by omega)]
    rfl
def low (n : Nat) : Nat → Int
  | 0 => 0
  | j + 1 => (ch n j : Int)
theorem bin_right {n k : Nat} (h : k ≤ n + 1) : ((0 : Int) :: bin n)[k]? = some (low n k) := by
  cases k with
  | zero => rfl
  | succ j =>
    rw [List.getElem?_cons_succ, bin_get (by omega)]
    rfl
theorem bin_step (n k : Nat) : (ch (n + 1) k : Int) = (ch n k : Int) + low n k := by
  cases k with
  | zero => simp [ch_zero, low]
  | succ j =>
    show ((ch n j + ch n (j + 1) : Nat) : Int) = _
    rw [Int.natCast_add]
    exact Int.add_comm _ _
end ZC

set_option Elab.async false
set_option linter.all false
set_option maxRecDepth 100000
set_option maxHeartbeats 4000000
/-! tapes as lists of tosses -/
namespace Z
open PySem PySem.Spec PyProof.Rows L2 ZC
def sg (b : Bool) : Str := if b then "H" else "T"
def word (t : List Bool) : Str := ⟨(t.map fun b => if b then 72 else 84).toArray⟩
theorem sg_len (b : Bool) : (sg b).length = 1 := by cases b <;> decide +kernel
theorem sg_cps (b : Bool) : (sg b).cps.toList = [if b then 72 else 84] := by cases b <;> decide +kernel
theorem sg_one (b : Bool) : sg b = ⟨#[if b then 72 else 84]⟩ := by cases b <;> decide +kernel
theorem sg_inj {b c : Bool} (h : sg b = sg c) : b = c := by
  cases b <;> cases c
  · rfl
  · exact absurd h (by decide +kernel)
  · exact absurd h (by decide +kernel)
  · rfl
theorem word_list (t : List Bool) : (word t).cps.toList = t.map fun b => if b then 72 else 84 := by
  unfold word
  rw [List.toList_toArray]
theorem word_len (t : List Bool) : (word t).length = t.length := by
  show (word t).cps.size = _
  rw [← Array.length_toList, word_list, List.length_map]
theorem word_at {t : List Bool} {i c : Nat} (h : (word t).cps[i]? = some c) : ∃ b, t[i]? = some b ∧ (⟨#[c]⟩ : Str) = sg b := by
  have h' : (word t).cps.toList[i]? = some c := by rw [Array.getElem?_toList]; exact h
  rw [word_list, List.getElem?_map] at h'
  cases e : t[i]? with
  | none => rw [e] at h'; cases h'
  | some b =>
    rw [e] at h'
    refine ⟨b, rfl, ?_⟩
    have ec : (if b then 72 else 84) = c := Option.some.inj h'
    rw [← ec, ← sg_one]
theorem str_ext {x y : Str} (e : x.cps.toList = y.cps.toList) : x = y := by
  obtain ⟨x⟩ := x
  obtain ⟨y⟩ := y
  exact congrArg Str.mk (Array.toList_inj.mp e)
theorem word_app (t u : List Bool) : word t ++ word u = word (t ++ u) := by
  refine str_ext ?_
  show ((word t).cps ++ (word u).cps).toList = _
  rw [Array.toList_append, word_list, word_list, word_list, List.map_append]
theorem word_one (b : Bool) : word [b] = sg b := str_ext (by rw [word_list, sg_cps]; rfl)
theorem word_snoc (t : List Bool) (b : Bool) : word t ++ sg b = word (t ++ [b]) := by rw [← word_one, word_app]
theorem word_cons (t : List Bool) (b : Bool) : sg b ++ word t = word (b :: t) := by rw [← word_one, word_app]; rfl
theorem cut_word {t : List Bool} {j k : Nat} (h : j ≤ k) (h' : k ≤ t.length) : cutS (word t) (some (j : Int)) (some (k : Int)) = word ((t.drop j).take (k - j)) := by
  have e1 : HT.sIx (word t).length 0 (some (j : Int)) = j := by
    rw [HT.sIx_nat, word_len]
    omega
  have e2 : HT.sIx (word t).length (word t).length (some (k : Int)) = k := by
    rw [HT.sIx_nat, word_len]
    omega
  refine str_ext ?_
  unfold cutS
  rw [e1, e2, List.toList_toArray, word_list, word_list, List.map_take, List.map_drop]
def hd (t : List Bool) : Nat := t.count true
theorem count_H (t : List Bool) : Txt.count (word t) "H" = (hd t : Int) := by
  have e : (("H" : String) : Str) = ⟨#[72]⟩ := by decide +kernel
  rw [e, CO.count_one, word_list]
  unfold hd
  congr 1
  induction t with
  | nil => rfl
  | cons b t ih =>
    rw [List.map_cons, List.count_cons, List.count_cons, ih]
    cases b <;> rfl
theorem hd_le (t : List Bool) : hd t ≤ t.length := List.count_le_length
/-- the rank of a tape among those with as many heads -/
def rk : List Bool → Nat
  | [] => 0
  | true :: t => rk t
  | false :: t => (if 0 < hd t then ch t.length (hd t - 1) else 0) + rk t
end Z

set_option Elab.async false
set_option linter.all false
set_option maxRecDepth 100000
set_option maxHeartbeats 4000000
namespace Z
open PySem PySem.Spec PyProof.Rows L2 GG
/-! ways through a machine -/
def place (ps : List Pl) (a : Int) : Pl := ps.getD a.toNat .never
theorem place_get {ps : List Pl} {a : Int} {p : Pl} (h : ps[a.toNat]? = some p) : place ps a = p := by
  unfold place
  rw [List.getD_eq_getElem?_getD, h]
  rfl
theorem Mach.at {H : Hp} {m : Addr} {ps : List Pl} (hm : Mach H m ps) (hw : WF ps) {a : Int} (h0 : 0 ≤ a) (h1 : a < ps.length) : ∃ (rs : List V) (t : Addr), H m = some (.tup rs) ∧ atI rs a = some (.ref t) ∧ H t = some (.tup (place ps a).row) := by
  obtain ⟨rs, em, pl⟩ := hm
  obtain ⟨p, hp, _⟩ := hw.get h0 h1
  obtain ⟨t, ht, et⟩ := pl.get hp
  rw [place_get hp]
  obtain ⟨j, rfl⟩ : ∃ j : Nat, a = (j : Int) := ⟨a.toNat, by omega⟩
  exact ⟨rs, t, em, atI_nat (by rw [Int.toNat_natCast] at ht; exact ht), et⟩
def In (ps : List Pl) (a : Int) : Prop := 0 ≤ a ∧ a < ps.length
theorem wf_succ {ps : List Pl} (hw : WF ps) {a x y : Int} (h : In ps a) (e : place ps a = .toss x y) : In ps x ∧ In ps y := by
  obtain ⟨p, hp, okp⟩ := hw.get h.1 h.2
  rw [place_get hp] at e
  subst e
  obtain ⟨a1, a2, a3, a4⟩ := okp
  exact ⟨⟨a1, a2⟩, a3, a4⟩
inductive Rch (ps : List Pl) (s : Int) : Int → Prop
  | here : Rch ps s s
  | heads {k x y : Int} : Rch ps s k → place ps k = .toss x y → Rch ps s x
  | tails {k x y : Int} : Rch ps s k → place ps k = .toss x y → Rch ps s y
theorem Rch.inn {ps : List Pl} (hw : WF ps) {s k : Int} (hs : In ps s) (h : Rch ps s k) : In ps k := by
  induction h with
  | here => exact hs
  | heads _ e ih => exact (wf_succ hw ih e).1
  | tails _ e ih => exact (wf_succ hw ih e).2
theorem Rch.trans {ps : List Pl} {a b c : Int} (h : Rch ps a b) (g : Rch ps b c) : Rch ps a c := by
  induction g with
  | here => exact h
  | heads _ e ih => exact ih.heads e
  | tails _ e ih => exact ih.tails e
/-- what holds at the start and is handed on holds at all that is reached -/
theorem Rch.all {ps : List Pl} {s : Int} {S : Int → Prop} (h0 : S s) (h : ∀ k x y, S k → place ps k = .toss x y → S x ∧ S y) {k : Int} (r : Rch ps s k) : S k := by
  induction r with
  | here => exact h0
  | heads _ e ih => exact (h _ _ _ ih e).1
  | tails _ e ih => exact (h _ _ _ ih e).2
/-! lists of places -/
theorem nodup_len : ∀ (n : Nat) (l : List Int), l.Nodup → (∀ x ∈ l, 0 ≤ x ∧ x < n) → l.length ≤ n
  | 0, l, _, h => by
    cases l with
    | nil => exact Nat.le_refl _
    | cons x r =>
      have := h x List.mem_cons_self
      omega
  | n + 1, l, nd, h => by
    have h2 := nodup_len n (l.filter (· ≠ (n : Int))) (nd.filter _) fun x hx => by
      rw [List.mem_filter] at hx
      have := h x hx.1
      have e : x ≠ n := by simpa using hx.2
      omega
    have h3 : ∀ l : List Int, l.Nodup → l.length ≤ (l.filter (· ≠ (n : Int))).length + 1 := fun l => by
      induction l with
      | nil => intro _; exact Nat.zero_le _
      | cons x r ih =>
        intro nd
        have nd' := List.nodup_cons.mp nd
        by_cases e : x = n
        · subst e
          rw [List.filter_cons_of_neg (by simp)]
          have : r.filter (· ≠ (n : Int)) = r := by
            rw [List.filter_eq_self]
            intro y hy
            have : y ≠ n := fun z => nd'.1 (z ▸ hy)
            simpa using this
          rw [this, List.length_cons]
          exact Nat.le_refl _
        · rw [List.filter_cons_of_pos (by simpa using e), List.length_cons, List.length_cons]
          have := ih nd'.2
          omega
    have := h3 l nd
    omega
theorem lt_unique : ∀ {xs ys : List Int}, xs.Pairwise (· < ·) → ys.Pairwise (· < ·) → (∀ k, k ∈ xs ↔ k ∈ ys) → xs = ys
  | [], [], _, _, _ => rfl
  | [], y :: ys, _, _, h => absurd ((h y).mpr List.mem_cons_self) List.not_mem_nil
  | x :: xs, [], _, _, h => absurd ((h x).mp List.mem_cons_self) List.not_mem_nil
  | x :: xs, y :: ys, hx, hy, h => by
    have hx' := List.pairwise_cons.mp hx
    have hy' := List.pairwise_cons.mp hy
    have e : x = y := by
      rcases List.mem_cons.mp ((h x).mp List.mem_cons_self) with e | m
      · exact e
      · rcases List.mem_cons.mp ((h y).mpr List.mem_cons_self) with e | m2
        · exact e.symm
        · have := hx'.1 y m2
          have := hy'.1 x m
          omega
    subst e
    congr 1
    refine lt_unique hx'.2 hy'.2 fun k => ⟨fun m => ?_, fun m => ?_⟩
    · rcases List.mem_cons.mp ((h k).mp (List.mem_cons_of_mem _ m)) with e | m2
      · have := hx'.1 k m
        omega
      · exact m2
    · rcases List.mem_cons.mp ((h k).mpr (List.mem_cons_of_mem _ m)) with e | m2
      · have := hy'.1 k m
        omega
      · exact m2
theorem le_lt : ∀ {xs : List Int}, xs.Pairwise (· ≤ ·) → xs.Nodup → xs.Pairwise (· < ·)
  | [], _, _ => .nil
  | x :: xs, h, nd => by
    have h' := List.pairwise_cons.mp h
    have nd' := List.nodup_cons.mp nd
    refine List.pairwise_cons.mpr ⟨fun y hy => ?_, le_lt h'.2 nd'.2⟩
    have := h'.1 y hy
    have : x ≠ y := fun e => nd'.1 (e ▸ hy)
    omega
/-- the places that are reached, in order -/
def Places (ps : List Pl) (s : Int) (ks : List Int) : Prop := ks.Pairwise (· < ·) ∧ ∀ k, k ∈ ks ↔ Rch ps s k
theorem Places.eq {ps : List Pl} {s : Int} {xs ys : List Int} (h : Places ps s xs) (g : Places ps s ys) : xs = ys := lt_unique h.1 g.1 fun k => (h.2 k).trans (g.2 k).symm
theorem lt_nodup : ∀ {xs : List Int}, xs.Pairwise (· < ·) → xs.Nodup
  | [], _ => .nil
  | x :: xs, h => by
    have h' := List.pairwise_cons.mp h
    refine List.nodup_cons.mpr ⟨fun m => ?_, lt_nodup h'.2⟩
    have := h'.1 x m
    omega
theorem Places.len {ps : List Pl} (hw : WF ps) {s : Int} (hs : In ps s) {ks : List Int} (h : Places ps s ks) : ks.length ≤ ps.length := nodup_len _ _ (lt_nodup h.1) fun k hk => ((h.2 k).mp hk).inn hw hs
theorem places_of {ps : List Pl} {s : Int} {ks ls : List Int} (nd : ks.Nodup) (hk : ∀ k, k ∈ ks ↔ Rch ps s k) (pm : ls.Perm ks) (pw : ls.Pairwise (· ≤ ·)) : Places ps s ls :=
  ⟨le_lt pw (pm.nodup_iff.mpr nd), fun k => (pm.mem_iff).trans (hk k)⟩
/-! ends within so many tosses -/
def eB (ps : List Pl) : Nat → Int → Bool
  | 0, k => match place ps k with
    | .fin _ => true
    | _ => false
  | j + 1, k => eB ps j k || match place ps k with
    | .toss x y => eB ps j x || eB ps j y
    | _ => false
def lvl (ps : List Pl) (d : Nat) (k : Int) : Option Nat := (List.range (d + 1)).find? fun j => eB ps j k
theorem eB_up {ps : List Pl} {j : Nat} {k : Int} (h : eB ps j k = true) : eB ps (j + 1) k = true := by
  show (eB ps j k || _) = true
  rw [h, Bool.true_or]
theorem eB_le {ps : List Pl} {i j : Nat} {k : Int} (l : i ≤ j) (h : eB ps i k = true) : eB ps j k = true := by
  induction l with
  | refl => exact h
  | step _ ih => exact eB_up ih
theorem lvl_none {ps : List Pl} {d : Nat} {k : Int} : lvl ps d k = none ↔ eB ps d k = false := by
  unfold lvl
  rw [List.find?_eq_none]
  constructor
  · intro h
    have := h d (List.mem_range.mpr (Nat.lt_succ_self d))
    simpa using this
  · intro h j hj e
    have := eB_le (Nat.le_of_lt_succ (List.mem_range.mp hj)) e
    rw [h] at this
    cases this
theorem lvl_succ (ps : List Pl) (d : Nat) (k : Int) : lvl ps (d + 1) k = (match lvl ps d k with | some j => some j | none => if eB ps (d + 1) k then some (d + 1) else none) := by
  unfold lvl
  rw [List.range_succ, List.find?_append]
  cases h : (List.range (d + 1)).find? fun j => eB ps j k with
  | some j => rfl
  | none =>
    rw [Option.none_or, List.find?_cons]
    cases eB ps (d + 1) k <;> rfl
theorem lvl_some {ps : List Pl} {d j : Nat} {k : Int} (h : lvl ps d k = some j) : j ≤ d ∧ eB ps j k = true ∧ ∀ i, i < j → eB ps i k = false := by
  unfold lvl at h
  obtain ⟨h1, i, h2, h3, h4⟩ := List.find?_eq_some_iff_getElem.mp h
  rw [List.getElem_range] at h3
  subst h3
  rw [List.length_range] at h2
  refine ⟨by omega, h1, fun m hm => ?_⟩
  have := h4 m hm
  rw [List.getElem_range] at this
  simpa using this
theorem lvl_at {ps : List Pl} {d j : Nat} {k : Int} (l : j ≤ d) (e : eB ps j k = true) (m : ∀ i, i < j → eB ps i k = false) : lvl ps d k = some j := by
  cases h : lvl ps d k with
  | none =>
    have := lvl_none.mp h
    rw [eB_le l e] at this
    cases this
  | some i =>
    obtain ⟨_, h2, h3⟩ := lvl_some h
    rcases Nat.lt_trichotomy i j with a | a | a
    · rw [m i a] at h2
      cases h2
    · rw [a]
    · rw [h3 j a] at e
      cases e
/-- no end within d tosses, one within d + 1: a side has it just at d -/
theorem lvl_turn {ps : List Pl} {d : Nat} {k x y : Int} (e : place ps k = .toss x y) (no : lvl ps d k = none) : eB ps (d + 1) k = (decide (lvl ps d x = some d) || decide (lvl ps d y = some d)) := by
  have nk := lvl_none.mp no
  have one : ∀ z, (z = x ∨ z = y) → eB ps d z = decide (lvl ps d z = some d) := fun z hz => by
    cases h : eB ps d z with
    | true =>
      refine (decide_eq_true (lvl_at (Nat.le_refl _) h fun i hi => ?_)).symm
      cases g : eB ps i z with
      | false => rfl
      | true =>
        have : eB ps (i + 1) k = true := by
          show (eB ps i k || _) = true
          rw [e]
          rcases hz with rfl | rfl <;> simp [g]
        have := eB_le (show i + 1 ≤ d by omega) this
        rw [nk] at this
        cases this
    | false =>
      refine (decide_eq_false fun z => ?_).symm
      have := (lvl_some z).2.1
      rw [h] at this
      cases this
  show (eB ps d k || _) = _
  rw [nk, e, Bool.false_or]
  show (eB ps d x || eB ps d y) = _
  rw [one x (.inl rfl), one y (.inr rfl)]
/-- a place from which an end is reached -/
def Op (ps : List Pl) (k : Int) : Prop := ∃ e n, Rch ps k e ∧ place ps e = .fin n
theorem op_of_eB {ps : List Pl} : ∀ {j : Nat} {k : Int}, eB ps j k = true → Op ps k
  | 0, k, h => by
    cases e : place ps k with
    | fin n => exact ⟨k, n, .here, e⟩
    | toss x y => rw [eB, e] at h; cases h
    | never => rw [eB, e] at h; cases h
  | j + 1, k, h => by
    have h : (eB ps j k || match place ps k with | .toss x y => eB ps j x || eB ps j y | _ => false) = true := h
    rw [Bool.or_eq_true] at h
    rcases h with h | h
    · exact op_of_eB h
    · cases e : place ps k with
      | fin n => exact ⟨k, n, .here, e⟩
      | toss x y =>
        rw [e] at h
        have h : (eB ps j x || eB ps j y) = true := h
        rw [Bool.or_eq_true] at h
        rcases h with h | h
        · obtain ⟨z, n, r, f⟩ := op_of_eB h
          exact ⟨z, n, (Rch.here.heads e).trans r, f⟩
        · obtain ⟨z, n, r, f⟩ := op_of_eB h
          exact ⟨z, n, (Rch.here.tails e).trans r, f⟩
      | never => rw [e] at h; cases h
theorem eB_of_op {ps : List Pl} {k : Int} (h : Op ps k) : ∃ j, eB ps j k = true := by
  obtain ⟨e, n, r, f⟩ := h
  have : ∀ {a : Int}, Rch ps k a → ∀ j, eB ps j a = true → ∃ i, eB ps i k = true := fun {a} r => by
    induction r with
    | here => exact fun j h => ⟨j, h⟩
    | @heads b x y _ eb ih =>
      intro j hj
      refine ih (j + 1) ?_
      show (eB ps j b || _) = true
      rw [eb]
      simp [hj]
    | @tails b x y _ eb ih =>
      intro j hj
      refine ih (j + 1) ?_
      show (eB ps j b || _) = true
      rw [eb]
      simp [hj]
  exact this r 0 (by rw [eB, f])
/-- as many levels as places -/
theorem levels {ps : List Pl} (hw : WF ps) : ∀ (j : Nat) {k : Int}, In ps k → eB ps j k = true → (∀ i, i < j → eB ps i k = false) → ∃ l : List Int, l.length = j + 1 ∧ l.Nodup ∧ (∀ x ∈ l, In ps x) ∧ ∀ x ∈ l, ∃ i, i ≤ j ∧ eB ps i x = true ∧ ∀ h, h < i → eB ps h x = false
  | 0, k, hk, h, m => ⟨[k], rfl, by simp, fun x hx => by rw [List.mem_singleton.mp hx]; exact hk, fun x hx => by rw [List.mem_singleton.mp hx]; exact ⟨0, Nat.le_refl _, h, m⟩⟩
  | j + 1, k, hk, h, m => by
    have nk := m j (Nat.lt_succ_self j)
    have h' : (eB ps j k || match place ps k with | .toss x y => eB ps j x || eB ps j y | _ => false) = true := h
    rw [nk, Bool.false_or] at h'
    cases e : place ps k with
    | fin n => rw [e] at h'; cases h'
    | never => rw [e] at h'; cases h'
    | toss x y =>
      rw [e] at h'
      have go : ∀ z, (z = x ∨ z = y) → eB ps j z = true → ∃ l : List Int, l.length = j + 1 + 1 ∧ l.Nodup ∧ (∀ x ∈ l, In ps x) ∧ ∀ x ∈ l, ∃ i, i ≤ j + 1 ∧ eB ps i x = true ∧ ∀ h, h < i → eB ps h x = false := fun z hz hj => by
        have inz : In ps z := by
          have := wf_succ hw hk e
          rcases hz with rfl | rfl
          · exact this.1
          · exact this.2
        have mz : ∀ i, i < j → eB ps i z = false := fun i hi => by
          cases g : eB ps i z with
          | false => rfl
          | true =>
            have : eB ps (i + 1) k = true := by
              show (eB ps i k || _) = true
              rw [e]
              rcases hz with rfl | rfl <;> simp [g]
            rw [m (i + 1) (by omega)] at this
            cases this
        obtain ⟨l, l1, l2, l3, l4⟩ := levels hw j inz hj mz
        refine ⟨k :: l, by simp [l1], List.nodup_cons.mpr ⟨fun hm => ?_, l2⟩, fun x hx => ?_, fun x hx => ?_⟩
        · obtain ⟨i, hi, h1, h2⟩ := l4 k hm
          rw [m i (by omega)] at h1
          cases h1
        · rcases List.mem_cons.mp hx with rfl | hx
          · exact hk
          · exact l3 x hx
        · rcases List.mem_cons.mp hx with rfl | hx
          · exact ⟨j + 1, Nat.le_refl _, h, m⟩
          · obtain ⟨i, hi, h1⟩ := l4 x hx
            exact ⟨i, by omega, h1⟩
      have h' : (eB ps j x || eB ps j y) = true := h'
      rw [Bool.or_eq_true] at h'
      rcases h' with h' | h'
      · exact go x (.inl rfl) h'
      · exact go y (.inr rfl) h'
theorem lvl_op {ps : List Pl} (hw : WF ps) {k : Int} (hk : In ps k) : lvl ps (ps.length - 1) k = none ↔ ¬ Op ps k := by
  rw [lvl_none]
  constructor
  · intro h o
    obtain ⟨j, hj⟩ := eB_of_op o
    obtain ⟨i, hi, mi⟩ : ∃ i, eB ps i k = true ∧ ∀ h, h < i → eB ps h k = false := by
      have : ∀ j, eB ps j k = true → ∃ i, eB ps i k = true ∧ ∀ h, h < i → eB ps h k = false := fun j => by
        induction j using Nat.strongRecOn with
        | _ j ih =>
          intro hj
          by_cases q : ∃ i, i < j ∧ eB ps i k = true
          · obtain ⟨i, l, hi⟩ := q
            exact ih i l hi
          · exact ⟨j, hj, fun i l => by
              cases g : eB ps i k with
              | false => rfl
              | true => exact absurd ⟨i, l, g⟩ q⟩
      exact this j hj
    obtain ⟨l, l1, l2, l3, _⟩ := levels hw i hk hi mi
    have := nodup_len _ _ l2 l3
    have := eB_le (show i ≤ ps.length - 1 by omega) hi
    rw [h] at this
    cases this
  · intro o
    cases g : eB ps (ps.length - 1) k with
    | false => rfl
    | true => exact absurd (op_of_eB g) o
end Z

set_option Elab.async false
set_option maxRecDepth 100000
set_option maxHeartbeats 4000000
/-! a text times a number; the texts of data with words -/
namespace STR
open PySem PySem.Spec PyProof.Rows L2
theorem cps_foldl (x : Array Nat) : ∀ (n : Nat) (acc : Array Nat), ((List.replicate n x).foldl (· ++ ·) acc).toList = acc.toList ++ (List.replicate n x.toList).flatten
  | 0, acc => by simp
  | n + 1, acc => by
    rw [List.replicate_succ, List.foldl_cons, cps_foldl x n, List.replicate_succ, List.flatten_cons, Array.toList_append, List.append_assoc]
def rRepS : R2 := fun x y H Q => ∃ (z : Str) (k : Nat), x = .str z ∧ y = .int (k : Int) ∧ k < 2 ^ 40 ∧ z.length * k ≤ sizeLine ∧ ∀ r : Str, r.cps.toList = (List.replicate k z.cps.toList).flatten → Q (.str r) H
section
variable {X : Cx}
theorem op_repS : OpR X (binaryOp .Mult) rRepS := by
  intro pins s σ H x y v u Q I rx ry h
  obtain ⟨z, k, rfl, rfl, hk, hz, q⟩ := h
  obtain ⟨t, rfl⟩ := rx
  obtain ⟨t', rfl⟩ := ry
  refine PySem.P.mul_str ?_ (fun h1 h2 => ?_) (fun _ _ => ?_) ?_
  · have h1 : ¬ ((k : Nat) : Int) < -(2 ^ 63 : Int) := by omega
    have h2 : ¬ ((k : Nat) : Int) ≥ 2 ^ 63 := by omega
    rw [decide_eq_false h1, decide_eq_false h2]
    rfl
  · have hn : ¬ ((k : Nat) : Int) < 1 := h1
    have zl : z.length ≤ sizeLine := by
      have : z.length * 1 ≤ z.length * k := Nat.mul_le_mul_left _ (by omega)
      omega
    have hs : sizeLine = 16777216 := by decide
    have : (2 ^ 40 : Int) ≤ (2 ^ 63 - 1) / ((k : Nat) : Int) ∨ ((k : Nat) : Int) > 2 ^ 22 := by
      by_cases e : ((k : Nat) : Int) ≤ 2 ^ 22
      · left
        refine (Int.le_ediv_iff_mul_le (by omega)).mpr ?_
        omega
      · right; omega
    rcases this with h | h
    · omega
    · have e2 : (2 ^ 23 : Int) ≤ (2 ^ 63 - 1) / ((k : Nat) : Int) := by
        refine (Int.le_ediv_iff_mul_le (by omega)).mpr ?_
        omega
      have : z.length * 4194304 ≤ z.length * k := Nat.mul_le_mul_left _ (by omega)
      omega
  · show Builtin.Str.tooLong (z.length * ((k : Nat) : Int).toNat) = false
    rw [Int.toNat_natCast]
    unfold Builtin.Str.tooLong
    exact decide_eq_false (by omega)
  · split
    · have e0 : k = 0 := by omega
      subst e0
      exact ⟨by decide, .str _, H, I.tok _, ⟨_, rfl⟩, q _ rfl⟩
    · split
      · rename_i h2 h3
        refine ⟨.str z, H, I, ⟨_, rfl⟩, q _ ?_⟩
        rcases Bool.or_eq_true _ _ ▸ h3 with h4 | h4
        · have e1 : k = 1 := by
            have : ((k : Nat) : Int) = 1 := by simpa using h4
            omega
          subst e1
          simp
        · have e1 : z.cps = #[] := by
            have : z.cps.size = 0 := by simpa [Str.length] using h4
            exact Array.size_eq_zero_iff.mp this
          rw [e1]
          simp
      · have e : (⟨(List.replicate ((k : Nat) : Int).toNat z.cps).foldl (· ++ ·) #[]⟩ : Str).cps.toList = (List.replicate k z.cps.toList).flatten := by
          rw [Int.toNat_natCast]
          have := cps_foldl z.cps k #[]
          simpa using this
        refine ⟨?_, .str _, H, I.tok _, ⟨_, rfl⟩, q _ e⟩
        have e3 : ((⟨(List.replicate ((k : Nat) : Int).toNat z.cps).foldl (· ++ ·) #[]⟩ : Str).length) = z.length * k := by
          show Array.size _ = _
          rw [← Array.length_toList, e, List.length_flatten, List.map_replicate, List.sum_replicate_nat, Nat.mul_comm]
          rfl
        rw [e3]
        exact hz
end
end STR

set_option Elab.async false
set_option linter.all false
set_option maxRecDepth 100000
set_option maxHeartbeats 4000000
namespace Z
open PySem PySem.Spec PyProof.Rows L2 GG
abbrev sToss : Stmt := top 8
abbrev sFind : Stmt := top 10
def Pl.tosses : Pl → Bool
  | .toss _ _ => true
  | _ => false
section
variable {P : Program} {w : World} {K : PySem.W.Frag} {mg : Str → Option Value} {base : Heap}
def spToss : Sp := fun vs H Q _ => ∃ (t : Addr) (p : Pl), vs = [.ref t] ∧ H t = some (.tup p.row) ∧ Q (.bl p.tosses) H
theorem scToss : FnScope ["state"] ["state"] (defScope sToss) := ⟨rfl, rfl, rfl, by decide +kernel, rfl, by decide +kernel, by decide +kernel⟩
theorem ok_toss {f : Addr} {fd : FuncData} (F : Fun K "is_toss" "is_toss" sToss f fd) : FnOk P w K mg base CX0 1 f fd ["state"] spToss := by
  refine F.ok scToss (fun vs H Q E h => ?_) (fun cdv A outer s H vs Q E hr h => ?_)
  · obtain ⟨t, p, rfl, _⟩ := h
    rfl
  · obtain ⟨t, p, rfl, et, q⟩ := h
    refine ⟨_, (pss_one (ps_ret (pe_cmpR op_eq (pe_ix ix_tup (pv 0) pe_int (fun _ _ => rfl)) pe_str (nomark _)))), ?_⟩
    cases p with
    | toss x y =>
      refine ⟨.ref t, rfl, t, _, 0, .str "toss", rfl, rfl, SqT.of et, atI_nat (j := 0) rfl, rfl, ?_⟩
      rw [decide_eq_true rfl]
      exact q
    | fin n =>
      refine ⟨.ref t, rfl, t, _, 0, .str "end", rfl, rfl, SqT.of et, atI_nat (j := 0) rfl, rfl, ?_⟩
      rw [decide_eq_false str_toss_end]
      exact q
    | never =>
      refine ⟨.ref t, rfl, t, _, 0, .str "never", rfl, rfl, SqT.of et, atI_nat (j := 0) rfl, rfl, ?_⟩
      rw [decide_eq_false str_toss_never]
      exact q
/-! ### tapes to all places that are reached -/
inductive Goes (ps : List Pl) (s : Int) : List Bool → Int → Prop
  | nil : Goes ps s [] s
  | heads {t : List Bool} {k x y : Int} : Goes ps s t k → place ps k = .toss x y → Goes ps s (t ++ [true]) x
  | tails {t : List Bool} {k x y : Int} : Goes ps s t k → place ps k = .toss x y → Goes ps s (t ++ [false]) y
theorem Goes.rch {ps : List Pl} {s k : Int} {t : List Bool} (h : Goes ps s t k) : Rch ps s k := by
  induction h with
  | nil => exact .here
  | heads _ e ih => exact ih.heads e
  | tails _ e ih => exact ih.tails e
def tent (e : Int × List Bool) : Key × V := (.inl e.1, .str (word e.2))
/-- what is found -/
structure Fd (ps : List Pl) (s : Int) (es : List (Int × List Bool)) : Prop where
  nd : (es.map (·.1)).Nodup
  go : ∀ e ∈ es, Goes ps s e.2 e.1
  ln : ∀ e ∈ es, e.2.length ≤ es.length
  hd : s ∈ es.map (·.1)
theorem Fd.len {ps : List Pl} (hw : WF ps) {s : Int} (hs : In ps s) {es : List (Int × List Bool)} (h : Fd ps s es) : es.length ≤ ps.length := by
  have := nodup_len ps.length (es.map (·.1)) h.nd fun x hx => by
    obtain ⟨e, he, rfl⟩ := List.mem_map.mp hx
    exact (h.go e he).rch.inn hw hs
  rwa [List.length_map] at this
theorem val_tents (k : Int) : ∀ es : List (Int × List Bool), valV (es.map tent) (.inl k) = (es.find? fun e => decide (e.1 = k)).map fun e => V.str (word e.2)
  | [] => rfl
  | e :: es => by
    by_cases h : e.1 = k
    · show valV (tent e :: es.map tent) _ = _
      rw [valV_pos (p := tent e) (show (tent e).1 = _ by rw [← h]; rfl), List.find?_cons_of_pos (by simpa using h)]
      rfl
    · show valV (tent e :: es.map tent) _ = _
      rw [valV_neg (p := tent e) (fun z => h (Sum.inl.inj z)), List.find?_cons_of_neg (by simpa using h)]
      exact val_tents k es
theorem val_mem {es : List (Int × List Bool)} (nd : (es.map (·.1)).Nodup) {e : Int × List Bool} (h : e ∈ es) : valV (es.map tent) (.inl e.1) = some (.str (word e.2)) := by
  rw [val_tents]
  induction es with
  | nil => cases h
  | cons f es ih =>
    rw [List.map_cons] at nd
    have nd' := List.nodup_cons.mp nd
    rcases List.mem_cons.mp h with rfl | h
    · rw [List.find?_cons_of_pos (by simp)]
      rfl
    · rw [List.find?_cons_of_neg]
      · exact ih nd'.2 h
      · intro z
        have z : f.1 = e.1 := by simpa using z
        exact nd'.1 (z ▸ List.mem_map_of_mem h)
theorem val_no {es : List (Int × List Bool)} {k : Int} : valV (es.map tent) (.inl k) = none ↔ k ∉ es.map (·.1) := by
  rw [val_tents, Option.map_eq_none_iff, List.find?_eq_none]
  constructor
  · intro h m
    obtain ⟨e, he, rfl⟩ := List.mem_map.mp m
    exact h e he (by simp)
  · intro h e he z
    have z : e.1 = k := by simpa using z
    exact h (z ▸ List.mem_map_of_mem he)
theorem put_new {es : List (Int × List Bool)} {k : Int} {t : List Bool} (h : k ∉ es.map (·.1)) : putK (es.map tent) (.inl k) (.str (word t)) = (es ++ [(k, t)]).map tent := by
  unfold putK
  rw [if_neg, List.map_append]
  · rfl
  · rw [valV_any, val_no.mpr h]
    simp
/-- one more place -/
theorem Fd.more {ps : List Pl} {s : Int} {es : List (Int × List Bool)} (h : Fd ps s es) {k z : Int} {t : List Bool} (b : Bool) (hk : (k, t) ∈ es) (g : Goes ps s (t ++ [b]) z) (nz : z ∉ es.map (·.1)) : Fd ps s (es ++ [(z, t ++ [b])]) where
  nd := by
    rw [List.map_append, List.nodup_append]
    refine ⟨h.nd, by simp, fun a ha c hc => ?_⟩
    rw [List.mem_singleton.mp hc]
    intro e
    subst e
    exact nz ha
  go := fun e he => by
    rcases List.mem_append.mp he with he | he
    · exact h.go e he
    · rw [List.mem_singleton.mp he]
      exact g
  ln := fun e he => by
    rw [List.length_append]
    rcases List.mem_append.mp he with he | he
    · exact Nat.le_trans (h.ln e he) (Nat.le_add_right _ _)
    · rw [List.mem_singleton.mp he]
      show (t ++ [b]).length ≤ _
      rw [List.length_append]
      exact Nat.add_le_add_right (h.ln _ hk) 1
  hd := by
    rw [List.map_append]
    exact List.mem_append_left _ h.hd
def spFind : Sp := fun vs H Q _ => ∃ (m : Addr) (s : Int) (ps : List Pl), vs = [.ref m, .int s] ∧ Mach H m ps ∧ WF ps ∧ In ps s ∧
  ∀ (D : Addr) (es : List (Int × List Bool)) H', Same H H' → H D = none → H' D = some (.dK (es.map tent)) → Fd ps s es → (∀ k, k ∈ es.map (·.1) ↔ Rch ps s k) → Q (.ref D) H'
theorem scFind : FnScope ["machine", "start", "tapes", "waiting", "at", "index", "side", "successor"] ["machine", "start"] (defScope sFind) := ⟨rfl, rfl, rfl, by decide +kernel, rfl, by decide +kernel, by decide +kernel⟩
theorem ok_find {f g : Addr} {fd gd : FuncData} (F : Fun K "find_tapes" "find_tapes" sFind f fd) (T : Names mg) (GT : FnOk P w K mg base CX0 1 g gd ["state"] spToss) (PT_ : Def K mg "is_toss" g gd ["state"]) : FnOk P w K mg base CX0 2 f fd ["machine", "start"] spFind := by
  refine F.ok scFind (fun vs H Q E h => ?_) (fun cdv A outer s H vs Q E hr h => ?_)
  · obtain ⟨m, st, ps, rfl, _⟩ := h
    rfl
  · obtain ⟨m, st, ps, rfl, hm, hw, hs, q⟩ := h
    have hu64 : A.units + 3 + 64 < cLine := hr.units
    have hu : A.units + 3 + 1 < cLine := by omega
    refine ⟨_, (pss_cons (ps_set (i := 2) scFind.nd rfl (.inl rfl) (pe_disp (pps_cons (pv 1) pe_str pps_nil) (by rfl) (by rfl) (fun z => by cases z) (by decide)))
      (pss_cons (ps_set (i := 3) scFind.nd rfl (.inl rfl) (pe_lst (pa_cons (pv 1) pa_nil)))
      (pss_cons (ps_set (i := 4) scFind.nd rfl (.inl rfl) pe_int)
      (pss_cons (ps_while PassesOwn.never (pt_cmpR op_lt (pv 4) (pe_callB call_len_seq (by rfl) T.len PySem.boot_len (pa_cons (pv 3) pa_nil)) (nomark _)) (pss_cons (ps_set (i := 5) scFind.nd rfl (.inl rfl) (pe_ix ix_list (pv 3) (pv 4) (fun _ _ => rfl)))
      (pss_cons (ps_aug (i := 4) scFind.nd rfl (.inl rfl) pe_int ip_add)
      (pss_one (ps_if (pt_val (pe_call GT (hr.mono (by decide)) (by rfl) PT_.is PT_.kp PT_.bi .nil pass0 (pa_cons (pe_ix ix_tup (pv 0) (pv 5) (fun _ _ => rfl)) pa_nil))) (pss_one (ps_for PassesOwn.never rfl (pi_tup (pe_tup (pa_cons (pe_tup (pa_cons pe_str (pa_cons (pe_ix ix_tup (pe_ix ix_tup (pv 0) (pv 5) (fun _ _ => rfl)) pe_int (fun _ _ => rfl)) pa_nil))) (pa_cons (pe_tup (pa_cons pe_str (pa_cons (pe_ix ix_tup (pe_ix ix_tup (pv 0) (pv 5) (fun _ _ => rfl)) pe_int (fun _ _ => rfl)) pa_nil))) pa_nil)))) (pg_tup rfl (pgs_cons (pg_name (i := 6) scFind.nd rfl (.inl rfl)) (pgs_cons (pg_name (i := 7) scFind.nd rfl (.inl rfl)) pgs_nil))) (pss_one (ps_if (pt_cmp (pc_dnotin hu (pv 7) (pv 2))) (pss_cons (ps_dput hu (pv 2) (pv 7) (pe_op op_add_str (pe_dget hu (pv 2) (pv 5) (fun _ _ => rfl)) (pv 6)) rfl)
      (pss_one (ps_expr (pe_bm PySem.F.plainAttrs_list PySem.F.slot_list_append PySem.F.type_list_append mt_append (pv 3) (pa_cons (pv 7) pa_nil))))) pss_nil)))) pss_nil)))))
      (pss_one (ps_ret (pv 2))))))), ?_⟩
    have line : sizeLine = 16777216 := by decide
    have hl := hw.le
    refine fun D nD => ⟨_, rfl, upd_same, [(.inl st, .str "")], rfl, by show 1 ≤ 15; decide, ?_⟩
    have eE : PySem.Str.ofString "" = word [] := str_ext (by rw [word_list]; decide +kernel)
    have s1 : Same H (upd (upd H D (.dK [])) D (.dK (mergeK [] [(.inl st, .str "")]))) := fun b o e => by
      rw [upd_ne (ne_of_none e nD), upd_ne (ne_of_none e nD)]
      exact e
    have eD : upd (upd H D (.dK [])) D (.dK (mergeK [] [(.inl st, .str "")])) D = some (.dK ([(st, ([] : List Bool))].map tent)) := by
      rw [upd_same]
      show some (HO.dK [((.inl st : Key), V.str (PySem.Str.ofString ""))]) = _
      rw [eE]
      rfl
    change (_ : Hp → Prop) (upd (upd H D (.dK [])) D (.dK (mergeK [] [(.inl st, .str "")])))
    generalize upd (upd H D (.dK [])) D (.dK (mergeK [] [(.inl st, .str "")])) = H1 at s1 eD ⊢
    refine ⟨_, rfl, by show 1 ≤ sizeLine; decide, fun W nW => ?_⟩
    have DW : D ≠ W := ne_of_none eD nW
    have s2 := s1.trans (Same.upd (o := .lst [V.int st]) nW)
    have eD2 := (Same.upd (o := .lst [V.int st]) nW) _ _ eD
    have eW : upd H1 W (.lst [V.int st]) W = some (.lst (([(st, ([] : List Bool))].map (·.1)).map V.int)) := upd_same
    have nW0 : H W = none := s1.free nW
    change (_ : Hp → Prop) (upd H1 W (.lst [V.int st]))
    generalize upd H1 W (.lst [V.int st]) = H2 at s2 eD2 eW ⊢
    have fd0 : Fd ps st [(st, [])] := ⟨by simp, fun e he => by rw [List.mem_singleton.mp he]; exact .nil, fun e he => by rw [List.mem_singleton.mp he]; exact Nat.zero_le _, by simp⟩
    refine ⟨fun n σ H' => ∃ (i : Nat) (es : List (Int × List Bool)) (v5 v6 v7 : Option V), n = ps.length - i ∧ i ≤ es.length ∧ σ = [some (V.ref m), some (V.int st), some (V.ref D), some (V.ref W), some (V.int (i : Nat)), v5, v6, v7] ∧ Same H H' ∧ H' D = some (.dK (es.map tent)) ∧ H' W = some (.lst ((es.map (·.1)).map V.int)) ∧ Fd ps st es ∧ ∀ j k x y, j < i → (es.map (·.1))[j]? = some k → place ps k = .toss x y → x ∈ es.map (·.1) ∧ y ∈ es.map (·.1),
      ⟨ps.length, 0, [(st, [])], none, none, none, rfl, Nat.zero_le _, rfl, s2, eD2, eW, fd0, fun j k x y hj => absurd hj (Nat.not_lt_zero _)⟩, ?_⟩
    rintro n σ H3 ⟨i, es, v5, v6, v7, rfl, hi, rfl, s3, e3, w3, fd, cl⟩
    have hel := fd.len hw hs
    refine ⟨_, rfl, _, rfl, W, _, rfl, .inl (SqL.of w3), _, _, rfl, rfl, _, rfl, ?_⟩
    rw [List.length_map, List.length_map]
    by_cases lt : i < es.length
    · rw [decide_eq_true (show (i : Int) < (es.length : Nat) by omega)]
      refine iteT ?_
      obtain ⟨⟨k, t⟩, hk⟩ : ∃ e, es[i]? = some e := ⟨es[i], List.getElem?_eq_getElem lt⟩
      have hmem : (k, t) ∈ es := List.mem_of_getElem? hk
      have hgo := fd.go _ hmem
      have hink : In ps k := hgo.rch.inn hw hs
      have hki : (es.map (·.1))[i]? = some k := by rw [List.getElem?_map, hk]; rfl
      obtain ⟨rs, tt, em, ea, et⟩ := (hm.same s3).at hw hink.1 hink.2
      refine ⟨fun σ H' => ∃ (es' : List (Int × List Bool)) (v5 v6 v7 : Option V), i + 1 ≤ es'.length ∧ σ = [some (V.ref m), some (V.int st), some (V.ref D), some (V.ref W), some (V.int ((i + 1 : Nat) : Int)), v5, v6, v7] ∧ Same H H' ∧ H' D = some (.dK (es'.map tent)) ∧ H' W = some (.lst ((es'.map (·.1)).map V.int)) ∧ Fd ps st es' ∧ ∀ j k x y, j < i + 1 → (es'.map (·.1))[j]? = some k → place ps k = .toss x y → x ∈ es'.map (·.1) ∧ y ∈ es'.map (·.1), ?_, ?_⟩
      · rintro σ' H' ⟨es', v5, v6, v7, h1, h2, h3, h4, h5, h6, h7⟩
        exact ⟨ps.length - (i + 1), by omega, i + 1, es', v5, v6, v7, rfl, h1, h2, h3, h4, h5, h6, h7⟩
      · refine ⟨_, rfl, _, rfl, W, _, _, .int k, rfl, rfl, SqL.of w3, atI_nat (by rw [List.getElem?_map, hki]; rfl), _, rfl, _, _, rfl, rfl, ?_⟩
        refine ⟨_, rfl, _, rfl, m, rs, k, .ref tt, rfl, rfl, SqT.of em, ea, tt, _, rfl, et, _, rfl, ?_⟩
        cases e : place ps k with
        | fin n =>
          refine iteF ⟨es, some (.int k), v6, v7, lt, rfl, s3, e3, w3, fd, fun j k' x y hj hk' hp => ?_⟩
          rcases Nat.lt_or_ge j i with l | l
          · exact cl j k' x y l hk' hp
          · have ej : j = i := by omega
            rw [ej, hki] at hk'
            cases hk'
            rw [e] at hp
            cases hp
        | never =>
          refine iteF ⟨es, some (.int k), v6, v7, lt, rfl, s3, e3, w3, fd, fun j k' x y hj hk' hp => ?_⟩
          rcases Nat.lt_or_ge j i with l | l
          · exact cl j k' x y l hk' hp
          · have ej : j = i := by omega
            rw [ej, hki] at hk'
            cases hk'
            rw [e] at hp
            cases hp
        | toss x y =>
          rw [e] at et
          refine iteT ⟨_, rfl, _, rfl, m, rs, k, .ref tt, rfl, rfl, SqT.of em, ea, tt, _, 1, .int x, rfl, rfl, SqT.of et, atI_nat (j := 1) rfl, by show 2 ≤ sizeLine; decide, fun T1 n1 => ?_⟩
          have q1 := Same.upd (o := .tup [V.str (PySem.Str.ofString "H"), .int x]) n1
          have f1 : upd H3 T1 (.tup [V.str (PySem.Str.ofString "H"), .int x]) T1 = some (.tup [V.str (sg true), .int x]) := upd_same
          change (_ : Hp → Prop) (upd H3 T1 (.tup [V.str (PySem.Str.ofString "H"), .int x]))
          generalize upd H3 T1 (.tup [V.str (PySem.Str.ofString "H"), .int x]) = H4 at q1 f1 ⊢
          refine ⟨_, rfl, _, rfl, m, rs, k, .ref tt, rfl, rfl, SqT.of (q1 _ _ em), ea, tt, _, 2, .int y, rfl, rfl, SqT.of (q1 _ _ et), atI_nat (j := 2) rfl, by show 2 ≤ sizeLine; decide, fun T2 n2 => ?_⟩
          have q2 := Same.upd (o := .tup [V.str (PySem.Str.ofString "T"), .int y]) n2
          have f2 : upd H4 T2 (.tup [V.str (PySem.Str.ofString "T"), .int y]) T2 = some (.tup [V.str (sg false), .int y]) := upd_same
          change (_ : Hp → Prop) (upd H4 T2 (.tup [V.str (PySem.Str.ofString "T"), .int y]))
          generalize upd H4 T2 (.tup [V.str (PySem.Str.ofString "T"), .int y]) = H5 at q2 f2 ⊢
          refine ⟨by show 2 ≤ sizeLine; decide, fun T0 n0 => ?_⟩
          have q0 := Same.upd (o := .tup [V.ref T1, .ref T2]) n0
          have f0 : upd H5 T0 (.tup [V.ref T1, .ref T2]) T0 = some (.tup [V.ref T1, .ref T2]) := upd_same
          change (_ : Hp → Prop) (upd H5 T0 (.tup [V.ref T1, .ref T2]))
          have q123 := (q1.trans q2).trans q0
          replace f1 := q0 _ _ (q2 _ _ f1)
          replace f2 := q0 _ _ f2
          generalize upd H5 T0 (.tup [V.ref T1, .ref T2]) = H6 at q123 f0 f1 f2 ⊢
          have q3 := s3.trans q123
          replace e3 := q123 _ _ e3
          replace w3 := q123 _ _ w3
          refine ⟨T0, rfl, ⟨_, SqT.of f0⟩, for_tup (K := K) (a := T0) (xs := [V.ref T1, .ref T2]) (fun j σ H' => ∃ (es' : List (Int × List Bool)) (v6 v7 : Option V), σ = [some (V.ref m), some (V.int st), some (V.ref D), some (V.ref W), some (V.int ((i + 1 : Nat) : Int)), some (V.int k), v6, v7] ∧ Same H H' ∧ H' D = some (.dK (es'.map tent)) ∧ H' W = some (.lst ((es'.map (·.1)).map V.int)) ∧ H' T0 = some (.tup [V.ref T1, .ref T2]) ∧ H' T1 = some (.tup [V.str (sg true), .int x]) ∧ H' T2 = some (.tup [V.str (sg false), .int y]) ∧ Fd ps st es' ∧ (∃ ex, es' = es ++ ex) ∧ (1 ≤ j → x ∈ es'.map (·.1)) ∧ (2 ≤ j → y ∈ es'.map (·.1))) ⟨es, v6, v7, rfl, q3, e3, w3, f0, f1, f2, fd, ⟨[], by simp⟩, fun h => absurd h (by decide), fun h => absurd h (by decide)⟩ (fun j σ H' _ ⟨_, _, _, _, _, _, _, h, _⟩ => SqT.of h) ?_ ?_⟩
          · rintro j v σ H7 hj ⟨es', v6, v7, rfl, s7, e7, w7, g0, g1, g2, fd7, ⟨ex, hex⟩, c1, c2⟩
            have hmem7 : (k, t) ∈ es' := by rw [hex]; exact List.mem_append_left _ hmem
            obtain ⟨Tj, b, z, rfl, gj, goz, nx1, nx2⟩ : ∃ (Tj : Addr) (b : Bool) (z : Int), v = .ref Tj ∧ H7 Tj = some (.tup [V.str (sg b), .int z]) ∧ Goes ps st (t ++ [b]) z ∧ (1 ≤ j + 1 → x = z ∨ x ∈ es'.map (·.1)) ∧ (2 ≤ j + 1 → y = z ∨ y ∈ es'.map (·.1)) := by
              match j, hj with
              | 0, hj =>
                cases hj
                exact ⟨T1, true, x, rfl, g1, hgo.heads e, fun _ => .inl rfl, fun h => absurd h (by decide)⟩
              | 1, hj =>
                cases hj
                exact ⟨T2, false, y, rfl, g2, hgo.tails e, fun _ => .inr (c1 (by decide)), fun _ => .inl rfl⟩
              | j + 2, hj => cases hj
            have hsz : es'.length < sizeLine := by
              have := fd7.len hw hs
              omega
            refine ⟨Tj, _, rfl, SqT.of gj, rfl, _, _, rfl, _, _, rfl, rfl, _, rfl, _, rfl, D, _, rfl, DGet.k (k := .inl z) e7, _, rfl, ?_⟩
            by_cases hz : z ∈ es'.map (·.1)
            · have : valV (es'.map tent) (.inl z) ≠ none := fun h => val_no.mp h hz
              obtain ⟨u, hu'⟩ := Option.ne_none_iff_exists'.mp this
              rw [hu']
              refine iteF ⟨es', _, _, rfl, s7, e7, w7, g0, g1, g2, fd7, ⟨ex, hex⟩, fun h => ?_, fun h => ?_⟩
              · rcases nx1 h with rfl | h
                · exact hz
                · exact h
              · rcases nx2 h with rfl | h
                · exact hz
                · exact h
            · rw [val_no.mpr hz]
              have vk : valV (es'.map tent) (.inl k) = some (.str (word t)) := val_mem fd7.nd hmem7
              have tl : t.length ≤ 30 := by
                have := fd7.ln _ hmem7
                have := fd7.len hw hs
                have h3 : (k, t).2.length = t.length := rfl
                omega
              refine iteT ⟨_, rfl, _, rfl, D, .str (word t), rfl, by rw [← vk]; exact DGet.k (k := .inl k) e7, _, rfl, _, _, rfl, rfl, by rw [word_len, sg_len]; omega, ?_⟩
              rw [word_snoc]
              have w8 : upd H7 D (.dK (putK (es'.map tent) (.inl z) (.str (word (t ++ [b]))))) W = some (.lst ((es'.map (·.1)).map V.int)) := by
                rw [upd_ne DW.symm]
                exact w7
              have nT : ∀ {q : Addr} {xs : List V}, H7 q = some (.tup xs) → q ≠ D ∧ q ≠ W := fun h => ⟨ne_of h e7 (by intro z; cases z), ne_of h w7 (by intro z; cases z)⟩
              refine ⟨_, rfl, _, rfl, D, _, rfl, DPut.k (k := .inl z) e7 (by rw [List.length_map]; exact hsz), _, rfl, .inl ⟨rfl, _, SqL.of w8⟩, _, rfl, W, _, _, rfl, rfl, w8, by rw [List.length_map, List.length_map]; exact hsz, ?_⟩
              refine ⟨es' ++ [(z, t ++ [b])], some (.str (sg b)), some (.int z), rfl, ?_, ?_, ?_, ?_, ?_, ?_, fd7.more b hmem7 goz hz, ⟨ex ++ [(z, t ++ [b])], by rw [hex, List.append_assoc]⟩, fun h => ?_, fun h => ?_⟩
              · intro c o h
                rw [upd_ne (ne_of_none h nW0), upd_ne (ne_of_none h nD)]
                exact s7 _ _ h
              · rw [upd_ne DW, upd_same, put_new hz]
              · rw [upd_same, List.map_append, List.map_append]
                rfl
              · rw [upd_ne (nT g0).2, upd_ne (nT g0).1]
                exact g0
              · rw [upd_ne (nT g1).2, upd_ne (nT g1).1]
                exact g1
              · rw [upd_ne (nT g2).2, upd_ne (nT g2).1]
                exact g2
              · rw [List.map_append]
                rcases nx1 h with rfl | h
                · exact List.mem_append_right _ List.mem_cons_self
                · exact List.mem_append_left _ h
              · rw [List.map_append]
                rcases nx2 h with rfl | h
                · exact List.mem_append_right _ List.mem_cons_self
                · exact List.mem_append_left _ h
          · rintro σ H7 ⟨es', v6, v7, rfl, s7, e7, w7, g0, g1, g2, fd7, ⟨ex, hex⟩, c1, c2⟩
            refine ⟨es', some (.int k), v6, v7, ?_, rfl, s7, e7, w7, fd7, fun j k' a b hj hk' hp => ?_⟩
            · rw [hex, List.length_append]
              omega
            · rcases Nat.lt_or_ge j i with l | l
              · rw [hex, List.map_append, List.getElem?_append_left (by rw [List.length_map]; omega)] at hk'
                obtain ⟨ca, cb⟩ := cl j k' a b l hk' hp
                rw [hex, List.map_append]
                exact ⟨List.mem_append_left _ ca, List.mem_append_left _ cb⟩
              · have ej : j = i := by omega
                rw [ej, hex, List.map_append, List.getElem?_append_left (by rw [List.length_map]; omega), hki] at hk'
                cases hk'
                rw [e] at hp
                cases hp
                exact ⟨c1 (by show 1 ≤ 2; decide), c2 (by show 2 ≤ 2; decide)⟩
    · rw [decide_eq_false (show ¬ (i : Int) < (es.length : Nat) by omega)]
      refine iteF ⟨_, rfl, q D es H3 s3 nD e3 fd fun k => ⟨fun hk => ?_, fun hk => ?_⟩⟩
      · obtain ⟨e, he, rfl⟩ := List.mem_map.mp hk
        exact (fd.go e he).rch
      · refine hk.all (S := fun k => k ∈ es.map (·.1)) fd.hd fun a x y ha hp => ?_
        obtain ⟨j, hj, ej⟩ := List.getElem_of_mem ha
        rw [List.length_map] at hj
        exact cl j a x y (by omega) (by rw [List.getElem?_eq_getElem (by rw [List.length_map]; exact hj), ej]) hp
end
end Z

set_option Elab.async false
set_option linter.all false
set_option maxRecDepth 100000
set_option maxHeartbeats 4000000
/-! rules with the written part named, for use within comprehensions -/
namespace KX
open PySem PySem.Spec PyProof.Rows L2 GG
theorem ix_tupK {X : Cx} {K : PySem.W.Frag} (hK : X.K = K) : IxR X (rIxT K) := by
  subst hK
  exact ix_tup
theorem ix_listK {X : Cx} {K : PySem.W.Frag} (hK : X.K = K) : IxR X (rIxL K) := by
  subst hK
  exact ix_list
theorem call_tupK {X : Cx} {K : PySem.W.Frag} (hK : X.K = K) : CallR X (.type "tuple") (fun vs H Q => ∃ p ys, vs = [.ref p] ∧ ((SqL K H p ys ∧ ∀ l, H l = none → Q (.ref l) (upd H l (.tup ys))) ∨ (SqT K H p ys ∧ Q (.ref p) H))) := by
  subst hK
  exact call_tuple_of
theorem call_listK {X : Cx} {K : PySem.W.Frag} (hK : X.K = K) : CallR X (.type "list") (fun xs H Q => ∃ p ys, xs = [.ref p] ∧ (SqL K H p ys ∨ SqT K H p ys) ∧ ∀ l, H l = none → Q (.ref l) (upd H l (.lst ys))) := by
  subst hK
  exact call_list_of
theorem op_inK {X : Cx} {K : PySem.W.Frag} (hK : X.K = K) : OpR X (compareOp .In) (rIn K false) := by
  subst hK
  exact op_in_seq
theorem op_notInK {X : Cx} {K : PySem.W.Frag} (hK : X.K = K) : OpR X (compareOp .NotIn) (rIn K true) := by
  subst hK
  exact op_notIn_seq
end KX

set_option Elab.async false
set_option linter.all false
set_option maxRecDepth 100000
set_option maxHeartbeats 4000000
namespace Z
open PySem PySem.Spec PyProof.Rows L2 GG
abbrev sReach : Stmt := top 9
abbrev sDist : Stmt := top 11
section
variable {P : Program} {w : World} {K : PySem.W.Frag} {mg : Str → Option Value} {base : Heap}
structure NamesG (mg : Str → Option Value) : Prop extends Names mg where
  sorted : mg "sorted" = none
  enumerate : mg "enumerate" = none
def spReach : Sp := fun vs H Q _ => ∃ (m : Addr) (ps : List Pl), vs = [.ref m] ∧ Mach H m ps ∧ WF ps ∧ ∀ (t : Addr) (ks : List Int) H', Same H H' → H t = none → H' t = some (.tup (ks.map V.int)) → Places ps 0 ks → Q (.ref t) H'
theorem scReach : FnScope ["machine"] ["machine"] (defScope sReach) := ⟨rfl, rfl, rfl, by decide +kernel, rfl, by decide +kernel, by decide +kernel⟩
theorem in_zero {ps : List Pl} (hw : WF ps) : In ps 0 := ⟨by decide, by have := hw.ne; omega⟩
theorem ok_reach {f g : Addr} {fd gd : FuncData} (F : Fun K "reachable_states" "reachable_states" sReach f fd) (T : NamesG mg) (GF : FnOk P w K mg base CX0 2 g gd ["machine", "start"] spFind) (PF_ : Def K mg "find_tapes" g gd ["machine", "start"]) : FnOk P w K mg base CX0 3 f fd ["machine"] spReach := by
  refine F.ok scReach (fun vs H Q E h => ?_) (fun cdv A outer s H vs Q E hr h => ?_)
  · obtain ⟨m, ps, rfl, _⟩ := h
    rfl
  · obtain ⟨m, ps, rfl, hm, hw, q⟩ := h
    refine ⟨_, (pss_one (ps_ret (pe_callTy call_tuple_of (by rfl) T.tuple (by decide +kernel) (pa_cons (pe_callB (call_sortedDI rfl) (by rfl) T.sorted (by decide +kernel) (pa_cons (pe_call GF (hr.mono (by decide)) (by rfl) PF_.is PF_.kp PF_.bi .nil pass0 (pa_cons (pv 0) (pa_cons pe_int pa_nil))) pa_nil)) pa_nil)))), ?_⟩
    refine ⟨_, rfl, m, 0, ps, rfl, hm, hw, in_zero hw, fun D es H1 s1 nD eD fd hr => ?_⟩
    have hl := fd.len hw (in_zero hw)
    have h30 := hw.le
    refine ⟨D, _, es.map (·.1), rfl, .inl eD, by rw [List.map_map, List.map_map]; rfl, by rw [List.length_map]; omega, fun ys p pm pw np => ?_⟩
    refine ⟨p, _, rfl, .inl ⟨SqL.of upd_same, fun t nt => ?_⟩⟩
    have s2 := Same.upd (o := .lst (ys.map V.int)) np
    have s3 := Same.upd (o := .tup (ys.map V.int)) nt
    exact q t ys _ ((s1.trans s2).trans s3) ((s1.trans s2).free nt) upd_same (places_of fd.nd hr pm pw)
/-! distances -/
def dV : Option Nat → V
  | some j => .int (j : Nat)
  | none => .non
def dl (ps : List Pl) (n d i : Nat) : List V := (List.range n).map fun k => dV (lvl ps (if k < i then d + 1 else d) ((k : Nat) : Int))
theorem dl_len (ps : List Pl) (n d i : Nat) : (dl ps n d i).length = n := by simp [dl]
theorem dl_get {ps : List Pl} {n d i k : Nat} (h : k < n) : (dl ps n d i)[k]? = some (dV (lvl ps (if k < i then d + 1 else d) ((k : Nat) : Int))) := by
  unfold dl
  rw [List.getElem?_map, List.getElem?_range h]
  rfl
theorem dl_skip {ps : List Pl} {n d i : Nat} (e : lvl ps (d + 1) ((i : Nat) : Int) = lvl ps d ((i : Nat) : Int)) : dl ps n d i = dl ps n d (i + 1) := by
  unfold dl
  refine List.map_congr_left fun k _ => ?_
  rcases Nat.lt_trichotomy k i with a | a | a
  · rw [if_pos a, if_pos (by omega)]
  · subst a
    rw [if_neg (Nat.lt_irrefl _), if_pos (Nat.lt_succ_self _), e]
  · rw [if_neg (by omega), if_neg (by omega)]
theorem dl_set {ps : List Pl} {n d i : Nat} : (dl ps n d i).set i (dV (lvl ps (d + 1) ((i : Nat) : Int))) = dl ps n d (i + 1) := by
  refine List.ext_getElem? fun k => ?_
  rw [List.getElem?_set]
  rcases Nat.lt_or_ge k n with l | l
  · rcases Nat.lt_trichotomy k i with a | a | a
    · rw [if_neg (by omega), dl_get l, dl_get l, if_pos a, if_pos (by omega)]
    · subst a
      rw [if_pos rfl, dl_len, if_pos l, dl_get l, if_pos (Nat.lt_succ_self _)]
    · rw [if_neg (by omega), dl_get l, dl_get l, if_neg (by omega), if_neg (by omega)]
  · have h1 : (dl ps n d i)[k]? = none := List.getElem?_eq_none (by rw [dl_len]; exact l)
    have h2 : (dl ps n d (i + 1))[k]? = none := List.getElem?_eq_none (by rw [dl_len]; exact l)
    rw [h1, h2, dl_len]
    by_cases a : i = k
    · rw [if_pos a, if_neg (by omega)]
    · rw [if_neg a]
theorem dl_end (ps : List Pl) (n d : Nat) : dl ps n d n = dl ps n (d + 1) 0 := by
  unfold dl
  refine List.map_congr_left fun k hk => ?_
  rw [if_pos (List.mem_range.mp hk), if_neg (Nat.not_lt_zero _)]
theorem dl_flat (ps : List Pl) (n d i : Nat) : (dl ps n d i).all flatV = true := by
  unfold dl
  rw [List.all_map, List.all_eq_true]
  intro k _
  show flatV (dV _) = true
  cases lvl ps (if k < i then d + 1 else d) ((k : Nat) : Int) <;> rfl
theorem pl_at {H : Hp} {rs : List V} {ps : List Pl} (pl : Pls H rs ps) {i : Nat} {x : V} (hx : rs[i]? = some x) : i < ps.length ∧ ∃ t, x = .ref t ∧ H t = some (.tup (place ps ((i : Nat) : Int)).row) := by
  have hi : i < ps.length := by
    have := (List.getElem?_eq_some_iff.mp hx).1
    rwa [pl.len] at this
  have hp : ps[i]? = some ps[i] := List.getElem?_eq_getElem hi
  obtain ⟨t, ht, et⟩ := pl.get hp
  rw [hx] at ht
  refine ⟨hi, t, Option.some.inj ht, ?_⟩
  rw [place_get (p := ps[i]) (by rw [Int.toNat_natCast]; exact hp)]
  exact et
theorem eq_dV (d : Nat) (o : Option Nat) : eqV (dV o) (.int (d : Nat)) = decide (o = some d) := by
  cases o with
  | none => rfl
  | some j =>
    show ((j : Int) == (d : Int)) = _
    by_cases e : j = d
    · subst e
      simp
    · rw [decide_eq_false (by intro z; exact e (Option.some.inj z))]
      have e2 : ((j : Int) == (d : Int)) = false := by
        rw [beq_eq_false_iff_ne]
        omega
      exact e2
theorem in_two (d : Nat) (o u : Option Nat) : inV (.int (d : Nat)) [dV o, dV u] = (decide (o = some d) || decide (u = some d)) := by
  show (eqV _ _ || (eqV _ _ || false)) = _
  rw [eq_dV, eq_dV, Bool.or_false]
theorem place_in {ps : List Pl} {i : Nat} (hi : i < ps.length) : In ps ((i : Nat) : Int) := ⟨by omega, by omega⟩
theorem lvl_same {ps : List Pl} {d : Nat} {k : Int} {j : Nat} (h : lvl ps d k = some j) : lvl ps (d + 1) k = lvl ps d k := by
  rw [lvl_succ, h]
theorem lvl_still {ps : List Pl} {d : Nat} {k : Int} (h : lvl ps d k = none) (e : eB ps (d + 1) k = false) : lvl ps (d + 1) k = lvl ps d k := by
  rw [lvl_succ, h, e]
  rfl
def spDist : Sp := fun vs H Q _ => ∃ (m : Addr) (ps : List Pl), vs = [.ref m] ∧ Mach H m ps ∧ WF ps ∧ ∀ (t : Addr) H', Same H H' → H t = none → H' t = some (.tup (dl ps ps.length (ps.length - 1) 0)) → Q (.ref t) H'
theorem scDist : FnScope ["machine", "distances", "distance", "index", "state"] ["machine"] (defScope sDist) := ⟨rfl, rfl, rfl, by decide +kernel, rfl, by decide +kernel, by decide +kernel⟩
theorem ok_dist {f g : Addr} {fd gd : FuncData} (F : Fun K "end_distances" "end_distances" sDist f fd) (T : NamesG mg) (GT : FnOk P w K mg base CX0 1 g gd ["state"] spToss) (PT_ : Def K mg "is_toss" g gd ["state"]) : FnOk P w K mg base CX0 2 f fd ["machine"] spDist := by
  refine F.ok scDist (fun vs H Q E h => ?_) (fun cdv A outer s H vs Q E hr h => ?_)
  · obtain ⟨m, ps, rfl, _⟩ := h
    rfl
  · obtain ⟨m, ps, rfl, hm, hw, q⟩ := h
    refine ⟨_, (pss_cons (ps_setLc (i := 1) (own := [("state", 4)]) (g := gName 4) (tt := tYes) rfl scDist.nd rfl rfl (sw_true rfl rfl rfl (by decide +kernel)) (pi_tup (pv 0)) (blkOk_by (N := ["machine", "distances", "distance", "index", "state"]) (sc := defScope sDist) (own := [("state", 4)]) (by decide +kernel)) (fun _ _ _ _ _ => (pg_name (i := 4) scDist.nd rfl (.inl rfl))) (fun _ _ _ _ _ => pts_nil) (fun _ _ _ _ _ => (pe_ifExp (pt_cmpR op_eq (pe_ix (KX.ix_tupK (K := K) rfl) (pv 4) pe_int (fun _ _ => rfl)) pe_str (nomark _)) pe_int pe_non)))
      (pss_cons (ps_for PassesOwn.never rfl (pi_range2 rfl T.range (pa_cons pe_int (pa_cons (pe_callB call_len_seq (by rfl) T.len PySem.boot_len (pa_cons (pv 0) pa_nil)) pa_nil))) (pg_name (i := 2) scDist.nd rfl (.inl rfl)) (pss_one (ps_for PassesOwn.never rfl (EN.pi_pairs (by rfl) T.enumerate (pa_cons (pv 0) pa_nil)) (pg_tup rfl (pgs_cons (pg_name (i := 3) scDist.nd rfl (.inl rfl)) (pgs_cons (pg_name (i := 4) scDist.nd rfl (.inl rfl)) pgs_nil))) (pss_one (ps_if (PW.pt (pw_and (pt_cmpR op_isN (pe_ix ix_list (pv 1) (pv 3) (fun _ _ => rfl)) pe_non (nomark _)) (pw_and1 (pt_val (pe_call GT (hr.mono (by decide)) (by rfl) PT_.is PT_.kp PT_.bi .nil pass0 (pa_cons (pv 4) pa_nil)))))) (pss_one (ps_if (pt_cmpR op_in_seq (pe_op op_sub (pv 2) pe_int) (pe_tup (pa_cons (pe_ix ix_list (pv 1) (pe_ix ix_tup (pv 4) pe_int (fun _ _ => rfl)) (fun _ _ => rfl)) (pa_cons (pe_ix ix_list (pv 1) (pe_ix ix_tup (pv 4) pe_int (fun _ _ => rfl)) (fun _ _ => rfl)) pa_nil))) (by rfl)) (pss_one (ps_asg (pv 2) (pg_sub (pv 1) (pv 3) set_list))) pss_nil)) pss_nil)))))
      (pss_one (ps_ret (pe_callTy call_tuple_of (by rfl) T.tuple (by decide +kernel) (pa_cons (pv 1) pa_nil)))))), ?_⟩
    have line : sizeLine = 16777216 := by decide
    have hl := hw.le
    obtain ⟨rs, em, pl⟩ := id hm
    have rl := pl.len
    refine ⟨_, rfl, m, rfl, ⟨_, SqT.of em⟩, fun D nD => ?_⟩
    refine lc_tup (K := K) (a := m) (xs := rs) (fun i Hx => Same H Hx ∧ Hx D = some (.lst ((dl ps ps.length 0 0).take i))) ⟨Same.upd nD, upd_same⟩ (fun i Hx _ h => SqT.of (h.1 _ _ em)) ?_ ?_
    · rintro i x H1 hx ⟨s1, e1⟩
      obtain ⟨hi, t, rfl, et⟩ := pl_at pl hx
      refine ⟨rfl, ?_⟩
      dsimp only [tYes]
      refine iteT ?_
      have go : ∀ z : V, z = dV (lvl ps 0 ((i : Nat) : Int)) → ∃ acc, H1 D = some (.lst acc) ∧ acc.length < sizeLine ∧ (Same H (upd H1 D (.lst (acc ++ [z]))) ∧ upd H1 D (.lst (acc ++ [z])) D = some (.lst ((dl ps ps.length 0 0).take (i + 1)))) := fun z hz => by
        refine ⟨_, e1, by rw [List.length_take]; omega, fun b o e => by rw [upd_ne (ne_of_none e nD)]; exact s1 _ _ e, ?_⟩
        rw [upd_same, List.take_succ, dl_get hi, if_neg (Nat.not_lt_zero _), hz]
        rfl
      have l0 : lvl ps 0 ((i : Nat) : Int) = if eB ps 0 ((i : Nat) : Int) then some 0 else none := by
        show List.find? _ [0] = _
        rw [List.find?_cons]
        cases eB ps 0 ((i : Nat) : Int) <;> rfl
      cases e : place ps ((i : Nat) : Int) with
      | fin n =>
        rw [e] at et
        refine ⟨.ref t, rfl, t, _, 0, .str "end", rfl, rfl, SqT.of (s1 _ _ et), atI_nat (j := 0) rfl, rfl, _, rfl, ?_⟩
        rw [decide_eq_true rfl]
        exact iteT (go _ (by rw [l0, eB, e]; rfl))
      | toss x y =>
        rw [e] at et
        refine ⟨.ref t, rfl, t, _, 0, .str "toss", rfl, rfl, SqT.of (s1 _ _ et), atI_nat (j := 0) rfl, rfl, _, rfl, ?_⟩
        rw [decide_eq_false str_end_toss]
        exact iteF (go _ (by rw [l0, eB, e]; rfl))
      | never =>
        rw [e] at et
        refine ⟨.ref t, rfl, t, _, 0, .str "never", rfl, rfl, SqT.of (s1 _ _ et), atI_nat (j := 0) rfl, rfl, _, rfl, ?_⟩
        rw [decide_eq_false str_end_never]
        exact iteF (go _ (by rw [l0, eB, e]; rfl))
    · rintro H1 ⟨s1, e1⟩
      rw [rl, List.take_of_length_le (by rw [dl_len]; exact Nat.le_refl _)] at e1
      have n1 := hw.ne
      refine ⟨_, rfl, m, _, rfl, .inr (SqT.of (s1 _ _ em)), 1, ((ps.length : Nat) : Int), by rw [rl], ⟨by decide, by decide, by omega, by omega⟩, ?_⟩
      rw [show (((ps.length : Nat) : Int) - 1).toNat = ps.length - 1 by omega]
      refine for_range (lo := 1) (n := ps.length - 1) (fun d σ H' => ∃ v2 v3 v4 : Option V, σ = [some (V.ref m), some (V.ref D), v2, v3, v4] ∧ Same H H' ∧ H' D = some (.lst (dl ps ps.length d 0))) ⟨_, _, _, rfl, s1, e1⟩ ?_ ?_
      · rintro d σ H2 hd ⟨v2, v3, v4, rfl, s2, e2⟩
        refine ⟨_, rfl, m, rs, rfl, SqT.of (s2 _ _ em), EN.for_pairs (xs := rs) (fun i σ H' => ∃ v3 v4 : Option V, σ = [some (V.ref m), some (V.ref D), some (V.int (1 + (d : Nat))), v3, v4] ∧ Same H H' ∧ H' D = some (.lst (dl ps ps.length d i))) ⟨_, _, rfl, s2, e2⟩ (fun i σ H' _ ⟨_, _, _, s, _⟩ => SqT.of (s _ _ em)) ?_ ?_⟩
        · rintro i x σ H3 T0 hx ⟨v3, v4, rfl, s3, e3⟩ nT0
          obtain ⟨hi, t, rfl, et⟩ := pl_at pl hx
          refine ⟨T0, _, rfl, SqT.of upd_same, rfl, _, _, rfl, _, _, rfl, rfl, ?_⟩
          have q4 := Same.upd (o := .tup [.int (i : Nat), .ref t]) nT0
          have s4 := s3.trans q4
          have e4 := q4 _ _ e3
          generalize upd H3 T0 (.tup [.int (i : Nat), .ref t]) = H4 at s4 e4 ⊢
          have et4 := s4 _ _ et
          refine ⟨_, rfl, _, rfl, D, _, _, dV (lvl ps d ((i : Nat) : Int)), rfl, rfl, SqL.of e4, atI_nat (by rw [dl_get hi, if_neg (Nat.lt_irrefl _)]), rfl, _, rfl, ?_⟩
          cases hlv : lvl ps d ((i : Nat) : Int) with
          | some j =>
            rw [decide_eq_false (show ¬ dV (some j) = V.non by intro z; cases z)]
            exact iteF (iteF ⟨_, _, rfl, s4, by rw [← dl_skip (lvl_same hlv)]; exact e4⟩)
          | none =>
            rw [decide_eq_true (show dV none = V.non from rfl)]
            refine iteT ⟨_, rfl, t, _, rfl, et4, _, rfl, ?_⟩
            cases e : place ps ((i : Nat) : Int) with
            | fin n =>
              have : eB ps d ((i : Nat) : Int) = true := eB_le (Nat.zero_le d) (by rw [eB, e])
              rw [lvl_none.mp hlv] at this
              cases this
            | never =>
              have : eB ps (d + 1) ((i : Nat) : Int) = false := by
                show (eB ps d ((i : Nat) : Int) || _) = false
                rw [lvl_none.mp hlv, e]
                rfl
              exact iteF ⟨_, _, rfl, s4, by rw [← dl_skip (lvl_still hlv this)]; exact e4⟩
            | toss x y =>
              rw [e] at et4
              have two := lvl_turn e hlv
              obtain ⟨ix, iy⟩ := wf_succ hw (place_in hi) e
              obtain ⟨jx, rfl⟩ : ∃ j : Nat, x = (j : Int) := ⟨x.toNat, by have := ix.1; omega⟩
              obtain ⟨jy, rfl⟩ : ∃ j : Nat, y = (j : Int) := ⟨y.toNat, by have := iy.1; omega⟩
              have hjx : jx < ps.length := by have := ix.2; omega
              have hjy : jy < ps.length := by have := iy.2; omega
              -- what stands at a side, new or old, is d just when it was
              have same : ∀ z : Nat, decide (lvl ps (if z < i then d + 1 else d) ((z : Nat) : Int) = some d) = decide (lvl ps d ((z : Nat) : Int) = some d) := fun z => by
                by_cases l : z < i
                · rw [if_pos l, lvl_succ]
                  cases h : lvl ps d ((z : Nat) : Int) with
                  | some j => rfl
                  | none =>
                    cases eB ps (d + 1) ((z : Nat) : Int)
                    · rfl
                    · rw [decide_eq_false (by intro h; have := Option.some.inj h; omega), decide_eq_false (by intro h; cases h)]
                · rw [if_neg l]
              refine iteT ⟨_, rfl, _, _, rfl, rfl, _, rfl, _, rfl, t, _, 1, .int (jx : Nat), rfl, rfl, SqT.of et4, atI_nat (j := 1) rfl, D, _, _, _, rfl, rfl, SqL.of e4, atI_nat (dl_get hjx), _, rfl, _, rfl, t, _, 2, .int (jy : Nat), rfl, rfl, SqT.of et4, atI_nat (j := 2) rfl, D, _, _, _, rfl, rfl, SqL.of e4, atI_nat (dl_get hjy), by show 2 ≤ sizeLine; decide, fun T2 nT2 => ?_⟩
              have q5 := Same.upd (o := .tup [dV (lvl ps (if jx < i then d + 1 else d) ((jx : Nat) : Int)), dV (lvl ps (if jy < i then d + 1 else d) ((jy : Nat) : Int))]) nT2
              have e5 := q5 _ _ e4
              refine ⟨T2, _, rfl, .inr (SqT.of upd_same), rfl, ?_, _, rfl, ?_⟩
              · show (flatV (dV _) && (flatV (dV _) && true)) = true
                cases lvl ps (if jx < i then d + 1 else d) ((jx : Nat) : Int) <;> cases lvl ps (if jy < i then d + 1 else d) ((jy : Nat) : Int) <;> rfl
              · change (if (inV (V.int ((1 : Int) + (d : Nat) - 1)) _) = true then _ else _ : Prop)
                rw [show (1 : Int) + (d : Nat) - 1 = (d : Nat) by omega, in_two, same jx, same jy, ← two]
                cases he : eB ps (d + 1) ((i : Nat) : Int) with
                | true =>
                  refine iteT ⟨_, rfl, _, rfl, _, rfl, D, _, ((i : Nat) : Int), i, rfl, rfl, e5, ixN_nat (by rw [dl_len]; exact hi), ?_⟩
                  have hD : H D = none := nD
                  refine ⟨some (.int (i : Nat)), some (.ref t), rfl, fun b o h => by rw [upd_ne (ne_of_none h hD)]; exact q5 _ _ (s4 _ _ h), ?_⟩
                  rw [upd_same, ← dl_set, lvl_succ, hlv, he]
                  show _ = some (HO.lst (List.set _ i (V.int ((d + 1 : Nat) : Int))))
                  rw [show ((d + 1 : Nat) : Int) = 1 + (d : Nat) by omega]
                | false => exact iteF ⟨_, _, rfl, s4.trans q5, by rw [← dl_skip (lvl_still hlv he)]; exact e5⟩
        · rintro σ H3 ⟨v3, v4, rfl, s3, e3⟩
          rw [rl, dl_end] at e3
          exact ⟨_, _, _, rfl, s3, e3⟩
      · rintro σ H2 ⟨v2, v3, v4, rfl, s2, e2⟩
        refine ⟨_, rfl, D, _, rfl, .inl ⟨SqL.of e2, fun t nt => ?_⟩⟩
        exact q t _ (s2.trans (Same.upd nt)) (s2.free nt) upd_same
end
end Z

set_option Elab.async false
set_option linter.all false
set_option maxRecDepth 100000
set_option maxHeartbeats 4000000
namespace Z
open PySem PySem.Spec PyProof.Rows L2 GG
/-! choices -/
def look (es : List (Int × Int)) (k : Int) : Option Int := (es.find? fun e => decide (e.1 = k)).map (·.2)
def fol (es : List (Int × Int)) : Nat → Int → Option Int
  | 0, _ => none
  | n + 1, k => match look es k with
    | none => some k
    | some x => fol es n x
def led (es : List (Int × Int)) : Nat → Int → Int
  | 0, k => k
  | n + 1, k => led es n ((look es k).getD k)
theorem led_stay {es : List (Int × Int)} {k : Int} (h : look es k = none) : ∀ n, led es n k = k
  | 0 => rfl
  | n + 1 => by
    show led es n ((look es k).getD k) = k
    rw [h]
    exact led_stay h n
theorem fol_led (es : List (Int × Int)) : ∀ (n : Nat) (k : Int), fol es (n + 1) k = if (look es (led es n k)).isSome then none else some (led es n k)
  | 0, k => by
    show (match look es k with | none => some k | some x => fol es 0 x) = if (look es k).isSome then none else some k
    cases look es k <;> rfl
  | n + 1, k => by
    show (match look es k with | none => some k | some x => fol es (n + 1) x) = _
    cases h : look es k with
    | none =>
      have e : led es (n + 1) k = k := led_stay h _
      rw [e, h]
      rfl
    | some x =>
      show fol es (n + 1) x = _
      rw [fol_led es n x]
      have e : led es (n + 1) k = led es n x := by
        show led es n ((look es k).getD k) = _
        rw [h]
        rfl
      rw [e]
theorem look_mem {es : List (Int × Int)} {k x : Int} (h : look es k = some x) : (k, x) ∈ es := by
  unfold look at h
  cases e : es.find? fun e => decide (e.1 = k) with
  | none => rw [e] at h; cases h
  | some p =>
    rw [e] at h
    have h1 := List.find?_some e
    have h2 := List.mem_of_find?_eq_some e
    have e1 : p.1 = k := by simpa using h1
    have e2 : p.2 = x := Option.some.inj h
    rw [← e1, ← e2]
    exact h2
/-- what is chosen at a place -/
def side (ps : List Pl) (k : Int) (b : Bool) : Int := match place ps k with
  | .toss x y => if b then x else y
  | _ => k
def pk (ps : List Pl) (js : List Int) (r : List Bool) : List (Int × Int) := (js.zip r).map fun e => (e.1, side ps e.1 e.2)
def hds (r : List Bool) : Nat := r.count true
/-- all choices in the law's order, and by masks -/
def wd : Nat → List (List Bool)
  | 0 => [[]]
  | n + 1 => (wd n).flatMap fun r => [r ++ [true], r ++ [false]]
def bits : Nat → Nat → List Bool
  | 0, _ => []
  | n + 1, m => bits n m ++ [m / 2 ^ n % 2 == 1]
def bv (n : Nat) : List (List Bool) := (List.range (2 ^ n)).map (bits n)
theorem bits_len : ∀ n m, (bits n m).length = n
  | 0, _ => rfl
  | n + 1, m => by
    show (bits n m ++ [_]).length = _
    rw [List.length_append, bits_len n m]
    rfl
theorem bits_get : ∀ (n m k : Nat), k < n → (bits n m)[k]? = some (m / 2 ^ k % 2 == 1)
  | 0, m, k, h => absurd h (Nat.not_lt_zero _)
  | n + 1, m, k, h => by
    show (bits n m ++ [m / 2 ^ n % 2 == 1])[k]? = _
    rcases Nat.lt_or_ge k n with l | l
    · rw [List.getElem?_append_left (by rw [bits_len]; exact l), bits_get n m k l]
    · have e : k = n := by omega
      subst e
      rw [List.getElem?_append_right (by rw [bits_len]; exact Nat.le_refl _), bits_len, Nat.sub_self]
      rfl
theorem bits_add : ∀ (n m j : Nat), n ≤ j → bits n (m + 2 ^ j) = bits n m
  | 0, _, _, _ => rfl
  | n + 1, m, j, h => by
    show bits n (m + 2 ^ j) ++ [(m + 2 ^ j) / 2 ^ n % 2 == 1] = bits n m ++ [m / 2 ^ n % 2 == 1]
    rw [bits_add n m j (by omega)]
    have e : (m + 2 ^ j) / 2 ^ n % 2 = m / 2 ^ n % 2 := by
      obtain ⟨d, rfl⟩ : ∃ d, j = n + (d + 1) := ⟨j - n - 1, by omega⟩
      rw [Nat.pow_add, Nat.pow_succ, Nat.add_mul_div_left _ _ (Nat.two_pow_pos n), Nat.mul_comm (2 ^ d) 2, Nat.add_mul_mod_self_left]
    rw [e]
theorem bv_succ (n : Nat) : bv (n + 1) = (bv n).map (· ++ [false]) ++ (bv n).map (· ++ [true]) := by
  unfold bv
  rw [Nat.pow_succ, Nat.mul_comm, Nat.two_mul, List.range_add, List.map_append, List.map_map, List.map_map, List.map_map]
  congr 1
  · refine List.map_congr_left fun m hm => ?_
    have lt := List.mem_range.mp hm
    show bits n m ++ [m / 2 ^ n % 2 == 1] = bits n m ++ [false]
    rw [Nat.div_eq_of_lt lt]
    rfl
  · refine List.map_congr_left fun m hm => ?_
    have lt := List.mem_range.mp hm
    show bits n (2 ^ n + m) ++ [(2 ^ n + m) / 2 ^ n % 2 == 1] = bits n m ++ [true]
    rw [Nat.add_comm, bits_add n m n (Nat.le_refl _), Nat.add_div_right _ (Nat.two_pow_pos n), Nat.div_eq_of_lt lt]
    rfl
theorem flat_perm {α : Type} (l : List (List α)) (a b : α) : (l.flatMap fun r => [r ++ [a], r ++ [b]]).Perm (l.map (· ++ [b]) ++ l.map (· ++ [a])) := by
  induction l with
  | nil => exact .nil
  | cons r l ih =>
    rw [List.flatMap_cons, List.map_cons, List.map_cons]
    show ([r ++ [a], r ++ [b]] ++ _).Perm _
    have h1 : ((r ++ [b]) :: l.map (· ++ [b]) ++ (r ++ [a]) :: l.map (· ++ [a])).Perm ((r ++ [b]) :: (r ++ [a]) :: (l.map (· ++ [b]) ++ l.map (· ++ [a]))) := by
      show ((r ++ [b]) :: (l.map (· ++ [b]) ++ (r ++ [a]) :: l.map (· ++ [a]))).Perm _
      exact (List.perm_middle).cons _
    exact ((List.Perm.swap _ _ _).trans ((ih.cons _).cons _)).trans h1.symm
theorem wd_perm : ∀ n, (wd n).Perm (bv n)
  | 0 => .refl _
  | n + 1 => by
    rw [bv_succ]
    refine (flat_perm (wd n) true false).trans ?_
    exact ((wd_perm n).map _).append ((wd_perm n).map _)
theorem wd_len : ∀ n, (wd n).length = 2 ^ n
  | 0 => rfl
  | n + 1 => by
    have fl : ∀ rs : List (List Bool), (rs.flatMap fun r => [r ++ [true], r ++ [false]]).length = 2 * rs.length := fun rs => by
      induction rs with
      | nil => rfl
      | cons r rs ih =>
        simp [List.flatMap_cons, ih]
        omega
    show ((wd n).flatMap _).length = _
    rw [fl, wd_len n, Nat.pow_succ]
    omega
theorem wd_each : ∀ (n : Nat) (r : List Bool), r ∈ wd n → r.length = n
  | 0, r, h => by rw [List.mem_singleton.mp h]; rfl
  | n + 1, r, h => by
    obtain ⟨s, hs, h2⟩ := List.mem_flatMap.mp h
    have := wd_each n s hs
    simp only [List.mem_cons, List.not_mem_nil, or_false] at h2
    rcases h2 with rfl | rfl <;> simp [this]
/-! good choices, counted -/
def goodC (ps : List Pl) (js : List Int) (r : List Bool) : Bool := js.all fun k => !(look (pk ps js r) (led (pk ps js r) js.length k)).isSome
/-- where the start is led -/
def goalC (ps : List Pl) (js : List Int) (r : List Bool) : Int := led (pk ps js r) js.length 0
def cntC (ps : List Pl) (js : List Int) (g : Int → Bool) (l : List (List Bool)) (h : Nat) : Nat := l.countP fun r => hds r == h && (goodC ps js r && g (goalC ps js r))
theorem cnt_eq (ps : List Pl) (js : List Int) (g : Int → Bool) (n h : Nat) : cntC ps js g (wd n) h = cntC ps js g (bv n) h := (wd_perm n).countP_eq _
end Z

set_option Elab.async false
set_option linter.all false
set_option maxRecDepth 100000
set_option maxHeartbeats 4000000
/-! a dict comprehension over zip of two lists -/
namespace DZ
open PySem PySem.Spec PyProof.Rows L2 GG
theorem dc_zL {K : PySem.W.Frag} {a b : Addr} {xs ys : List V} {g : TG} {tt : TT} {tk tv : TE} {vs : List Nat} {σ : L2.St} {H1 : Hp} {D : Addr} {Qd : Hp → Prop} (len : xs.length = ys.length) (Pv : Nat → Hp → Prop) (h0 : Pv 0 (upd H1 D (.dK []))) (hl : ∀ i H, Pv i H → SqL K H a xs ∧ SqL K H b ys)
    (turn : ∀ i x y H T, xs[i]? = some x → ys[i]? = some y → Pv i H → H T = none → g (.ref T) (wipe σ vs) (upd H T (.tup [x, y])) fun σ2 H2 => wipe σ2 vs = wipe σ vs ∧ tt σ2 H2 fun c H3 =>
      if c = true then tk σ2 H3 fun y H4 => tv σ2 H4 fun z H5 => ∃ kvs k, y = kV k ∧ H5 D = some (.dK kvs) ∧ kvs.length < sizeLine ∧ Pv (i + 1) (upd H5 D (.dK (putK kvs k z))) else Pv (i + 1) H3) (done : ∀ H, Pv xs.length H → Qd H) :
    ∃ W : Nat → Nat → Hp → Prop, (∃ m, W 0 m (upd H1 D (.dK []))) ∧ ∀ i m H, W i m H →
      ((Itz K a b).stop i H ∧ Qd H) ∨ ((Itz K a b).go i H ∧ ∃ Nx : Hp → Prop, (∀ H', Nx H' → ∃ m', m' < m ∧ W (i + 1) m' H') ∧
        ∀ x H', (Itz K a b).yld i H x H' → g x (wipe σ vs) H' fun σ2 H2 => wipe σ2 vs = wipe σ vs ∧ tt σ2 H2 fun c H3 =>
          if c = true then tk σ2 H3 fun y H4 => tv σ2 H4 fun z H5 => ∃ kvs k, y = kV k ∧ H5 D = some (.dK kvs) ∧ kvs.length < sizeLine ∧ Nx (upd H5 D (.dK (putK kvs k z))) else Nx H3) := by
  refine ⟨fun i m H => m = xs.length - i ∧ i ≤ xs.length ∧ Pv i H, ⟨_, rfl, Nat.zero_le _, h0⟩, ?_⟩
  rintro i m H ⟨rfl, le, pv⟩
  obtain ⟨qx, qy⟩ := hl i H pv
  rcases Nat.lt_or_ge i xs.length with lt | ge
  · have hx : xs[i]? = some xs[i] := List.getElem?_eq_getElem lt
    have lt2 : i < ys.length := by omega
    have hy : ys[i]? = some ys[i] := List.getElem?_eq_getElem lt2
    refine .inr ⟨⟨xs, ys, _, _, qx, qy, hx, hy⟩, Pv (i + 1), fun H' n => ⟨xs.length - (i + 1), by omega, rfl, lt, n⟩, ?_⟩
    rintro v H' ⟨T, x, y, rfl, nT, rfl, f1, f2⟩
    exact turn i x y H T (f1 xs qx) (f2 ys qy) pv nT
  · have e : i = xs.length := by omega
    subst e
    exact .inl ⟨⟨xs, ys, qx, qy, .inl (Nat.le_refl _)⟩, done H pv⟩
end DZ

set_option Elab.async false
set_option linter.all false
set_option maxRecDepth 100000
set_option maxHeartbeats 4000000
/-! a statement that is never met -/
namespace ABS
open PySem PySem.Spec PyProof.Rows L2
theorem ps_never {X : Cx} {st : Stmt} : PS X st (fun _ _ _ => False) := ⟨fun _ _ _ _ _ _ h => h.elim⟩
end ABS

set_option Elab.async false
set_option linter.all false
set_option maxRecDepth 100000
set_option maxHeartbeats 4000000
/-! operators and calls that the layer has for fewer numbers -/
namespace OPS
open PySem PySem.Spec PyProof.Rows L2
section
variable {X : Cx}
/-- a divisor of either sign -/
def CDivZ (_ j : Int) : Prop := j ≠ 0 ∧ j.natAbs.log2 < 9000
theorem op_fdivZ : OpR X (binaryOp .FloorDiv) (rI CDivZ fun i j => .int (i.fdiv j)) := opI fun _ _ _ _ _ _ _ c q => floordiv_int c.1 q (.inl (PyProof.noPylong_of_log2 c.2))
theorem call_divmodZ : CallR X (.builtin "divmod") (fun vs H Q => ∃ i j : Int, vs = [.int i, .int j] ∧ CDivZ i j ∧ ∀ p, H p = none → Q (.ref p) (upd H p (.tup [.int (i.fdiv j), .int (i.fmod j)]))) := by
  intro pins s σ H vs us Q I r h
  obtain ⟨i, j, ev, c, q⟩ := h
  subst ev
  obtain ⟨u, v, eu, ⟨t, et⟩, ⟨t', et'⟩⟩ := vals2 r
  subst eu et et'
  apply divmod_int c.1 _ (.inl (PyProof.noPylong_of_log2 c.2))
  have free : H s.heap.objs.size = none := I.hok.fresh (Nat.le_refl _)
  refine ⟨.ref s.heap.objs.size, _, I.laid (fun b o e => Heap.get?_push_of_some _ e) (Nat.le_refl _) ?_, rfl, q _ free⟩
  exact ⟨by show 2 ≤ sizeLine; decide, [.int (i.fdiv j) s.toks, .int (i.fmod j) (s.toks + 1)], .cons ⟨_, rfl⟩ (.cons ⟨_, rfl⟩ .nil), ⟨_, Heap.get?_push_size s.heap rfl, rfl, 0, rfl⟩⟩
/-- xs[i] as read ahead of xs[i] op= .. -/
theorem get_list : PGet X (fun o i H Q => ∃ (p : Addr) (xs : List V) (k : Nat) (v : V), o = .ref p ∧ i = .int (k : Int) ∧ SqL X.K H p xs ∧ xs[k]? = some v ∧ Q v H) := by
  intro pins s σ H o i ov iv Q I ro ri h
  obtain ⟨p, xs, k, v, eo, ei, hq, hv, q⟩ := h
  subst eo ei
  have eov : ov = Value.ref p := ro
  subst eov
  obtain ⟨t, et⟩ := ri
  subst et
  obtain ⟨its, r, pl, hz⟩ := I.list hq
  obtain ⟨u, hu, ru⟩ := r.get hv
  have lt : k < its.length := (List.getElem?_eq_some_iff.mp hu).1
  have hl := r.length
  have hn := line63
  refine wpAny_getItem_list pl.isList (by omega) (by omega) (x := u) (by simpa using hu) ⟨v, H, I, ru, q⟩
/-- any(xs), xs a list of ints -/
def rAnyI (K : PySem.W.Frag) : List V → Hp → VK → Prop := fun vs H Q => ∃ (a : Addr) (ns : List Int), vs = [.ref a] ∧ SqL K H a (ns.map V.int) ∧ Q (.bl (ns.any fun n => n != 0)) H
theorem dpI {K : PySem.W.Frag} {H : Hp} : ∀ ns : List Int, DpAll K H (ns.map V.int) (ns.map PyData.int)
  | [] => .nil
  | n :: r => .cons (.int n) (dpI r)
theorem plain_ints : ∀ ns : List Int, PyData.plainAll (ns.map PyData.int) = true
  | [] => rfl
  | _ :: r => by simp [PyData.plainAll, PyData.plain, plain_ints r]
theorem any_truthy : ∀ ns : List Int, (ns.map PyData.int).any PyData.truthy = ns.any fun n => n != 0
  | [] => rfl
  | n :: r => by simp [PyData.truthy, List.any_map]; rfl
theorem call_anyI (calm : X.calm = true) : CallR X (.builtin "any") (rAnyI X.K) := by
  intro pins s σ H vs us Q I r h
  obtain ⟨a, ns, ev, hs, q⟩ := h
  subst ev
  rw [Vals.ref1 r]
  obtain ⟨as, reads⟩ := Dp.reads I (.list (ns.map PyData.int)) (.ref a) (.ref a) (.lst hs (dpI ns)) rfl
  obtain ⟨its, rv, hl, _⟩ := I.list hs
  cases reads with
  | list hg hc hd hr =>
    rename_i o vs n bs
    refine PySem.W.any_list_data (vs := vs) (I.ok.hd calm) ⟨_, hg, hc, _, hd⟩ hr (plain_ints ns) (fun x hx => ?_) fun h' tk hk => ?_
    · obtain ⟨n, _, rfl⟩ := List.mem_map.mp hx
      trivial
    · exact ⟨.bl _, H, I.kept hk, by rw [any_truthy]; rfl, q⟩
end
end OPS

set_option Elab.async false
set_option linter.all false
set_option maxRecDepth 100000
set_option maxHeartbeats 4000000
namespace Z
open PySem PySem.Spec PyProof.Rows L2 GG
abbrev sLT : Stmt := top 14
abbrev sFC : Stmt := top 16
/-- the tossers, in order -/
def tosL (ps : List Pl) (ks : List Int) : List Int := ks.filter fun k => (place ps k).isT && (lvl ps (ps.length - 1) k).isSome
theorem isT_tosses (p : Pl) : p.tosses = p.isT := by cases p <;> rfl
theorem tosL_snoc (ps : List Pl) (ks : List Int) (k : Int) : tosL ps (ks ++ [k]) = tosL ps ks ++ (if ((place ps k).isT && (lvl ps (ps.length - 1) k).isSome) = true then [k] else []) := by
  unfold tosL
  rw [List.filter_append]
  congr 1
  cases h : ((place ps k).isT && (lvl ps (ps.length - 1) k).isSome) with
  | true => simp [List.filter_cons, h]
  | false => simp [List.filter_cons, h]
theorem tosL_mem {ps : List Pl} {ks : List Int} {k : Int} (h : k ∈ tosL ps ks) : k ∈ ks ∧ (place ps k).isT = true := by
  unfold tosL at h
  rw [List.mem_filter, Bool.and_eq_true] at h
  exact ⟨h.1, h.2.1⟩
theorem tosL_nodup {ps : List Pl} {ks : List Int} (h : ks.Nodup) : (tosL ps ks).Nodup := h.filter _
def kvI (es : List (Int × Int)) : List (Key × V) := es.map fun e => (.inl e.1, .int e.2)
theorem val_kvI (k : Int) : ∀ es : List (Int × Int), valV (kvI es) (.inl k) = (look es k).map V.int
  | [] => rfl
  | e :: es => by
    by_cases h : e.1 = k
    · show valV ((.inl e.1, .int e.2) :: kvI es) _ = _
      rw [valV_pos (p := ((.inl e.1 : Key), V.int e.2)) (by rw [← h])]
      unfold look
      rw [List.find?_cons_of_pos (by simpa using h)]
      rfl
    · show valV ((.inl e.1, .int e.2) :: kvI es) _ = _
      rw [valV_neg (p := ((.inl e.1 : Key), V.int e.2)) (fun z => h (Sum.inl.inj z)), val_kvI k es]
      unfold look
      rw [List.find?_cons_of_neg (by simpa using h)]
def oV : Option Int → V
  | some k => .int k
  | none => .non
section
variable {P : Program} {w : World} {K : PySem.W.Frag} {mg : Str → Option Value} {base : Heap}
def spLT : Sp := fun vs H Q _ => ∃ (m : Addr) (ps : List Pl), vs = [.ref m] ∧ Mach H m ps ∧ WF ps ∧ ps.length ≤ 11 ∧ (ps.length ≤ 10 ∨ ∃ p ∈ ps, p.isT = false) ∧ ∀ (p : Addr) (ks : List Int) H', Same H H' → H p = none → H' p = some (.lst ((tosL ps ks).map V.int)) → Places ps 0 ks → (tosL ps ks).length ≤ 10 → Q (.ref p) H'
theorem scLT : FnScope ["machine", "distances", "tossers", "k"] ["machine"] (defScope sLT) := ⟨rfl, rfl, rfl, by decide +kernel, rfl, by decide +kernel, by decide +kernel⟩
theorem tos_few {ps : List Pl} (hw : WF ps) {ks : List Int} (hk : Places ps 0 ks) (l : ps.length ≤ 11) (q : ps.length ≤ 10 ∨ ∃ p ∈ ps, p.isT = false) : (tosL ps ks).length ≤ 10 := by
  have nd := tosL_nodup (ps := ps) (lt_nodup hk.1)
  rcases q with q | ⟨p, hp, hf⟩
  · have := nodup_len ps.length (tosL ps ks) nd fun x hx => ((hk.2 x).mp (tosL_mem hx).1).inn hw (in_zero hw)
    omega
  obtain ⟨i, hi, ei⟩ := List.getElem_of_mem hp
  have nin : ((i : Nat) : Int) ∉ tosL ps ks := fun h => by
    have := (tosL_mem h).2
    rw [place_get (p := ps[i]) (by rw [Int.toNat_natCast]; exact List.getElem?_eq_getElem hi), ei, hf] at this
    cases this
  have := nodup_len ps.length (((i : Nat) : Int) :: tosL ps ks) (List.nodup_cons.mpr ⟨nin, nd⟩) fun x hx => by
    rcases List.mem_cons.mp hx with rfl | hx
    · omega
    · exact ((hk.2 x).mp (tosL_mem hx).1).inn hw (in_zero hw)
  rw [List.length_cons] at this
  omega
theorem ok_lt {f g r t : Addr} {fd gd rd td : FuncData} {tM : Tok} (F : Fun K "list_tossers" "list_tossers" sLT f fd) (T : Names mg) (mM : mg "MAX_CHOICE_STATES" = some (.int 10 tM)) (GD_ : FnOk P w K mg base CX0 2 g gd ["machine"] spDist) (PD_ : Def K mg "end_distances" g gd ["machine"])
    (GR : FnOk P w K mg base CX0 3 r rd ["machine"] spReach) (PR : Def K mg "reachable_states" r rd ["machine"]) (GT : FnOk P w K mg base CX0 1 t td ["state"] spToss) (PT_ : Def K mg "is_toss" t td ["state"]) : FnOk P w K mg base CX0 4 f fd ["machine"] spLT := by
  refine F.ok scLT (fun vs H Q E h => ?_) (fun cdv A outer s H vs Q E hr h => ?_)
  · obtain ⟨m, ps, rfl, _⟩ := h
    rfl
  · obtain ⟨m, ps, rfl, hm, hw, l11, hq, q⟩ := h
    refine ⟨_, (pss_cons (ps_set (i := 1) scLT.nd rfl (.inr rfl) (pe_call GD_ (hr.mono (by decide)) (by rfl) PD_.is PD_.kp PD_.bi .nil pass0 (pa_cons (pv 0) pa_nil)))
      (pss_cons (ps_setLc (i := 2) (own := [("k", 3)]) (g := gName 3) rfl scLT.nd rfl rfl (sw_true rfl rfl rfl (by decide +kernel)) (pi_tup (pe_call GR (hr.mono (by decide)) (by rfl) PR.is PR.kp PR.bi .nil pass0 (pa_cons (pv 0) pa_nil))) (blkOk_by (N := ["machine", "distances", "tossers", "k"]) (sc := defScope sLT) (own := [("k", 3)]) (by decide +kernel)) (fun _ _ _ _ _ => (pg_name (i := 3) scLT.nd rfl (.inl rfl))) (fun _ _ _ _ _ => (pts_one (PW.pt (pw_and (pt_val (pe_call GT (hr.mono (by decide)) (by rfl) PT_.is PT_.kp PT_.bi .nil pass0 (pa_cons (pe_ix (KX.ix_tupK (K := K) rfl) (pv 0) (pv 3) (fun _ _ => rfl)) pa_nil))) (pw_and1 (pt_cmpR op_notN (pe_ix (KX.ix_tupK (K := K) rfl) (pv 1) (pv 3) (fun _ _ => rfl)) pe_non (nomark _))))))) (fun _ _ _ _ _ => (pv 3)))
      (pss_cons (ps_if (pt_cmpR op_gt (pe_callB call_len_seq (by rfl) T.len PySem.boot_len (pa_cons (pv 2) pa_nil)) (pe_glob (v := .int 10) rfl mM ⟨_, rfl⟩) (nomark _)) (pss_one ABS.ps_never) pss_nil)
      (pss_one (ps_ret (pv 2)))))), ?_⟩
    have line : sizeLine = 16777216 := by decide
    have hl := hw.le
    refine ⟨_, rfl, m, ps, rfl, hm, hw, fun L H1 s1 nL eL => ?_⟩
    refine ⟨_, rfl, m, ps, rfl, hm.same s1, hw, fun t ks H2 s2 nt et hk => ?_⟩
    have hkl := hk.len hw (in_zero hw)
    have few := tos_few hw hk l11 hq
    have s12 := s1.trans s2
    have eL2 := s2 _ _ eL
    refine ⟨t, rfl, ⟨_, SqT.of et⟩, fun D nD => ?_⟩
    refine lc_tup (K := K) (a := t) (xs := ks.map V.int) (fun j Hx => Same H2 Hx ∧ Hx D = some (.lst ((tosL ps (ks.take j)).map V.int))) ⟨Same.upd nD, upd_same⟩ (fun j Hx _ h => SqT.of (h.1 _ _ et)) ?_ ?_
    · rintro j x H4 hx ⟨s4, e4⟩
      obtain ⟨k, hk2, rfl⟩ : ∃ k, ks[j]? = some k ∧ V.int k = x := by
        rw [List.getElem?_map] at hx
        cases e : ks[j]? with
        | none => rw [e] at hx; cases hx
        | some z => rw [e] at hx; exact ⟨z, rfl, Option.some.inj hx⟩
      have rk : Rch ps 0 k := (hk.2 k).mp (List.mem_of_getElem? hk2)
      have hkin := rk.inn hw (in_zero hw)
      obtain ⟨rs, tt, em, ea, e2⟩ := (hm.same (s12.trans s4)).at hw hkin.1 hkin.2
      have tk : ks.take (j + 1) = ks.take j ++ [k] := by rw [List.take_succ, hk2]; rfl
      have lj : (tosL ps (ks.take j)).length ≤ 30 := by
        have : (tosL ps (ks.take j)).length ≤ (ks.take j).length := List.length_filter_le _ _
        rw [List.length_take] at this
        omega
      have hd : atI (dl ps ps.length (ps.length - 1) 0) k = some (dV (lvl ps (ps.length - 1) k)) := by
        obtain ⟨i, rfl⟩ : ∃ i : Nat, k = (i : Int) := ⟨k.toNat, by have := hkin.1; omega⟩
        exact atI_nat (dl_get (by have := hkin.2; omega))
      refine ⟨rfl, ?_⟩
      refine ⟨_, rfl, _, rfl, m, rs, k, .ref tt, rfl, rfl, SqT.of em, ea, tt, _, rfl, e2, _, rfl, ?_⟩
      rw [isT_tosses]
      cases hT : (place ps k).isT with
      | false =>
        refine iteF (iteF ⟨s4, ?_⟩)
        rw [tk, tosL_snoc, hT]
        simpa using e4
      | true =>
        refine iteT ⟨_, rfl, _, rfl, L, _, k, _, rfl, rfl, SqT.of (s4 _ _ eL2), hd, rfl, _, rfl, ?_⟩
        cases hL : lvl ps (ps.length - 1) k with
        | none =>
          rw [decide_eq_true (show dV none = V.non from rfl)]
          refine iteF ⟨s4, ?_⟩
          rw [tk, tosL_snoc, hT, hL]
          simpa using e4
        | some d =>
          rw [decide_eq_false (show ¬ dV (some d) = V.non by intro z; cases z)]
          refine iteT ⟨_, rfl, _, e4, by rw [List.length_map]; omega, fun b o h => by rw [upd_ne (ne_of_none h nD)]; exact s4 _ _ h, ?_⟩
          rw [upd_same, tk, tosL_snoc, hT, hL, List.map_append]
          rfl
    · rintro H4 ⟨s4, e4⟩
      rw [List.length_map, List.take_length] at e4
      refine ⟨_, rfl, D, _, rfl, .inl (SqL.of e4), _, _, rfl, rfl, _, rfl, ?_⟩
      rw [List.length_map, decide_eq_false (show ¬ (((tosL ps ks).length : Nat) : Int) > 10 by omega)]
      exact iteF ⟨_, rfl, q D ks H4 (s12.trans s4) (s12.free nD) e4 hk few⟩
def spFC : Sp := fun vs H Q _ => ∃ (d : Addr) (k : Int) (es : List (Int × Int)), vs = [.ref d, .int k] ∧ H d = some (.dK (kvI es)) ∧ es.length ≤ 60 ∧ Q (oV (fol es (es.length + 1) k)) H
theorem scFC : FnScope ["selected", "start", "index", "_"] ["selected", "start"] (defScope sFC) := ⟨rfl, rfl, rfl, by decide +kernel, rfl, by decide +kernel, by decide +kernel⟩
theorem ok_fc {f : Addr} {fd : FuncData} (F : Fun K "follow_choice" "follow_choice" sFC f fd) (T : Names mg) : FnOk P w K mg base CX0 1 f fd ["selected", "start"] spFC := by
  refine F.ok scFC (fun vs H Q E h => ?_) (fun cdv A outer s H vs Q E hr h => ?_)
  · obtain ⟨d, k, es, rfl, _⟩ := h
    rfl
  · obtain ⟨d, k, es, rfl, ed, le, q⟩ := h
    have hu64 : A.units + 3 + 64 < cLine := hr.units
    have hu : A.units + 3 + 1 < cLine := by omega
    refine ⟨_, (pss_cons (ps_set (i := 2) scFC.nd rfl (.inl rfl) (pv 1))
      (pss_cons (ps_for PassesOwn.never rfl (pi_range1 rfl T.range (pa_cons (pe_op op_add (pe_callB call_lenD (by rfl) T.len PySem.boot_len (pa_cons (pv 0) pa_nil)) pe_int) pa_nil)) (pg_name (i := 3) scFC.nd rfl (.inl rfl)) (pss_cons (ps_if (pt_cmp (pc_dnotin hu (pv 2) (pv 0))) (pss_one (ps_ret (pv 2))) pss_nil)
      (pss_one (ps_set (i := 2) scFC.nd rfl (.inl rfl) (pe_dget hu (pv 0) (pv 2) (fun _ _ => rfl))))))
      (pss_one (ps_ret pe_non)))), ?_⟩
    refine ⟨_, rfl, _, rfl, d, _, rfl, ed, _, _, rfl, rfl, _, rfl, by unfold kvI; rw [List.length_map]; omega, by unfold kvI; rw [List.length_map]; omega, ?_⟩
    have en : (((kvI es).length : Nat) : Int) + 1 = ((es.length + 1 : Nat) : Int) := by unfold kvI; rw [List.length_map]; rfl
    dsimp only
    rw [en, Int.toNat_natCast]
    refine for_range (D := { nx := tRet (tC V.non) { nx := fun x H' => Q V.non H', rt := Q }, rt := Q }) (lo := 0) (n := es.length + 1) (fun i σ H' => ∃ (z : Int) (v3 : Option V), σ = [some (V.ref d), some (V.int k), some (V.int z), v3] ∧ H' = H ∧ fol es (es.length + 1 - i) z = fol es (es.length + 1) k) ⟨k, _, rfl, rfl, rfl⟩ ?_ ?_
    · rintro i σ H' hi ⟨z, v3, rfl, rfl, ef⟩
      obtain ⟨n, hn⟩ : ∃ n, es.length + 1 - i = n + 1 := ⟨es.length - i, by omega⟩
      rw [hn] at ef
      refine ⟨_, rfl, _, rfl, d, _, rfl, DGet.k (k := .inl z) ed, _, rfl, ?_⟩
      rw [val_kvI]
      cases h : look es z with
      | none =>
        refine iteT ⟨_, rfl, ?_⟩
        have : fol es (n + 1) z = some z := by
          show (match look es z with | none => some z | some x => fol es n x) = _
          rw [h]
        rw [this] at ef
        rw [← ef] at q
        exact q
      | some x =>
        refine iteF ⟨_, rfl, _, rfl, d, .int x, rfl, ?_, x, _, rfl, rfl, ?_⟩
        · have := DGet.k (k := .inl z) ed
          rw [val_kvI, h] at this
          exact this
        · have : fol es (n + 1) z = fol es n x := by
            show (match look es z with | none => some z | some x => fol es n x) = _
            rw [h]
          rw [this] at ef
          rw [show es.length + 1 - (i + 1) = n by omega]
          exact ef
    · rintro σ H' ⟨z, v3, rfl, rfl, ef⟩
      rw [Nat.sub_self] at ef
      have : fol es (es.length + 1) k = none := ef.symm
      rw [this] at q
      exact q
end
end Z

set_option Elab.async false
set_option linter.all false
set_option maxRecDepth 100000
set_option maxHeartbeats 4000000
namespace Z
open PySem PySem.Spec PyProof.Rows L2 GG
abbrev sLR : Stmt := top 33
/-- what follows a value, once for all ways to it -/
theorem at_name {i : Nat} {x : V} {σ : L2.St} {H : Hp} {nx : L2.St → Hp → Prop} (h : nx (σ.set i (some x)) H) : gName i x σ H nx := h
theorem for_tail {K : PySem.W.Frag} {te : TE} {g : TG} {tb : TS} {D : Ends} {σ : L2.St} {H : Hp} (W : V → Hp → Prop) (tail : ∀ v H', W v H' → tFor (iTup K fun _ H Q => Q v H) g tb D σ H')
    (go : (∀ v H', W v H' → tFor (iTup K fun _ H Q => Q v H) g tb D σ H') → tFor (iTup K te) g tb D σ H) : tFor (iTup K te) g tb D σ H := go tail
def sides : Pl → List Int
  | .toss x y => [x, y]
  | _ => []
theorem side_at {ps : List Pl} {k z : Int} (h : z ∈ sides (place ps k)) : ∃ x y, place ps k = .toss x y ∧ (z = x ∨ z = y) := by
  cases e : place ps k with
  | toss x y =>
    rw [e] at h
    refine ⟨x, y, rfl, ?_⟩
    simpa [sides] using h
  | fin n => rw [e] at h; cases h
  | never => rw [e] at h; cases h
theorem rch_side {ps : List Pl} {s k z : Int} (r : Rch ps s k) (h : z ∈ sides (place ps k)) : Rch ps s z := by
  obtain ⟨x, y, e, rfl | rfl⟩ := side_at h
  · exact r.heads e
  · exact r.tails e
theorem notIn_ints (z : Int) (fs : List Int) : inV (.int z) (fs.map V.int) = decide (z ∈ fs) := by
  induction fs with
  | nil => rfl
  | cons f fs ih =>
    show (eqV _ _ || inV _ _) = _
    rw [ih]
    show ((f == z) || _) = _
    by_cases e : f = z
    · subst e
      simp
    · have e2 : (f == z) = false := by simpa using e
      rw [e2, Bool.false_or]
      by_cases h : z ∈ fs
      · rw [decide_eq_true h, decide_eq_true (List.mem_cons_of_mem _ h)]
      · rw [decide_eq_false h, decide_eq_false (fun q => by
          rcases List.mem_cons.mp q with q | q
          · exact e q.symm
          · exact h q)]
section
variable {P : Program} {w : World} {K : PySem.W.Frag} {mg : Str → Option Value} {base : Heap}
def spLR : Sp := fun vs H Q _ => ∃ (m : Addr) (s : Int) (ps : List Pl), vs = [.ref m, .int s] ∧ Mach H m ps ∧ WF ps ∧ In ps s ∧ ∀ (p : Addr) (ks : List Int) H', Same H H' → H p = none → H' p = some (.lst (ks.map V.int)) → Places ps s ks → Q (.ref p) H'
theorem scLR : FnScope ["machine", "start", "found", "waiting", "place", "side"] ["machine", "start"] (defScope sLR) := ⟨rfl, rfl, rfl, by decide +kernel, rfl, by decide +kernel, by decide +kernel⟩
theorem ok_lr {f : Addr} {fd : FuncData} (F : Fun K "_law_reached" "_law_reached" sLR f fd) (mS : mg "sorted" = none) : FnOk P w K mg base CX0 1 f fd ["machine", "start"] spLR := by
  refine F.ok scLR (fun vs H Q E h => ?_) (fun cdv A outer s H vs Q E hr h => ?_)
  · obtain ⟨m, s, ps, rfl, _⟩ := h
    rfl
  · obtain ⟨m, st, ps, rfl, hm, hw, hs, q⟩ := h
    have hu : A.units + 3 + 64 < cLine := hr.units
    refine ⟨_, (pss_cons (ps_par (i := 2) (j := 3) (by rfl) scLR.nd rfl rfl (by decide) rfl rfl (pa_cons (pe_lst (pa_cons (pv 1) pa_nil)) (pa_cons (pe_lst (pa_cons (pv 1) pa_nil)) pa_nil)) (by rfl))
      (pss_cons (ps_while PassesOwn.never (pt_cmpR (op_neD hu) (pv 3) (pe_lst pa_nil) (nomark _)) (pss_cons (ps_set (i := 4) scLR.nd rfl (.inl rfl) (pe_ix ix_tup (pv 0) (pe_bm0 PySem.F.plainAttrs_list PySem.F.slot_list_pop PySem.F.type_list_pop mt_pop (pv 3)) (fun _ _ => rfl)))
      (pss_one (ps_for PassesOwn.never rfl (pi_tup (pe_ifExp (pt_cmpR op_eq (pe_ix ix_tup (pv 4) pe_int (fun _ _ => rfl)) pe_str (nomark _)) (pe_slice sl_tup (pv 4) (po_some pe_int) po_none) (pe_tup pa_nil))) (pg_name (i := 5) scLR.nd rfl (.inl rfl)) (pss_one (ps_if (pt_cmpR op_notIn_seq (pv 5) (pv 2) (by rfl)) (pss_cons (ps_expr (pe_bm PySem.F.plainAttrs_list PySem.F.slot_list_append PySem.F.type_list_append mt_append (pv 2) (pa_cons (pv 5) pa_nil)))
      (pss_one (ps_expr (pe_bm PySem.F.plainAttrs_list PySem.F.slot_list_append PySem.F.type_list_append mt_append (pv 3) (pa_cons (pv 5) pa_nil))))) pss_nil))))))
      (pss_one (ps_ret (pe_callB cr_sorted (by rfl) mS (by decide +kernel) (pa_cons (pv 2) pa_nil)))))), ?_⟩
    have line : sizeLine = 16777216 := by decide
    have hl := hw.le
    refine ⟨_, rfl, by show 1 ≤ sizeLine; decide, fun F0 nF => ?_⟩
    have s1 := Same.upd (o := .lst [V.int st]) nF
    have eF : upd H F0 (.lst [V.int st]) F0 = some (.lst (([st] : List Int).map V.int)) := upd_same
    change (_ : Hp → Prop) (upd H F0 (.lst [V.int st]))
    generalize upd H F0 (.lst [V.int st]) = H1 at s1 eF ⊢
    refine ⟨_, rfl, by show 1 ≤ sizeLine; decide, fun W0 nW => ⟨_, _, rfl, ?_⟩⟩
    have FW : F0 ≠ W0 := ne_of_none eF nW
    have nW0 : H W0 = none := s1.free nW
    have s2 := s1.trans (Same.upd (o := .lst [V.int st]) nW)
    have eF2 := (Same.upd (o := .lst [V.int st]) nW) _ _ eF
    have eW : upd H1 W0 (.lst [V.int st]) W0 = some (.lst (([st] : List Int).map V.int)) := upd_same
    change (_ : Hp → Prop) (upd H1 W0 (.lst [V.int st]))
    generalize upd H1 W0 (.lst [V.int st]) = H2 at s2 eF2 eW ⊢
    refine ⟨fun n σ H' => ∃ (fs ws : List Int) (v4 v5 : Option V), n = 2 * (ps.length - fs.length) + ws.length ∧ n ≤ 100 ∧ σ = [some (V.ref m), some (V.int st), some (V.ref F0), some (V.ref W0), v4, v5] ∧ Same H H' ∧ H' F0 = some (.lst (fs.map V.int)) ∧ H' W0 = some (.lst (ws.map V.int)) ∧ fs.Nodup ∧ (∀ k ∈ fs, Rch ps st k) ∧ st ∈ fs ∧ (∀ k ∈ ws, k ∈ fs) ∧ ∀ k ∈ fs, k ∈ ws ∨ ∀ z ∈ sides (place ps k), z ∈ fs,
      ⟨_, [st], [st], none, none, rfl, by show 2 * (ps.length - 1) + 1 ≤ 100; omega, rfl, s2, eF2, eW, by simp, fun k hk => by rw [List.mem_singleton.mp hk]; exact .here, by simp, fun k hk => hk, fun k hk => .inl hk⟩, ?_⟩
    rintro n σ H3 ⟨fs, ws, v4, v5, rfl, h100, rfl, s3, f3, w3, nd, hrch, hst, hsub, hcl⟩
    have hin : ∀ k ∈ fs, In ps k := fun k hk => (hrch k hk).inn hw hs
    have hfl := nodup_len ps.length fs nd hin
    refine ⟨_, rfl, Nat.zero_le _, fun e0 ne0 => ?_⟩
    have s4 := Same.upd (o := .lst []) ne0
    have d0 : Dp K (upd H3 e0 (.lst [])) (.ref e0) (.list []) := .lst (SqL.of upd_same) .nil
    have f4 := s4 _ _ f3
    have w4 := s4 _ _ w3
    have s34 := s3.trans s4
    change (_ : Hp → Prop) (upd H3 e0 (.lst []))
    generalize upd H3 e0 (.lst []) = H4 at s34 f4 w4 d0 ⊢
    refine ⟨.list (ws.map PyData.int), .list [], .lst (SqL.of w4) (dpInts ws), d0, PySem.W.ke_shaped_ints ws, rfl, _, rfl, ?_⟩
    rcases List.eq_nil_or_concat ws with rfl | ⟨ws', k, ew⟩
    · refine iteF ⟨_, rfl, F0, fs, rfl, SqL.of f4, by omega, fun ns' p pm pw np => ?_⟩
      refine q p ns' _ (s34.trans (Same.upd np)) (s34.free np) upd_same (places_of nd (fun k => ⟨hrch k, fun hk => ?_⟩) pm pw)
      exact hk.all (S := fun k => k ∈ fs) hst fun a x y ha hp => by
        rcases hcl a ha with h | h
        · cases h
        · rw [hp] at h
          exact ⟨h x (by simp [sides]), h y (by simp [sides])⟩
    · rw [List.concat_eq_append] at ew
      subst ew
      rw [eqv_nil (by simp)]
      have hk : k ∈ fs := hsub k (by simp)
      have hkin := hin k hk
      refine iteT ⟨fun σ H' => ∃ (fs2 ws2 : List Int) (v4 v5 : Option V), 2 * (ps.length - fs2.length) + ws2.length < 2 * (ps.length - fs.length) + (ws' ++ [k]).length ∧ σ = [some (V.ref m), some (V.int st), some (V.ref F0), some (V.ref W0), v4, v5] ∧ Same H H' ∧ H' F0 = some (.lst (fs2.map V.int)) ∧ H' W0 = some (.lst (ws2.map V.int)) ∧ fs2.Nodup ∧ (∀ k ∈ fs2, Rch ps st k) ∧ st ∈ fs2 ∧ (∀ k ∈ ws2, k ∈ fs2) ∧ ∀ k ∈ fs2, k ∈ ws2 ∨ ∀ z ∈ sides (place ps k), z ∈ fs2, ?_, ?_⟩
      · rintro σ' H' ⟨fs2, ws2, v4, v5, h0, h1, h2, h3, h4, h5, h6, h7, h8, h9⟩
        exact ⟨_, h0, fs2, ws2, v4, v5, rfl, by omega, h1, h2, h3, h4, h5, h6, h7, h8, h9⟩
      · obtain ⟨rs, tt, em, ea, et⟩ := (hm.same s34).at hw hkin.1 hkin.2
        have w4' : H4 W0 = some (.lst (ws'.map V.int ++ [V.int k])) := by rw [w4, List.map_append]; rfl
        refine ⟨_, rfl, _, rfl, .inl ⟨rfl, _, SqL.of w4'⟩, W0, _, .int k, rfl, rfl, w4', by simp, ?_⟩
        rw [List.dropLast_concat]
        have wF : W0 ≠ F0 := FW.symm
        have s5 : Same H (upd H4 W0 (.lst (ws'.map V.int))) := fun b o e => by
          rw [upd_ne (ne_of_none e nW0)]
          exact s34 _ _ e
        have f5 : upd H4 W0 (.lst (ws'.map V.int)) F0 = some (.lst (fs.map V.int)) := by
          rw [upd_ne FW]
          exact f4
        have w5 : upd H4 W0 (.lst (ws'.map V.int)) W0 = some (.lst (ws'.map V.int)) := upd_same
        have nt : ∀ {a : Addr} {xs : List V}, H4 a = some (.tup xs) → upd H4 W0 (.lst (ws'.map V.int)) a = some (.tup xs) := fun h => by
          rw [upd_ne (ne_of h w4 (by intro z; cases z))]
          exact h
        have em5 := nt em
        have et5 := nt et
        change (_ : Hp → Prop) (upd H4 W0 (.lst (ws'.map V.int)))
        generalize upd H4 W0 (.lst (ws'.map V.int)) = H5 at s5 f5 w5 em5 et5 ⊢
        refine ⟨m, rs, k, .ref tt, rfl, rfl, SqT.of em5, ea, ?_⟩
        dsimp only
        refine at_name ?_
        refine for_tail (fun v H' => ∃ T, v = .ref T ∧ Same H5 H' ∧ H' T = some (.tup ((sides (place ps k)).map V.int))) ?_ (fun t => ?_)
        rotate_left
        · cases e : place ps k with
          | toss x y =>
            rw [e] at et5
            refine ⟨_, rfl, tt, _, 0, .str "toss", rfl, rfl, SqT.of et5, atI_nat (j := 0) rfl, rfl, _, rfl, ?_⟩
            rw [decide_eq_true rfl]
            refine iteT ⟨_, rfl, ?_⟩
            dsimp only [tPart, tNoPart]
            refine ⟨1, rfl, tt, _, rfl, SqT.of et5, (fun h => absurd h.1 (by show ¬ HT.sIx 3 0 (some 1) = 0; decide)), fun T nT => t _ _ ⟨T, rfl, Same.upd nT, ?_⟩⟩
            rw [upd_same, e]
            rfl
          | fin n =>
            rw [e] at et5
            refine ⟨_, rfl, tt, _, 0, .str "end", rfl, rfl, SqT.of et5, atI_nat (j := 0) rfl, rfl, _, rfl, ?_⟩
            rw [decide_eq_false str_toss_end]
            refine iteF ⟨Nat.zero_le _, fun T nT => t _ _ ⟨T, rfl, Same.upd nT, ?_⟩⟩
            rw [upd_same, e]
            rfl
          | never =>
            rw [e] at et5
            refine ⟨_, rfl, tt, _, 0, .str "never", rfl, rfl, SqT.of et5, atI_nat (j := 0) rfl, rfl, _, rfl, ?_⟩
            rw [decide_eq_false str_toss_never]
            refine iteF ⟨Nat.zero_le _, fun T nT => t _ _ ⟨T, rfl, Same.upd nT, ?_⟩⟩
            rw [upd_same, e]
            rfl
        · rintro v H6 ⟨T, rfl, s6, eT⟩
          have f6 := s6 _ _ f5
          have w6 := s6 _ _ w5
          have s56 := s5.trans s6
          refine ⟨T, rfl, ⟨_, SqT.of eT⟩, for_tup (K := K) (a := T) (xs := (sides (place ps k)).map V.int) (fun j σ H' => ∃ (fs2 ws2 : List Int) (v5 : Option V), 2 * (ps.length - fs2.length) + ws2.length < 2 * (ps.length - fs.length) + (ws' ++ [k]).length ∧ σ = [some (V.ref m), some (V.int st), some (V.ref F0), some (V.ref W0), some (V.ref tt), v5] ∧ Same H H' ∧ H' F0 = some (.lst (fs2.map V.int)) ∧ H' W0 = some (.lst (ws2.map V.int)) ∧ H' T = some (.tup ((sides (place ps k)).map V.int)) ∧ fs2.Nodup ∧ (∀ k ∈ fs2, Rch ps st k) ∧ (∀ a ∈ fs, a ∈ fs2) ∧ (∀ a ∈ ws2, a ∈ fs2) ∧ (∀ a ∈ ws', a ∈ ws2) ∧ (∀ a ∈ fs2, a ∈ fs ∨ a ∈ ws2) ∧ ∀ i z, i < j → (sides (place ps k))[i]? = some z → z ∈ fs2) ⟨fs, ws', v5, by rw [List.length_append]; show _ < _ + (ws'.length + 1); omega, rfl, s56, f6, w6, eT, nd, hrch, fun a h => h, fun a h => hsub a (List.mem_append_left _ h), fun a h => h, fun a h => .inl h, fun i z h => absurd h (Nat.not_lt_zero _)⟩ (fun j σ H' _ ⟨_, _, _, _, _, _, _, _, h, _⟩ => SqT.of h) ?_ ?_⟩
          · rintro j v σ H7 hj ⟨fs2, ws2, v5, c0, rfl, s7, f7, w7, t7, nd7, r7, sub7, ws7, wk7, or7, cl7⟩
            obtain ⟨z, hz, rfl⟩ : ∃ z, (sides (place ps k))[j]? = some z ∧ V.int z = v := by
              rw [List.getElem?_map] at hj
              cases e : (sides (place ps k))[j]? with
              | none => rw [e] at hj; cases hj
              | some z => rw [e] at hj; exact ⟨z, rfl, Option.some.inj hj⟩
            have rz : Rch ps st z := rch_side (hrch k hk) (List.mem_of_getElem? hz)
            have len7 := nodup_len ps.length fs2 nd7 fun a ha => (r7 a ha).inn hw hs
            refine ⟨_, rfl, _, rfl, F0, _, rfl, .inl (SqL.of f7), rfl, flat_ints fs2, _, rfl, ?_⟩
            change (if (!inV (V.int z) (fs2.map V.int)) = true then _ else _ : Prop)
            rw [notIn_ints]
            by_cases hm2 : z ∈ fs2
            · rw [decide_eq_true hm2]
              refine iteF ⟨fs2, ws2, _, c0, rfl, s7, f7, w7, t7, nd7, r7, sub7, ws7, wk7, or7, fun i y hi hy => ?_⟩
              rcases Nat.lt_or_ge i j with l | l
              · exact cl7 i y l hy
              · have ei : i = j := by omega
                rw [ei, hz] at hy
                cases hy
                exact hm2
            · rw [decide_eq_false hm2]
              have w8 : upd H7 F0 (.lst (fs2.map V.int ++ [V.int z])) W0 = some (.lst (ws2.map V.int)) := by
                rw [upd_ne wF]
                exact w7
              have len8 : (fs2 ++ [z]).length ≤ ps.length := nodup_len ps.length (fs2 ++ [z]) (by
                rw [List.nodup_append]
                refine ⟨nd7, by simp, fun a ha c hc => ?_⟩
                rw [List.mem_singleton.mp hc]
                intro e
                subst e
                exact hm2 ha) fun a ha => by
                rcases List.mem_append.mp ha with ha | ha
                · exact (r7 a ha).inn hw hs
                · rw [List.mem_singleton.mp ha]
                  exact rz.inn hw hs
              rw [List.length_append] at len8
              have len8 : fs2.length + 1 ≤ ps.length := len8
              have lw : ws2.length ≤ 100 := by omega
              refine iteT ⟨_, rfl, .inl ⟨rfl, _, SqL.of f7⟩, _, rfl, F0, _, _, rfl, rfl, f7, by rw [List.length_map]; omega, _, rfl, .inl ⟨rfl, _, SqL.of w8⟩, _, rfl, W0, _, _, rfl, rfl, w8, by rw [List.length_map]; omega, ?_⟩
              refine ⟨fs2 ++ [z], ws2 ++ [z], _, ?_, rfl, ?_, ?_, ?_, ?_, ?_, ?_, ?_, ?_, ?_, ?_, ?_⟩
              · rw [List.length_append, List.length_append]
                show 2 * (ps.length - (fs2.length + 1)) + (ws2.length + 1) < _
                omega
              · intro b o h
                rw [upd_ne (ne_of_none h nW0), upd_ne (ne_of_none h nF)]
                exact s7 _ _ h
              · rw [upd_ne FW, upd_same, List.map_append]
                rfl
              · rw [upd_same, List.map_append]
                rfl
              · rw [upd_ne (ne_of t7 w7 (by intro z; cases z)), upd_ne (ne_of t7 f7 (by intro z; cases z))]
                exact t7
              · rw [List.nodup_append]
                refine ⟨nd7, by simp, fun a ha c hc => ?_⟩
                rw [List.mem_singleton.mp hc]
                intro e
                subst e
                exact hm2 ha
              · intro a ha
                rcases List.mem_append.mp ha with ha | ha
                · exact r7 a ha
                · rw [List.mem_singleton.mp ha]
                  exact rz
              · exact fun a ha => List.mem_append_left _ (sub7 a ha)
              · intro a ha
                rcases List.mem_append.mp ha with ha | ha
                · exact List.mem_append_left _ (ws7 a ha)
                · exact List.mem_append_right _ ha
              · exact fun a ha => List.mem_append_left _ (wk7 a ha)
              · intro a ha
                rcases List.mem_append.mp ha with ha | ha
                · rcases or7 a ha with h | h
                  · exact .inl h
                  · exact .inr (List.mem_append_left _ h)
                · exact .inr (List.mem_append_right _ ha)
              · intro i y hi hy
                rcases Nat.lt_or_ge i j with l | l
                · exact List.mem_append_left _ (cl7 i y l hy)
                · have ei : i = j := by omega
                  rw [ei, hz] at hy
                  cases hy
                  exact List.mem_append_right _ (by simp)
          · rintro σ H7 ⟨fs2, ws2, v5, c0, rfl, s7, f7, w7, t7, nd7, r7, sub7, ws7, wk7, or7, cl7⟩
            rw [List.length_map] at cl7
            refine ⟨fs2, ws2, _, _, c0, rfl, s7, f7, w7, nd7, r7, sub7 st hst, ws7, fun a ha => ?_⟩
            rcases or7 a ha with h | h
            · rcases hcl a h with h2 | h2
              · rcases List.mem_append.mp h2 with h3 | h3
                · exact .inl (wk7 a h3)
                · rw [List.mem_singleton.mp h3]
                  refine .inr fun z hz => ?_
                  obtain ⟨i, hi, ei⟩ := List.getElem_of_mem hz
                  exact cl7 i z hi (by rw [List.getElem?_eq_getElem hi, ei])
              · exact .inr fun z hz => sub7 z (h2 z hz)
            · exact .inl h
end
end Z

set_option Elab.async false
set_option linter.all false
set_option maxRecDepth 100000
set_option maxHeartbeats 4000000
namespace Z
open PySem PySem.Spec PyProof.Rows L2 GG
abbrev sCC : Stmt := top 15
structure NamesC (mg : Str → Option Value) : Prop extends Names mg where
  zip : mg "zip" = none
  sum : mg "sum" = none
def sdI (r : List Bool) : List Int := r.map fun b => if b then 1 else 0
theorem sdI_sum : ∀ r : List Bool, (sdI r).sum = (hds r : Nat)
  | [] => rfl
  | b :: r => by
    have ih := sdI_sum r
    unfold hds at ih ⊢
    unfold sdI at ih ⊢
    rw [List.map_cons, List.sum_cons, ih, List.count_cons]
    cases b <;> simp
    omega
def cnts (ps : List Pl) (js : List Int) (g : Int → Bool) (l : List (List Bool)) : List Int := (List.range (js.length + 1)).map fun h => (cntC ps js g l h : Nat)
theorem cnts_len (ps : List Pl) (js : List Int) (g : Int → Bool) (l : List (List Bool)) : (cnts ps js g l).length = js.length + 1 := by
  unfold cnts
  rw [List.length_map, List.length_range]
theorem cnts_get {ps : List Pl} {js : List Int} {g : Int → Bool} {l : List (List Bool)} {h : Nat} (lt : h < js.length + 1) : (cnts ps js g l)[h]? = some ((cntC ps js g l h : Nat) : Int) := by
  unfold cnts
  rw [List.getElem?_map, List.getElem?_range lt]
  rfl
theorem cntC_snoc (ps : List Pl) (js : List Int) (g : Int → Bool) (l : List (List Bool)) (r : List Bool) (h : Nat) : cntC ps js g (l ++ [r]) h = cntC ps js g l h + (if (hds r == h && (goodC ps js r && g (goalC ps js r))) = true then 1 else 0) := by
  unfold cntC
  rw [List.countP_append, List.countP_singleton]
theorem cnts_skip {ps : List Pl} {js : List Int} {g : Int → Bool} {l : List (List Bool)} {r : List Bool} (h : (goodC ps js r && g (goalC ps js r)) = false) : cnts ps js g (l ++ [r]) = cnts ps js g l := by
  unfold cnts
  refine List.map_congr_left fun k _ => ?_
  rw [cntC_snoc, h, Bool.and_false]
  rfl
theorem cnts_add {ps : List Pl} {js : List Int} {g : Int → Bool} {l : List (List Bool)} {r : List Bool} (h : (goodC ps js r && g (goalC ps js r)) = true) (hr : hds r < js.length + 1) : cnts ps js g (l ++ [r]) = (cnts ps js g l).set (hds r) (((cntC ps js g l (hds r) : Nat) : Int) + 1) := by
  refine List.ext_getElem? fun i => ?_
  rcases Nat.lt_or_ge i (js.length + 1) with lt | ge
  · rw [cnts_get lt, cntC_snoc, h, Bool.and_true]
    by_cases e : hds r = i
    · subst e
      rw [List.getElem?_set_self (by rw [cnts_len]; exact lt)]
      simp
    · rw [List.getElem?_set_ne e, cnts_get lt]
      simp [e]
  · rw [List.getElem?_eq_none (by rw [cnts_len]; exact ge), List.getElem?_eq_none (by rw [List.length_set, cnts_len]; exact ge)]
theorem hds_le (r : List Bool) : hds r ≤ r.length := List.count_le_length
theorem pk_len {ps : List Pl} {js : List Int} {r : List Bool} (h : r.length = js.length) : (pk ps js r).length = js.length := by
  unfold pk
  rw [List.length_map, List.length_zip, h, Nat.min_self]
theorem look_out {ps : List Pl} {js : List Int} {r : List Bool} {k : Int} (h : k ∉ js) : look (pk ps js r) k = none := by
  cases e : look (pk ps js r) k with
  | none => rfl
  | some x =>
    have := look_mem e
    unfold pk at this
    obtain ⟨z, hz, ez⟩ := List.mem_map.mp this
    have e1 : z.1 = k := congrArg Prod.fst ez
    exact absurd (e1 ▸ (List.of_mem_zip hz).1) h
theorem pk_get {ps : List Pl} {js : List Int} {r : List Bool} {k : Nat} {j : Int} {b : Bool} (hj : js[k]? = some j) (hb : r[k]? = some b) : (pk ps js r)[k]? = some (j, side ps j b) := by
  unfold pk
  rw [List.getElem?_map, (List.getElem?_zip_eq_some (z := (j, b))).mpr ⟨hj, hb⟩]
  rfl
theorem pk_key {ps : List Pl} {js : List Int} {r : List Bool} {i : Nat} {e : Int × Int} (h : (pk ps js r)[i]? = some e) : js[i]? = some e.1 := by
  unfold pk at h
  rw [List.getElem?_map] at h
  cases hz : (js.zip r)[i]? with
  | none => rw [hz] at h; cases h
  | some z =>
    rw [hz] at h
    have e1 := (List.getElem?_zip_eq_some.mp hz).1
    rw [← Option.some.inj h]
    exact e1
theorem look_fresh {ps : List Pl} {js : List Int} {r : List Bool} (nd : js.Nodup) {k : Nat} {j : Int} (hj : js[k]? = some j) : look ((pk ps js r).take k) j = none := by
  cases e : look ((pk ps js r).take k) j with
  | none => rfl
  | some x =>
    obtain ⟨i, hi⟩ := List.getElem?_of_mem (look_mem e)
    rw [List.getElem?_take] at hi
    rcases Nat.lt_or_ge i k with lt | ge
    · rw [if_pos lt] at hi
      have h1 : js[i]? = some j := pk_key hi
      have := (List.getElem?_inj (List.getElem?_eq_some_iff.mp h1).1 nd).mp (h1.trans hj.symm)
      omega
    · rw [if_neg (by omega)] at hi
      cases hi
theorem none_in (f : Int → Option Int) : ∀ js : List Int, (!inV .non (js.map fun j => oV (f j))) = js.all fun j => (f j).isSome
  | [] => rfl
  | j :: js => by
    rw [List.all_cons, ← none_in f js]
    show (!(eqV (oV (f j)) .non || inV .non _)) = _
    cases f j with
    | none => rfl
    | some z => rfl
theorem good_stops {ps : List Pl} {js : List Int} {r : List Bool} : (js.all fun j => (fol (pk ps js r) (js.length + 1) j).isSome) = goodC ps js r := by
  unfold goodC
  congr 1
  funext k
  rw [fol_led]
  cases look (pk ps js r) (led (pk ps js r) js.length k) <;> rfl
theorem good_goal {ps : List Pl} {js : List Int} {r : List Bool} (h : goodC ps js r = true) : fol (pk ps js r) (js.length + 1) 0 = some (goalC ps js r) := by
  rw [fol_led]
  have : look (pk ps js r) (led (pk ps js r) js.length 0) = none := by
    by_cases m : (0 : Int) ∈ js
    · unfold goodC at h
      have := List.all_eq_true.mp h 0 m
      cases e : look (pk ps js r) (led (pk ps js r) js.length 0) with
      | none => rfl
      | some x => rw [e] at this; cases this
    · rw [led_stay (look_out m)]
      exact look_out m
  rw [this]
  rfl
section
variable {P : Program} {w : World} {K : PySem.W.Frag} {mg : Str → Option Value} {base : Heap}
def spCC : Sp := fun vs H Q _ => ∃ (m t g : Addr) (ps : List Pl) (js gs : List Int), vs = [.ref m, .ref t, .ref g] ∧ Mach H m ps ∧ WF ps ∧ ps.length ≤ 60 ∧ H t = some (.lst (js.map V.int)) ∧ H g = some (.lst (gs.map V.int)) ∧ js.length ≤ 10 ∧ js.Nodup ∧ (∀ k ∈ js, In ps k ∧ (place ps k).isT = true) ∧ gs.length ≤ 60 ∧ ∀ p H', Same H H' → H p = none → H' p = some (.tup ((cnts ps js (fun k => decide (k ∈ gs)) (bv js.length)).map V.int)) → Q (.ref p) H'
theorem scCC : FnScope ["machine", "tossers", "goals", "counts", "mask", "sides", "selected", "stops", "k", "index", "side"] ["machine", "tossers", "goals"] (defScope sCC) := ⟨rfl, rfl, rfl, by decide +kernel, rfl, by decide +kernel, by decide +kernel⟩
theorem ok_cc {f h : Addr} {fd hd : FuncData} (F : Fun K "count_choices" "count_choices" sCC f fd) (T : NamesC mg) (GF : FnOk P w K mg base CX0 1 h hd ["selected", "start"] spFC) (PF : Def K mg "follow_choice" h hd ["selected", "start"]) : FnOk P w K mg base CX0 2 f fd ["machine", "tossers", "goals"] spCC := by
  refine F.ok scCC (fun vs H Q E h => ?_) (fun cdv A outer s H vs Q E hr h => ?_)
  · obtain ⟨m, t, g, ps, js, gs, rfl, _⟩ := h
    rfl
  · obtain ⟨m, t, g, ps, js, gs, rfl, hm, hw, l60, et, eg, j10, nd, ht, g60, q⟩ := h
    refine ⟨_, (pss_cons (ps_set (i := 3) scCC.nd rfl (.inl rfl) (pe_op op_rep (pe_lst (pa_cons pe_int pa_nil)) (pe_op op_add (pe_callB call_len_seq (by rfl) T.len PySem.boot_len (pa_cons (pv 1) pa_nil)) pe_int)))
      (pss_cons (ps_for PassesOwn.never rfl (pi_range1 rfl T.range (pa_cons (pe_op op_shlN pe_int (pe_callB call_len_seq (by rfl) T.len PySem.boot_len (pa_cons (pv 1) pa_nil))) pa_nil)) (pg_name (i := 4) scCC.nd rfl (.inr rfl)) (pss_cons (ps_setLc (i := 5) (own := [("k", 8)]) (g := gName 8) (tt := tYes) rfl scCC.nd rfl rfl (sw_true rfl rfl rfl (by decide +kernel)) (pi_range1 rfl T.range (pa_cons (pe_callB call_len_seq (by rfl) T.len PySem.boot_len (pa_cons (pv 1) pa_nil)) pa_nil)) (blkOk_by (N := ["machine", "tossers", "goals", "counts", "mask", "sides", "selected", "stops", "k", "index", "side"]) (sc := defScope sCC) (own := [("k", 8)]) (by decide +kernel)) (fun _ _ _ _ _ => (pg_name (i := 8) scCC.nd rfl (.inl rfl))) (fun _ _ _ _ _ => pts_nil) (fun _ _ _ _ _ => (pe_op op_andM (pe_op op_shrN (pv 4) (pv 8)) pe_int)))
      (pss_cons (ps_set (i := 6) scCC.nd rfl (.inr rfl) (pe_dc (own := [("index", 9), ("side", 10)]) (g := gTup K 2 (gCons (gName 9) (gCons (gName 10) gNil))) (tt := tYes) rfl scCC.nd (pi_zip (by rfl) T.zip (pa_cons (pv 1) (pa_cons (pv 5) pa_nil))) (blkOk_by (N := ["machine", "tossers", "goals", "counts", "mask", "sides", "selected", "stops", "k", "index", "side"]) (sc := defScope sCC) (own := [("index", 9), ("side", 10)]) (by decide +kernel)) (fun _ _ _ _ _ => (pg_tup rfl (pgs_cons (pg_name (i := 9) scCC.nd rfl (.inl rfl) (Or.inr rfl)) (pgs_cons (pg_name (i := 10) scCC.nd rfl (.inl rfl) (Or.inr rfl)) pgs_nil)))) (fun _ _ _ _ _ => pts_nil) (fun _ _ _ _ _ => (pv 9)) (fun _ _ _ _ _ => (pe_ix (KX.ix_tupK (K := K) rfl) (pe_ix (KX.ix_tupK (K := K) rfl) (pv 0) (pv 9) (fun _ _ => rfl)) (pe_op op_sub pe_int (pv 10)) (fun _ _ => rfl)))))
      (pss_cons (ps_setLc (i := 7) (own := [("index", 9)]) (g := gName 9) (tt := tYes) rfl scCC.nd rfl rfl (sw_true rfl rfl rfl (by decide +kernel)) (pi_list (pv 1)) (blkOk_by (N := ["machine", "tossers", "goals", "counts", "mask", "sides", "selected", "stops", "k", "index", "side"]) (sc := defScope sCC) (own := [("index", 9)]) (by decide +kernel)) (fun _ _ _ _ _ => (pg_name (i := 9) scCC.nd rfl (.inl rfl))) (fun _ _ _ _ _ => pts_nil) (fun _ _ _ _ _ => (pe_call GF (hr.mono (by decide)) (by rfl) PF.is PF.kp PF.bi .nil pass0 (pa_cons (pv 6) (pa_cons (pv 9) pa_nil)))))
      (pss_one (ps_if (PW.pt (pw_and (pt_cmpR op_notIn_seq pe_non (pv 7) (by rfl)) (pw_and1 (pt_cmpR op_in_seq (pe_call GF (hr.mono (by decide)) (by rfl) PF.is PF.kp PF.bi .nil pass0 (pa_cons (pv 6) (pa_cons pe_int pa_nil))) (pv 2) (by rfl))))) (pss_one (ps_augS (pv 3) (pe_callB (cr_sum rfl) (by rfl) T.sum (by decide +kernel) (pa_cons (pv 5) pa_nil)) OPS.get_list pe_int ip_add set_list)) pss_nil))))))
      (pss_one (ps_ret (pe_callTy call_tuple_of (by rfl) T.tuple (by decide +kernel) (pa_cons (pv 3) pa_nil)))))), ?_⟩
    have line : sizeLine = 16777216 := by decide
    have p1024 : (2 : Nat) ^ js.length ≤ 1024 := Nat.pow_le_pow_right (by decide) j10
    refine ⟨by show 1 ≤ sizeLine; decide, fun z nz => ?_⟩
    have s1 := Same.upd (o := .lst [.int 0]) nz
    have ez : upd H z (.lst [.int 0]) z = some (.lst [.int 0]) := upd_same
    generalize upd H z (.lst [.int 0]) = H1 at s1 ez ⊢
    refine ⟨_, rfl, t, _, rfl, .inl (SqL.of (s1 _ _ et)), _, _, rfl, rfl, z, _, _, rfl, rfl, ez, by rw [List.length_map]; omega, by rw [List.length_map]; omega, by rw [List.length_map]; show 1 * (((js.length : Nat) : Int) + 1).toNat ≤ sizeLine; omega, fun c nc => ?_⟩
    have s2 := s1.trans (Same.upd (o := .lst (List.replicate (((js.map V.int).length : Nat) + 1 : Int).toNat [V.int 0]).flatten) nc)
    have ec : upd H1 c (.lst (List.replicate (((js.map V.int).length : Nat) + 1 : Int).toNat [V.int 0]).flatten) c = some (.lst ((cnts ps js (fun k => decide (k ∈ gs)) []).map V.int)) := by
      rw [upd_same]
      have : (((js.map V.int).length : Nat) + 1 : Int).toNat = js.length + 1 := by rw [List.length_map]; omega
      rw [this]
      unfold cnts cntC
      simp [List.flatten_replicate_singleton, List.map_const']
    have nc0 : H c = none := s1.free nc
    change (_ : Hp → Prop) (upd H1 c _)
    generalize upd H1 c (.lst (List.replicate (((js.map V.int).length : Nat) + 1 : Int).toNat [V.int 0]).flatten) = H2 at s2 ec ⊢
    refine ⟨_, rfl, t, _, rfl, .inl (SqL.of (s2 _ _ et)), _, _, rfl, rfl, ?_⟩
    have en : (1 : Int) * 2 ^ (js.map V.int).length = ((2 ^ js.length : Nat) : Int) := by rw [List.length_map, Int.one_mul]; exact (Int.natCast_pow 2 js.length).symm
    have hb : -2 ^ 62 ≤ (1 : Int) * 2 ^ (js.map V.int).length ∧ (1 : Int) * 2 ^ (js.map V.int).length < 2 ^ 62 := by
      rw [en]
      generalize 2 ^ js.length = N at p1024
      omega
    have hn : ((1 : Int) * 2 ^ (js.map V.int).length).toNat = 2 ^ js.length := by rw [en, Int.toNat_natCast]
    refine ⟨shl_ok (n := 1) (by decide) (by rw [List.length_map]; omega), _, rfl, hb.1, hb.2, for_range (lo := 0) (fun i σ H' => ∃ (v4 v5 v6 v7 : Option V), σ = [some (V.ref m), some (V.ref t), some (V.ref g), some (V.ref c), v4, v5, v6, v7, none, none, none] ∧ Same H H' ∧ H' c = some (.lst ((cnts ps js (fun k => decide (k ∈ gs)) ((List.range i).map (bits js.length))).map V.int))) ⟨none, none, none, none, rfl, s2, ec⟩ ?_ ?_⟩
    · rintro i σ H3 hi ⟨v4, v5, v6, v7, rfl, s3, ec3⟩
      rw [hn] at hi
      rw [Int.zero_add]
      have jl : (js.map V.int).length = js.length := List.length_map ..
      have hjn : (((js.map V.int).length : Nat) : Int).toNat = js.length := by rw [Int.toNat_natCast, jl]
      refine ⟨_, rfl, t, _, rfl, .inl (SqL.of (s3 _ _ et)), _, rfl, by rw [jl]; omega, by rw [jl]; omega, fun D nD => ?_⟩
      refine lc_range (lo := 0) (n := (((js.map V.int).length : Nat) : Int).toNat) (fun k Hx => Same H3 Hx ∧ Hx D = some (.lst ((sdI ((bits js.length i).take k)).map V.int))) ⟨Same.upd nD, upd_same⟩ ?_ ?_
      · rintro k H4 hk ⟨s4, e4⟩
        rw [hjn] at hk
        rw [Int.zero_add]
        refine ⟨rfl, ?_⟩
        dsimp only [tYes]
        refine iteT ⟨_, rfl, _, rfl, _, _, rfl, rfl, _, 1, rfl, rfl, ?_⟩
        have gk := bits_get js.length i k hk
        have tk : (bits js.length i).take (k + 1) = (bits js.length i).take k ++ [i / 2 ^ k % 2 == 1] := by rw [List.take_succ, gk]; rfl
        have ev : (i : Int) / 2 ^ k % 2 ^ 1 = if (i / 2 ^ k % 2 == 1) = true then 1 else 0 := by
          rw [show (i : Int) / 2 ^ k % 2 ^ 1 = ((i / 2 ^ k % 2 : Nat) : Int) by rw [Int.natCast_emod, Int.natCast_ediv, Int.natCast_pow]; rfl]
          have := Nat.mod_lt (i / 2 ^ k) (show 0 < 2 by decide)
          generalize i / 2 ^ k % 2 = z at this ⊢
          match z, this with
          | 0, _ => rfl
          | 1, _ => rfl
        refine ⟨_, e4, by rw [List.length_map]; unfold sdI; rw [List.length_map, List.length_take]; omega, fun b o h => by rw [upd_ne (ne_of_none h nD)]; exact s4 _ _ h, ?_⟩
        rw [upd_same, tk, ev]
        unfold sdI
        rw [List.map_append, List.map_append]
        rfl
      · rintro H4 ⟨s4, e4⟩
        rw [hjn, List.take_of_length_le (by rw [bits_len]; exact Nat.le_refl _)] at e4
        have sl : (sdI (bits js.length i)).length = js.length := by unfold sdI; rw [List.length_map, bits_len]
        have s34 := s3.trans s4
        have ec4 := s4 _ _ ec3
        refine ⟨_, rfl, _, rfl, t, D, _, _, rfl, SqL.of (s34 _ _ et), SqL.of e4, fun M nM => ?_⟩
        refine DZ.dc_zL (K := K) (xs := js.map V.int) (ys := (sdI (bits js.length i)).map V.int) (by rw [List.length_map, List.length_map, sl]) (fun k Hx => Same H4 Hx ∧ H4 M = none ∧ Hx M = some (.dK (kvI ((pk ps js (bits js.length i)).take k)))) ⟨Same.upd nM, nM, upd_same⟩ (fun k Hx h => ⟨SqL.of (h.1 _ _ (s34 _ _ et)), SqL.of (h.1 _ _ e4)⟩) ?_ ?_
        · rintro k x y H5 U hx hy ⟨s5, nM, e5⟩ nU
          refine ⟨U, _, rfl, SqT.of upd_same, rfl, _, _, rfl, _, _, rfl, rfl, rfl, ?_⟩
          dsimp only [tYes]
          refine iteT ?_
          obtain ⟨j, hj, rfl⟩ : ∃ j, js[k]? = some j ∧ V.int j = x := by
            rw [List.getElem?_map] at hx
            cases e : js[k]? with
            | none => rw [e] at hx; cases hx
            | some z => rw [e] at hx; exact ⟨z, rfl, Option.some.inj hx⟩
          have hk : k < js.length := (List.getElem?_eq_some_iff.mp hj).1
          have gk := bits_get js.length i k hk
          generalize (i / 2 ^ k % 2 == 1) = b at gk
          have hy2 : y = .int (if b = true then 1 else 0) := by
            unfold sdI at hy
            rw [List.getElem?_map, List.getElem?_map, gk] at hy
            exact (Option.some.inj hy).symm
          subst hy2
          have gj := ht j (List.mem_of_getElem? hj)
          have sU : Same H4 (upd H5 U (.tup [.int j, .int (if b = true then 1 else 0)])) := s5.trans (Same.upd nU)
          obtain ⟨rs, tt, em, ea, e2⟩ := (hm.same (s34.trans sU)).at hw gj.1.1 gj.1.2
          have row : atI (place ps j).row (2 - (if b = true then 1 else 0)) = some (.int (side ps j b)) := by
            have hT := gj.2
            unfold side
            cases hp : place ps j with
            | toss x y => cases b <;> rfl
            | fin n => rw [hp] at hT; cases hT
            | never => rw [hp] at hT; cases hT
          have tk : (pk ps js (bits js.length i)).take (k + 1) = (pk ps js (bits js.length i)).take k ++ [(j, side ps j b)] := by rw [List.take_succ, pk_get hj gk]; rfl
          have pl : ((pk ps js (bits js.length i)).take k).length ≤ 10 := by rw [List.length_take, pk_len (bits_len _ _)]; omega
          have eM : upd H5 U (.tup [.int j, .int (if b = true then 1 else 0)]) M = some (.dK (kvI ((pk ps js (bits js.length i)).take k))) := Same.upd nU _ _ e5
          refine ⟨_, rfl, _, rfl, _, rfl, m, rs, j, .ref tt, rfl, rfl, SqT.of em, ea, _, rfl, _, _, rfl, rfl, tt, _, _, _, rfl, rfl, SqT.of e2, row, kvI ((pk ps js (bits js.length i)).take k), .inl j, rfl, eM, by unfold kvI; rw [List.length_map]; omega, fun a o h => by rw [upd_ne (ne_of_none h (by assumption))]; exact sU _ _ h, by assumption, ?_⟩
          rw [upd_same, putK_new _ (by rw [val_kvI, look_fresh nd hj]; rfl), tk]
          unfold kvI
          rw [List.map_append]
          rfl
        · rintro H5 ⟨s5, _, e5⟩
          rw [jl, List.take_of_length_le (by rw [pk_len (bits_len _ _)]; exact Nat.le_refl _)] at e5
          have s35 := s34.trans s5
          refine ⟨_, rfl, t, rfl, ⟨_, SqL.of (s35 _ _ et)⟩, fun S nS => ?_⟩
          refine lc_list (K := K) (a := t) (xs := js.map V.int) (fun k Hx => Same H5 Hx ∧ Hx S = some (.lst ((js.take k).map fun j => oV (fol (pk ps js (bits js.length i)) (js.length + 1) j)))) ⟨Same.upd nS, upd_same⟩ (fun k Hx _ h => SqL.of (h.1 _ _ (s35 _ _ et))) ?_ ?_
          · rintro k x H6 hx ⟨s6, e6⟩
            refine ⟨rfl, ?_⟩
            dsimp only [tYes]
            refine iteT ?_
            obtain ⟨j, hj, rfl⟩ : ∃ j, js[k]? = some j ∧ V.int j = x := by
              rw [List.getElem?_map] at hx
              cases e : js[k]? with
              | none => rw [e] at hx; cases hx
              | some z => rw [e] at hx; exact ⟨z, rfl, Option.some.inj hx⟩
            have hk : k < js.length := (List.getElem?_eq_some_iff.mp hj).1
            have pl : (pk ps js (bits js.length i)).length = js.length := pk_len (bits_len _ _)
            have tk : js.take (k + 1) = js.take k ++ [j] := by rw [List.take_succ, hj]; rfl
            refine ⟨_, rfl, _, rfl, M, j, _, rfl, s6 _ _ e5, by rw [pl]; omega, ?_⟩
            rw [pl]
            refine ⟨_, e6, by rw [List.length_map, List.length_take]; omega, fun b o h => by rw [upd_ne (ne_of_none h nS)]; exact s6 _ _ h, ?_⟩
            rw [upd_same, tk, List.map_append]
            rfl
          · rintro H6 ⟨s6, e6⟩
            rw [jl, List.take_length] at e6
            have s36 := s35.trans s6
            have ec6 := ((s4.trans s5).trans s6) _ _ ec3
            have pl : (pk ps js (bits js.length i)).length = js.length := pk_len (bits_len _ _)
            have sn : (List.range (i + 1)).map (bits js.length) = (List.range i).map (bits js.length) ++ [bits js.length i] := by rw [List.range_succ, List.map_append]; rfl
            have skip : (goodC ps js (bits js.length i) && decide (goalC ps js (bits js.length i) ∈ gs)) = false → Same H H6 ∧ H6 c = some (.lst ((cnts ps js (fun k => decide (k ∈ gs)) ((List.range (i + 1)).map (bits js.length))).map V.int)) := fun h => by
              refine ⟨s36, ?_⟩
              rw [sn, cnts_skip h]
              exact ec6
            refine ⟨_, rfl, S, _, rfl, .inl (SqL.of e6), rfl, ?_, _, rfl, ?_⟩
            · rw [List.all_map]
              refine List.all_eq_true.mpr fun j _ => ?_
              show flatV (oV _) = true
              cases fol (pk ps js (bits js.length i)) (js.length + 1) j <;> rfl
            rw [if_pos rfl, none_in, good_stops]
            cases hg : goodC ps js (bits js.length i) with
            | false =>
              refine iteF ⟨_, _, _, _, rfl, skip (by rw [hg]; rfl)⟩
            | true =>
              refine iteT ⟨_, rfl, M, 0, _, rfl, s6 _ _ e5, by rw [pl]; omega, ?_⟩
              rw [pl, good_goal hg]
              refine ⟨_, rfl, g, _, rfl, .inl (SqL.of (s36 _ _ eg)), rfl, by rw [List.all_map]; exact List.all_eq_true.mpr fun _ _ => rfl, _, rfl, ?_⟩
              show (if inV (V.int (goalC ps js (bits js.length i))) (gs.map V.int) = true then _ else _ : Prop)
              rw [notIn_ints]
              by_cases hm2 : goalC ps js (bits js.length i) ∈ gs
              · rw [decide_eq_true hm2]
                have e46 := (s5.trans s6) _ _ e4
                have hle : hds (bits js.length i) < js.length + 1 := by have := hds_le (bits js.length i); rw [bits_len] at this; omega
                refine iteT ⟨_, rfl, _, rfl, D, _, rfl, SqL.of e46, c, _, hds (bits js.length i), _, rfl, congrArg V.int (sdI_sum _), SqL.of ec6, by rw [List.getElem?_map, cnts_get hle]; rfl, _, _, rfl, rfl, c, _, _, hds (bits js.length i), rfl, congrArg V.int (sdI_sum _), ec6, ixN_nat (by rw [List.length_map, cnts_len]; exact hle), _, _, _, _, rfl, fun b o h => by rw [upd_ne (ne_of_none h nc0)]; exact s36 _ _ h, ?_⟩
                rw [upd_same, sn, cnts_add (by rw [hg, decide_eq_true hm2]; rfl) hle, List.map_set]
              · rw [decide_eq_false hm2]
                exact iteF ⟨_, _, _, _, rfl, skip (by rw [decide_eq_false hm2, Bool.and_false])⟩
    · rintro σ H3 ⟨v4, v5, v6, v7, rfl, s3, ec3⟩
      rw [hn] at ec3
      refine ⟨_, rfl, c, _, rfl, .inl ⟨SqL.of ec3, fun l nl => ?_⟩⟩
      exact q l _ (s3.trans (Same.upd nl)) (s3.free nl) upd_same
end
end Z

set_option Elab.async false
set_option linter.all false
set_option maxRecDepth 100000
set_option maxHeartbeats 4000000
namespace Z
open PySem PySem.Spec PyProof.Rows L2 GG
abbrev sLO : Stmt := top 34
theorem place_in' {ps : List Pl} {i : Nat} (hi : i < ps.length) : In ps ((i : Nat) : Int) := ⟨by omega, by omega⟩
section
variable {P : Program} {w : World} {K : PySem.W.Frag} {mg : Str → Option Value} {base : Heap}
/-- the places from which an end is reached, told one by one -/
def Known (ps : List Pl) (bs : List Bool) : Prop := bs.length = ps.length ∧ ∀ k : Nat, k < ps.length → (bs[k]? = some true ↔ Op ps ((k : Nat) : Int))
def spLO : Sp := fun vs H Q _ => ∃ (m : Addr) (ps : List Pl), vs = [.ref m] ∧ Mach H m ps ∧ WF ps ∧ ∀ (p : Addr) (bs : List Bool) H', Same H H' → H p = none → H' p = some (.lst (bs.map V.bl)) → Known ps bs → Q (.ref p) H'
theorem scLO : FnScope ["machine", "found", "at", "place"] ["machine"] (defScope sLO) := ⟨rfl, rfl, rfl, by decide +kernel, rfl, by decide +kernel, by decide +kernel⟩
theorem ok_lo {f g : Addr} {fd gd : FuncData} (F : Fun K "_law_open" "_law_open" sLO f fd) (T : Names mg) (GL : FnOk P w K mg base CX0 1 g gd ["machine", "start"] spLR) (PL_ : Def K mg "_law_reached" g gd ["machine", "start"]) : FnOk P w K mg base CX0 2 f fd ["machine"] spLO := by
  refine F.ok scLO (fun vs H Q E h => ?_) (fun cdv A outer s H vs Q E hr h => ?_)
  · obtain ⟨m, ps, rfl, _⟩ := h
    rfl
  · obtain ⟨m, ps, rfl, hm, hw, q⟩ := h
    have hu : A.units + 3 + 64 < cLine := hr.units
    refine ⟨_, (pss_cons (ps_set (i := 1) scLO.nd rfl (.inl rfl) (pe_lst pa_nil))
      (pss_cons (ps_for PassesOwn.never rfl (pi_range1 rfl T.range (pa_cons (pe_callB call_len_seq (by rfl) T.len PySem.boot_len (pa_cons (pv 0) pa_nil)) pa_nil)) (pg_name (i := 2) scLO.nd rfl (.inl rfl)) (pss_one (ps_expr (pe_bm PySem.F.plainAttrs_list PySem.F.slot_list_append PySem.F.type_list_append mt_append (pv 1) (pa_cons (pe_cmpR (op_neD hu) (pe_lc (own := [("place", 3)]) (g := gName 3) rfl scLO.nd (pi_list (pe_call GL (hr.mono (by decide)) (by rfl) PL_.is PL_.kp PL_.bi .nil pass0 (pa_cons (pv 0) (pa_cons (pv 2) pa_nil)))) (blkOk_by (N := ["machine", "found", "at", "place"]) (sc := defScope sLO) (own := [("place", 3)]) (by decide +kernel)) (fun _ _ _ _ _ => (pg_name (i := 3) scLO.nd rfl (.inl rfl))) (fun _ _ _ _ _ => (pts_one (pt_cmpR op_eq (pe_ix (KX.ix_tupK (K := K) rfl) (pe_ix (KX.ix_tupK (K := K) rfl) (pv 0) (pv 3) (fun _ _ => rfl)) pe_int (fun _ _ => rfl)) pe_str (nomark _)))) (fun _ _ _ _ _ => pe_int)) (pe_lst pa_nil) (nomark _)) pa_nil)))))
      (pss_one (ps_ret (pv 1))))), ?_⟩
    have line : sizeLine = 16777216 := by decide
    have hl := hw.le
    obtain ⟨rs, em, pl⟩ := id hm
    have rl := pl.len
    refine ⟨Nat.zero_le _, fun F0 nF => ?_⟩
    refine ⟨_, rfl, m, rs, rfl, .inr (SqT.of ((Same.upd nF) _ _ em)), _, rfl, by rw [rl]; omega, by rw [rl]; omega, ?_⟩
    rw [rl, Int.toNat_natCast]
    refine for_range (lo := 0) (n := ps.length) (fun i σ H' => ∃ (bs : List Bool) (v2 : Option V), σ = [some (V.ref m), some (V.ref F0), v2, none] ∧ Same H H' ∧ H' F0 = some (.lst (bs.map V.bl)) ∧ bs.length = i ∧ ∀ k : Nat, k < i → (bs[k]? = some true ↔ Op ps ((k : Nat) : Int))) ⟨[], _, rfl, Same.upd nF, upd_same, rfl, fun k hk => absurd hk (Nat.not_lt_zero _)⟩ ?_ ?_
    · rintro i σ H2 hi ⟨bs, v2, rfl, s2, f2, lb, hb⟩
      have hin : In ps ((i : Nat) : Int) := place_in' hi
      refine ⟨_, rfl, .inl ⟨rfl, _, SqL.of f2⟩, ?_⟩
      refine ⟨_, rfl, _, rfl, m, (0 : Int) + (i : Nat), ps, rfl, hm.same s2, hw, by rw [show (0 : Int) + (i : Nat) = (i : Nat) by omega]; exact hin, fun p ks H3 s3 np ep hk => ?_⟩
      rw [show (0 : Int) + (i : Nat) = (i : Nat) by omega] at hk
      have hkl := hk.len hw hin
      have s23 := s2.trans s3
      refine ⟨p, rfl, ⟨_, SqL.of ep⟩, fun D nD => ?_⟩
      refine lc_list (K := K) (a := p) (xs := ks.map V.int) (fun j Hx => Same H3 Hx ∧ ∃ os : List Int, Hx D = some (.lst (os.map V.int)) ∧ os.length ≤ j ∧ (os ≠ [] ↔ ∃ k ∈ ks.take j, ∃ n, place ps k = .fin n)) ⟨Same.upd nD, [], upd_same, Nat.le_refl _, by simp⟩ (fun j Hx _ h => SqL.of (h.1 _ _ ep)) ?_ ?_
      · rintro j x H4 hx ⟨s4, os, e4, lo, ho⟩
        obtain ⟨k, hk2, rfl⟩ : ∃ k, ks[j]? = some k ∧ V.int k = x := by
          rw [List.getElem?_map] at hx
          cases e : ks[j]? with
          | none => rw [e] at hx; cases hx
          | some z => rw [e] at hx; exact ⟨z, rfl, Option.some.inj hx⟩
        have hj := (List.getElem?_eq_some_iff.mp hk2).1
        have rk : Rch ps ((i : Nat) : Int) k := (hk.2 k).mp (List.mem_of_getElem? hk2)
        have hkin := rk.inn hw hin
        obtain ⟨rs', tt, em', ea, et⟩ := (hm.same (s23.trans s4)).at hw hkin.1 hkin.2
        refine ⟨rfl, ?_⟩
        have tk : ks.take (j + 1) = ks.take j ++ [k] := by rw [List.take_succ, hk2]; rfl
        have no : ∀ p, place ps k = p → (∀ n, p ≠ .fin n) → Same H3 H4 ∧ ∃ os, H4 D = some (HO.lst (List.map V.int os)) ∧ os.length ≤ j + 1 ∧ (os ≠ [] ↔ ∃ k ∈ ks.take (j + 1), ∃ n, place ps k = .fin n) := fun p hp hn => by
          refine ⟨s4, os, e4, by omega, ho.trans ⟨fun ⟨z, hz, n, hzn⟩ => ⟨z, by rw [tk]; exact List.mem_append_left _ hz, n, hzn⟩, fun ⟨z, hz, n, hzn⟩ => ?_⟩⟩
          rw [tk] at hz
          rcases List.mem_append.mp hz with hz | hz
          · exact ⟨z, hz, n, hzn⟩
          · rw [List.mem_singleton.mp hz, hp] at hzn
            exact absurd hzn (hn n)
        cases e : place ps k with
        | fin n =>
          rw [e] at et
          refine ⟨_, rfl, _, rfl, m, rs', k, .ref tt, rfl, rfl, SqT.of em', ea, tt, _, 0, .str "end", rfl, rfl, SqT.of et, atI_nat (j := 0) rfl, rfl, _, rfl, ?_⟩
          rw [decide_eq_true rfl]
          refine iteT ⟨_, e4, by rw [List.length_map]; omega, fun b o h => by rw [upd_ne (ne_of_none h nD)]; exact s4 _ _ h, os ++ [1], by rw [upd_same, List.map_append]; rfl, by rw [List.length_append]; show os.length + 1 ≤ _; omega, ?_⟩
          refine ⟨fun _ => ⟨k, by rw [tk]; simp, n, e⟩, fun _ => by simp⟩
        | toss x y =>
          rw [e] at et
          refine ⟨_, rfl, _, rfl, m, rs', k, .ref tt, rfl, rfl, SqT.of em', ea, tt, _, 0, .str "toss", rfl, rfl, SqT.of et, atI_nat (j := 0) rfl, rfl, _, rfl, ?_⟩
          rw [decide_eq_false str_end_toss]
          exact iteF (no _ e (fun n z => by cases z))
        | never =>
          rw [e] at et
          refine ⟨_, rfl, _, rfl, m, rs', k, .ref tt, rfl, rfl, SqT.of em', ea, tt, _, 0, .str "never", rfl, rfl, SqT.of et, atI_nat (j := 0) rfl, rfl, _, rfl, ?_⟩
          rw [decide_eq_false str_end_never]
          exact iteF (no _ e (fun n z => by cases z))
      · rintro H4 ⟨s4, os, e4, lo, ho⟩
        rw [List.length_map, List.take_length] at ho
        refine ⟨Nat.zero_le _, fun e0 ne0 => ?_⟩
        have s5 := Same.upd (o := .lst []) ne0
        have d0 : Dp K (upd H4 e0 (.lst [])) (.ref e0) (.list []) := .lst (SqL.of upd_same) .nil
        have s25 := (s23.trans s4).trans s5
        have f5 := s5 _ _ (s4 _ _ (s3 _ _ f2))
        have e5 := s5 _ _ e4
        change (_ : Hp → Prop) (upd H4 e0 (.lst []))
        generalize upd H4 e0 (.lst []) = H5 at s25 f5 e5 d0 ⊢
        refine ⟨.list (os.map PyData.int), .list [], .lst (SqL.of e5) (dpInts os), d0, PySem.W.ke_shaped_ints os, rfl, F0, _, _, rfl, rfl, f5, by rw [List.length_map]; omega, ?_⟩
        have op : os ≠ [] ↔ Op ps ((i : Nat) : Int) := ho.trans ⟨fun ⟨k, hk2, n, e⟩ => ⟨k, n, (hk.2 k).mp hk2, e⟩, fun ⟨k, n, r, e⟩ => ⟨k, (hk.2 k).mpr r, n, e⟩⟩
        have val : ∃ b : Bool, (!PyData.eqv (.list (os.map PyData.int)) (.list [])) = b ∧ (b = true ↔ Op ps ((i : Nat) : Int)) := by
          by_cases h : os = []
          · subst h
            refine ⟨false, rfl, ⟨fun z => (by cases z), fun z => absurd rfl (op.mpr z)⟩⟩
          · exact ⟨true, eqv_nil h, ⟨fun _ => op.mp h, fun _ => rfl⟩⟩
        obtain ⟨b, eb, hb2⟩ := val
        rw [eb]
        refine ⟨bs ++ [b], _, rfl, fun c o h => by rw [upd_ne (ne_of_none h nF)]; exact s25 _ _ h, by rw [upd_same, List.map_append]; rfl, by simp [lb], fun k hk3 => ?_⟩
        rcases Nat.lt_or_ge k i with l | l
        · rw [List.getElem?_append_left (by omega)]
          exact hb k l
        · have ek : k = i := by omega
          subst ek
          rw [List.getElem?_append_right (by omega), lb, Nat.sub_self]
          show some b = some true ↔ _
          rw [← hb2]
          exact ⟨fun z => Option.some.inj z, fun z => by rw [z]⟩
    · rintro σ H2 ⟨bs, v2, rfl, s2, f2, lb, hb⟩
      exact ⟨_, rfl, q F0 bs H2 s2 nF f2 ⟨lb, hb⟩⟩
end
end Z

set_option Elab.async false
set_option linter.all false
namespace KY
open PySem PySem.Spec PyProof.Rows L2 GG
theorem op_neDK {X : Cx} {K : PySem.W.Frag} (hK : X.K = K) (hu : X.A.units + 64 < cLine) : OpR X (compareOp .NotEq) (rNeD K) := by
  subst hK
  exact op_neD hu
theorem op_eqDK {X : Cx} {K : PySem.W.Frag} (hK : X.K = K) (hu : X.A.units + 64 < cLine) : OpR X (compareOp .Eq) (rEqD K) := by
  subst hK
  exact op_eqD hu
end KY

set_option Elab.async false
set_option linter.all false
set_option maxRecDepth 100000
set_option maxHeartbeats 4000000
namespace Z
open PySem PySem.Spec PyProof.Rows L2 GG
abbrev sCG : Stmt := top 17
abbrev sLed : Stmt := top 35
abbrev sLCh : Stmt := top 36
structure NamesDi (mg : Str → Option Value) : Prop extends NamesC mg where
  dict : mg "dict" = none
theorem side_in {ps : List Pl} (hw : WF ps) {k : Int} (hk : In ps k) (b : Bool) : In ps (side ps k b) := by
  unfold side
  cases e : place ps k with
  | toss x y =>
    have := wf_succ hw hk e
    cases b
    · exact this.2
    · exact this.1
  | fin n => exact hk
  | never => exact hk
theorem look_in {ps : List Pl} (hw : WF ps) {js : List Int} {r : List Bool} (hj : ∀ k ∈ js, In ps k) {k x : Int} (h : look (pk ps js r) k = some x) : In ps x := by
  have := look_mem h
  unfold pk at this
  obtain ⟨z, hz, ez⟩ := List.mem_map.mp this
  have e2 : side ps z.1 z.2 = x := congrArg Prod.snd ez
  rw [← e2]
  exact side_in hw (hj _ (List.of_mem_zip hz).1) _
theorem led_in {ps : List Pl} (hw : WF ps) {js : List Int} {r : List Bool} (hj : ∀ k ∈ js, In ps k) : ∀ (n : Nat) {k : Int}, In ps k → In ps (led (pk ps js r) n k)
  | 0, k, h => h
  | n + 1, k, h => by
    show In ps (led _ n ((look (pk ps js r) k).getD k))
    refine led_in hw hj n ?_
    cases e : look (pk ps js r) k with
    | none => exact h
    | some x => exact look_in hw hj e
/-- the program's tossers are the open tosses -/
theorem tosL_op {ps : List Pl} (hw : WF ps) {ks : List Int} (hk : ∀ k ∈ ks, In ps k) (f : Int → Bool) (hf : ∀ k ∈ ks, (f k = true ↔ (place ps k).isT = true ∧ Op ps k)) : ks.filter f = tosL ps ks := by
  unfold tosL
  refine List.filter_congr fun k h => ?_
  have e := lvl_op hw (hk k h)
  have e2 := hf k h
  have e3 : (lvl ps (ps.length - 1) k).isSome = true ↔ Op ps k := by
    cases hl : lvl ps (ps.length - 1) k with
    | none => exact ⟨(fun z => by cases z), fun z => absurd z (e.mp hl)⟩
    | some j => exact ⟨fun _ => Classical.byContradiction fun z => by rw [hl] at e; exact absurd (e.mpr z) (by intro q; cases q), fun _ => rfl⟩
  rw [Bool.eq_iff_iff, Bool.and_eq_true, e2, e3]
section
variable {P : Program} {w : World} {K : PySem.W.Frag} {mg : Str → Option Value} {base : Heap}
def gsL (n : Nat) : List Int := (List.range n).map fun i : Nat => (i : Int)
def spCG : Sp := fun vs H Q _ => ∃ (m : Addr) (ps : List Pl), vs = [.ref m] ∧ Mach H m ps ∧ WF ps ∧ ps.length ≤ 11 ∧ (ps.length ≤ 10 ∨ ∃ p ∈ ps, p.isT = false) ∧ ∀ (p : Addr) (ks : List Int) H', Same H H' → H p = none → Places ps 0 ks → (tosL ps ks).length ≤ 10 → H' p = some (.tup ((cnts ps (tosL ps ks) (fun _ => true) (bv (tosL ps ks).length)).map V.int)) → Q (.ref p) H'
theorem scCG : FnScope ["machine", "tossers"] ["machine"] (defScope sCG) := ⟨rfl, rfl, rfl, by decide +kernel, rfl, by decide +kernel, by decide +kernel⟩
theorem ok_cg {f g h : Addr} {fd gd hd : FuncData} (F : Fun K "count_good_choices" "count_good_choices" sCG f fd) (T : NamesC mg) (GL : FnOk P w K mg base CX0 4 g gd ["machine"] spLT) (PL_ : Def K mg "list_tossers" g gd ["machine"]) (GC : FnOk P w K mg base CX0 2 h hd ["machine", "tossers", "goals"] spCC) (PC_ : Def K mg "count_choices" h hd ["machine", "tossers", "goals"]) : FnOk P w K mg base CX0 5 f fd ["machine"] spCG := by
  refine F.ok scCG (fun vs H Q E h => ?_) (fun cdv A outer s H vs Q E hr h => ?_)
  · obtain ⟨m, ps, rfl, _⟩ := h
    rfl
  · obtain ⟨m, ps, rfl, hm, hw, l11, hq, q⟩ := h
    refine ⟨_, (pss_cons (ps_set (i := 1) scCG.nd rfl (.inl rfl) (pe_call GL (hr.mono (by decide)) (by rfl) PL_.is PL_.kp PL_.bi .nil pass0 (pa_cons (pv 0) pa_nil)))
      (pss_one (ps_ret (pe_call GC (hr.mono (by decide)) (by rfl) PC_.is PC_.kp PC_.bi .nil pass0 (pa_cons (pv 0) (pa_cons (pv 1) (pa_cons (pe_listRg rfl (by rfl) T.list (prg_1 (by rfl) T.range (pe_callB call_len_seq (by rfl) T.len PySem.boot_len (pa_cons (pv 0) pa_nil)))) pa_nil))))))), ?_⟩
    refine ⟨_, rfl, m, ps, rfl, hm, hw, l11, hq, fun t ks H1 s1 nt et hk few => ?_⟩
    obtain ⟨rs, em, pl⟩ := id (hm.same s1)
    have rl := pl.len
    have kin : ∀ k ∈ tosL ps ks, In ps k ∧ (place ps k).isT = true := fun k h => ⟨((hk.2 k).mp (tosL_mem h).1).inn hw (in_zero hw), (tosL_mem h).2⟩
    refine ⟨_, rfl, _, rfl, _, rfl, m, rs, rfl, .inr (SqT.of em), _, rfl, RgOk.of_le (by decide) (by rw [rl]; omega) (by decide) (by omega), fun O nO => ?_⟩
    have s2 := Same.upd (o := .lst (rgV 0 (rs.length : Nat))) nO
    have eO : upd H1 O (.lst (rgV 0 (rs.length : Nat))) O = some (.lst ((gsL ps.length).map V.int)) := by
      rw [upd_same, rg_is, rl]
      rfl
    change (_ : Hp → Prop) (upd H1 O (.lst (rgV 0 (rs.length : Nat))))
    generalize upd H1 O (.lst (rgV 0 (rs.length : Nat))) = H2 at s2 eO ⊢
    have s12 := s1.trans s2
    refine ⟨m, t, O, ps, tosL ps ks, gsL ps.length, rfl, hm.same s12, hw, by omega, s2 _ _ et, eO, few, tosL_nodup (lt_nodup hk.1), kin, by unfold gsL; rw [List.length_map, List.length_range]; omega, fun p H3 s3 np ep => ?_⟩
    refine q p ks H3 (s12.trans s3) (s12.free np) hk few ?_
    rw [ep]
    congr 3
    unfold cnts
    refine List.map_congr_left fun h _ => ?_
    congr 1
    unfold cntC
    refine List.countP_congr fun r _ => ?_
    have hin := led_in (r := r) hw (fun k h => (kin k h).1) (tosL ps ks).length (in_zero hw)
    have : decide (goalC ps (tosL ps ks) r ∈ gsL ps.length) = true := by
      refine decide_eq_true ?_
      unfold gsL goalC
      exact List.mem_map.mpr ⟨_, List.mem_range.mpr (show (led (pk ps (tosL ps ks) r) (tosL ps ks).length 0).toNat < ps.length by have := hin.1; have := hin.2; omega), by have := hin.1; omega⟩
    dsimp only
    rw [this]
def spLed : Sp := fun vs H Q _ => ∃ (x : V) (d : Addr) (k : Int) (es : List (Int × Int)), vs = [x, .ref d, .int k] ∧ H d = some (.dK (kvI es)) ∧ es.length ≤ 60 ∧ Q (.int (led es es.length k)) H
theorem scLed : FnScope ["machine", "picked", "start", "place", "k"] ["machine", "picked", "start"] (defScope sLed) := ⟨rfl, rfl, rfl, by decide +kernel, rfl, by decide +kernel, by decide +kernel⟩
theorem led_snoc (es : List (Int × Int)) : ∀ (n : Nat) (k : Int), led es (n + 1) k = (look es (led es n k)).getD (led es n k)
  | 0, k => rfl
  | n + 1, k => by
    show led es (n + 1) ((look es k).getD k) = _
    rw [led_snoc es n]
    rfl
theorem ok_led {f : Addr} {fd : FuncData} (F : Fun K "_law_led_to" "_law_led_to" sLed f fd) (T : Names mg) : FnOk P w K mg base CX0 1 f fd ["machine", "picked", "start"] spLed := by
  refine F.ok scLed (fun vs H Q E h => ?_) (fun cdv A outer s H vs Q E hr h => ?_)
  · obtain ⟨x, d, k, es, rfl, _⟩ := h
    rfl
  · obtain ⟨x, d, k, es, rfl, ed, le, q⟩ := h
    have hu64 : A.units + 3 + 64 < cLine := hr.units
    have hu : A.units + 3 + 1 < cLine := by omega
    have kl : (kvI es).length = es.length := by unfold kvI; rw [List.length_map]
    refine ⟨_, (pss_cons (ps_set (i := 3) scLed.nd rfl (.inl rfl) (pv 2))
      (pss_cons (ps_for PassesOwn.never rfl (pi_range1 rfl T.range (pa_cons (pe_callB call_lenD (by rfl) T.len PySem.boot_len (pa_cons (pv 1) pa_nil)) pa_nil)) (pg_name (i := 4) scLed.nd rfl (.inl rfl)) (pss_one (ps_set (i := 3) scLed.nd rfl (.inl rfl) (pe_dget2 hu (pv 1) (pv 3) (pv 3) ⟨rfl, rfl, rfl, rfl⟩))))
      (pss_one (ps_ret (pv 3))))), ?_⟩
    have hn : ((es.length : Nat) : Int).toNat = es.length := Int.toNat_natCast _
    refine ⟨_, rfl, _, rfl, d, _, rfl, ed, _, rfl, by rw [kl]; omega, by rw [kl]; omega, ?_⟩
    rw [kl]
    refine for_range (lo := 0) (n := ((es.length : Nat) : Int).toNat) (fun i σ H' => ∃ (v4 : Option V), σ = [some x, some (V.ref d), some (V.int k), some (V.int (led es i k)), v4] ∧ H' = H) ⟨_, rfl, rfl⟩ ?_ ?_
    · rintro i σ H' hi ⟨v4, rfl, rfl⟩
      refine ⟨_, rfl, d, rfl, .inl ⟨_, .inl ed⟩, _, rfl, _, rfl, _, DGet.k (k := .inl (led es i k)) ed, ?_⟩
      rw [val_kvI]
      refine ⟨some (V.int (0 + (i : Nat))), ?_, rfl⟩
      rw [led_snoc]
      cases look es (led es i k) <;> rfl
    · rintro σ H' ⟨v4, rfl, rfl⟩
      rw [hn]
      exact ⟨_, rfl, q⟩
/-- choices of the law: (number of heads, dict) -/
def Cho (ps : List Pl) (js : List Int) (H : Hp) (t : Addr) (r : List Bool) : Prop := ∃ d : Addr, H t = some (.tup [.int (hds r : Nat), .ref d]) ∧ H d = some (.dK (kvI (pk ps js r)))
theorem Cho.same {ps : List Pl} {js : List Int} {H H' : Hp} {t : Addr} {r : List Bool} (h : Cho ps js H t r) (s : Same H H') : Cho ps js H' t r := by
  obtain ⟨d, a, b⟩ := h
  exact ⟨d, s _ _ a, s _ _ b⟩
def Chs (ps : List Pl) (js : List Int) (H : Hp) (ts : List Addr) (rs : List (List Bool)) : Prop := ts.length = rs.length ∧ ∀ (i : Nat) (t : Addr), ts[i]? = some t → ∃ r, rs[i]? = some r ∧ Cho ps js H t r
theorem Chs.same {ps : List Pl} {js : List Int} {H H' : Hp} {ts : List Addr} {rs : List (List Bool)} (h : Chs ps js H ts rs) (s : Same H H') : Chs ps js H' ts rs := ⟨h.1, fun i t e => by
  obtain ⟨r, a, b⟩ := h.2 i t e
  exact ⟨r, a, b.same s⟩⟩
theorem Chs.snoc {ps : List Pl} {js : List Int} {H : Hp} {ts : List Addr} {rs : List (List Bool)} {t : Addr} {r : List Bool} (h : Chs ps js H ts rs) (g : Cho ps js H t r) : Chs ps js H (ts ++ [t]) (rs ++ [r]) := ⟨by rw [List.length_append, List.length_append, h.1]; rfl, fun i x e => by
  rcases Nat.lt_or_ge i ts.length with l | l
  · rw [List.getElem?_append_left l] at e
    obtain ⟨r, a, b⟩ := h.2 i x e
    exact ⟨r, by rw [List.getElem?_append_left (by rw [← h.1]; exact l)]; exact a, b⟩
  · rw [List.getElem?_append_right l] at e
    have e0 : i - ts.length = 0 := by
      have := (List.getElem?_eq_some_iff.mp e).1
      rw [List.length_singleton] at this
      omega
    rw [e0] at e
    cases e
    exact ⟨r, by rw [List.getElem?_append_right (by rw [← h.1]; exact l), ← h.1, e0]; rfl, g⟩⟩
/-- what the law finds: (number of heads, place) -/
def Fnd (H : Hp) (ts : List Addr) (fs : List (Nat × Int)) : Prop := ts.length = fs.length ∧ ∀ (i : Nat) (t : Addr), ts[i]? = some t → ∃ f, fs[i]? = some f ∧ H t = some (.tup [.int (f.1 : Nat), .int f.2])
theorem Fnd.same {H H' : Hp} {ts : List Addr} {fs : List (Nat × Int)} (h : Fnd H ts fs) (s : Same H H') : Fnd H' ts fs := ⟨h.1, fun i t e => by
  obtain ⟨r, a, b⟩ := h.2 i t e
  exact ⟨r, a, s _ _ b⟩⟩
theorem Fnd.snoc {H : Hp} {ts : List Addr} {fs : List (Nat × Int)} {t : Addr} {f : Nat × Int} (h : Fnd H ts fs) (g : H t = some (.tup [.int (f.1 : Nat), .int f.2])) : Fnd H (ts ++ [t]) (fs ++ [f]) := ⟨by rw [List.length_append, List.length_append, h.1]; rfl, fun i x e => by
  rcases Nat.lt_or_ge i ts.length with l | l
  · rw [List.getElem?_append_left l] at e
    obtain ⟨r, a, b⟩ := h.2 i x e
    exact ⟨r, by rw [List.getElem?_append_left (by rw [← h.1]; exact l)]; exact a, b⟩
  · rw [List.getElem?_append_right l] at e
    have e0 : i - ts.length = 0 := by
      have := (List.getElem?_eq_some_iff.mp e).1
      rw [List.length_singleton] at this
      omega
    rw [e0] at e
    cases e
    exact ⟨f, by rw [List.getElem?_append_right (by rw [← h.1]; exact l), ← h.1, e0]; rfl, g⟩⟩
/-- good choices, in the law's order -/
def fdC (ps : List Pl) (js : List Int) (l : List (List Bool)) : List (Nat × Int) := (l.filter (goodC ps js)).map fun r => (hds r, goalC ps js r)
def tf (ps : List Pl) (bs : List Bool) (k : Int) : Bool := (place ps k).isT && bs.getD k.toNat false
theorem tf_tos {ps : List Pl} (hw : WF ps) {ks : List Int} (hk : ∀ k ∈ ks, In ps k) {bs : List Bool} (h : Known ps bs) : ks.filter (tf ps bs) = tosL ps ks := by
  refine tosL_op hw hk _ fun k hm => ?_
  have hin := hk k hm
  obtain ⟨i, rfl⟩ : ∃ i : Nat, k = (i : Int) := ⟨k.toNat, by have := hin.1; omega⟩
  have hi : i < ps.length := by have := hin.2; omega
  unfold tf
  rw [Bool.and_eq_true, Int.toNat_natCast, ← h.2 i hi, List.getD_eq_getElem?_getD]
  have : i < bs.length := by rw [h.1]; exact hi
  rw [List.getElem?_eq_getElem this]
  simp
theorem Cho.upd {ps : List Pl} {js : List Int} {H : Hp} {t : Addr} {r : List Bool} {a : Addr} {xs : List V} {o : HO} (h : Cho ps js H t r) (e : H a = some (.lst xs)) : Cho ps js (upd H a o) t r := by
  obtain ⟨d, h1, h2⟩ := h
  refine ⟨d, ?_, ?_⟩
  · rw [upd_ne]
    · exact h1
    · intro z
      subst z
      rw [e] at h1
      cases h1
  · rw [upd_ne]
    · exact h2
    · intro z
      subst z
      rw [e] at h2
      cases h2
theorem Chs.upd {ps : List Pl} {js : List Int} {H : Hp} {ts : List Addr} {rs : List (List Bool)} {a : Addr} {xs : List V} {o : HO} (h : Chs ps js H ts rs) (e : H a = some (.lst xs)) : Chs ps js (upd H a o) ts rs := ⟨h.1, fun i t g => by
  obtain ⟨r, a, b⟩ := h.2 i t g
  exact ⟨r, a, b.upd e⟩⟩
theorem Fnd.upd {H : Hp} {ts : List Addr} {fs : List (Nat × Int)} {a : Addr} {xs : List V} {o : HO} (h : Fnd H ts fs) (e : H a = some (.lst xs)) : Fnd (upd H a o) ts fs := ⟨h.1, fun i t g => by
  obtain ⟨r, a, b⟩ := h.2 i t g
  refine ⟨r, a, ?_⟩
  rw [upd_ne]
  · exact b
  · intro z
    subst z
    rw [e] at b
    cases b⟩
theorem pk_snoc {ps : List Pl} {js : List Int} {r : List Bool} {i : Nat} {j : Int} (hj : js[i]? = some j) (hr : r.length = i) (b : Bool) : pk ps (js.take (i + 1)) (r ++ [b]) = pk ps (js.take i) r ++ [(j, side ps j b)] := by
  have hi := (List.getElem?_eq_some_iff.mp hj).1
  have tk : js.take (i + 1) = js.take i ++ [j] := by rw [List.take_succ, hj]; rfl
  unfold pk
  rw [tk, List.zip_append (by rw [List.length_take, hr]; omega), List.map_append]
  rfl
theorem hds_snoc (r : List Bool) (b : Bool) : hds (r ++ [b]) = hds r + (if b = true then 1 else 0) := by
  unfold hds
  rw [List.count_append]
  cases b <;> rfl
theorem not_take {js : List Int} (nd : js.Nodup) {i : Nat} {j : Int} (hj : js[i]? = some j) : j ∉ js.take i := fun h => by
  obtain ⟨k, hk⟩ := List.getElem?_of_mem h
  rw [List.getElem?_take] at hk
  rcases Nat.lt_or_ge k i with lt | ge
  · rw [if_pos lt] at hk
    have := (List.getElem?_inj (List.getElem?_eq_some_iff.mp hk).1 nd).mp (hk.trans hj.symm)
    omega
  · rw [if_neg (by omega)] at hk
    cases hk
def two (r : List Bool) : List (List Bool) := [r ++ [true], r ++ [false]]
theorem two_len : ∀ l : List (List Bool), (l.flatMap two).length = 2 * l.length
  | [] => rfl
  | r :: l => by
    rw [List.flatMap_cons, List.length_append, two_len l, List.length_cons]
    show 2 + _ = _
    omega
theorem wd_two (n : Nat) : wd (n + 1) = (wd n).flatMap two := rfl
def badC (ps : List Pl) (js : List Int) (r : List Bool) (k : Int) : Bool := (look (pk ps js r) (led (pk ps js r) js.length k)).isSome
theorem eq_nil (ps : List Pl) (js : List Int) (r : List Bool) : PyData.eqv (.list ((js.filter (badC ps js r)).map PyData.int)) (.list []) = goodC ps js r := by
  have h : goodC ps js r = (js.filter (badC ps js r)).isEmpty := by
    unfold goodC
    show (js.all fun k => !badC ps js r k) = _
    generalize badC ps js r = f
    induction js with
    | nil => rfl
    | cons k js ih =>
      rw [List.all_cons, ih, List.filter_cons]
      cases f k <;> rfl
  rw [h]
  cases js.filter (badC ps js r) <;> rfl
theorem fdC_skip {ps : List Pl} {js : List Int} {l : List (List Bool)} {r : List Bool} (h : goodC ps js r = false) : fdC ps js (l ++ [r]) = fdC ps js l := by
  unfold fdC
  rw [List.filter_append]
  simp [List.filter_cons, h]
theorem fdC_add {ps : List Pl} {js : List Int} {l : List (List Bool)} {r : List Bool} (h : goodC ps js r = true) : fdC ps js (l ++ [r]) = fdC ps js l ++ [(hds r, goalC ps js r)] := by
  unfold fdC
  rw [List.filter_append]
  simp [List.filter_cons, h]
theorem fdC_len (ps : List Pl) (js : List Int) (l : List (List Bool)) : (fdC ps js l).length ≤ l.length := by
  unfold fdC
  rw [List.length_map]
  exact List.length_filter_le _ _
def spLCh : Sp := fun vs H Q _ => ∃ (m : Addr) (ps : List Pl), vs = [.ref m, .non] ∧ Mach H m ps ∧ WF ps ∧ ps.length ≤ 11 ∧ (ps.length ≤ 10 ∨ ∃ p ∈ ps, p.isT = false) ∧ ∀ (t : Addr) (ks : List Int) (ts : List Addr) (u : Addr) H', Same H H' → H t = none → Places ps 0 ks → H' t = some (.tup [.int ((tosL ps ks).length : Nat), .ref u]) → H' u = some (.lst (ts.map V.ref)) → Fnd H' ts (fdC ps (tosL ps ks) (wd (tosL ps ks).length)) → Q (.ref t) H'
theorem scLCh : FnScope ["machine", "left_out", "known", "comes", "toss_places", "some", "at", "later", "heads", "picked", "k", "more", "found"] ["machine", "left_out"] (defScope sLCh) := ⟨rfl, rfl, rfl, by decide +kernel, rfl, by decide +kernel, by decide +kernel⟩
theorem ok_lch {f g r l : Addr} {fd gd rd ld : FuncData} (F : Fun K "_law_choices" "_law_choices" sLCh f fd) (T : NamesDi mg) (GO : FnOk P w K mg base CX0 2 g gd ["machine"] spLO) (PO : Def K mg "_law_open" g gd ["machine"])
    (GR : FnOk P w K mg base CX0 1 r rd ["machine", "start"] spLR) (PR : Def K mg "_law_reached" r rd ["machine", "start"]) (GL : FnOk P w K mg base CX0 1 l ld ["machine", "picked", "start"] spLed) (PL_ : Def K mg "_law_led_to" l ld ["machine", "picked", "start"]) : FnOk P w K mg base CX0 3 f fd ["machine", "left_out"] spLCh := by
  refine F.ok scLCh (fun vs H Q E h => ?_) (fun cdv A outer s H vs Q E hr h => ?_)
  · obtain ⟨m, ps, rfl, _⟩ := h
    rfl
  · obtain ⟨m, ps, rfl, hm, hw, l11, hq, q⟩ := h
    have hu64 : A.units + 3 + 64 < cLine := hr.units
    have hu : A.units + 3 + 1 < cLine := by omega
    refine ⟨_, (pss_cons (ps_asg (pe_tup (pa_cons (pe_call GO (hr.mono (by decide)) (by rfl) PO.is PO.kp PO.bi .nil pass0 (pa_cons (pv 0) pa_nil)) (pa_cons (pe_call GR (hr.mono (by decide)) (by rfl) PR.is PR.kp PR.bi .nil pass0 (pa_cons (pv 0) (pa_cons pe_int pa_nil))) pa_nil))) (pg_tup rfl (pgs_cons (pg_name (i := 2) scLCh.nd rfl (.inr rfl)) (pgs_cons (pg_name (i := 3) scLCh.nd rfl (.inl rfl)) pgs_nil))))
      (pss_cons (ps_setLc (i := 4) (own := [("at", 6)]) (g := gName 6) rfl scLCh.nd rfl rfl (sw_true rfl rfl rfl (by decide +kernel)) (pi_list (pv 3)) (blkOk_by (N := ["machine", "left_out", "known", "comes", "toss_places", "some", "at", "later", "heads", "picked", "k", "more", "found"]) (sc := defScope sLCh) (own := [("at", 6)]) (by decide +kernel)) (fun _ _ _ _ _ => (pg_name (i := 6) scLCh.nd rfl (.inl rfl))) (fun _ _ _ _ _ => (pts_one (PW.pt (pw_and (pt_cmpR op_eq (pe_ix (KX.ix_tupK (K := K) rfl) (pe_ix (KX.ix_tupK (K := K) rfl) (pv 0) (pv 6) (fun _ _ => rfl)) pe_int (fun _ _ => rfl)) pe_str (nomark _)) (pw_and (pt_val (pe_ix (KX.ix_listK (K := K) rfl) (pv 2) (pv 6) (fun _ _ => rfl))) (pw_and1 (pt_cmpR (KY.op_neDK (K := K) rfl hu64) (pv 6) (pv 1) (nomark _)))))))) (fun _ _ _ _ _ => (pv 6)))
      (pss_cons (ps_set (i := 5) scLCh.nd rfl (.inl rfl) (pe_lst (pa_cons (pe_tup (pa_cons pe_int (pa_cons pe_dnewK pa_nil))) pa_nil)))
      (pss_cons (ps_for PassesOwn.never rfl (pi_list (pv 4)) (pg_name (i := 6) scLCh.nd rfl (.inl rfl)) (pss_cons (ps_set (i := 7) scLCh.nd rfl (.inl rfl) (pe_lst pa_nil))
      (pss_cons (ps_for PassesOwn.never rfl (pi_list (pv 5)) (pg_tup rfl (pgs_cons (pg_name (i := 8) scLCh.nd rfl (.inl rfl)) (pgs_cons (pg_name (i := 9) scLCh.nd rfl (.inr rfl)) pgs_nil))) (pss_one (ps_for PassesOwn.never rfl (pi_range1 rfl T.range (pa_cons pe_int pa_nil)) (pg_name (i := 10) scLCh.nd rfl (.inl rfl)) (pss_cons (ps_set (i := 11) scLCh.nd rfl (.inl rfl) (pe_callTy call_dictD (by rfl) T.dict (by decide +kernel) (pa_cons (pv 9) pa_nil)))
      (pss_cons (ps_dput hu (pv 11) (pv 6) (pe_ix ix_tup (pe_ix ix_tup (pv 0) (pv 6) (fun _ _ => rfl)) (pe_op op_add pe_int (pv 10)) (fun _ _ => rfl)) rfl)
      (pss_one (ps_expr (pe_bm PySem.F.plainAttrs_list PySem.F.slot_list_append PySem.F.type_list_append mt_append (pv 7) (pa_cons (pe_tup (pa_cons (pe_op op_sub (pe_op op_add (pv 8) pe_int) (pv 10)) (pa_cons (pv 11) pa_nil))) pa_nil)))))))))
      (pss_one (ps_set (i := 5) scLCh.nd rfl (.inl rfl) (pv 7))))))
      (pss_cons (ps_set (i := 12) scLCh.nd rfl (.inl rfl) (pe_lst pa_nil))
      (pss_cons (ps_for PassesOwn.never rfl (pi_list (pv 5)) (pg_tup rfl (pgs_cons (pg_name (i := 8) scLCh.nd rfl (.inl rfl)) (pgs_cons (pg_name (i := 9) scLCh.nd rfl (.inr rfl)) pgs_nil))) (pss_one (ps_if (pt_cmpR (op_eqD hu64) (pe_lc (own := [("at", 6)]) (g := gName 6) rfl scLCh.nd (pi_list (pv 4)) (blkOk_by (N := ["machine", "left_out", "known", "comes", "toss_places", "some", "at", "later", "heads", "picked", "k", "more", "found"]) (sc := defScope sLCh) (own := [("at", 6)]) (by decide +kernel)) (fun _ _ _ _ _ => (pg_name (i := 6) scLCh.nd rfl (.inl rfl))) (fun _ _ _ _ _ => (pts_one (pt_cmp (pc_din hu (pe_call GL (hr.mono (by decide)) (by rfl) PL_.is PL_.kp PL_.bi .nil pass0 (pa_cons (pv 0) (pa_cons (pv 9) (pa_cons (pv 6) pa_nil)))) (pv 9))))) (fun _ _ _ _ _ => (pv 6))) (pe_lst pa_nil) (nomark _)) (pss_one (ps_expr (pe_bm PySem.F.plainAttrs_list PySem.F.slot_list_append PySem.F.type_list_append mt_append (pv 12) (pa_cons (pe_tup (pa_cons (pv 8) (pa_cons (pe_call GL (hr.mono (by decide)) (by rfl) PL_.is PL_.kp PL_.bi .nil pass0 (pa_cons (pv 0) (pa_cons (pv 9) (pa_cons pe_int pa_nil)))) pa_nil))) pa_nil)))) pss_nil)))
      (pss_one (ps_ret (pe_tup (pa_cons (pe_callB call_len_seq (by rfl) T.len PySem.boot_len (pa_cons (pv 4) pa_nil)) (pa_cons (pv 12) pa_nil))))))))))), ?_⟩
    have line : sizeLine = 16777216 := by decide
    have hl := hw.le
    refine ⟨_, rfl, m, ps, rfl, hm, hw, fun O bs H1 s1 nO eO hkn => ?_⟩
    refine ⟨_, rfl, m, 0, ps, rfl, hm.same s1, hw, in_zero hw, fun C ks H2 s2 nC eC hk => ?_⟩
    refine ⟨by show 2 ≤ sizeLine; decide, fun T1 nT1 => ⟨T1, _, rfl, SqT.of upd_same, rfl, ?_⟩⟩
    have s3 := Same.upd (o := .tup [V.ref O, .ref C]) nT1
    have eO3 := s3 _ _ (s2 _ _ eO)
    have eC3 := s3 _ _ eC
    have s13 := (s1.trans s2).trans s3
    generalize upd H2 T1 (.tup [V.ref O, .ref C]) = H3 at s13 eO3 eC3 ⊢
    have hkl := hk.len hw (in_zero hw)
    have few := tos_few hw hk l11 hq
    refine ⟨_, _, rfl, _, _, rfl, rfl, ?_⟩
    refine ⟨_, rfl, C, rfl, ⟨_, SqL.of eC3⟩, fun D nD => ?_⟩
    refine lc_list (K := K) (a := C) (xs := ks.map V.int) (fun j Hx => Same H3 Hx ∧ Hx D = some (.lst (((ks.take j).filter (tf ps bs)).map V.int))) ⟨Same.upd nD, upd_same⟩ (fun j Hx _ h => SqL.of (h.1 _ _ eC3)) ?_ ?_
    · rintro j x H4 hx ⟨s4, e4⟩
      obtain ⟨k, hk2, rfl⟩ : ∃ k, ks[j]? = some k ∧ V.int k = x := by
        rw [List.getElem?_map] at hx
        cases e : ks[j]? with
        | none => rw [e] at hx; cases hx
        | some z => rw [e] at hx; exact ⟨z, rfl, Option.some.inj hx⟩
      have hj := (List.getElem?_eq_some_iff.mp hk2).1
      have rk : Rch ps 0 k := (hk.2 k).mp (List.mem_of_getElem? hk2)
      have hkin := rk.inn hw (in_zero hw)
      obtain ⟨rs', tt, em', ea, et⟩ := (hm.same (s13.trans s4)).at hw hkin.1 hkin.2
      refine ⟨rfl, ?_⟩
      have tk : ks.take (j + 1) = ks.take j ++ [k] := by rw [List.take_succ, hk2]; rfl
      have lj : ((ks.take j).filter (tf ps bs)).length ≤ 30 := by
        have := List.length_filter_le (tf ps bs) (ks.take j)
        rw [List.length_take] at this
        omega
      have no : tf ps bs k = false → Same H3 H4 ∧ H4 D = some (.lst (((ks.take (j + 1)).filter (tf ps bs)).map V.int)) := fun h => by
        refine ⟨s4, ?_⟩
        rw [tk, List.filter_append]
        have : [k].filter (tf ps bs) = [] := by simp [List.filter_cons, h]
        rw [this, List.append_nil]
        exact e4
      cases e : place ps k with
      | fin n =>
        rw [e] at et
        refine ⟨_, rfl, _, rfl, m, rs', k, .ref tt, rfl, rfl, SqT.of em', ea, tt, _, 0, .str "end", rfl, rfl, SqT.of et, atI_nat (j := 0) rfl, rfl, _, rfl, ?_⟩
        rw [decide_eq_false (by decide)]
        exact iteF (iteF (no (by unfold tf; rw [e]; rfl)))
      | never =>
        rw [e] at et
        refine ⟨_, rfl, _, rfl, m, rs', k, .ref tt, rfl, rfl, SqT.of em', ea, tt, _, 0, .str "never", rfl, rfl, SqT.of et, atI_nat (j := 0) rfl, rfl, _, rfl, ?_⟩
        rw [decide_eq_false (by decide)]
        exact iteF (iteF (no (by unfold tf; rw [e]; rfl)))
      | toss x y =>
        rw [e] at et
        refine ⟨_, rfl, _, rfl, m, rs', k, .ref tt, rfl, rfl, SqT.of em', ea, tt, _, 0, .str "toss", rfl, rfl, SqT.of et, atI_nat (j := 0) rfl, rfl, _, rfl, ?_⟩
        rw [decide_eq_true rfl]
        refine iteT ?_
        obtain ⟨i, rfl⟩ : ∃ i : Nat, k = (i : Int) := ⟨k.toNat, by have := hkin.1; omega⟩
        have hi : i < bs.length := by rw [hkn.1]; have := hkin.2; omega
        have gb : bs[i]? = some (bs.getD i false) := by rw [List.getD_eq_getElem?_getD, List.getElem?_eq_getElem hi]; rfl
        refine ⟨_, rfl, _, rfl, O, _, (i : Int), .bl (bs.getD i false), rfl, rfl, SqL.of (s4 _ _ eO3), atI_nat (by rw [List.getElem?_map, gb]; rfl), _, rfl, ?_⟩
        cases hb : bs.getD i false with
        | false => exact iteF (iteF (no (by unfold tf; rw [Int.toNat_natCast, hb, Bool.and_false])))
        | true =>
          refine iteT ⟨_, rfl, _, rfl, .int (i : Int), .none, .int _, .non, rfl, rfl, _, rfl, ?_⟩
          rw [show (!(PyData.int (i : Int)).eqv PyData.none) = true from rfl]
          have ht : tf ps bs (i : Int) = true := by unfold tf; rw [e, Int.toNat_natCast, hb]; rfl
          refine iteT ⟨_, rfl, _, e4, by rw [List.length_map]; omega, fun b o h => by rw [upd_ne (ne_of_none h nD)]; exact s4 _ _ h, ?_⟩
          rw [upd_same, tk, List.filter_append, List.map_append]
          simp [List.filter_cons, ht]
    · rintro H4 ⟨s4, e4⟩
      rw [List.length_map, List.take_length, tf_tos hw (fun k h => ((hk.2 k).mp h).inn hw (in_zero hw)) hkn] at e4
      have s14 := s13.trans s4
      have hjs : ∀ k ∈ tosL ps ks, In ps k ∧ (place ps k).isT = true := fun k h => ⟨((hk.2 k).mp (tosL_mem h).1).inn hw (in_zero hw), (tosL_mem h).2⟩
      have hnd : (tosL ps ks).Nodup := tosL_nodup (lt_nodup hk.1)
      have q2 := fun t ts u H' a b => q t ks ts u H' a b hk
      generalize tosL ps ks = js at e4 hjs hnd few q2
      refine fun d0 nd0 => ?_
      have s5 := Same.upd (o := .dK []) nd0
      have ed0 : upd H4 d0 (.dK []) d0 = some (.dK (kvI (pk ps (js.take 0) []))) := upd_same
      change (_ : Hp → Prop) (upd H4 d0 (.dK []))
      generalize upd H4 d0 (.dK []) = H5 at s5 ed0 ⊢
      refine ⟨by show 2 ≤ sizeLine; decide, fun t0 nt0 => ?_⟩
      have s6 := Same.upd (o := .tup [.int 0, .ref d0]) nt0
      have et0 : upd H5 t0 (.tup [.int 0, .ref d0]) t0 = some (.tup [.int (hds [] : Nat), .ref d0]) := upd_same
      replace ed0 := s6 _ _ ed0
      generalize upd H5 t0 (.tup [.int 0, .ref d0]) = H6 at s6 et0 ed0 ⊢
      refine ⟨by show 1 ≤ sizeLine; decide, fun L0 nL0 => ?_⟩
      have s7 := Same.upd (o := .lst [.ref t0]) nL0
      have eL0 : upd H6 L0 (.lst [.ref t0]) L0 = some (.lst (([t0] : List Addr).map V.ref)) := upd_same
      have c0 : Chs ps (js.take 0) (upd H6 L0 (.lst [.ref t0])) [t0] (wd 0) := ⟨rfl, fun i t e => by
        rcases i with _ | i
        · cases e
          exact ⟨[], rfl, d0, s7 _ _ et0, s7 _ _ ed0⟩
        · cases e⟩
      have s17 := ((s14.trans s5).trans s6).trans s7
      have eD7 := s7 _ _ (s6 _ _ (s5 _ _ e4))
      generalize upd H6 L0 (.lst [.ref t0]) = H7 at s17 eL0 c0 eD7 ⊢
      refine ⟨_, rfl, D, rfl, ⟨_, SqL.of eD7⟩, for_list (K := K) (a := D) (xs := js.map V.int) (fun i σ H' => ∃ (L : Addr) (ts : List Addr) (v6 v7 v8 v9 v10 v11 : Option V), σ = [some (V.ref m), some V.non, some (V.ref O), some (V.ref C), some (V.ref D), some (V.ref L), v6, v7, v8, v9, v10, v11, none] ∧ Same H7 H' ∧ H' L = some (.lst (ts.map V.ref)) ∧ Chs ps (js.take i) H' ts (wd i)) ⟨L0, [t0], none, none, none, none, none, none, rfl, Same.refl _, eL0, c0⟩ (fun i σ H' _ h => ?_) ?_ ?_⟩
      · obtain ⟨L, ts, v6, v7, v8, v9, v10, v11, rfl, sx, _⟩ := h
        exact SqL.of (sx _ _ eD7)
      · rintro i x σ H8 hx ⟨L, ts, v6, v7, v8, v9, v10, v11, rfl, s8, eL, cL⟩
        obtain ⟨j, hj, rfl⟩ : ∃ j, js[i]? = some j ∧ V.int j = x := by
          rw [List.getElem?_map] at hx
          cases e : js[i]? with
          | none => rw [e] at hx; cases hx
          | some z => rw [e] at hx; exact ⟨z, rfl, Option.some.inj hx⟩
        have hi : i < js.length := (List.getElem?_eq_some_iff.mp hj).1
        have gj := hjs j (List.mem_of_getElem? hj)
        have tl : ts.length ≤ 1024 := by
          rw [cL.1, wd_len]
          exact Nat.pow_le_pow_right (n := 2) (by decide) (show i ≤ 10 by omega)
        refine ⟨Nat.zero_le _, fun Lt nLt => ?_⟩
        have s9 := Same.upd (o := .lst []) nLt
        have eLt : upd H8 Lt (.lst []) Lt = some (.lst (([] : List Addr).map V.ref)) := upd_same
        change (_ : Hp → Prop) (upd H8 Lt (.lst []))
        generalize upd H8 Lt (.lst []) = H9 at s9 eLt ⊢
        refine ⟨_, rfl, L, rfl, ⟨_, SqL.of (s9 _ _ eL)⟩, for_list (K := K) (a := L) (xs := ts.map V.ref) (fun k σ H' => ∃ (ls : List Addr) (v8 v9 v10 v11 : Option V), σ = [some (V.ref m), some V.non, some (V.ref O), some (V.ref C), some (V.ref D), some (V.ref L), some (V.int j), some (V.ref Lt), v8, v9, v10, v11, none] ∧ Same H8 H' ∧ H' Lt = some (.lst (ls.map V.ref)) ∧ Chs ps (js.take (i + 1)) H' ls (((wd i).take k).flatMap two)) ⟨[], v8, v9, v10, v11, rfl, s9, eLt, rfl, fun i t e => by cases e⟩ (fun k σ H' _ h => ?_) ?_ ?_⟩
        · obtain ⟨ls, v8, v9, v10, v11, rfl, sx, _⟩ := h
          exact SqL.of (sx _ _ eL)
        · rintro k x σ H10 hx2 ⟨ls, v8, v9, v10, v11, rfl, s10, e10, c10⟩
          obtain ⟨t, ht, rfl⟩ : ∃ t, ts[k]? = some t ∧ V.ref t = x := by
            rw [List.getElem?_map] at hx2
            cases e : ts[k]? with
            | none => rw [e] at hx2; cases hx2
            | some z => rw [e] at hx2; exact ⟨z, rfl, Option.some.inj hx2⟩
          obtain ⟨r, hr, d, et, ed⟩ := cL.2 k t ht
          have hk : k < (wd i).length := (List.getElem?_eq_some_iff.mp hr).1
          have rl : r.length = i := wd_each i r (List.mem_of_getElem? hr)
          have tk : (wd i).take (k + 1) = (wd i).take k ++ [r] := by rw [List.take_succ, hr]; rfl
          refine ⟨t, _, rfl, SqT.of (s10 _ _ et), rfl, _, _, rfl, _, _, rfl, rfl, ?_⟩
          refine ⟨_, rfl, by decide, by decide, for_range (lo := 0) (n := 2) (fun c σ H' => ∃ (ls : List Addr) (v10 v11 : Option V), σ = [some (V.ref m), some V.non, some (V.ref O), some (V.ref C), some (V.ref D), some (V.ref L), some (V.int j), some (V.ref Lt), some (V.int (hds r : Nat)), some (V.ref d), v10, v11, none] ∧ Same H8 H' ∧ H' Lt = some (.lst (ls.map V.ref)) ∧ Chs ps (js.take (i + 1)) H' ls (((wd i).take k).flatMap two ++ (two r).take c)) ⟨ls, v10, v11, rfl, s10, e10, by rw [List.take_zero, List.append_nil]; exact c10⟩ ?_ ?_⟩
          · rintro c σ H11 hc ⟨ls, v10, v11, rfl, s11, e11, c11⟩
            refine ⟨_, rfl, d, _, rfl, .inl (s11 _ _ ed), fun M nM => ?_⟩
            have s12 := Same.upd (o := .dK (kvI (pk ps (js.take i) r))) nM
            have eM : upd H11 M (.dK (kvI (pk ps (js.take i) r))) M = some (.dK (kvI (pk ps (js.take i) r))) := upd_same
            obtain ⟨b, hbv, hbr, hbt⟩ : ∃ b : Bool, ((hds r : Nat) : Int) + 1 - ((c : Nat) : Int) = ((hds (r ++ [b]) : Nat) : Int) ∧ atI (place ps j).row (1 + (0 + ((c : Nat) : Int))) = some (.int (side ps j b)) ∧ (two r).take (c + 1) = (two r).take c ++ [r ++ [b]] := by
              have hT := gj.2
              cases hp : place ps j with
              | fin n => rw [hp] at hT; cases hT
              | never => rw [hp] at hT; cases hT
              | toss x y =>
                rcases (show c = 0 ∨ c = 1 by omega) with rfl | rfl
                · exact ⟨true, by rw [hds_snoc]; simp, by unfold side; rw [hp]; rfl, rfl⟩
                · exact ⟨false, by rw [hds_snoc]; simp, by unfold side; rw [hp]; rfl, rfl⟩
            change (_ : Hp → Prop) (upd H11 M (.dK (kvI (pk ps (js.take i) r))))
            have c12 := c11.same s12
            have e12 := s12 _ _ e11
            have nLM : H11 M = none := nM
            have s8M := s11.trans s12
            obtain ⟨rs, tt, em, ea, e2⟩ := (hm.same (s17.trans (s8.trans s8M))).at hw gj.1.1 gj.1.2
            refine ⟨_, rfl, _, rfl, m, rs, j, .ref tt, rfl, rfl, SqT.of em, ea, _, rfl, _, _, rfl, rfl, tt, _, _, .int (side ps j b), rfl, rfl, SqT.of e2, hbr, _, rfl, _, rfl, M, _, rfl, DPut.k (k := .inl j) eM (by unfold kvI; rw [List.length_map]; have := pk_len (ps := ps) (js := js.take i) (r := r) (by rw [rl, List.length_take]; omega); rw [this, List.length_take]; omega), ?_⟩
            have s13 : Same H11 (upd (upd H11 M (.dK (kvI (pk ps (js.take i) r)))) M (.dK (putK (kvI (pk ps (js.take i) r)) (.inl j) (.int (side ps j b))))) := fun a o h => by
              rw [upd_ne (ne_of_none h nM)]
              exact s12 _ _ h
            have eM3 : (upd (upd H11 M (.dK (kvI (pk ps (js.take i) r)))) M (.dK (putK (kvI (pk ps (js.take i) r)) (.inl j) (.int (side ps j b))))) M = some (.dK (kvI (pk ps (js.take (i + 1)) (r ++ [b])))) := by
              rw [upd_same, putK_new _ (by rw [val_kvI, look_out (not_take hnd hj)]; rfl), pk_snoc hj rl]
              unfold kvI
              rw [List.map_append]
              rfl
            generalize (upd (upd H11 M (.dK (kvI (pk ps (js.take i) r)))) M (.dK (putK (kvI (pk ps (js.take i) r)) (.inl j) (.int (side ps j b))))) = H13 at s13 eM3 ⊢
            refine ⟨_, rfl, .inl ⟨rfl, _, SqL.of (s13 _ _ e11)⟩, ?_⟩
            refine ⟨_, rfl, _, _, rfl, rfl, _, rfl, _, _, rfl, rfl, _, rfl, by show 2 ≤ sizeLine; decide, fun Tn nTn => ?_⟩
            have s14' := s13.trans (Same.upd (o := .tup [V.int (((hds r : Nat) : Int) + 1 - (0 + ((c : Nat) : Int))), .ref M]) nTn)
            have eTn : upd H13 Tn (.tup [V.int (((hds r : Nat) : Int) + 1 - (0 + ((c : Nat) : Int))), .ref M]) Tn = some (.tup [.int (hds (r ++ [b]) : Nat), .ref M]) := by
              rw [upd_same, Int.zero_add, hbv]
            have eM4 := (Same.upd (o := .tup [V.int (((hds r : Nat) : Int) + 1 - (0 + ((c : Nat) : Int))), .ref M]) nTn) _ _ eM3
            generalize upd H13 Tn (.tup [V.int (((hds r : Nat) : Int) + 1 - (0 + ((c : Nat) : Int))), .ref M]) = H14 at s14' eTn eM4 ⊢
            have e14 := s14' _ _ e11
            have sn := ((c11.same s14').snoc (t := Tn) (r := r ++ [b]) ⟨M, eTn, eM4⟩).upd (o := .lst (ls.map V.ref ++ [V.ref Tn])) e14
            have ll : ls.length ≤ 3000 := by
              rw [c11.1, List.length_append, two_len, List.length_take, List.length_take]
              have := cL.1
              show _ + min c 2 ≤ _
              omega
            refine ⟨Lt, _, _, rfl, rfl, e14, by rw [List.length_map]; omega, ls ++ [Tn], _, _, rfl, fun a o h => by rw [upd_ne (ne_of_none h nLt)]; exact s14' _ _ (s11 _ _ h), by rw [upd_same, List.map_append]; rfl, ?_⟩
            rw [hbt, ← List.append_assoc]
            exact sn
          · rintro σ H11 ⟨ls, v10, v11, rfl, s11, e11, c11⟩
            refine ⟨ls, _, _, _, _, rfl, s11, e11, ?_⟩
            rw [tk, List.flatMap_append]
            simpa [two] using c11
        · rintro σ H10 ⟨ls, v8, v9, v10, v11, rfl, s10, e10, c10⟩
          rw [List.length_map, cL.1, List.take_length, ← wd_two] at c10
          exact ⟨_, rfl, Lt, ls, _, _, _, _, _, _, rfl, s8.trans s10, e10, c10⟩
      · rintro σ H8 ⟨L, ts, v6, v7, v8, v9, v10, v11, rfl, s8, eL, cL⟩
        rw [List.length_map, List.take_length] at cL
        have tl : ts.length ≤ 1024 := by
          rw [cL.1, wd_len]
          exact Nat.pow_le_pow_right (n := 2) (by decide) few
        refine ⟨Nat.zero_le _, fun Fd nFd => ?_⟩
        have s9 := Same.upd (o := .lst []) nFd
        have eFd : upd H8 Fd (.lst []) Fd = some (.lst (([] : List Addr).map V.ref)) := upd_same
        change (_ : Hp → Prop) (upd H8 Fd (.lst []))
        generalize upd H8 Fd (.lst []) = H9 at s9 eFd ⊢
        have eD8 := s8 _ _ eD7
        refine ⟨_, rfl, L, rfl, ⟨_, SqL.of (s9 _ _ eL)⟩, for_list (K := K) (a := L) (xs := ts.map V.ref) (fun k σ H' => ∃ (fs : List Addr) (v6 v8 v9 : Option V), σ = [some (V.ref m), some V.non, some (V.ref O), some (V.ref C), some (V.ref D), some (V.ref L), v6, v7, v8, v9, v10, v11, some (V.ref Fd)] ∧ Same H8 H' ∧ H' Fd = some (.lst (fs.map V.ref)) ∧ Fnd H' fs (fdC ps js ((wd js.length).take k))) ⟨[], v6, v8, v9, rfl, s9, eFd, rfl, fun i t e => by cases e⟩ (fun k σ H' _ h => ?_) ?_ ?_⟩
        · obtain ⟨fs, v6, v8, v9, rfl, sx, _⟩ := h
          exact SqL.of (sx _ _ eL)
        · rintro k x σ H10 hx2 ⟨fs, v6, v8, v9, rfl, s10, e10, f10⟩
          obtain ⟨t, ht, rfl⟩ : ∃ t, ts[k]? = some t ∧ V.ref t = x := by
            rw [List.getElem?_map] at hx2
            cases e : ts[k]? with
            | none => rw [e] at hx2; cases hx2
            | some z => rw [e] at hx2; exact ⟨z, rfl, Option.some.inj hx2⟩
          obtain ⟨r, hr, d, et, ed⟩ := cL.2 k t ht
          have rl : r.length = js.length := wd_each _ r (List.mem_of_getElem? hr)
          have pl : (pk ps js r).length = js.length := pk_len rl
          have tk : (wd js.length).take (k + 1) = (wd js.length).take k ++ [r] := by rw [List.take_succ, hr]; rfl
          refine ⟨t, _, rfl, SqT.of (s10 _ _ et), rfl, _, _, rfl, _, _, rfl, rfl, ?_⟩
          refine ⟨_, rfl, D, rfl, ⟨_, SqL.of (s10 _ _ eD8)⟩, fun Z0 nZ => ?_⟩
          have fl : fs.length ≤ 1024 := by
            rw [f10.1]
            have := fdC_len ps js ((wd js.length).take k)
            rw [List.length_take] at this
            have := cL.1
            omega
          refine lc_list (K := K) (a := D) (xs := js.map V.int) (fun n Hx => Same H10 Hx ∧ Hx Z0 = some (.lst (((js.take n).filter (badC ps js r)).map V.int))) ⟨Same.upd nZ, upd_same⟩ (fun n Hx _ h => SqL.of (h.1 _ _ (s10 _ _ eD8))) ?_ ?_
          · rintro n x H11 hx3 ⟨s11, e11⟩
            obtain ⟨j, hj, rfl⟩ : ∃ j, js[n]? = some j ∧ V.int j = x := by
              rw [List.getElem?_map] at hx3
              cases e : js[n]? with
              | none => rw [e] at hx3; cases hx3
              | some z => rw [e] at hx3; exact ⟨z, rfl, Option.some.inj hx3⟩
            have hn : n < js.length := (List.getElem?_eq_some_iff.mp hj).1
            have tn : js.take (n + 1) = js.take n ++ [j] := by rw [List.take_succ, hj]; rfl
            have ed11 : H11 d = some (.dK (kvI (pk ps js r))) := s11 _ _ (s10 _ _ ed)
            have lz : ((js.take n).filter (badC ps js r)).length ≤ 10 := by
              have := List.length_filter_le (badC ps js r) (js.take n)
              rw [List.length_take] at this
              omega
            refine ⟨rfl, _, rfl, _, rfl, _, rfl, _, d, j, _, rfl, ed11, by rw [pl]; omega, _, rfl, d, _, rfl, DGet.k (k := .inl _) ed11, _, rfl, ?_⟩
            rw [val_kvI, pl]
            have bc : ((look (pk ps js r) (led (pk ps js r) js.length j)).map V.int).isSome = badC ps js r j := by
              unfold badC
              cases look (pk ps js r) (led (pk ps js r) js.length j) <;> rfl
            rw [bc]
            cases hb : badC ps js r j with
            | false =>
              refine iteF ⟨s11, ?_⟩
              rw [tn, List.filter_append]
              simp [List.filter_cons, hb, e11]
            | true =>
              refine iteT ⟨_, rfl, _, e11, by rw [List.length_map]; omega, fun a o h => by rw [upd_ne (ne_of_none h nZ)]; exact s11 _ _ h, ?_⟩
              rw [upd_same, tn, List.filter_append, List.map_append]
              simp [List.filter_cons, hb]
          · rintro H11 ⟨s11, e11⟩
            rw [List.length_map, List.take_length] at e11
            refine ⟨Nat.zero_le _, fun E0' nE => ?_⟩
            have s12 := Same.upd (o := .lst []) nE
            have d0' : Dp K (upd H11 E0' (.lst [])) (.ref E0') (.list []) := .lst (SqL.of upd_same) .nil
            have e12 := s12 _ _ e11
            have sA := (s10.trans s11).trans s12
            have eF12 := s12 _ _ (s11 _ _ e10)
            have f12 := f10.same (s11.trans s12)
            change (_ : Hp → Prop) (upd H11 E0' (.lst []))
            generalize upd H11 E0' (.lst []) = H12 at sA e12 d0' eF12 f12 ⊢
            have ed12 : H12 d = some (.dK (kvI (pk ps js r))) := sA _ _ ed
            refine ⟨.list ((js.filter (badC ps js r)).map PyData.int), .list [], .lst (SqL.of e12) (dpInts _), d0', PySem.W.ke_shaped_ints _, rfl, _, rfl, ?_⟩
            rw [eq_nil]
            cases hg : goodC ps js r with
            | false =>
              refine iteF ⟨fs, _, _, _, rfl, sA, eF12, ?_⟩
              rw [tk, fdC_skip hg]
              exact f12
            | true =>
              refine iteT ⟨_, rfl, .inl ⟨rfl, _, SqL.of eF12⟩, _, rfl, _, rfl, _, rfl, _, d, 0, _, rfl, ed12, by rw [pl]; omega, by show 2 ≤ sizeLine; decide, fun Tn nTn => ?_⟩
              have s13' := Same.upd (o := .tup [V.int (hds r : Nat), .int (led (pk ps js r) (pk ps js r).length 0)]) nTn
              have eTn : upd H12 Tn (.tup [V.int (hds r : Nat), .int (led (pk ps js r) (pk ps js r).length 0)]) Tn = some (.tup [.int (hds r : Nat), .int (goalC ps js r)]) := by
                rw [upd_same, pl]
                rfl
              have f13 := f12.same s13'
              have e13 := s13' _ _ eF12
              have sB := sA.trans s13'
              change (_ : Hp → Prop) (upd H12 Tn _)
              generalize upd H12 Tn (.tup [V.int (hds r : Nat), .int (led (pk ps js r) (pk ps js r).length 0)]) = H13 at s13' eTn f13 e13 sB ⊢
              have sn := (f13.snoc (t := Tn) (f := (hds r, goalC ps js r)) eTn).upd (o := .lst (fs.map V.ref ++ [V.ref Tn])) e13
              refine ⟨Fd, _, _, rfl, rfl, e13, by rw [List.length_map]; omega, fs ++ [Tn], _, _, _, rfl, fun a o h => by rw [upd_ne (ne_of_none h nFd)]; exact sB _ _ h, by rw [upd_same, List.map_append]; rfl, ?_⟩
              rw [tk, fdC_add hg]
              exact sn
        · rintro σ H10 ⟨fs, v6, v8, v9, rfl, s10, e10, f10⟩
          rw [List.length_map, cL.1, List.take_length] at f10
          refine ⟨_, rfl, D, _, rfl, .inl (SqL.of (s10 _ _ eD8)), _, rfl, by show 2 ≤ sizeLine; decide, fun R nR => ?_⟩
          have sR := Same.upd (o := .tup [V.int ((js.map V.int).length : Nat), .ref Fd]) nR
          have sAll := (s17.trans s8).trans s10
          refine q2 R fs Fd _ (sAll.trans sR) (sAll.free nR) ?_ (sR _ _ e10) (f10.same sR)
          rw [upd_same, List.length_map]
end
end Z

set_option Elab.async false
set_option linter.all false
set_option maxRecDepth 100000
set_option maxHeartbeats 4000000
namespace Z
open PySem PySem.Spec PyProof.Rows L2 GG
abbrev sSA : Stmt := top 19
abbrev sRC : Stmt := top 18
def stopA (ps : List Pl) (k : Int) : Int := match place ps k with
  | .fin n => n
  | _ => -1
theorem cnts_congr {ps : List Pl} (hw : WF ps) {js : List Int} (hj : ∀ k ∈ js, In ps k) {f g : Int → Bool} (h : ∀ k, In ps k → f k = g k) (l : List (List Bool)) : cnts ps js f l = cnts ps js g l := by
  unfold cnts
  refine List.map_congr_left fun h' _ => ?_
  congr 1
  unfold cntC
  refine List.countP_congr fun r _ => ?_
  have hin := led_in (r := r) hw hj js.length (in_zero hw)
  have : f (goalC ps js r) = g (goalC ps js r) := h _ hin
  rw [this]
section
variable {P : Program} {w : World} {K : PySem.W.Frag} {mg : Str → Option Value} {base : Heap}
def spSA : Sp := fun vs H Q _ => ∃ (m : Addr) (k : Int) (ps : List Pl), vs = [.ref m, .int k] ∧ Mach H m ps ∧ WF ps ∧ In ps k ∧ Q (.int (stopA ps k)) H
theorem scSA : FnScope ["machine", "index"] ["machine", "index"] (defScope sSA) := ⟨rfl, rfl, rfl, by decide +kernel, rfl, by decide +kernel, by decide +kernel⟩
theorem ok_sa {f : Addr} {fd : FuncData} (F : Fun K "stop_answer" "stop_answer" sSA f fd) : FnOk P w K mg base CX0 1 f fd ["machine", "index"] spSA := by
  refine F.ok scSA (fun vs H Q E h => ?_) (fun cdv A outer s H vs Q E hr h => ?_)
  · obtain ⟨m, k, ps, rfl, _⟩ := h
    rfl
  · obtain ⟨m, k, ps, rfl, hm, hw, hin, q⟩ := h
    refine ⟨_, (pss_one (ps_ret (pe_ifExp (pt_cmpR op_eq (pe_ix ix_tup (pe_ix ix_tup (pv 0) (pv 1) (fun _ _ => rfl)) pe_int (fun _ _ => rfl)) pe_str (nomark _)) (pe_ix ix_tup (pe_ix ix_tup (pv 0) (pv 1) (fun _ _ => rfl)) pe_int (fun _ _ => rfl)) (pe_un un_neg pe_int)))), ?_⟩
    obtain ⟨rs, t, em, ea, et⟩ := hm.at hw hin.1 hin.2
    have hs : ∀ {p}, place ps k = p → stopA ps k = (match p with | .fin n => n | _ => -1) := fun e => by unfold stopA; rw [e]
    cases e : place ps k with
    | fin n =>
      rw [e] at et
      rw [hs e] at q
      refine ⟨_, rfl, _, rfl, m, rs, k, .ref t, rfl, rfl, SqT.of em, ea, t, _, 0, .str "end", rfl, rfl, SqT.of et, atI_nat (j := 0) rfl, rfl, _, rfl, ?_⟩
      rw [decide_eq_true rfl]
      exact iteT ⟨_, rfl, _, rfl, m, rs, k, .ref t, rfl, rfl, SqT.of em, ea, t, _, 1, .int n, rfl, rfl, SqT.of et, atI_nat (j := 1) rfl, q⟩
    | toss x y =>
      rw [e] at et
      rw [hs e] at q
      refine ⟨_, rfl, _, rfl, m, rs, k, .ref t, rfl, rfl, SqT.of em, ea, t, _, 0, .str "toss", rfl, rfl, SqT.of et, atI_nat (j := 0) rfl, rfl, _, rfl, ?_⟩
      rw [decide_eq_false str_end_toss]
      exact iteF ⟨_, rfl, q⟩
    | never =>
      rw [e] at et
      rw [hs e] at q
      refine ⟨_, rfl, _, rfl, m, rs, k, .ref t, rfl, rfl, SqT.of em, ea, t, _, 0, .str "never", rfl, rfl, SqT.of et, atI_nat (j := 0) rfl, rfl, _, rfl, ?_⟩
      rw [decide_eq_false str_end_never]
      exact iteF ⟨_, rfl, q⟩
def spRC : Sp := fun vs H Q _ => ∃ (m : Addr) (a : Int) (ps : List Pl), vs = [.ref m, .int a] ∧ Mach H m ps ∧ WF ps ∧ ps.length ≤ 11 ∧ (ps.length ≤ 10 ∨ ∃ p ∈ ps, p.isT = false) ∧ ∀ (t d e : Addr) (ks : List Int) H', Same H H' → H t = none → Places ps 0 ks → (tosL ps ks).length ≤ 10 → H' t = some (.tup [.int ((tosL ps ks).length : Nat), .ref d, .ref e]) →
  H' d = some (.tup ((cnts ps (tosL ps ks) (fun k => stopA ps k == a) (bv (tosL ps ks).length)).map V.int)) → H' e = some (.tup ((cnts ps (tosL ps ks) (fun _ => true) (bv (tosL ps ks).length)).map V.int)) → Q (.ref t) H'
theorem scRC : FnScope ["machine", "answer", "tossers", "goals", "index"] ["machine", "answer"] (defScope sRC) := ⟨rfl, rfl, rfl, by decide +kernel, rfl, by decide +kernel, by decide +kernel⟩
theorem ok_rc {f g h i j : Addr} {fd gd hd id_ jd : FuncData} (F : Fun K "recipe_from_choices" "recipe_from_choices" sRC f fd) (T : NamesC mg) (GL : FnOk P w K mg base CX0 4 g gd ["machine"] spLT) (PL_ : Def K mg "list_tossers" g gd ["machine"]) (GC : FnOk P w K mg base CX0 2 h hd ["machine", "tossers", "goals"] spCC) (PC_ : Def K mg "count_choices" h hd ["machine", "tossers", "goals"])
    (GS : FnOk P w K mg base CX0 1 i id_ ["machine", "index"] spSA) (PS_ : Def K mg "stop_answer" i id_ ["machine", "index"]) (GD_ : FnOk P w K mg base CX0 5 j jd ["machine"] spCG) (PD_ : Def K mg "count_good_choices" j jd ["machine"]) : FnOk P w K mg base CX0 6 f fd ["machine", "answer"] spRC := by
  refine F.ok scRC (fun vs H Q E h => ?_) (fun cdv A outer s H vs Q E hr h => ?_)
  · obtain ⟨m, a, ps, rfl, _⟩ := h
    rfl
  · obtain ⟨m, a, ps, rfl, hm, hw, l11, hq, q⟩ := h
    refine ⟨_, (pss_cons (ps_set (i := 2) scRC.nd rfl (.inl rfl) (pe_call GL (hr.mono (by decide)) (by rfl) PL_.is PL_.kp PL_.bi .nil pass0 (pa_cons (pv 0) pa_nil)))
      (pss_cons (ps_setLc (i := 3) (own := [("index", 4)]) (g := gName 4) rfl scRC.nd rfl rfl (sw_true rfl rfl rfl (by decide +kernel)) (pi_range1 rfl T.range (pa_cons (pe_callB call_len_seq (by rfl) T.len PySem.boot_len (pa_cons (pv 0) pa_nil)) pa_nil)) (blkOk_by (N := ["machine", "answer", "tossers", "goals", "index"]) (sc := defScope sRC) (own := [("index", 4)]) (by decide +kernel)) (fun _ _ _ _ _ => (pg_name (i := 4) scRC.nd rfl (.inl rfl))) (fun _ _ _ _ _ => (pts_one (pt_cmpR op_eq (pe_call GS (hr.mono (by decide)) (by rfl) PS_.is PS_.kp PS_.bi .nil pass0 (pa_cons (pv 0) (pa_cons (pv 4) pa_nil))) (pv 1) (nomark _)))) (fun _ _ _ _ _ => (pv 4)))
      (pss_one (ps_ret (pe_tup (pa_cons (pe_callB call_len_seq (by rfl) T.len PySem.boot_len (pa_cons (pv 2) pa_nil)) (pa_cons (pe_call GC (hr.mono (by decide)) (by rfl) PC_.is PC_.kp PC_.bi .nil pass0 (pa_cons (pv 0) (pa_cons (pv 2) (pa_cons (pv 3) pa_nil)))) (pa_cons (pe_call GD_ (hr.mono (by decide)) (by rfl) PD_.is PD_.kp PD_.bi .nil pass0 (pa_cons (pv 0) pa_nil)) pa_nil)))))))), ?_⟩
    have line : sizeLine = 16777216 := by decide
    refine ⟨_, rfl, m, ps, rfl, hm, hw, l11, hq, fun t ks H1 s1 nt et hk few => ?_⟩
    obtain ⟨rs, em, pl⟩ := id (hm.same s1)
    have rl := pl.len
    have kin : ∀ k ∈ tosL ps ks, In ps k ∧ (place ps k).isT = true := fun k h => ⟨((hk.2 k).mp (tosL_mem h).1).inn hw (in_zero hw), (tosL_mem h).2⟩
    refine ⟨_, rfl, m, rs, rfl, .inr (SqT.of em), _, rfl, by omega, by omega, fun D nD => ?_⟩
    refine lc_range (lo := 0) (n := ((rs.length : Nat) : Int).toNat) (fun k Hx => Same H1 Hx ∧ Hx D = some (.lst (((gsL k).filter fun k => stopA ps k == a).map V.int))) ⟨Same.upd nD, upd_same⟩ ?_ ?_
    · rintro k H4 hk4 ⟨s4, e4⟩
      rw [Int.toNat_natCast, rl] at hk4
      rw [Int.zero_add]
      have hin : In ps ((k : Nat) : Int) := ⟨by omega, by omega⟩
      have gk : gsL (k + 1) = gsL k ++ [(k : Int)] := by unfold gsL; rw [List.range_succ, List.map_append]; rfl
      have lg : ((gsL k).filter fun k => stopA ps k == a).length ≤ 60 := by
        have := List.length_filter_le (fun k => stopA ps k == a) (gsL k)
        have : (gsL k).length = k := by unfold gsL; rw [List.length_map, List.length_range]
        omega
      refine ⟨rfl, _, rfl, _, rfl, m, (k : Int), ps, rfl, hm.same (s1.trans s4), hw, hin, _, rfl, rfl, _, rfl, ?_⟩
      by_cases e : stopA ps (k : Int) = a
      · rw [decide_eq_true (by rw [e])]
        refine iteT ⟨_, rfl, _, e4, by rw [List.length_map]; omega, fun b o h => by rw [upd_ne (ne_of_none h nD)]; exact s4 _ _ h, ?_⟩
        rw [upd_same, gk, List.filter_append, List.map_append]
        simp [List.filter_cons, e]
      · rw [decide_eq_false (fun z => e (V.int.inj z))]
        refine iteF ⟨s4, ?_⟩
        rw [gk, List.filter_append]
        simp [List.filter_cons, e, e4]
    · rintro H4 ⟨s4, e4⟩
      rw [Int.toNat_natCast, rl] at e4
      have s14 := s1.trans s4
      have lg : ((gsL ps.length).filter fun k => stopA ps k == a).length ≤ 60 := by
        have := List.length_filter_le (fun k => stopA ps k == a) (gsL ps.length)
        have : (gsL ps.length).length = ps.length := by unfold gsL; rw [List.length_map, List.length_range]
        omega
      refine ⟨_, rfl, t, _, rfl, .inl (SqL.of (s4 _ _ et)), _, rfl, _, rfl, _, rfl, m, t, D, ps, tosL ps ks, _, rfl, hm.same s14, hw, by omega, s4 _ _ et, e4, few, tosL_nodup (lt_nodup hk.1), kin, lg, fun p H5 s5 np ep => ?_⟩
      refine ⟨_, rfl, m, ps, rfl, hm.same (s14.trans s5), hw, l11, hq, fun p2 ks2 H6 s6 np2 hk2 few2 ep2 => ?_⟩
      have ek := hk2.eq hk
      subst ek
      refine ⟨by show 3 ≤ sizeLine; decide, fun R nR => ?_⟩
      have sR := Same.upd (o := .tup [V.int (((tosL ps ks2).map V.int).length : Nat), .ref p, .ref p2]) nR
      have sA := (s14.trans s5).trans s6
      refine q R p p2 ks2 _ (sA.trans sR) (sA.free nR) hk2 few2 (by rw [upd_same, List.length_map]) ?_ (sR _ _ ep2)
      rw [sR _ _ (s6 _ _ ep), cnts_congr hw (fun k h => (kin k h).1) (g := fun k => stopA ps k == a) (fun k hin => ?_)]
      show decide (k ∈ _) = (stopA ps k == a)
      by_cases e : stopA ps k = a
      · rw [decide_eq_true]
        · simp [e]
        · refine List.mem_filter.mpr ⟨?_, by simp [e]⟩
          unfold gsL
          exact List.mem_map.mpr ⟨k.toNat, List.mem_range.mpr (by have := hin.1; have := hin.2; omega), by have := hin.1; omega⟩
      · rw [decide_eq_false]
        · simp [e]
        · intro z
          have := (List.mem_filter.mp z).2
          simp [e] at this
end
end Z

set_option Elab.async false
set_option linter.all false
set_option maxRecDepth 100000
set_option maxHeartbeats 4000000
namespace Z
open PySem PySem.Spec PyProof.Rows L2 GG ZC
/-! there is a good choice; how many choices there are -/
theorem two_cnt (h : Nat) : ∀ l : List (List Bool), (l.flatMap two).countP (fun r => hds r == h + 1) = l.countP (fun r => hds r == h) + l.countP (fun r => hds r == h + 1)
  | [] => rfl
  | r :: l => by
    rw [List.flatMap_cons, List.countP_append, two_cnt h l]
    have e1 : hds (r ++ [true]) = hds r + 1 := hds_snoc r true
    have e2 : hds (r ++ [false]) = hds r := hds_snoc r false
    unfold two
    simp only [List.countP_cons, List.countP_nil, e1, e2]
    have : (hds r + 1 == h + 1) = (hds r == h) := by
      by_cases e : hds r = h
      · simp [e]
      · have e3 : ¬ hds r + 1 = h + 1 := by omega
        rw [beq_eq_false_iff_ne.mpr e, beq_eq_false_iff_ne.mpr e3]
    rw [this]
    omega
theorem two_cnt0 : ∀ l : List (List Bool), (l.flatMap two).countP (fun r => hds r == 0) = l.countP (fun r => hds r == 0)
  | [] => rfl
  | r :: l => by
    rw [List.flatMap_cons, List.countP_append, two_cnt0 l]
    have e1 : hds (r ++ [true]) = hds r + 1 := hds_snoc r true
    have e2 : hds (r ++ [false]) = hds r := hds_snoc r false
    unfold two
    simp only [List.countP_cons, List.countP_nil, e1, e2]
    have : (hds r + 1 == 0) = false := beq_eq_false_iff_ne.mpr (by omega)
    rw [this]
    simp
    omega
theorem wd_cnt : ∀ n h : Nat, (wd n).countP (fun r => hds r == h) = ch n h
  | 0, 0 => rfl
  | 0, h + 1 => rfl
  | n + 1, 0 => by
    rw [wd_two, two_cnt0, wd_cnt n 0, ch_zero, ch_zero]
  | n + 1, h + 1 => by
    rw [wd_two, two_cnt, wd_cnt n h, wd_cnt n (h + 1)]
    rfl
theorem cntC_le (ps : List Pl) (js : List Int) (g : Int → Bool) (n h : Nat) : cntC ps js g (bv n) h ≤ ch n h := by
  rw [← cnt_eq, ← wd_cnt]
  unfold cntC
  exact List.countP_mono_left fun r _ hr => ((Bool.and_eq_true _ _).mp hr).1
theorem cntC_mono (ps : List Pl) (js : List Int) (g : Int → Bool) (l : List (List Bool)) (h : Nat) : cntC ps js g l h ≤ cntC ps js (fun _ => true) l h := by
  unfold cntC
  refine List.countP_mono_left fun r _ hr => ?_
  rw [Bool.and_eq_true, Bool.and_eq_true] at hr
  rw [hr.1, hr.2.1]
  rfl
theorem mem_wd : ∀ (n : Nat) (r : List Bool), r.length = n → r ∈ wd n
  | 0, r, h => by rw [List.length_eq_zero_iff.mp h]; exact List.mem_singleton.mpr rfl
  | n + 1, r, h => by
    rcases List.eq_nil_or_concat r with rfl | ⟨s, b, rfl⟩
    · cases h
    · rw [List.concat_eq_append] at *
      rw [wd_two]
      refine List.mem_flatMap.mpr ⟨s, mem_wd n s (by rw [List.length_append] at h; exact Nat.succ.inj h), ?_⟩
      unfold two
      cases b <;> simp
theorem look_map (f : Int → Int) (k : Int) : ∀ js : List Int, look (js.map fun j => (j, f j)) k = if k ∈ js then some (f k) else none
  | [] => rfl
  | j :: js => by
    have ih := look_map f k js
    unfold look at ih ⊢
    rw [List.map_cons, List.find?_cons]
    by_cases e : j = k
    · subst e
      simp
    · have : decide (j = k) = false := decide_eq_false e
      rw [this]
      show Option.map _ (List.find? _ _) = _
      rw [ih]
      by_cases m : k ∈ js
      · rw [if_pos m, if_pos (List.mem_cons_of_mem _ m)]
      · rw [if_neg m, if_neg (fun z => by rcases List.mem_cons.mp z with z | z; exact e z.symm; exact m z)]
def rnk (ps : List Pl) (k : Int) : Nat := (lvl ps (ps.length - 1) k).getD 0
def bc (ps : List Pl) (k : Int) : Bool := match place ps k with
  | .toss x _ => eB ps (rnk ps k - 1) x
  | _ => false
def down (ps : List Pl) (k : Int) : Int := side ps k (bc ps k)
theorem rnk_le {ps : List Pl} {j : Nat} {z : Int} (l : j ≤ ps.length - 1) (e : eB ps j z = true) : rnk ps z ≤ j := by
  unfold rnk
  cases h : lvl ps (ps.length - 1) z with
  | none => exact Nat.zero_le _
  | some i =>
    show i ≤ j
    rcases Nat.lt_or_ge j i with a | a
    · rw [(lvl_some h).2.2 j a] at e
      cases e
    · exact a
theorem down_lt {ps : List Pl} {ks : List Int} {k : Int} (h : k ∈ tosL ps ks) : rnk ps (down ps k) < rnk ps k := by
  unfold tosL at h
  rw [List.mem_filter, Bool.and_eq_true] at h
  obtain ⟨_, hT, hL⟩ := h
  cases hd : lvl ps (ps.length - 1) k with
  | none => rw [hd] at hL; cases hL
  | some d =>
    have er : rnk ps k = d := by unfold rnk; rw [hd]; rfl
    obtain ⟨l1, l2, l3⟩ := lvl_some hd
    cases e : place ps k with
    | fin n => rw [e] at hT; cases hT
    | never => rw [e] at hT; cases hT
    | toss x y =>
      have d0 : d ≠ 0 := fun z => by
        subst z
        have : eB ps 0 k = false := by show (match place ps k with | .fin _ => true | _ => false) = false; rw [e]
        rw [this] at l2
        cases l2
      obtain ⟨c, rfl⟩ : ∃ c, d = c + 1 := ⟨d - 1, by omega⟩
      have hc := l3 c (by omega)
      have l2 : (eB ps c k || _) = true := l2
      rw [hc, Bool.false_or, e] at l2
      have l2 : (eB ps c x || eB ps c y) = true := l2
      have h2 : eB ps c (down ps k) = true := by
        have e1 : bc ps k = eB ps c x := by unfold bc; rw [e, er]; rfl
        unfold down side
        rw [e, e1]
        cases hx : eB ps c x with
        | true => exact hx
        | false => rw [hx, Bool.false_or] at l2; exact l2
      have := rnk_le (show c ≤ ps.length - 1 by omega) h2
      omega
theorem cnt_strict {α : Type} {p q : α → Bool} {a : α} : ∀ {l : List α}, (∀ x, p x = true → q x = true) → a ∈ l → p a = false → q a = true → l.countP p + 1 ≤ l.countP q
  | [], _, h, _, _ => by cases h
  | x :: l, hm, h, ha, hb => by
    rw [List.countP_cons, List.countP_cons]
    rcases List.mem_cons.mp h with rfl | h
    · rw [ha, hb]
      have := List.countP_mono_left (l := l) fun x _ => hm x
      simp
      omega
    · have ih := cnt_strict hm h ha hb
      have : (if p x = true then 1 else 0) ≤ (if q x = true then 1 else 0) := by
        cases hp : p x with
        | false => simp
        | true => rw [hm x hp]; simp
      omega
theorem led_out {ps : List Pl} {ks : List Int} : ∀ (n : Nat) (k : Int), led ((tosL ps ks).map fun j => (j, down ps j)) n k ∈ tosL ps ks → n + 1 ≤ (tosL ps ks).countP fun j => decide (rnk ps j ≤ rnk ps k)
  | 0, k, h => List.countP_pos_iff.mpr ⟨k, h, decide_eq_true (Nat.le_refl _)⟩
  | n + 1, k, h => by
    by_cases m : k ∈ tosL ps ks
    · have e : led ((tosL ps ks).map fun j => (j, down ps j)) (n + 1) k = led ((tosL ps ks).map fun j => (j, down ps j)) n (down ps k) := by
        show led _ n ((look _ k).getD k) = _
        rw [look_map, if_pos m]
        rfl
      rw [e] at h
      have ih := led_out n _ h
      have lt := down_lt m
      have := cnt_strict (p := fun j => decide (rnk ps j ≤ rnk ps (down ps k))) (q := fun j => decide (rnk ps j ≤ rnk ps k)) (l := tosL ps ks) (a := k) (fun x hx => decide_eq_true (by have := of_decide_eq_true hx; omega)) m (decide_eq_false (by omega)) (decide_eq_true (Nat.le_refl _))
      omega
    · rw [led_stay (by rw [look_map, if_neg m])] at h
      exact absurd h m
theorem good_ex (ps : List Pl) (ks : List Int) : ∃ r ∈ wd (tosL ps ks).length, goodC ps (tosL ps ks) r = true := by
  refine ⟨(tosL ps ks).map (bc ps), mem_wd _ _ (List.length_map ..), ?_⟩
  have e : pk ps (tosL ps ks) ((tosL ps ks).map (bc ps)) = (tosL ps ks).map fun j => (j, down ps j) := by
    unfold pk
    generalize tosL ps ks = js
    induction js with
    | nil => rfl
    | cons j js ih =>
      rw [List.map_cons, List.zip_cons_cons, List.map_cons, ih]
      rfl
  unfold goodC
  rw [e]
  refine List.all_eq_true.mpr fun k hk => ?_
  have : ¬ led ((tosL ps ks).map fun j => (j, down ps j)) (tosL ps ks).length k ∈ tosL ps ks := fun h => by
    have := led_out _ _ h
    have := List.countP_le_length (l := tosL ps ks) (p := fun j => decide (rnk ps j ≤ rnk ps k))
    omega
  rw [look_map, if_neg this]
  rfl
theorem es_any (ps : List Pl) (ks : List Int) : ((cnts ps (tosL ps ks) (fun _ => true) (bv (tosL ps ks).length)).any fun x => x != 0) = true := by
  obtain ⟨r, hr, hg⟩ := good_ex ps ks
  have hl := wd_each _ r hr
  have hh := hds_le r
  refine List.any_eq_true.mpr ⟨_, List.mem_of_getElem? (cnts_get (h := hds r) (by omega)), ?_⟩
  have : 0 < cntC ps (tosL ps ks) (fun _ => true) (bv (tosL ps ks).length) (hds r) := by
    rw [← cnt_eq]
    unfold cntC
    refine List.countP_pos_iff.mpr ⟨r, hr, ?_⟩
    rw [hg]
    simp
  simp
  omega
theorem rows_ok (ps : List Pl) (js : List Int) (g : Int → Bool) {k : Nat} (hk : k < js.length + 1) : ∃ x y, (cnts ps js g (bv js.length))[k]? = some x ∧ (cnts ps js (fun _ => true) (bv js.length))[k]? = some y ∧ 0 ≤ x ∧ x ≤ y ∧ y ≤ (ch js.length k : Nat) :=
  ⟨_, _, cnts_get hk, cnts_get hk, Int.natCast_nonneg _, Int.ofNat_le.mpr (cntC_mono ps js g _ k), Int.ofNat_le.mpr (cntC_le ps js _ _ k)⟩
end Z

set_option Elab.async false
set_option linter.all false
set_option maxRecDepth 100000
set_option maxHeartbeats 4000000
/-! math.comb -/
namespace CM
open PySem PySem.Spec PyProof.Rows L2 GG ZC
theorem fp_left (n : Int) : ∀ k : Nat, Builtin.Math.fallingProduct (n + 1) (k + 1) = (n + 1) * Builtin.Math.fallingProduct n k
  | 0 => by
    rw [PySem.W.mc_fp_succ, PySem.W.mc_fp_zero, PySem.W.mc_fp_zero]
    simp
  | k + 1 => by
    rw [PySem.W.mc_fp_succ (n + 1) (k + 1), fp_left n k, PySem.W.mc_fp_succ n k, Int.mul_assoc]
    congr 2
    omega
theorem ch_abs : ∀ n k : Nat, (k + 1) * ch (n + 1) (k + 1) = (n + 1) * ch n k
  | 0, 0 => rfl
  | 0, k + 1 => by
    show (k + 1 + 1) * (ch 0 (k + 1) + ch 0 (k + 1 + 1)) = (0 + 1) * 0
    show (k + 1 + 1) * (0 + 0) = (0 + 1) * 0
    simp
  | n + 1, 0 => by
    have h := ch_abs n 0
    have e : ch (n + 1 + 1) (0 + 1) = ch (n + 1) 0 + ch (n + 1) (0 + 1) := rfl
    rw [e, ch_zero]
    rw [ch_zero] at h
    omega
  | n + 1, k + 1 => by
    have h1 := ch_abs n k
    have h2 := ch_abs n (k + 1)
    have e1 : ch (n + 1 + 1) (k + 1 + 1) = ch (n + 1) (k + 1) + ch (n + 1) (k + 1 + 1) := rfl
    have e2 : ch (n + 1) (k + 1) = ch n k + ch n (k + 1) := rfl
    have e3 : (n + 1) * ch (n + 1) (k + 1) = (n + 1) * ch n k + (n + 1) * ch n (k + 1) := by rw [e2, Nat.mul_add]
    rw [e1, Nat.mul_add, h2, Nat.add_mul (k + 1) 1, h1, Nat.one_mul, Nat.add_mul (n + 1) 1, Nat.one_mul]
    omega
theorem ch_fp : ∀ k n : Nat, k ≤ n → (ch n k : Int) * Builtin.Math.fallingProduct k k = Builtin.Math.fallingProduct n k
  | 0, n, _ => by
    rw [ch_zero, PySem.W.mc_fp_zero, PySem.W.mc_fp_zero]
    rfl
  | k + 1, 0, h => by omega
  | k + 1, n + 1, h => by
    have ih := ch_fp k n (by omega)
    have e := congrArg (Nat.cast (R := Int)) (ch_abs n k)
    rw [Int.natCast_mul, Int.natCast_mul] at e
    have l1 : Builtin.Math.fallingProduct ((k + 1 : Nat) : Int) (k + 1) = ((k + 1 : Nat) : Int) * Builtin.Math.fallingProduct k k := by rw [Int.natCast_add]; exact fp_left _ k
    have l2 : Builtin.Math.fallingProduct ((n + 1 : Nat) : Int) (k + 1) = ((n + 1 : Nat) : Int) * Builtin.Math.fallingProduct n k := by rw [Int.natCast_add]; exact fp_left _ k
    rw [l1, l2, ← Int.mul_assoc, Int.mul_comm (ch (n + 1) (k + 1) : Int), e, Int.mul_assoc, ih]
theorem ch_self : ∀ n : Nat, ch n n = 1
  | 0 => rfl
  | n + 1 => by
    show ch n n + ch n (n + 1) = 1
    rw [ch_self n, ch_over n (n + 1) (by omega)]
theorem ch_sym : ∀ s a b : Nat, a + b = s → ch s a = ch s b
  | 0, a, b, h => by
    have e : a = 0 ∧ b = 0 := by omega
    rw [e.1, e.2]
  | s + 1, 0, b, h => by
    have e : b = s + 1 := by omega
    rw [e, ch_zero, ch_self]
  | s + 1, a + 1, 0, h => by
    have e : a = s := by omega
    rw [e, ch_zero, ch_self]
  | s + 1, a + 1, b + 1, h => by
    show ch s a + ch s (a + 1) = ch s b + ch s (b + 1)
    rw [ch_sym s a (b + 1) (by omega), ch_sym s (a + 1) b (by omega), Nat.add_comm]
theorem comb_ch (n k : Nat) : PySem.W.mcComb n k = ch n k := by
  rcases Nat.lt_or_ge n k with lt | le
  · rw [PySem.W.mcComb_above (by omega), ch_over n k lt]
    rfl
  · have go : ∀ m : Nat, m ≤ n → (Builtin.Math.fallingProduct n m / Builtin.Math.fallingProduct m m : Int) = ch n m := by
      intro m hm
      have h := ch_fp m n hm
      have p := PySem.W.mc_fp_pos (n := (m : Int)) m (Int.le_refl _)
      show (Builtin.Math.fallingProduct n m / Builtin.Math.fallingProduct m m : Int) = _
      rw [← h]
      exact Int.mul_ediv_cancel _ (by show Builtin.Math.fallingProduct m m ≠ 0; have : 1 ≤ Builtin.Math.fallingProduct m m := p; omega)
    rcases Nat.le_total k (n - k) with q | q
    · rw [PySem.W.mcComb_at (m := (k : Int)) (by omega) (by omega) (by omega), Int.toNat_natCast]
      exact go k le
    · rw [PySem.W.mcComb_at (m := ((n - k : Nat) : Int)) (by omega) (by omega) (by omega), Int.toNat_natCast, go _ (by omega)]
      rw [ch_sym n (n - k) k (by omega)]
section
variable {X : Cx}
def rComb : List V → Hp → VK → Prop := fun vs H Q => ∃ n k : Nat, vs = [.int (n : Nat), .int (k : Nat)] ∧ n ≤ 1000 ∧ Q (.int (ch n k : Nat)) H
theorem cr_comb : CallR X (.builtin "math.comb") rComb := by
  intro pins s σ H vs us Q I r h
  obtain ⟨n, k, rfl, hn, q⟩ := h
  obtain ⟨t, u, rfl⟩ := Vals.int2 r
  exact PySem.W.mc_comb_v (by omega) (by omega) (by omega) (.inr (by omega)) (comb_ch n k) ⟨.int _, H, I.tok _, ⟨_, rfl⟩, q⟩
end
end CM

set_option Elab.async false
set_option linter.all false
set_option maxRecDepth 100000
/-! a chain of three comparisons, as a test -/
namespace CH3
open PySem PySem.Spec PyProof.Rows L2 GG
variable {X : Cx} {a b c d : Expr} {ta tb tc td : TE} {pos : Pos}
def tChain3 (r r' r'' : R2) (ta tb tc td : TE) : TT := fun σ H Q => ta σ H fun x H1 => tb σ H1 fun y H2 => r x y H2 fun z H3 => ∃ k, z = .bl k ∧
  (if k = true then tc σ H3 fun w H4 => r' y w H4 fun z2 H5 => ∃ k2, z2 = .bl k2 ∧ (if k2 = true then td σ H5 fun u H6 => r'' w u H6 fun z3 H7 => ∃ k3, z3 = .bl k3 ∧ Q k3 H7 else Q false H5) else Q false H3)
theorem pt_chain3 {op op' op'' : CmpOp} {r r' r'' : R2} (ho : OpR X (compareOp op) r) (ho' : OpR X (compareOp op') r') (ho'' : OpR X (compareOp op'') r'') (ha : PE X a ta) (hb : PE X b tb) (hc : PE X c tc) (hd : PE X d td)
    (hm : lastMarks [op, op', op''] [b, c, d] = false := by with_unfolding_all rfl) : PT X (.Compare a [op, op', op''] [b, c, d] pos) (tChain3 r r' r'' ta tb tc td) := by
  refine ⟨fun pins s σ H Q I h => ?_⟩
  refine isTrue_chain (thn (ha.run pins s σ H _ I h) fun v s1 ⟨x, H1, I1, r1, q1⟩ => test_link (thn (hb.run pins s1 σ H1 _ I1 q1) fun u s2 ⟨y, H2, I2, r2, q2⟩ =>
    thn (ho pins s2 σ H2 x y v u _ I2 r1 r2 q2) fun d' s3 ⟨z, H3, I3, r3, k, e, q3⟩ => ?_)) hm
  subst e
  cases r3
  refine wpAny_truthy_bool ?_
  cases k with
  | false => exact ite_ff ⟨H3, I3, q3⟩
  | true =>
    refine ite_tt (test_link (thn (hc.run pins s3 σ H3 _ I3 q3) fun w' s4 ⟨z', H4, I4, r4, q4⟩ => thn (ho' pins s4 σ H4 y z' u w' _ I4 r2 r4 q4) fun d2 s5 ⟨z2, H5, I5, r5, k2, e2, q5⟩ => ?_))
    subst e2
    cases r5
    refine wpAny_truthy_bool ?_
    cases k2 with
    | false => exact ite_ff ⟨H5, I5, q5⟩
    | true =>
      refine ite_tt (test_last (thn (hd.run pins s5 σ H5 _ I5 q5) fun w3 s6 ⟨z3, H6, I6, r6, q6⟩ => thn (ho'' pins s6 σ H6 z' z3 w' w3 _ I6 r4 r6 q6) fun d3 s7 ⟨z4, H7, I7, r7, k3, e3, q7⟩ => ?_))
      subst e3
      cases r7
      exact wpAny_truthy_bool ⟨H7, I7, q7⟩
end CH3

set_option Elab.async false
set_option linter.all false
set_option maxRecDepth 100000
/-! any over a tuple of ints; isinstance within comprehensions -/
namespace ANT
open PySem PySem.Spec PyProof.Rows L2 GG OPS
variable {X : Cx}
def rAnyT (K : PySem.W.Frag) : List V → Hp → VK → Prop := fun vs H Q => ∃ (a : Addr) (ns : List Int), vs = [.ref a] ∧ SqT K H a (ns.map V.int) ∧ Q (.bl (ns.any fun n => n != 0)) H
theorem call_anyT (calm : X.calm = true) : CallR X (.builtin "any") (rAnyT X.K) := by
  intro pins s σ H vs us Q I r h
  obtain ⟨a, ns, ev, hs, q⟩ := h
  subst ev
  rw [Vals.ref1 r]
  obtain ⟨as, reads⟩ := Dp.reads I (.tuple (ns.map PyData.int)) (.ref a) (.ref a) (.tup hs (dpI ns)) rfl
  cases reads with
  | tuple hg hc hd hr =>
    rename_i o vs n
    refine PySem.W.any_tuple_data (vs := vs) (I.ok.hd calm) ⟨_, hg, hc, _, hd⟩ hr (plain_ints ns) (fun x hx => ?_) fun h' tk hk => ?_
    · obtain ⟨n, _, rfl⟩ := List.mem_map.mp hx
      trivial
    · exact ⟨.bl _, H, I.kept hk, by rw [any_truthy]; rfl, q⟩
theorem call_isiK {K : PySem.W.Frag} (hK : X.K = K) : CallR X (.builtin "isinstance") (rIsi K) := by
  subst hK
  exact call_isi
end ANT

set_option Elab.async false
set_option linter.all false
set_option maxRecDepth 100000
set_option maxHeartbeats 4000000
namespace Z
open PySem PySem.Spec PyProof.Rows L2 GG ZC
abbrev sII : Stmt := top 4
abbrev sIX : Stmt := top 5
abbrev sIT : Stmt := top 6
abbrev sIR : Stmt := top 24
abbrev sFW : Stmt := top 23
abbrev sRE : Stmt := top 22
structure NamesI (mg : Str → Option Value) : Prop extends Names mg where
  isinstance : mg "isinstance" = none
  all : mg "all" = none
  any : mg "any" = none
section
variable {P : Program} {w : World} {K : PySem.W.Frag} {mg : Str → Option Value} {base : Heap}
def spII : Sp := fun vs H Q _ => ∃ i : Int, vs = [.int i] ∧ Q (.bl true) H
theorem scII : FnScope ["value"] ["value"] (defScope sII) := ⟨rfl, rfl, rfl, by decide +kernel, rfl, by decide +kernel, by decide +kernel⟩
theorem ok_ii {f : Addr} {fd : FuncData} (F : Fun K "is_integer" "is_integer" sII f fd) (T : NamesI mg) (nI : mg "int" = none) (nB : mg "bool" = none) : FnOk P w K mg base CX0 1 f fd ["value"] spII := by
  refine F.ok scII (fun vs H Q E h => ?_) (fun cdv A outer s H vs Q E hr h => ?_)
  · obtain ⟨i, rfl, _⟩ := h
    rfl
  · obtain ⟨i, rfl, q⟩ := h
    refine ⟨_, (pss_one (ps_ret (pe_and (pe_callB call_isi (by rfl) T.isinstance (by decide +kernel) (pa_cons (pv 0) (pa_cons (pe_bltn (v := .ty "int") (by rfl) nI (by decide +kernel) rfl) pa_nil))) (pe_one (pe_not (pe_callB call_isi (by rfl) T.isinstance (by decide +kernel) (pa_cons (pv 0) (pa_cons (pe_bltn (v := .ty "bool") (by rfl) nB (by decide +kernel) rfl) pa_nil)))))))), ?_⟩
    refine ⟨_, rfl, _, .ty "int", .type "int", .type "int", true, rfl, .ty "int", .base (.int _), kit_ty (by decide +kernel), true, rfl, ?_⟩
    refine iteT ⟨_, rfl, _, .ty "bool", .type "int", .type "bool", false, rfl, .ty "bool", .base (.int _), kit_ty (by decide +kernel), ?_⟩
    exact ⟨_, rfl, q⟩
def spIX : Sp := fun vs H Q _ => ∃ i n : Int, vs = [.int i, .int n] ∧ 0 ≤ i ∧ i < n ∧ Q (.bl true) H
theorem scIX : FnScope ["value", "size"] ["value", "size"] (defScope sIX) := ⟨rfl, rfl, rfl, by decide +kernel, rfl, by decide +kernel, by decide +kernel⟩
theorem ok_ix {f g : Addr} {fd gd : FuncData} (F : Fun K "is_index" "is_index" sIX f fd) (GI : FnOk P w K mg base CX0 1 g gd ["value"] spII) (PI_ : Def K mg "is_integer" g gd ["value"]) : FnOk P w K mg base CX0 2 f fd ["value", "size"] spIX := by
  refine F.ok scIX (fun vs H Q E h => ?_) (fun cdv A outer s H vs Q E hr h => ?_)
  · obtain ⟨i, n, rfl, _⟩ := h
    rfl
  · obtain ⟨i, n, rfl, h0, h1, q⟩ := h
    refine ⟨_, (pss_one (ps_ret (pe_and (pe_call GI (hr.mono (by decide)) (by rfl) PI_.is PI_.kp PI_.bi .nil pass0 (pa_cons (pv 0) pa_nil)) (pe_one (pe_chain op_le op_lt pe_int (pv 0) (pv 1)))))), ?_⟩
    refine ⟨_, rfl, i, rfl, true, rfl, iteT ⟨_, rfl, _, _, rfl, rfl, _, rfl, ?_⟩⟩
    rw [decide_eq_true h0]
    refine iteT ⟨_, rfl, _, _, rfl, rfl, ?_⟩
    show Q (.bl (decide (i < n))) H
    rw [decide_eq_true h1]
    exact q
def spIT : Sp := fun vs H Q _ => ∃ (t : Addr) (xs : List V) (n : Int), vs = [.ref t, .int n] ∧ H t = some (.tup xs) ∧ (xs.length : Int) = n ∧ Q (.bl true) H
theorem scIT : FnScope ["value", "size"] ["value", "size"] (defScope sIT) := ⟨rfl, rfl, rfl, by decide +kernel, rfl, by decide +kernel, by decide +kernel⟩
theorem ok_it {f : Addr} {fd : FuncData} (F : Fun K "is_tuple" "is_tuple" sIT f fd) (T : NamesI mg) : FnOk P w K mg base CX0 1 f fd ["value", "size"] spIT := by
  refine F.ok scIT (fun vs H Q E h => ?_) (fun cdv A outer s H vs Q E hr h => ?_)
  · obtain ⟨t, xs, n, rfl, _⟩ := h
    rfl
  · obtain ⟨t, xs, n, rfl, et, hl, q⟩ := h
    refine ⟨_, (pss_one (ps_ret (pe_and (pe_callB call_isi (by rfl) T.isinstance (by decide +kernel) (pa_cons (pv 0) (pa_cons (pe_bltn (v := .ty "tuple") (by rfl) T.tuple (by decide +kernel) rfl) pa_nil))) (pe_one (pe_cmpR op_eq (pe_callB call_len_seq (by rfl) T.len PySem.boot_len (pa_cons (pv 0) pa_nil)) (pv 1) (nomark _)))))), ?_⟩
    refine ⟨_, rfl, _, .ty "tuple", .type "tuple", .type "tuple", true, rfl, .ty "tuple", .base (.tup et), kit_ty (by decide +kernel), true, rfl, iteT ⟨_, rfl, t, _, rfl, .inr (SqT.of et), _, rfl, ?_⟩⟩
    refine ⟨rfl, ?_⟩
    show Q (.bl (decide ((V.int (xs.length : Nat)) = .int n))) H
    rw [hl, decide_eq_true rfl]
    exact q
def spIR : Sp := fun vs H Q _ => ∃ (t : Addr) (xs : List Int) (n : Int), vs = [.ref t, .int n] ∧ H t = some (.tup (xs.map V.int)) ∧ (xs.length : Int) = n ∧ xs.length ≤ 100 ∧ ∀ H', Same H H' → Q (.bl true) H'
theorem scIR : FnScope ["value", "size", "part"] ["value", "size"] (defScope sIR) := ⟨rfl, rfl, rfl, by decide +kernel, rfl, by decide +kernel, by decide +kernel⟩
theorem ok_ir {f g h : Addr} {fd gd hd : FuncData} (F : Fun K "is_row_of_integers" "is_row_of_integers" sIR f fd) (T : NamesI mg) (GI : FnOk P w K mg base CX0 1 g gd ["value"] spII) (PI_ : Def K mg "is_integer" g gd ["value"]) (GT : FnOk P w K mg base CX0 1 h hd ["value", "size"] spIT) (PT_ : Def K mg "is_tuple" h hd ["value", "size"]) : FnOk P w K mg base CX0 2 f fd ["value", "size"] spIR := by
  refine F.ok scIR (fun vs H Q E h => ?_) (fun cdv A outer s H vs Q E hr h => ?_)
  · obtain ⟨t, xs, n, rfl, _⟩ := h
    rfl
  · obtain ⟨t, xs, n, rfl, et, hl, l100, q⟩ := h
    have line : sizeLine = 16777216 := by decide
    refine ⟨_, (pss_one (ps_ret (pe_and (pe_call GT (hr.mono (by decide)) (by rfl) PT_.is PT_.kp PT_.bi .nil pass0 (pa_cons (pv 0) (pa_cons (pv 1) pa_nil))) (pe_one (pe_callB (cr_all rfl) (by rfl) T.all (by decide +kernel) (pa_cons (pe_lc (own := [("part", 2)]) (g := gName 2) (tt := tYes) rfl scIR.nd (pi_tup (pv 0)) (blkOk_by (N := ["value", "size", "part"]) (sc := defScope sIR) (own := [("part", 2)]) (by decide +kernel)) (fun _ _ _ _ _ => (pg_name (i := 2) scIR.nd rfl (.inl rfl))) (fun _ _ _ _ _ => pts_nil) (fun _ _ _ _ _ => (pe_call GI (hr.mono (by decide)) (by rfl) PI_.is PI_.kp PI_.bi .nil pass0 (pa_cons (pv 2) pa_nil)))) pa_nil)))))), ?_⟩
    refine ⟨_, rfl, _, rfl, t, _, n, rfl, et, by rw [List.length_map]; exact hl, true, rfl, iteT ?_⟩
    refine ⟨_, rfl, t, rfl, ⟨_, SqT.of et⟩, fun D nD => ?_⟩
    refine lc_tup (K := K) (a := t) (xs := xs.map V.int) (fun j Hx => Same H Hx ∧ Hx D = some (.lst ((List.replicate j true).map V.bl))) ⟨Same.upd nD, upd_same⟩ (fun j Hx _ h => SqT.of (h.1 _ _ et)) ?_ ?_
    · rintro j x H4 hx ⟨s4, e4⟩
      obtain ⟨k, hk, rfl⟩ : ∃ k, xs[j]? = some k ∧ V.int k = x := by
        rw [List.getElem?_map] at hx
        cases e : xs[j]? with
        | none => rw [e] at hx; cases hx
        | some z => rw [e] at hx; exact ⟨z, rfl, Option.some.inj hx⟩
      have hj := (List.getElem?_eq_some_iff.mp hk).1
      refine ⟨rfl, ?_⟩
      dsimp only [tYes]
      refine iteT ⟨_, rfl, k, rfl, _, e4, by rw [List.length_map, List.length_replicate]; omega, fun b o h => by rw [upd_ne (ne_of_none h nD)]; exact s4 _ _ h, ?_⟩
      rw [upd_same, List.replicate_succ', List.map_append]
      rfl
    · rintro H4 ⟨s4, e4⟩
      refine ⟨D, _, rfl, SqL.of e4, ?_⟩
      show Q (.bl ((List.replicate (xs.map V.int).length true).all id)) H4
      have : (List.replicate (xs.map V.int).length true).all id = true := List.all_eq_true.mpr fun b hb => List.eq_of_mem_replicate hb
      rw [this]
      exact q H4 s4
def spFW : Sp := fun vs H Q _ => ∃ (n : Nat) (d e : Addr) (ds es : List Int), vs = [.int (n : Nat), .ref d, .ref e] ∧ H d = some (.tup (ds.map V.int)) ∧ H e = some (.tup (es.map V.int)) ∧ n ≤ 40 ∧ (∀ k, k < n + 1 → ∃ x y, ds[k]? = some x ∧ es[k]? = some y ∧ 0 ≤ x ∧ x ≤ y ∧ y ≤ (ch n k : Nat)) ∧ Q .non H
theorem scFW : FnScope ["tosses", "ds", "es", "k"] ["tosses", "ds", "es"] (defScope sFW) := ⟨rfl, rfl, rfl, by decide +kernel, rfl, by decide +kernel, by decide +kernel⟩
theorem ok_fw {f : Addr} {fd : FuncData} (F : Fun K "find_wrong_row" "find_wrong_row" sFW f fd) (T : NamesI mg) (mC : mg "comb" = some (.builtin "math.comb")) : FnOk P w K mg base CX0 1 f fd ["tosses", "ds", "es"] spFW := by
  refine F.ok scFW (fun vs H Q E h => ?_) (fun cdv A outer s H vs Q E hr h => ?_)
  · obtain ⟨n, d, e, ds, es, rfl, _⟩ := h
    rfl
  · obtain ⟨n, d, e, ds, es, rfl, ed, ee, hn, hv, q⟩ := h
    refine ⟨_, (pss_cons (ps_for PassesOwn.never rfl (pi_range1 rfl T.range (pa_cons (pe_op op_add (pv 0) pe_int) pa_nil)) (pg_name (i := 3) scFW.nd rfl (.inl rfl)) (pss_one (ps_if (pt_not (CH3.pt_chain3 op_le op_le op_le pe_int (pe_ix ix_tup (pv 1) (pv 3) (fun _ _ => rfl)) (pe_ix ix_tup (pv 2) (pv 3) (fun _ _ => rfl)) (pe_callBfun CM.cr_comb (by rfl) mC (pa_cons (pv 0) (pa_cons (pv 3) pa_nil))))) (pss_one (ps_ret (pv 3))) pss_nil)))
      (pss_one (ps_ret pe_non))), ?_⟩
    have hn1 : ((n : Int) + 1).toNat = n + 1 := by omega
    refine ⟨_, rfl, _, _, rfl, rfl, _, rfl, by omega, by omega, for_range (D := { nx := tRet (tC V.non) { nx := fun x H' => Q V.non H', rt := Q }, rt := Q }) (lo := 0) (n := ((n : Int) + 1).toNat) (fun i σ H' => ∃ v3 : Option V, σ = [some (V.int (n : Nat)), some (V.ref d), some (V.ref e), v3] ∧ H' = H) ⟨none, rfl, rfl⟩ ?_ ?_⟩
    · rintro i σ H' hi ⟨v3, rfl, rfl⟩
      rw [hn1] at hi
      rw [Int.zero_add]
      obtain ⟨x, y, hx, hy, h0, h1, h2⟩ := hv i hi
      refine ⟨_, rfl, _, rfl, d, _, (i : Int), .int x, rfl, rfl, SqT.of ed, atI_nat (by rw [List.getElem?_map, hx]; rfl), _, _, rfl, rfl, _, rfl, ?_⟩
      rw [decide_eq_true h0]
      refine iteT ⟨_, rfl, _, rfl, e, _, (i : Int), .int y, rfl, rfl, SqT.of ee, atI_nat (by rw [List.getElem?_map, hy]; rfl), _, _, rfl, rfl, _, rfl, ?_⟩
      rw [decide_eq_true h1]
      refine iteT ⟨_, rfl, _, rfl, n, i, rfl, by omega, _, _, rfl, rfl, _, rfl, ?_⟩
      rw [decide_eq_true h2]
      exact iteF ⟨_, rfl, rfl⟩
    · rintro σ H' ⟨v3, rfl, rfl⟩
      exact q
def spRE : Sp := fun vs H Q _ => ∃ (n : Nat) (t d e : Addr) (ds es : List Int), vs = [.ref t] ∧ H t = some (.tup [.int (n : Nat), .ref d, .ref e]) ∧ H d = some (.tup (ds.map V.int)) ∧ H e = some (.tup (es.map V.int)) ∧ n ≤ 40 ∧ ds.length = n + 1 ∧ es.length = n + 1 ∧ (es.any fun x => x != 0) = true ∧ (∀ k, k < n + 1 → ∃ x y, ds[k]? = some x ∧ es[k]? = some y ∧ 0 ≤ x ∧ x ≤ y ∧ y ≤ (ch n k : Nat)) ∧ ∀ H', Same H H' → Q .non H'
theorem scRE : FnScope ["value", "tosses", "ds", "es", "k"] ["value"] (defScope sRE) := ⟨rfl, rfl, rfl, by decide +kernel, rfl, by decide +kernel, by decide +kernel⟩
theorem ok_re {f g h i j : Addr} {fd gd hd id_ jd : FuncData} {tM : Tok} (F : Fun K "recipe_error" "recipe_error" sRE f fd) (T : NamesI mg) (mM : mg "MAX_RECIPE_TOSSES" = some (.int 40 tM)) (GX : FnOk P w K mg base CX0 2 g gd ["value", "size"] spIX) (PX_ : Def K mg "is_index" g gd ["value", "size"]) (GT : FnOk P w K mg base CX0 1 h hd ["value", "size"] spIT) (PT_ : Def K mg "is_tuple" h hd ["value", "size"])
    (GR : FnOk P w K mg base CX0 2 i id_ ["value", "size"] spIR) (PR_ : Def K mg "is_row_of_integers" i id_ ["value", "size"]) (GW : FnOk P w K mg base CX0 1 j jd ["tosses", "ds", "es"] spFW) (PW_ : Def K mg "find_wrong_row" j jd ["tosses", "ds", "es"]) : FnOk P w K mg base CX0 3 f fd ["value"] spRE := by
  refine F.ok scRE (fun vs H Q E h => ?_) (fun cdv A outer s H vs Q E hr h => ?_)
  · obtain ⟨n, t, d, e, ds, es, rfl, _⟩ := h
    rfl
  · obtain ⟨n, t, d, e, ds, es, rfl, et, ed, ee, hn, ld, le, ha, hv, q⟩ := h
    refine ⟨_, (pss_cons (ps_if (PW.pt (pw_or (pt_not (pt_val (pe_call GT (hr.mono (by decide)) (by rfl) PT_.is PT_.kp PT_.bi .nil pass0 (pa_cons (pv 0) (pa_cons pe_int pa_nil))))) (pw_or1 (pt_not (pt_val (pe_call GX (hr.mono (by decide)) (by rfl) PX_.is PX_.kp PX_.bi .nil pass0 (pa_cons (pe_ix ix_tup (pv 0) pe_int (fun _ _ => rfl)) (pa_cons (pe_op op_add (pe_glob (v := .int 40) rfl mM ⟨_, rfl⟩) pe_int) pa_nil)))))))) (pss_one (ps_ret pe_str)) pss_nil)
      (pss_cons (ps_asg (pv 0) (pg_tup rfl (pgs_cons (pg_name (i := 1) scRE.nd rfl (.inl rfl)) (pgs_cons (pg_name (i := 2) scRE.nd rfl (.inl rfl)) (pgs_cons (pg_name (i := 3) scRE.nd rfl (.inl rfl)) pgs_nil)))))
      (pss_cons (ps_if (PW.pt (pw_or (pt_not (pt_val (pe_call GR (hr.mono (by decide)) (by rfl) PR_.is PR_.kp PR_.bi .nil pass0 (pa_cons (pv 2) (pa_cons (pe_op op_add (pv 1) pe_int) pa_nil))))) (pw_or1 (pt_not (pt_val (pe_call GR (hr.mono (by decide)) (by rfl) PR_.is PR_.kp PR_.bi .nil pass0 (pa_cons (pv 3) (pa_cons (pe_op op_add (pv 1) pe_int) pa_nil)))))))) (pss_one (ps_ret pe_str)) pss_nil)
      (pss_cons (ps_if (pt_not (pt_val (pe_callB (ANT.call_anyT rfl) (by rfl) T.any (by decide +kernel) (pa_cons (pv 3) pa_nil)))) (pss_one (ps_ret pe_str)) pss_nil)
      (pss_cons (ps_set (i := 4) scRE.nd rfl (.inl rfl) (pe_call GW (hr.mono (by decide)) (by rfl) PW_.is PW_.kp PW_.bi .nil pass0 (pa_cons (pv 1) (pa_cons (pv 2) (pa_cons (pv 3) pa_nil)))))
      (pss_one (ps_ret (pe_ifExp (pt_cmpR op_isN (pv 4) pe_non (nomark _)) pe_non (pe_tup (pa_cons pe_str (pa_cons (pv 4) pa_nil))))))))))), ?_⟩
    refine ⟨_, rfl, t, _, 3, rfl, et, rfl, true, rfl, iteF ?_⟩
    refine ⟨_, rfl, t, _, 0, .int (n : Nat), rfl, rfl, SqT.of et, atI_nat (j := 0) rfl, _, _, rfl, rfl, (n : Int), 41, rfl, by omega, by omega, true, rfl, iteF ?_⟩
    refine ⟨_, rfl, t, _, rfl, SqT.of et, rfl, _, _, rfl, _, _, rfl, _, _, rfl, rfl, ?_⟩
    refine ⟨_, rfl, _, rfl, _, _, rfl, rfl, d, ds, (n : Int) + 1, rfl, ed, by omega, by omega, fun H1 s1 => ⟨true, rfl, iteF ?_⟩⟩
    refine ⟨_, rfl, _, rfl, _, _, rfl, rfl, e, es, (n : Int) + 1, rfl, s1 _ _ ee, by omega, by omega, fun H2 s2 => ⟨true, rfl, iteF ?_⟩⟩
    have s12 := s1.trans s2
    refine ⟨_, rfl, e, es, rfl, SqT.of (s12 _ _ ee), _, rfl, ?_⟩
    rw [ha]
    refine iteF ⟨_, rfl, _, rfl, _, rfl, n, d, e, ds, es, rfl, s12 _ _ ed, s12 _ _ ee, hn, hv, ?_⟩
    refine ⟨_, rfl, rfl, _, rfl, ?_⟩
    rw [decide_eq_true rfl]
    exact iteT (q H2 s12)
end
end Z

set_option Elab.async false
set_option linter.all false
set_option maxRecDepth 100000
set_option maxHeartbeats 4000000
set_option exponentiation.threshold 20000
namespace Z
open PySem PySem.Spec PyProof.Rows L2 GG ZC
abbrev sLCo : Stmt := top 29
/-! a machine as data -/
def plD : Pl → PyData
  | .toss a b => .tuple [.str "toss", .int a, .int b]
  | .fin n => .tuple [.str "end", .int n]
  | .never => .tuple [.str "never"]
theorem dp_pl {K : PySem.W.Frag} {H : Hp} {t : Addr} : ∀ {p : Pl}, H t = some (.tup p.row) → Dp K H (.ref t) (plD p)
  | .toss a b, e => .tup (SqT.of e) (.cons (.str _) (.cons (.int _) (.cons (.int _) .nil)))
  | .fin n, e => .tup (SqT.of e) (.cons (.str _) (.cons (.int _) .nil))
  | .never, e => .tup (SqT.of e) (.cons (.str _) .nil)
theorem dp_pls {K : PySem.W.Frag} {H : Hp} {rs : List V} {ps : List Pl} (h : Pls H rs ps) : DpAll K H rs (ps.map plD) := by
  induction h with
  | nil => exact .nil
  | cons e _ ih => exact .cons (dp_pl e) ih
theorem dp_mach {K : PySem.W.Frag} {H : Hp} {m : Addr} {ps : List Pl} (h : Mach H m ps) : Dp K H (.ref m) (.tuple (ps.map plD)) := by
  obtain ⟨rs, e, p⟩ := h
  exact .tup (SqT.of e) (dp_pls p)
theorem log100 {i : Int} (h0 : 0 ≤ i) (h1 : i < 100) : i.natAbs.log2 < 1920 :=
  PySem.Flt.log2_lt_of (k := 1920) (by decide) (Nat.lt_of_lt_of_le (show i.natAbs < 2 ^ 7 by have : (2 : Nat) ^ 7 = 128 := rfl; omega) (Nat.pow_le_pow_right (by decide) (by decide)))
theorem str_leaf {x : Str} (h : (x.cps.toList.all fun c => decide (c < 16 ^ 8)) = true) : (PyData.str x).leavesShort 1922 = true := h
theorem pl_show {m : Nat} (hm : m ≤ 30) : ∀ {p : Pl}, p.ok m → (plD p).showable = true ∧ (plD p).leavesShort 1922 = true ∧ (plD p).hasDict = false ∧ (plD p).depth ≤ 1 ∧ (plD p).bulk ≤ 30
  | .toss a b, h => by
    obtain ⟨a0, a1, b0, b1⟩ := h
    have ha := log100 a0 (by omega)
    have hb := log100 b0 (by omega)
    have l1 : (PyData.str "toss").leavesShort 1922 = true := str_leaf (by decide +kernel)
    have z1 : (PyData.str "toss").bulk ≤ 9 := by decide +kernel
    refine ⟨by simp [plD, PyData.showable, PyData.showableAll, ha, hb], by simp only [plD, PyData.leavesShort, PyData.leavesShortAll] at l1 ⊢; have s1 : (decide ((PyData.int a).shown.length ≤ 1922)) = true := short_int ha; have s2 : (decide ((PyData.int b).shown.length ≤ 1922)) = true := short_int hb; rw [l1, s1, s2]; rfl, by simp [plD, PyData.hasDict, PyData.hasDictAll], by simp [plD, PyData.depth, PyData.depthAll], ?_⟩
    simp only [plD, PyData.bulk, PyData.bulkAll] at z1 ⊢
    omega
  | .fin n, h => by
    obtain ⟨a0, a1⟩ := h
    have ha := log100 a0 a1
    have l1 : (PyData.str "end").leavesShort 1922 = true := str_leaf (by decide +kernel)
    have z1 : (PyData.str "end").bulk ≤ 9 := by decide +kernel
    refine ⟨by simp [plD, PyData.showable, PyData.showableAll, ha], by simp only [plD, PyData.leavesShort, PyData.leavesShortAll] at l1 ⊢; have s1 : (decide ((PyData.int n).shown.length ≤ 1922)) = true := short_int ha; rw [l1, s1]; rfl, by simp [plD, PyData.hasDict, PyData.hasDictAll], by simp [plD, PyData.depth, PyData.depthAll], ?_⟩
    simp only [plD, PyData.bulk, PyData.bulkAll] at z1 ⊢
    omega
  | .never, h => by
    have l1 : (PyData.str "never").leavesShort 1922 = true := str_leaf (by decide +kernel)
    have z1 : (PyData.str "never").bulk ≤ 9 := by decide +kernel
    refine ⟨by simp [plD, PyData.showable, PyData.showableAll], by simp only [plD, PyData.leavesShort, PyData.leavesShortAll] at l1 ⊢; rw [l1]; rfl, by simp [plD, PyData.hasDict, PyData.hasDictAll], by simp [plD, PyData.depth, PyData.depthAll], ?_⟩
    simp only [plD, PyData.bulk, PyData.bulkAll] at z1 ⊢
    omega
theorem pls_show {m : Nat} (hm : m ≤ 30) : ∀ {ps : List Pl}, (∀ p ∈ ps, p.ok m) → PyData.showableAll (ps.map plD) = true ∧ PyData.leavesShortAll 1922 (ps.map plD) = true ∧ PyData.hasDictAll (ps.map plD) = false ∧ PyData.depthAll (ps.map plD) ≤ 1 ∧ PyData.bulkAll (ps.map plD) ≤ ps.length * 31
  | [], _ => ⟨rfl, rfl, rfl, Nat.zero_le _, Nat.zero_le _⟩
  | p :: t, h => by
    obtain ⟨h1, h2, h3, h4, h5⟩ := pls_show hm (ps := t) fun x hx => h x (List.mem_cons_of_mem _ hx)
    obtain ⟨g1, g2, g3, g4, g5⟩ := pl_show hm (h p List.mem_cons_self)
    refine ⟨?_, ?_, ?_, ?_, ?_⟩
    · simp only [List.map_cons, PyData.showableAll, g1, h1, Bool.and_self]
    · simp only [List.map_cons, PyData.leavesShortAll, g2, h2, Bool.and_self]
    · simp only [List.map_cons, PyData.hasDictAll, g3, h3, Bool.or_self]
    · simp only [List.map_cons, PyData.depthAll]
      omega
    · simp only [List.map_cons, PyData.bulkAll, List.length_cons]
      omega
theorem mach_shows {ps : List Pl} (hw : WF ps) : Shows (.tuple (ps.map plD)) 50 8000 := by
  obtain ⟨h1, h2, h3, h4, h5⟩ := pls_show hw.le hw.ok
  have := hw.le
  refine ⟨by simp only [PyData.showable, h1], by simp only [PyData.leavesShort, h2], by simp only [PyData.hasDict, h3], ?_, ?_⟩
  · simp only [PyData.depth]
    omega
  · simp only [PyData.bulk]
    omega
section
variable {P : Program} {w : World} {K : PySem.W.Frag} {mg : Str → Option Value} {base : Heap}
/-- the law's counts -/
def kn (ps : List Pl) (a : Int) (k : Int) : Bool := stopA ps k == a
def cntF (g : Int → Bool) (n : Nat) (fs : List (Nat × Int)) : List Int := (List.range (n + 1)).map fun h => ((fs.countP fun f => f.1 == h && g f.2 : Nat) : Int)
theorem cntF_len (g : Int → Bool) (n : Nat) (fs : List (Nat × Int)) : (cntF g n fs).length = n + 1 := by
  unfold cntF
  rw [List.length_map, List.length_range]
theorem cntF_get {g : Int → Bool} {n h : Nat} {fs : List (Nat × Int)} (lt : h < n + 1) : (cntF g n fs)[h]? = some ((fs.countP fun f => f.1 == h && g f.2 : Nat) : Int) := by
  unfold cntF
  rw [List.getElem?_map, List.getElem?_range lt]
  rfl
theorem cntF_add {g : Int → Bool} {n : Nat} {fs : List (Nat × Int)} {f : Nat × Int} (hf : f.1 < n + 1) : cntF g n (fs ++ [f]) = (cntF g n fs).set f.1 (((fs.countP fun z => z.1 == f.1 && g z.2 : Nat) : Int) + (if g f.2 = true then 1 else 0)) := by
  refine List.ext_getElem? fun i => ?_
  rcases Nat.lt_or_ge i (n + 1) with lt | ge
  · rw [cntF_get lt, List.countP_append, List.countP_singleton]
    by_cases e : f.1 = i
    · subst e
      rw [List.getElem?_set_self (by rw [cntF_len]; exact lt)]
      cases g f.2 <;> simp
    · rw [List.getElem?_set_ne e, cntF_get lt]
      simp [e]
  · rw [List.getElem?_eq_none (by rw [cntF_len]; exact ge), List.getElem?_eq_none (by rw [List.length_set, cntF_len]; exact ge)]
theorem cntF_fd (ps : List Pl) (js : List Int) (g : Int → Bool) : cntF g js.length (fdC ps js (wd js.length)) = cnts ps js g (bv js.length) := by
  unfold cntF cnts
  refine List.map_congr_left fun h _ => ?_
  rw [← cnt_eq]
  congr 1
  unfold fdC cntC
  rw [List.countP_map, List.countP_filter]
  refine List.countP_congr fun r _ => ?_
  simp
  constructor
  · rintro ⟨⟨a, b⟩, c⟩
    exact ⟨a, c, b⟩
  · rintro ⟨a, c, b⟩
    exact ⟨⟨a, b⟩, c⟩
theorem fd_ok {ps : List Pl} (hw : WF ps) {js : List Int} (hj : ∀ k ∈ js, In ps k) {f : Nat × Int} (h : f ∈ fdC ps js (wd js.length)) : f.1 < js.length + 1 ∧ In ps f.2 := by
  unfold fdC at h
  obtain ⟨r, hr, rfl⟩ := List.mem_map.mp h
  have h1 := wd_each _ r (List.mem_filter.mp hr).1
  have h2 := hds_le r
  exact ⟨by show hds r < _; omega, led_in hw hj js.length (in_zero hw)⟩
structure NamesJ (mg : Str → Option Value) : Prop extends NamesDi mg where
  int : mg "int" = none
def spLCo : Sp := fun vs H Q _ => ∃ (m : Addr) (a : Int) (ps : List Pl), vs = [.ref m, .int a] ∧ Mach H m ps ∧ WF ps ∧ ps.length ≤ 11 ∧ (ps.length ≤ 10 ∨ ∃ p ∈ ps, p.isT = false) ∧ ∀ (t d e : Addr) (ks : List Int) H', Same H H' → H t = none → Places ps 0 ks → (tosL ps ks).length ≤ 10 → H' t = some (.tup [.ref d, .ref e]) →
  H' d = some (.lst ((cnts ps (tosL ps ks) (kn ps a) (bv (tosL ps ks).length)).map V.int)) → H' e = some (.lst ((cnts ps (tosL ps ks) (fun _ => true) (bv (tosL ps ks).length)).map V.int)) → Q (.ref t) H'
theorem scLCo : FnScope ["machine", "answer", "many", "choices", "known", "ds", "es", "heads", "place", "told"] ["machine", "answer"] (defScope sLCo) := ⟨rfl, rfl, rfl, by decide +kernel, rfl, by decide +kernel, by decide +kernel⟩
theorem ok_lco {f g h : Addr} {fd gd hd : FuncData} (F : Fun K "_law_counts" "_law_counts" sLCo f fd) (T : NamesJ mg) (GC : FnOk P w K mg base CX0 3 g gd ["machine", "left_out"] spLCh) (PC_ : Def K mg "_law_choices" g gd ["machine", "left_out"]) (GO : FnOk P w K mg base CX0 2 h hd ["machine"] spLO) (PO : Def K mg "_law_open" h hd ["machine"]) : FnOk P w K mg base CX0 4 f fd ["machine", "answer"] spLCo := by
  refine F.ok scLCo (fun vs H Q E h => ?_) (fun cdv A outer s H vs Q E hr h => ?_)
  · obtain ⟨m, a, ps, rfl, _⟩ := h
    rfl
  · obtain ⟨m, a, ps, rfl, hm, hw, l11, hq, q⟩ := h
    refine ⟨_, (pss_cons (ps_asg (pe_call GC (hr.mono (by decide)) (by rfl) PC_.is PC_.kp PC_.bi .nil pass0 (pa_cons (pv 0) (pa_cons pe_non pa_nil))) (pg_tup rfl (pgs_cons (pg_name (i := 2) scLCo.nd rfl (.inl rfl)) (pgs_cons (pg_name (i := 3) scLCo.nd rfl (.inl rfl)) pgs_nil))))
      (pss_cons (ps_set (i := 4) scLCo.nd rfl (.inl rfl) (pe_call GO (hr.mono (by decide)) (by rfl) PO.is PO.kp PO.bi .nil pass0 (pa_cons (pv 0) pa_nil)))
      (pss_cons (ps_par (i := 5) (j := 6) (by rfl) scLCo.nd rfl rfl (by decide) rfl rfl (pa_cons (pe_op op_rep (pe_lst (pa_cons pe_int pa_nil)) (pe_op op_add (pv 2) pe_int)) (pa_cons (pe_op op_rep (pe_lst (pa_cons pe_int pa_nil)) (pe_op op_add (pv 2) pe_int)) pa_nil)) (by rfl))
      (pss_cons (ps_for PassesOwn.never rfl (pi_list (pv 3)) (pg_tup rfl (pgs_cons (pg_name (i := 7) scLCo.nd rfl (.inl rfl)) (pgs_cons (pg_name (i := 8) scLCo.nd rfl (.inl rfl)) pgs_nil))) (pss_cons (ps_set (i := 9) scLCo.nd rfl (.inl rfl) (pe_ifExp (pt_cmpR op_eq (pe_ix ix_tup (pe_ix ix_tup (pv 0) (pv 8) (fun _ _ => rfl)) pe_int (fun _ _ => rfl)) pe_str (nomark _)) (pe_ix ix_tup (pe_ix ix_tup (pv 0) (pv 8) (fun _ _ => rfl)) pe_int (fun _ _ => rfl)) (pe_un un_neg pe_int)))
      (pss_cons (ps_asg (pe_op op_add (pe_ix ix_list (pv 6) (pv 7) (fun _ _ => rfl)) pe_int) (pg_sub (pv 6) (pv 7) set_list))
      (pss_one (ps_asg (pe_op op_add (pe_ix ix_list (pv 5) (pv 7) (fun _ _ => rfl)) (pe_callTy call_int1 (by rfl) T.int (by decide +kernel) (pa_cons (pe_and (pe_cmpR op_eq (pv 9) (pv 1) (nomark _)) (pe_one (pe_orT (pe_ix ix_list (pv 4) (pv 8) (fun _ _ => rfl)) (pe_one (pe_cmpR op_eq (pv 1) (pe_un un_neg pe_int) (nomark _)))))) pa_nil))) (pg_sub (pv 5) (pv 7) set_list))))))
      (pss_one (ps_ret (pe_tup (pa_cons (pv 5) (pa_cons (pv 6) pa_nil))))))))), ?_⟩
    have line : sizeLine = 16777216 := by decide
    refine ⟨_, rfl, m, ps, rfl, hm, hw, l11, hq, fun C ks fs U H1 s1 nC hk eC eU hf => ?_⟩
    refine ⟨C, _, rfl, SqT.of eC, rfl, _, _, rfl, _, _, rfl, rfl, ?_⟩
    refine ⟨_, rfl, m, ps, rfl, hm.same s1, hw, fun O bs H2 s2 nO eO hkn => ?_⟩
    have few : (tosL ps ks).length ≤ 10 := tos_few hw hk l11 hq
    have kin : ∀ k ∈ tosL ps ks, In ps k := fun k h => ((hk.2 k).mp (tosL_mem h).1).inn hw (in_zero hw)
    have s12 := s1.trans s2
    have eU2 := s2 _ _ eU
    have hf2 := hf.same s2
    have zer : ∀ g, (List.replicate (((tosL ps ks).length : Int) + 1).toNat [V.int 0]).flatten = (cntF g (tosL ps ks).length []).map V.int := fun g => by
      have : (((tosL ps ks).length : Int) + 1).toNat = (tosL ps ks).length + 1 := by omega
      rw [this]
      unfold cntF
      simp [List.flatten_replicate_singleton, List.map_const']
    have hd : ∀ f ∈ fdC ps (tosL ps ks) (wd (tosL ps ks).length), f.1 < (tosL ps ks).length + 1 ∧ In ps f.2 := fun f h => fd_ok hw kin h
    have hdA := cntF_fd ps (tosL ps ks) (kn ps a)
    have hdB := cntF_fd ps (tosL ps ks) (fun _ => true)
    generalize hfs : fdC ps (tosL ps ks) (wd (tosL ps ks).length) = gs at hf2 hd hdA hdB
    clear hfs hf
    refine ⟨by show 1 ≤ sizeLine; decide, fun Z1 nZ1 => ?_⟩
    have g1 := Same.upd (o := .lst [V.int 0]) nZ1
    have eZ1 : upd H2 Z1 (.lst [V.int 0]) Z1 = some (.lst [V.int 0]) := upd_same
    change (_ : Hp → Prop) (upd H2 Z1 (.lst [V.int 0]))
    generalize upd H2 Z1 (.lst [V.int 0]) = H3 at g1 eZ1 ⊢
    refine ⟨_, rfl, _, _, rfl, rfl, Z1, _, _, rfl, rfl, eZ1, by omega, by omega, by show 1 * (((tosL ps ks).length : Int) + 1).toNat ≤ sizeLine; omega, fun Y1 nY1 => ?_⟩
    have g2 := Same.upd (o := .lst (List.replicate (((tosL ps ks).length : Int) + 1).toNat [V.int 0]).flatten) nY1
    have eY1 : upd H3 Y1 (.lst (List.replicate (((tosL ps ks).length : Int) + 1).toNat [V.int 0]).flatten) Y1 = some (.lst ((cntF (kn ps a) (tosL ps ks).length []).map V.int)) := by rw [upd_same, zer]
    change (_ : Hp → Prop) (upd H3 Y1 _)
    generalize upd H3 Y1 (.lst (List.replicate (((tosL ps ks).length : Int) + 1).toNat [V.int 0]).flatten) = H4 at g2 eY1 ⊢
    refine ⟨by show 1 ≤ sizeLine; decide, fun Z2 nZ2 => ?_⟩
    have g3 := Same.upd (o := .lst [V.int 0]) nZ2
    have eZ2 : upd H4 Z2 (.lst [V.int 0]) Z2 = some (.lst [V.int 0]) := upd_same
    change (_ : Hp → Prop) (upd H4 Z2 (.lst [V.int 0]))
    generalize upd H4 Z2 (.lst [V.int 0]) = H5 at g3 eZ2 ⊢
    refine ⟨_, rfl, _, _, rfl, rfl, Z2, _, _, rfl, rfl, eZ2, by omega, by omega, by show 1 * (((tosL ps ks).length : Int) + 1).toNat ≤ sizeLine; omega, fun Y2 nY2 => ?_⟩
    have g4 := Same.upd (o := .lst (List.replicate (((tosL ps ks).length : Int) + 1).toNat [V.int 0]).flatten) nY2
    have eY2 : upd H5 Y2 (.lst (List.replicate (((tosL ps ks).length : Int) + 1).toNat [V.int 0]).flatten) Y2 = some (.lst ((cntF (fun _ => true) (tosL ps ks).length []).map V.int)) := by rw [upd_same, zer]
    have e15 := g3 _ _ eY1
    have n12 : Y1 ≠ Y2 := fun z => by rw [z] at e15; rw [e15] at nY2; cases nY2
    have n2 : H2 Y2 = none := ((g1.trans g2).trans g3).free nY2
    have n1 : H2 Y1 = none := g1.free nY1
    have g14 := ((g1.trans g2).trans g3).trans g4
    have e16 := g4 _ _ e15
    change (_ : Hp → Prop) (upd H5 Y2 _)
    generalize upd H5 Y2 (.lst (List.replicate (((tosL ps ks).length : Int) + 1).toNat [V.int 0]).flatten) = H6 at g14 e16 eY2 ⊢
    refine ⟨_, _, rfl, ?_⟩
    refine ⟨_, rfl, U, rfl, ⟨_, SqL.of (g14 _ _ eU2)⟩, for_list (K := K) (a := U) (xs := fs.map V.ref) (fun k σ H' => ∃ v7 v8 v9 : Option V, σ = [some (V.ref m), some (V.int a), some (V.int ((tosL ps ks).length : Nat)), some (V.ref U), some (V.ref O), some (V.ref Y1), some (V.ref Y2), v7, v8, v9] ∧ Same H2 H' ∧ H' Y1 = some (.lst ((cntF (kn ps a) (tosL ps ks).length (gs.take k)).map V.int)) ∧ H' Y2 = some (.lst ((cntF (fun _ => true) (tosL ps ks).length (gs.take k)).map V.int))) ⟨none, none, none, rfl, g14, e16, eY2⟩ (fun k σ H' _ h => ?_) ?_ ?_⟩
    · obtain ⟨_, _, _, _, sx, _⟩ := h
      exact SqL.of (sx _ _ eU2)
    · rintro k x σ H7 hx2 ⟨v7, v8, v9, rfl, s7, e7, e8⟩
      obtain ⟨t, ht, rfl⟩ : ∃ t, fs[k]? = some t ∧ V.ref t = x := by
        rw [List.getElem?_map] at hx2
        cases e : fs[k]? with
        | none => rw [e] at hx2; cases hx2
        | some z => rw [e] at hx2; exact ⟨z, rfl, Option.some.inj hx2⟩
      obtain ⟨f, hf1, et⟩ := hf2.2 k t ht
      obtain ⟨fl, hin⟩ := hd f (List.mem_of_getElem? hf1)
      have tk : gs.take (k + 1) = gs.take k ++ [f] := by rw [List.take_succ, hf1]; rfl
      refine ⟨t, _, rfl, SqT.of (s7 _ _ et), rfl, _, _, rfl, _, _, rfl, rfl, ?_⟩
      obtain ⟨i, hi⟩ : ∃ i : Nat, f.2 = (i : Int) := ⟨f.2.toNat, by have := hin.1; omega⟩
      have hib : i < bs.length := by rw [hkn.1]; have := hin.2; omega
      have gb : bs[i]? = some (bs.getD i false) := by rw [List.getD_eq_getElem?_getD, List.getElem?_eq_getElem hib]; rfl
      have told : (kn ps a f.2 = true → bs.getD i false = true ∨ a = -1) := fun h => by
        have h : (stopA ps f.2 == a) = true := h
        cases e : place ps f.2 with
        | fin n =>
          left
          have := (hkn.2 i (by have := hin.2; omega)).mpr ⟨f.2, n, by rw [hi]; exact .here, e⟩
          rw [gb] at this
          exact Option.some.inj this
        | toss x y =>
          right
          have : stopA ps f.2 = -1 := by unfold stopA; rw [e]
          rw [this] at h
          exact (eq_of_beq h).symm
        | never =>
          right
          have : stopA ps f.2 = -1 := by unfold stopA; rw [e]
          rw [this] at h
          exact (eq_of_beq h).symm
      refine asg_tail (fun v H' => v = V.int (stopA ps f.2) ∧ H' = H7) ?_ ?_
      · rintro v H' ⟨rfl, rfl⟩
        refine ⟨_, rfl, _, rfl, Y2, _, _, _, rfl, rfl, SqL.of e8, atI_nat (j := f.1) (by rw [List.getElem?_map, cntF_get fl]; rfl), _, _, rfl, rfl, _, rfl, _, rfl, Y2, _, _, f.1, rfl, rfl, e8, ixN_nat (by rw [List.length_map, cntF_len]; exact fl), ?_⟩
        have e8' : upd H' Y2 (.lst (((cntF (fun _ => true) (tosL ps ks).length (gs.take k)).map V.int).set f.1 (.int (((gs.take k).countP fun z => z.1 == f.1 && true : Nat) + 1)))) Y2 = some (.lst ((cntF (fun _ => true) (tosL ps ks).length (gs.take (k + 1))).map V.int)) := by
          rw [upd_same, tk, cntF_add fl, List.map_set]
          rfl
        have e7' : upd H' Y2 (.lst (((cntF (fun _ => true) (tosL ps ks).length (gs.take k)).map V.int).set f.1 (.int (((gs.take k).countP fun z => z.1 == f.1 && true : Nat) + 1)))) Y1 = some (.lst ((cntF (kn ps a) (tosL ps ks).length (gs.take k)).map V.int)) := by
          rw [upd_ne n12]
          exact e7
        have s7' : Same H2 (upd H' Y2 (.lst (((cntF (fun _ => true) (tosL ps ks).length (gs.take k)).map V.int).set f.1 (.int (((gs.take k).countP fun z => z.1 == f.1 && true : Nat) + 1))))) := fun b o h => by
          rw [upd_ne (ne_of_none h n2)]
          exact s7 _ _ h
        change (_ : Hp → Prop) (upd H' Y2 _)
        generalize upd H' Y2 (.lst (((cntF (fun _ => true) (tosL ps ks).length (gs.take k)).map V.int).set f.1 (.int (((gs.take k).countP fun z => z.1 == f.1 && true : Nat) + 1)))) = H8 at e7' e8' s7' ⊢
        have fin : ∀ (v9 : Option V) (z : Int), z = (if kn ps a f.2 = true then 1 else 0) → ∃ w7 w8 w9 : Option V, [some (V.ref m), some (V.int a), some (V.int ((tosL ps ks).length : Nat)), some (V.ref U), some (V.ref O), some (V.ref Y1), some (V.ref Y2), some (V.int (f.1 : Nat)), some (V.int f.2), v9] = [some (V.ref m), some (V.int a), some (V.int ((tosL ps ks).length : Nat)), some (V.ref U), some (V.ref O), some (V.ref Y1), some (V.ref Y2), w7, w8, w9] ∧ Same H2 (upd H8 Y1 (.lst (((cntF (kn ps a) (tosL ps ks).length (gs.take k)).map V.int).set f.1 (.int (((gs.take k).countP fun z => z.1 == f.1 && kn ps a z.2 : Nat) + z))))) ∧
            upd H8 Y1 (.lst (((cntF (kn ps a) (tosL ps ks).length (gs.take k)).map V.int).set f.1 (.int (((gs.take k).countP fun z => z.1 == f.1 && kn ps a z.2 : Nat) + z)))) Y1 = some (.lst ((cntF (kn ps a) (tosL ps ks).length (gs.take (k + 1))).map V.int)) ∧
            upd H8 Y1 (.lst (((cntF (kn ps a) (tosL ps ks).length (gs.take k)).map V.int).set f.1 (.int (((gs.take k).countP fun z => z.1 == f.1 && kn ps a z.2 : Nat) + z)))) Y2 = some (.lst ((cntF (fun _ => true) (tosL ps ks).length (gs.take (k + 1))).map V.int)) := fun v9 z hz => by
          refine ⟨_, _, _, rfl, fun b o h => by rw [upd_ne (ne_of_none h n1)]; exact s7' _ _ h, ?_, ?_⟩
          · rw [upd_same, tk, cntF_add fl, List.map_set, hz]
          · rw [upd_ne n12.symm]
            exact e8'
        refine ⟨_, rfl, _, rfl, Y1, _, _, _, rfl, rfl, SqL.of e7', atI_nat (j := f.1) (by rw [List.getElem?_map, cntF_get fl]; rfl), _, rfl, _, rfl, rfl, _, rfl, ?_⟩
        by_cases hk1 : stopA ps f.2 = a
        · have kt : kn ps a f.2 = true := by unfold kn; rw [hk1]; exact beq_self_eq_true a
          rw [decide_eq_true (by rw [hk1])]
          refine iteT ⟨_, rfl, _, rfl, O, _, f.2, .bl (bs.getD i false), rfl, rfl, SqL.of (s7' _ _ eO), by rw [hi]; exact atI_nat (by rw [List.getElem?_map, gb]; rfl), bs.getD i false, rfl, ?_⟩
          cases hb : bs.getD i false with
          | true =>
            refine iteT (.inr ⟨true, rfl, _, _, rfl, rfl, _, rfl, _, rfl, Y1, _, _, f.1, rfl, rfl, e7', ixN_nat (by rw [List.length_map, cntF_len]; exact fl), fin _ _ (by rw [kt])⟩)
          | false =>
            have am : a = -1 := by
              rcases told kt with h | h
              · rw [hb] at h; cases h
              · exact h
            refine iteF ⟨_, rfl, _, rfl, rfl, ?_⟩
            rw [decide_eq_true (show V.int a = V.int (-1) by rw [am])]
            exact .inr ⟨true, rfl, _, _, rfl, rfl, _, rfl, _, rfl, Y1, _, _, f.1, rfl, rfl, e7', ixN_nat (by rw [List.length_map, cntF_len]; exact fl), fin _ _ (by rw [kt])⟩
        · have kf : kn ps a f.2 = false := by unfold kn; exact beq_eq_false_iff_ne.mpr hk1
          rw [decide_eq_false (fun z => hk1 (V.int.inj z))]
          exact iteF (.inr ⟨false, rfl, _, _, rfl, rfl, _, rfl, _, rfl, Y1, _, _, f.1, rfl, rfl, e7', ixN_nat (by rw [List.length_map, cntF_len]; exact fl), fin _ _ (by rw [kf])⟩)
      · intro tail
        obtain ⟨rs, t2, em, ea, e2⟩ := (hm.same (s12.trans s7)).at hw hin.1 hin.2
        have hs : ∀ {p}, place ps f.2 = p → stopA ps f.2 = (match p with | .fin n => n | _ => -1) := fun e => by subst e; rfl
        cases e : place ps f.2 with
        | fin n =>
          rw [e] at e2
          rw [hs e] at tail
          refine ⟨_, rfl, _, rfl, m, rs, f.2, .ref t2, rfl, rfl, SqT.of em, ea, t2, _, 0, .str "end", rfl, rfl, SqT.of e2, atI_nat (j := 0) rfl, rfl, _, rfl, ?_⟩
          rw [decide_eq_true rfl]
          exact iteT ⟨_, rfl, _, rfl, m, rs, f.2, .ref t2, rfl, rfl, SqT.of em, ea, t2, _, 1, .int n, rfl, rfl, SqT.of e2, atI_nat (j := 1) rfl, tail _ _ ⟨rfl, rfl⟩⟩
        | toss x y =>
          rw [e] at e2
          rw [hs e] at tail
          refine ⟨_, rfl, _, rfl, m, rs, f.2, .ref t2, rfl, rfl, SqT.of em, ea, t2, _, 0, .str "toss", rfl, rfl, SqT.of e2, atI_nat (j := 0) rfl, rfl, _, rfl, ?_⟩
          rw [decide_eq_false str_end_toss]
          exact iteF ⟨_, rfl, tail _ _ ⟨rfl, rfl⟩⟩
        | never =>
          rw [e] at e2
          rw [hs e] at tail
          refine ⟨_, rfl, _, rfl, m, rs, f.2, .ref t2, rfl, rfl, SqT.of em, ea, t2, _, 0, .str "never", rfl, rfl, SqT.of e2, atI_nat (j := 0) rfl, rfl, _, rfl, ?_⟩
          rw [decide_eq_false str_end_never]
          exact iteF ⟨_, rfl, tail _ _ ⟨rfl, rfl⟩⟩
    · rintro σ H7 ⟨v7, v8, v9, rfl, s7, e7, e8⟩
      rw [List.length_map, hf2.1, List.take_length] at e7 e8
      rw [hdA] at e7
      rw [hdB] at e8
      refine ⟨_, rfl, _, rfl, by show 2 ≤ sizeLine; decide, fun R nR => ?_⟩
      have sR := Same.upd (o := .tup [V.ref Y1, .ref Y2]) nR
      exact q R Y1 Y2 ks _ ((s12.trans s7).trans sR) ((s12.trans s7).free nR) hk few upd_same (sR _ _ e7) (sR _ _ e8)
end
end Z

set_option Elab.async false
set_option linter.all false
set_option maxRecDepth 100000
set_option maxHeartbeats 4000000
namespace Z
open PySem PySem.Spec PyProof.Rows L2 GG ZC
abbrev sLaw : Stmt := top 37
/-- a machine in a list -/
def MOk (H : Hp) (x : Addr × List Pl) : Prop := Mach H x.1 x.2 ∧ WF x.2 ∧ x.2.length ≤ 11 ∧ (x.2.length ≤ 10 ∨ ∃ p ∈ x.2, p.isT = false)
theorem mk_mok {H : Hp} {t : Addr} {rs : List V} {ps : List Pl} (e : H t = some (.tup rs)) (p : Pls H rs ps) (ne : 0 < ps.length) (le : ps.length ≤ 10) (ok : ∀ q ∈ ps, q.ok ps.length) : MOk H (t, ps) := ⟨⟨rs, e, p⟩, ⟨ne, by show ps.length ≤ 30; omega, ok⟩, by show ps.length ≤ 11; omega, .inl le⟩
theorem MOk.same {H H' : Hp} {x : Addr × List Pl} (h : MOk H x) (s : Same H H') : MOk H' x := ⟨h.1.same s, h.2⟩
theorem MOk.updL {H : Hp} {x : Addr × List Pl} {a : Addr} {xs : List V} {o : HO} (h : MOk H x) (e : H a = some (.lst xs)) : MOk (upd H a o) x := by
  refine ⟨h.1.mono fun t xs g => ?_, h.2⟩
  rw [upd_ne]
  · exact g
  · intro z
    subst z
    rw [e] at g
    cases g
theorem MOk.but {H H' : Hp} {a l : Addr} {x : Addr × List Pl} (h : MOk H x) (p : Pen H a l) (b : But a H H') : MOk H' x := ⟨h.1.but p b, h.2⟩
def recD (n : Int) (xs ys : List Int) : PyData := .tuple [.int n, .tuple (xs.map PyData.int), .tuple (ys.map PyData.int)]
theorem recD_lay (n : Int) (xs ys : List Int) : (recD n xs ys).canLay0 = true := by
  simp [recD, PyData.canLay0, PyData.canLayAll0, PySem.W.ke_canLayAll0]
theorem recD_shaped (n : Int) (xs ys : List Int) : SeqAt.shaped (recD n xs ys) = true := by
  unfold SeqAt.shaped
  rw [recD_lay, Bool.true_and]
  simp [recD, PyData.depth, PyData.depthAll, PySem.W.ke_depthAll]
theorem recD_eqv (n : Int) (xs ys : List Int) : PyData.eqv (recD n xs ys) (recD n xs ys) = true := SeqAt.eqv_refl _ (recD_lay n xs ys)
theorem dp_rec {K : PySem.W.Frag} {H : Hp} {t d e : Addr} {n : Int} {xs ys : List Int} (et : H t = some (.tup [.int n, .ref d, .ref e])) (ed : H d = some (.tup (xs.map V.int))) (ee : H e = some (.tup (ys.map V.int))) : Dp K H (.ref t) (recD n xs ys) :=
  .tup (SqT.of et) (.cons (.int _) (.cons (.tup (SqT.of ed) (dpInts _)) (.cons (.tup (SqT.of ee) (dpInts _)) .nil)))
structure NamesL (mg : Str → Option Value) : Prop extends NamesJ mg where
  sorted : mg "sorted" = none
  repr : mg "repr" = none
section
variable {P : Program} {w : World} {K : PySem.W.Frag} {mg : Str → Option Value} {base : Heap}
def spLaw (K : PySem.W.Frag) : Sp := fun vs H Q _ => ∃ (a : Addr) (ns : List Int), vs = [.ref a] ∧ SqL K H a (ns.map V.int) ∧ ns.length ≤ 63 ∧ ∀ H', Q (.bl true) H'
theorem scLaw : FnScope ["script", "pen", "some", "machine", "asked", "answer", "ds", "es", "found", "k"] ["script"] (defScope sLaw) := ⟨rfl, rfl, rfl, by decide +kernel, rfl, by decide +kernel, by decide +kernel⟩
theorem ok_law {f fP fD fM fC fR fE : Addr} {fd dP dD dM dC dR dE : FuncData} (F : Fun K "law" "law" sLaw f fd) (T : NamesL mg)
    (GP : FnOk P w K mg base CX0 1 fP dP ["script"] (spPen K)) (P1 : Def K mg "_law_pen" fP dP ["script"])
    (GD : FnOk P w K mg base CX0 2 fD dD ["pen", "many"] spDraw) (P2 : Def K mg "_law_draw" fD dD ["pen", "many"])
    (GM : FnOk P w K mg base CX0 4 fM dM ["pen", "most", "answers"] spMach) (P3 : Def K mg "_law_machine" fM dM ["pen", "most", "answers"])
    (GC : FnOk P w K mg base CX0 4 fC dC ["machine", "answer"] spLCo) (P4 : Def K mg "_law_counts" fC dC ["machine", "answer"])
    (GR : FnOk P w K mg base CX0 6 fR dR ["machine", "answer"] spRC) (P5 : Def K mg "recipe_from_choices" fR dR ["machine", "answer"])
    (GE : FnOk P w K mg base CX0 3 fE dE ["value"] spRE) (P6 : Def K mg "recipe_error" fE dE ["value"]) :
    FnG P w K mg base 8 f fd ["script"] (spLaw K) := by
  refine fnG_of F scLaw (fun vs H Q E h => ?_) (fun cdv A outer s H vs Q E hg hr h => ?_)
  · obtain ⟨a, ns, rfl, _⟩ := h
    rfl
  · obtain ⟨a, ns, rfl, hS, hlen, q⟩ := h
    have hu : A.units + 3 + 64 < cLine := hr.units
    have cr := call_repr (X := (cxOf CX0 P w K mg base ["script", "pen", "some", "machine", "asked", "answer", "ds", "es", "found", "k"] "law" (defScope sLaw) f cdv A outer s H E).nox) hg hr
    refine ⟨_, (pss_cons (ps_set (i := 1) scLaw.nd rfl (.inr rfl) (pe_call GP (hr.mono (by decide)) (by rfl) P1.is P1.kp P1.bi .nil pass0 (pa_cons (pv 0) pa_nil)))
      (pss_cons (ps_set (i := 2) scLaw.nd rfl (.inl rfl) (pe_lst (pa_cons (pe_tup (pa_cons (pe_tup (pa_cons pe_str (pa_cons pe_int pa_nil))) pa_nil)) (pa_cons (pe_tup (pa_cons (pe_tup (pa_cons pe_str pa_nil)) pa_nil)) (pa_cons (pe_tup (pa_cons (pe_tup (pa_cons pe_str (pa_cons pe_int (pa_cons pe_int pa_nil)))) (pa_cons (pe_tup (pa_cons pe_str (pa_cons pe_int (pa_cons pe_int pa_nil)))) pa_nil))) pa_nil)))))
      (pss_cons (ps_for PassesOwn.never rfl (pi_list (pe_op op_cat (pe_slice sl_list (pv 2) po_none (po_some (pe_op op_add pe_int (pe_call GD (hr.mono (by decide)) (by rfl) P2.is P2.kp P2.bi .nil pass0 (pa_cons (pv 1) (pa_cons pe_int pa_nil)))))) (pe_lc (own := [("k", 9)]) (g := gName 9) (tt := tYes) rfl scLaw.nd (pi_range1 rfl T.range (pa_cons pe_int pa_nil)) (blkOk_by (N := ["script", "pen", "some", "machine", "asked", "answer", "ds", "es", "found", "k"]) (sc := defScope sLaw) (own := [("k", 9)]) (by decide +kernel)) (fun _ _ _ _ _ => (pg_name (i := 9) scLaw.nd rfl (.inl rfl))) (fun _ _ _ _ _ => pts_nil) (fun _ _ _ _ _ => (pe_call GM (hr.mono (by decide)) (by rfl) P3.is P3.kp P3.bi .nil pass0 (pa_cons (pv 1) (pa_cons pe_int (pa_cons (pe_lst (pa_cons pe_int (pa_cons pe_int (pa_cons pe_int pa_nil)))) pa_nil)))))))) (pg_name (i := 3) scLaw.nd rfl (.inl rfl)) (pss_cons (ps_set (i := 4) scLaw.nd rfl (.inl rfl) (pe_callB cr (by rfl) T.repr (by decide +kernel) (pa_cons (pv 3) pa_nil)))
      (pss_one (ps_for PassesOwn.never rfl (pi_tup (pe_tup (pa_cons pe_int (pa_cons pe_int (pa_cons pe_int (pa_cons pe_int (pa_cons (pe_un un_neg pe_int) pa_nil))))))) (pg_name (i := 5) scLaw.nd rfl (.inl rfl)) (pss_cons (ps_asg (pe_call GC (hr.mono (by decide)) (by rfl) P4.is P4.kp P4.bi .nil pass0 (pa_cons (pv 3) (pa_cons (pv 5) pa_nil))) (pg_tup rfl (pgs_cons (pg_name (i := 6) scLaw.nd rfl (.inl rfl)) (pgs_cons (pg_name (i := 7) scLaw.nd rfl (.inl rfl)) pgs_nil))))
      (pss_cons (ps_set (i := 8) scLaw.nd rfl (.inl rfl) (pe_call GR (hr.mono (by decide)) (by rfl) P5.is P5.kp P5.bi .nil pass0 (pa_cons (pv 3) (pa_cons (pv 5) pa_nil))))
      (pss_cons (ps_if (PW.pt (pw_or (pt_cmpR (op_neD hu) (pv 8) (pe_tup (pa_cons (pe_op op_sub (pe_callB call_len_seq (by rfl) T.len PySem.boot_len (pa_cons (pv 7) pa_nil)) pe_int) (pa_cons (pe_callTy call_tuple_of (by rfl) T.tuple (by decide +kernel) (pa_cons (pv 6) pa_nil)) (pa_cons (pe_callTy call_tuple_of (by rfl) T.tuple (by decide +kernel) (pa_cons (pv 7) pa_nil)) pa_nil)))) (nomark _)) (pw_or1 (pt_cmpR op_notN (pe_call GE (hr.mono (by decide)) (by rfl) P6.is P6.kp P6.bi .nil pass0 (pa_cons (pv 8) pa_nil)) pe_non (nomark _))))) (pss_one (ps_ret pe_bl)) pss_nil)
      (pss_one (ps_if (pt_cmpR op_ne (pe_callB cr (by rfl) T.repr (by decide +kernel) (pa_cons (pv 3) pa_nil)) (pv 4) (nomark _)) (pss_one (ps_ret pe_bl)) pss_nil)))))))))
      (pss_one (ps_ret pe_bl))))), ?_⟩
    have line : sizeLine = 16777216 := by decide
    refine ⟨.ref a, rfl, a, ns, rfl, hS, hlen, fun p l H1 s1 np nl p1 => ?_⟩
    refine ⟨by show 2 ≤ sizeLine; decide, fun t1 n1 => ?_⟩
    have g1 := Same.upd (o := .tup [V.str (PySem.Str.ofString "end"), .int 3]) n1
    have f1 : upd H1 t1 (.tup [V.str (PySem.Str.ofString "end"), .int 3]) t1 = some (.tup (Pl.fin 3).row) := upd_same
    change (_ : Hp → Prop) (upd H1 t1 (.tup [V.str (PySem.Str.ofString "end"), .int 3]))
    generalize upd H1 t1 (.tup [V.str (PySem.Str.ofString "end"), .int 3]) = A1 at g1 f1 ⊢
    refine ⟨by show 1 ≤ sizeLine; decide, fun m1 z1 => ?_⟩
    have g2 := Same.upd (o := .tup [V.ref t1]) z1
    have k1 : MOk (upd A1 m1 (.tup [V.ref t1])) (m1, [.fin 3]) := mk_mok upd_same (.cons (g2 _ _ f1) .nil) (by decide) (by decide) (by simp [Pl.ok])
    generalize upd A1 m1 (.tup [V.ref t1]) = A2 at g2 k1 ⊢
    refine ⟨by show 1 ≤ sizeLine; decide, fun t2 n2 => ?_⟩
    have g3 := Same.upd (o := .tup [V.str (PySem.Str.ofString "never")]) n2
    have f2 : upd A2 t2 (.tup [V.str (PySem.Str.ofString "never")]) t2 = some (.tup (Pl.never).row) := upd_same
    generalize upd A2 t2 (.tup [V.str (PySem.Str.ofString "never")]) = A3 at g3 f2 ⊢
    refine ⟨by show 1 ≤ sizeLine; decide, fun m2 z2 => ?_⟩
    have g4 := Same.upd (o := .tup [V.ref t2]) z2
    have k2 : MOk (upd A3 m2 (.tup [V.ref t2])) (m2, [.never]) := mk_mok upd_same (.cons (g4 _ _ f2) .nil) (by decide) (by decide) (by simp [Pl.ok])
    generalize upd A3 m2 (.tup [V.ref t2]) = A4 at g4 k2 ⊢
    refine ⟨by show 3 ≤ sizeLine; decide, fun t3 n3 => ?_⟩
    have g5 := Same.upd (o := .tup [V.str (PySem.Str.ofString "toss"), .int 1, .int 1]) n3
    have f3 : upd A4 t3 (.tup [V.str (PySem.Str.ofString "toss"), .int 1, .int 1]) t3 = some (.tup (Pl.toss 1 1).row) := upd_same
    generalize upd A4 t3 (.tup [V.str (PySem.Str.ofString "toss"), .int 1, .int 1]) = A5 at g5 f3 ⊢
    refine ⟨by show 3 ≤ sizeLine; decide, fun t4 n4 => ?_⟩
    have g6 := Same.upd (o := .tup [V.str (PySem.Str.ofString "toss"), .int 0, .int 1]) n4
    have f4 : upd A5 t4 (.tup [V.str (PySem.Str.ofString "toss"), .int 0, .int 1]) t4 = some (.tup (Pl.toss 0 1).row) := upd_same
    generalize upd A5 t4 (.tup [V.str (PySem.Str.ofString "toss"), .int 0, .int 1]) = A6 at g6 f4 ⊢
    refine ⟨by show 2 ≤ sizeLine; decide, fun m3 z3 => ?_⟩
    have g7 := Same.upd (o := .tup [V.ref t3, .ref t4]) z3
    have k3 : MOk (upd A6 m3 (.tup [V.ref t3, .ref t4])) (m3, [.toss 1 1, .toss 0 1]) := mk_mok upd_same (.cons (g7 _ _ (g6 _ _ f3)) (.cons (g7 _ _ f4) .nil)) (by decide) (by decide) (by simp [Pl.ok])
    generalize upd A6 m3 (.tup [V.ref t3, .ref t4]) = A7 at g7 k3 ⊢
    refine ⟨by show 3 ≤ sizeLine; decide, fun L n6 => ?_⟩
    have g10 := Same.upd (o := .lst [V.ref m1, .ref m2, .ref m3]) n6
    have eL : upd A7 L (.lst [V.ref m1, .ref m2, .ref m3]) L = some (.lst (([(m1, [Pl.fin 3]), (m2, [Pl.never]), (m3, [.toss 1 1, .toss 0 1])] : List (Addr × List Pl)).map fun x => V.ref x.1)) := upd_same
    have c6 := (((g5.trans g6).trans g7).trans g10)
    have c3 := (g3.trans g4).trans c6
    have kAll : ∀ x ∈ ([(m1, [Pl.fin 3]), (m2, [Pl.never]), (m3, [.toss 1 1, .toss 0 1])] : List (Addr × List Pl)), MOk (upd A7 L (.lst [V.ref m1, .ref m2, .ref m3])) x := fun x hx => by
      simp only [List.mem_cons, List.not_mem_nil, or_false] at hx
      rcases hx with rfl | rfl | rfl
      · exact k1.same c3
      · exact k2.same c6
      · exact k3.same g10
    have sAll := (g1.trans g2).trans c3
    have p2 := p1.same sAll
    have aL := (p1.same (((g1.trans g2).trans (g3.trans g4)).trans ((g5.trans g6).trans g7))).apart n6
    generalize upd A7 L (.lst [V.ref m1, .ref m2, .ref m3]) = H2 at eL kAll sAll p2 ⊢
    generalize hS0 : ([(m1, [Pl.fin 3]), (m2, [Pl.never]), (m3, [.toss 1 1, .toss 0 1])] : List (Addr × List Pl)) = S0 at eL kAll
    have lS0 : S0.length = 3 := by rw [← hS0]; rfl
    clear hS0
    refine ⟨_, rfl, ?_⟩
    dsimp only [tNoPart, tPart]
    refine ⟨_, rfl, p, l, 3, rfl, p2, by decide, by decide +kernel, fun dr H2' d0 d1 b2' p2' => ?_⟩
    obtain ⟨S1, hS1, lS1, mS1⟩ : ∃ S1 : List (Addr × List Pl), cutV (S0.map fun x => V.ref x.1) none (some (1 + dr)) = S1.map (fun x => V.ref x.1) ∧ S1.length ≤ 3 ∧ ∀ x ∈ S1, x ∈ S0 := by
      obtain ⟨x, y, z, rfl⟩ : ∃ x y z, S0 = [x, y, z] := by
        match S0, lS0 with
        | [x, y, z], _ => exact ⟨x, y, z, rfl⟩
      rcases (show dr = 0 ∨ dr = 1 ∨ dr = 2 by omega) with rfl | rfl | rfl
      · exact ⟨[x], rfl, Nat.le_add_left 1 2, fun w hw => by simp at hw; simp [hw]⟩
      · exact ⟨[x, y], rfl, Nat.le_add_left 2 1, fun w hw => by simp at hw; rcases hw with h | h <;> simp [h]⟩
      · exact ⟨[x, y, z], rfl, Nat.le_refl 3, fun w hw => hw⟩
    have eLb := b2'.mem aL.1 eL
    refine ⟨_, _, rfl, rfl, _, rfl, L, _, rfl, SqL.of eLb, fun Lw nLw => ?_⟩
    have gS := Same.upd (o := .lst (cutV (S0.map fun x => V.ref x.1) none (some (1 + dr)))) nLw
    have eLw : upd H2' Lw (.lst (cutV (S0.map fun x => V.ref x.1) none (some (1 + dr)))) Lw = some (.lst (S1.map fun x => V.ref x.1)) := by rw [upd_same, hS1]
    have aLw := p2'.apart nLw
    have pS := p2'.same gS
    have kS : ∀ x ∈ S1, MOk (upd H2' Lw (.lst (cutV (S0.map fun x => V.ref x.1) none (some (1 + dr))))) x := fun x hx => ((kAll x (mS1 x hx)).but p2 b2').same gS
    change (_ : Hp → Prop) (upd H2' Lw (.lst (cutV (S0.map fun x => V.ref x.1) none (some (1 + dr)))))
    generalize upd H2' Lw (.lst (cutV (S0.map fun x => V.ref x.1) none (some (1 + dr)))) = Hs at eLw pS kS ⊢
    refine ⟨_, rfl, by decide, by decide, fun D nD => ?_⟩
    have aD := pS.apart nD
    refine lc_range (lo := 0) (n := 2) (fun k Hx => ∃ ms : List (Addr × List Pl), Hx D = some (.lst (ms.map fun x => V.ref x.1)) ∧ ms.length = k ∧ (∀ x ∈ ms, MOk Hx x) ∧ But p Hs Hx ∧ Pen Hx p l) ⟨[], upd_same, rfl, (fun x hx => by cases hx), But.of (Same.upd nD), pS.same (Same.upd nD)⟩ ?_ ?_
    · rintro k H3 hk ⟨ms, eD, lms, kms, b3, p3⟩
      refine ⟨rfl, ?_⟩
      dsimp only [tYes]
      refine iteT ⟨_, rfl, by show 3 ≤ sizeLine; decide, fun An nA => ?_⟩
      have gA := Same.upd (o := .lst [V.int 0, .int 1, .int 2]) nA
      have eA : upd H3 An (.lst [V.int 0, .int 1, .int 2]) An = some (.lst (([0, 1, 2] : List Int).map V.int)) := upd_same
      have pA := p3.same gA
      have eDA := gA _ _ eD
      change (_ : Hp → Prop) (upd H3 An (.lst [V.int 0, .int 1, .int 2]))
      generalize upd H3 An (.lst [V.int 0, .int 1, .int 2]) = H4 at gA eA pA eDA ⊢
      refine ⟨p, l, An, 8, [0, 1, 2], rfl, pA, by decide, by decide, eA, by decide, by decide, by decide, fun M ps H5 b5 nM hmM hwM p5 hl hq => ?_⟩
      have b35 : But p H3 H5 := (But.of gA).trans b5
      have eD5 := b5.mem aD.1 eDA
      refine ⟨_, eD5, by rw [List.length_map]; omega, ms ++ [(M, ps)], by rw [upd_same, List.map_append]; rfl, by rw [List.length_append, lms]; rfl, ?_, ?_, ?_⟩
      · intro x hx
        rcases List.mem_append.mp hx with hx | hx
        · exact ((kms x hx).but p3 b35).updL eD5
        · rw [List.mem_singleton.mp hx]
          exact MOk.updL ⟨hmM, hwM, by show ps.length ≤ 11; omega, .inr hq⟩ eD5
      · intro b o e n
        rw [upd_ne (ne_of_none e nD)]
        exact b35 _ _ (b3 _ _ e n) n
      · obtain ⟨cs, pos, val, h1, h2, h3⟩ := p5
        exact ⟨cs, pos, val, by rw [upd_ne aD.1.symm]; exact h1, by rw [upd_ne aD.2.symm]; exact h2, h3⟩
    · rintro H3 ⟨ms, eD, lms, kms, b3, p3⟩
      have eL3 := b3.mem aLw.1 eLw
      refine ⟨Lw, D, _, _, rfl, rfl, eL3, eD, by rw [List.length_map, List.length_map]; omega, fun W nW => ?_⟩
      have gW := Same.upd (o := .lst (S1.map (fun x => V.ref x.1) ++ ms.map (fun x => V.ref x.1))) nW
      have eW : upd H3 W (.lst (S1.map (fun x => V.ref x.1) ++ ms.map (fun x => V.ref x.1))) W = some (.lst ((S1 ++ ms).map fun x => V.ref x.1)) := by rw [upd_same, List.map_append]
      have kW : ∀ x ∈ S1 ++ ms, MOk (upd H3 W (.lst (S1.map (fun x => V.ref x.1) ++ ms.map (fun x => V.ref x.1)))) x := fun x hx => by
        rcases List.mem_append.mp hx with hx | hx
        · exact ((kS x hx).but pS b3).same gW
        · exact (kms x hx).same gW
      change (_ : Hp → Prop) (upd H3 W (.lst (S1.map (fun x => V.ref x.1) ++ ms.map (fun x => V.ref x.1))))
      generalize upd H3 W (.lst (S1.map (fun x => V.ref x.1) ++ ms.map (fun x => V.ref x.1))) = H4 at eW kW ⊢
      generalize S1 ++ ms = zs at eW kW
      refine ⟨W, rfl, ⟨_, SqL.of eW⟩, for_list (D := { nx := tRet (tC (V.bl true)) { nx := fun x H' => Q V.non H', rt := Q }, rt := Q }) (K := K) (a := W) (xs := zs.map fun x => V.ref x.1) (fun i σ H' => ∃ v3 v4 v5 v6 v7 v8 : Option V, σ = [some (V.ref a), some (V.ref p), some (V.ref L), v3, v4, v5, v6, v7, v8, none] ∧ Same H4 H') ⟨none, none, none, none, none, none, rfl, Same.refl _⟩ (fun i σ H' _ h => ?_) ?_ ?_⟩
      · obtain ⟨_, _, _, _, _, _, _, sx⟩ := h
        exact SqL.of (sx _ _ eW)
      · rintro i x σ H5 hx ⟨v3, v4, v5, v6, v7, v8, rfl, s5⟩
        obtain ⟨⟨M, ps⟩, hz, rfl⟩ : ∃ z, zs[i]? = some z ∧ V.ref z.1 = x := by
          rw [List.getElem?_map] at hx
          cases e : zs[i]? with
          | none => rw [e] at hx; cases hx
          | some z => rw [e] at hx; exact ⟨z, rfl, Option.some.inj hx⟩
        obtain ⟨hmM, hwM, h11, hq⟩ := (kW _ (List.mem_of_getElem? hz)).same s5
        have hdM : ∀ H', Same H4 H' → Dp K H' (.ref M) (.tuple (ps.map plD)) := fun H' sx => dp_mach ((kW _ (List.mem_of_getElem? hz)).1.same sx)
        have hmM4 : ∀ H', Same H4 H' → Mach H' M ps := fun H' sx => (kW _ (List.mem_of_getElem? hz)).1.same sx
        refine ⟨_, rfl, M, _, rfl, hdM _ s5, mach_shows hwM, ?_⟩
        refine ⟨_, rfl, by show 5 ≤ sizeLine; decide, fun T nT => ?_⟩
        have gT := Same.upd (o := .tup [V.int 0, .int 1, .int 2, .int 3, .int (-1)]) nT
        have eT : upd H5 T (.tup [V.int 0, .int 1, .int 2, .int 3, .int (-1)]) T = some (.tup (([0, 1, 2, 3, -1] : List Int).map V.int)) := upd_same
        change (_ : Hp → Prop) (upd H5 T (.tup [V.int 0, .int 1, .int 2, .int 3, .int (-1)]))
        generalize upd H5 T (.tup [V.int 0, .int 1, .int 2, .int 3, .int (-1)]) = H6 at gT eT ⊢
        have s46 := s5.trans gT
        refine ⟨T, rfl, ⟨_, SqT.of eT⟩, for_tup (K := K) (a := T) (xs := ([0, 1, 2, 3, -1] : List Int).map V.int) (fun i σ H' => ∃ v5 v6 v7 v8 : Option V, σ = [some (V.ref a), some (V.ref p), some (V.ref L), some (V.ref M), some (V.str (PyData.tuple (ps.map plD)).shown), v5, v6, v7, v8, none] ∧ Same H6 H') ⟨_, _, _, _, rfl, Same.refl _⟩ (fun i σ H' _ h => ?_) ?_ ?_⟩
        · obtain ⟨_, _, _, _, _, sx⟩ := h
          exact SqT.of (sx _ _ eT)
        · rintro j y σ H7 hy ⟨v5, v6, v7, v8, rfl, s7⟩
          obtain ⟨an, _, rfl⟩ : ∃ an, ([0, 1, 2, 3, -1] : List Int)[j]? = some an ∧ V.int an = y := by
            rw [List.getElem?_map] at hy
            cases e : ([0, 1, 2, 3, -1] : List Int)[j]? with
            | none => rw [e] at hy; cases hy
            | some z => rw [e] at hy; exact ⟨z, rfl, Option.some.inj hy⟩
          have s47 := s46.trans s7
          refine ⟨_, rfl, _, rfl, M, an, ps, rfl, hmM4 _ s47, hwM, h11, hq, fun t d e ks H8 s8 nt hk few et ed ee => ?_⟩
          refine ⟨t, _, rfl, SqT.of et, rfl, _, _, rfl, _, _, rfl, rfl, ?_⟩
          have s48 := s47.trans s8
          refine ⟨_, rfl, _, rfl, M, an, ps, rfl, hmM4 _ s48, hwM, h11, hq, fun t2 d2 e2 ks2 H9 s9 nt2 hk2 few2 et2 ed2 ee2 => ?_⟩
          have ek := hk2.eq hk
          subst ek
          have s49 := s48.trans s9
          have ed9 := s9 _ _ ed
          have ee9 := s9 _ _ ee
          refine ⟨_, rfl, _, rfl, e, _, rfl, .inl (SqL.of ee9), _, _, rfl, rfl, _, rfl, d, _, rfl, .inl ⟨SqL.of ed9, fun R1 nR1 => ?_⟩⟩
          have r1 := Same.upd (o := .tup ((cnts ps (tosL ps ks2) (kn ps an) (bv (tosL ps ks2).length)).map V.int)) nR1
          have eR1 : upd H9 R1 (.tup ((cnts ps (tosL ps ks2) (kn ps an) (bv (tosL ps ks2).length)).map V.int)) R1 = some (.tup ((cnts ps (tosL ps ks2) (kn ps an) (bv (tosL ps ks2).length)).map V.int)) := upd_same
          have ee10 := r1 _ _ ee9
          change (_ : Hp → Prop) (upd H9 R1 _)
          generalize upd H9 R1 (.tup ((cnts ps (tosL ps ks2) (kn ps an) (bv (tosL ps ks2).length)).map V.int)) = H10 at r1 eR1 ee10 ⊢
          refine ⟨_, rfl, e, _, rfl, .inl ⟨SqL.of ee10, fun R2 nR2 => ?_⟩⟩
          have r2 := Same.upd (o := .tup ((cnts ps (tosL ps ks2) (fun _ => true) (bv (tosL ps ks2).length)).map V.int)) nR2
          have eR2 : upd H10 R2 (.tup ((cnts ps (tosL ps ks2) (fun _ => true) (bv (tosL ps ks2).length)).map V.int)) R2 = some (.tup ((cnts ps (tosL ps ks2) (fun _ => true) (bv (tosL ps ks2).length)).map V.int)) := upd_same
          have eR1' := r2 _ _ eR1
          change (_ : Hp → Prop) (upd H10 R2 _)
          generalize upd H10 R2 (.tup ((cnts ps (tosL ps ks2) (fun _ => true) (bv (tosL ps ks2).length)).map V.int)) = H11 at r2 eR2 eR1' ⊢
          refine ⟨by show 3 ≤ sizeLine; decide, fun R3 nR3 => ?_⟩
          have cl : (((cnts ps (tosL ps ks2) (fun _ => true) (bv (tosL ps ks2).length)).map V.int).length : Int) - 1 = ((tosL ps ks2).length : Nat) := by rw [List.length_map, cnts_len]; omega
          have r3 := Same.upd (o := .tup [V.int ((((cnts ps (tosL ps ks2) (fun _ => true) (bv (tosL ps ks2).length)).map V.int).length : Int) - 1), .ref R1, .ref R2]) nR3
          have eR3 : upd H11 R3 (.tup [V.int ((((cnts ps (tosL ps ks2) (fun _ => true) (bv (tosL ps ks2).length)).map V.int).length : Int) - 1), .ref R1, .ref R2]) R3 = some (.tup [V.int ((tosL ps ks2).length : Nat), .ref R1, .ref R2]) := by rw [upd_same, cl]
          have r13 := (r1.trans r2).trans r3
          have eR1'' := r3 _ _ eR1'
          have eR2' := r3 _ _ eR2
          change (_ : Hp → Prop) (upd H11 R3 _)
          generalize upd H11 R3 (.tup [V.int ((((cnts ps (tosL ps ks2) (fun _ => true) (bv (tosL ps ks2).length)).map V.int).length : Int) - 1), .ref R1, .ref R2]) = H12 at r13 eR3 eR1'' eR2' ⊢
          have et12 := r13 _ _ et2
          have ed12 := r13 _ _ ed2
          have ee12 := r13 _ _ ee2
          have hn : (tosL ps ks2).length ≤ 40 := by omega
          refine ⟨recD ((tosL ps ks2).length : Nat) (cnts ps (tosL ps ks2) (kn ps an) (bv (tosL ps ks2).length)) (cnts ps (tosL ps ks2) (fun _ => true) (bv (tosL ps ks2).length)), recD ((tosL ps ks2).length : Nat) (cnts ps (tosL ps ks2) (kn ps an) (bv (tosL ps ks2).length)) (cnts ps (tosL ps ks2) (fun _ => true) (bv (tosL ps ks2).length)), dp_rec et12 ed12 ee12, dp_rec eR3 eR1'' eR2', recD_shaped _ _ _, recD_shaped _ _ _, _, rfl, ?_⟩
          rw [recD_eqv]
          refine iteF ?_
          refine ⟨_, rfl, (tosL ps ks2).length, t2, d2, e2, _, _, rfl, et12, ed12, ee12, hn, cnts_len _ _ _ _, cnts_len _ _ _ _, es_any ps ks2, fun k hk => rows_ok ps (tosL ps ks2) (kn ps an) hk, fun H13 s13 => ⟨rfl, _, rfl, ?_⟩⟩
          rw [decide_eq_true rfl]
          have s9D := (s8.trans s9).trans (r13.trans s13)
          refine iteF ⟨_, rfl, M, _, rfl, hdM _ (s47.trans s9D), mach_shows hwM, _, rfl, rfl, _, rfl, iteNS rfl ?_⟩
          exact ⟨_, _, _, _, rfl, s7.trans s9D⟩
        · rintro σ H7 ⟨v5, v6, v7, v8, rfl, s7⟩
          exact ⟨_, _, _, _, _, _, rfl, s46.trans s7⟩
      · rintro σ H5 ⟨v3, v4, v5, v6, v7, v8, rfl, s5⟩
        exact q _
end
theorem all_mk {w : World} {K : PySem.W.Frag} {h : Heap} {mg : Str → Option Value} {fa f0 f1 f2 f3 f4 f5 f6 f7 f8 f9 f10 f11 f12 f13 f14 f15 f16 f17 f18 f19 f20 f21 f22 f23 f24 f25 f26 f27 : Addr} (X : K.In h) (G : h.Ns mainGlobals mg) (hfa : mg "law" = some (.ref fa))
    {od0 an0 od1 an1 od2 an2 od3 an3 od4 an4 od5 an5 od6 an6 od7 an7 od8 an8 od9 an9 od10 an10 od11 an11 od12 an12 od13 an13 od14 an14 od15 an15 od16 an16 od17 an17 od18 an18 od19 an19 od20 an20 od21 an21 od22 an22 od23 an23 od24 an24 od25 an25 od26 an26 od27 an27 : Option Addr} {sl0 sl1 sl2 sl3 sl4 sl5 sl6 sl7 sl8 sl9 sl10 sl11 sl12 sl13 sl14 sl15 sl16 sl17 sl18 sl19 sl20 sl21 sl22 sl23 sl24 sl25 sl26 sl27 : Array (Option Value)} {oc0 kV0 dc0 pm0 cd0 ct0 oc1 kV1 dc1 pm1 cd1 ct1 oc2 kV2 dc2 pm2 cd2 ct2 oc3 kV3 dc3 pm3 cd3 ct3 oc4 kV4 dc4 pm4 cd4 ct4 oc5 kV5 dc5 pm5 cd5 ct5 oc6 kV6 dc6 pm6 cd6 ct6 oc7 kV7 dc7 pm7 cd7 ct7 oc8 kV8 dc8 pm8 cd8 ct8 oc9 kV9 dc9 pm9 cd9 ct9 oc10 kV10 dc10 pm10 cd10 ct10 oc11 kV11 dc11 pm11 cd11 ct11 oc12 kV12 dc12 pm12 cd12 ct12 oc13 kV13 dc13 pm13 cd13 ct13 oc14 kV14 dc14 pm14 cd14 ct14 oc15 kV15 dc15 pm15 cd15 ct15 oc16 kV16 dc16 pm16 cd16 ct16 oc17 kV17 dc17 pm17 cd17 ct17 oc18 kV18 dc18 pm18 cd18 ct18 oc19 kV19 dc19 pm19 cd19 ct19 oc20 kV20 dc20 pm20 cd20 ct20 oc21 kV21 dc21 pm21 cd21 ct21 oc22 kV22 dc22 pm22 cd22 ct22 oc23 kV23 dc23 pm23 cd23 ct23 oc24 kV24 dc24 pm24 cd24 ct24 oc25 kV25 dc25 pm25 cd25 ct25 oc26 kV26 dc26 pm26 cd26 ct26 oc27 kV27 dc27 pm27 cd27 ct27 : Value}
    {tP tR : Tok}
    (a0 : PySem.W.nsIn K mainGlobals "_law_pen" = some (some (.ref f0))) (l0 : K.lookup f0 = some ⟨oc0, od0, .func (PySem.W.fnOf "_law_pen" "_law_pen" (defArgs sPen) (defBody sPen) (defScope sPen) .none kV0 dc0 pm0 an0 cd0 ct0), sl0⟩) (c0 : PySem.W.codeIn K cd0 "_law_pen" = true) (k0 : PySem.W.keepIn K (.ref f0) = true)
    (a1 : PySem.W.nsIn K mainGlobals "_law_fresh" = some (some (.ref f1))) (l1 : K.lookup f1 = some ⟨oc1, od1, .func (PySem.W.fnOf "_law_fresh" "_law_fresh" (defArgs sFresh) (defBody sFresh) (defScope sFresh) .none kV1 dc1 pm1 an1 cd1 ct1), sl1⟩) (c1 : PySem.W.codeIn K cd1 "_law_fresh" = true) (k1 : PySem.W.keepIn K (.ref f1) = true)
    (a2 : PySem.W.nsIn K mainGlobals "_law_draw" = some (some (.ref f2))) (l2 : K.lookup f2 = some ⟨oc2, od2, .func (PySem.W.fnOf "_law_draw" "_law_draw" (defArgs sDraw) (defBody sDraw) (defScope sDraw) .none kV2 dc2 pm2 an2 cd2 ct2), sl2⟩) (c2 : PySem.W.codeIn K cd2 "_law_draw" = true) (k2 : PySem.W.keepIn K (.ref f2) = true)
    (a3 : PySem.W.nsIn K mainGlobals "_law_ends" = some (some (.ref f3))) (l3 : K.lookup f3 = some ⟨oc3, od3, .func (PySem.W.fnOf "_law_ends" "_law_ends" (defArgs sEnds) (defBody sEnds) (defScope sEnds) .none kV3 dc3 pm3 an3 cd3 ct3), sl3⟩) (c3 : PySem.W.codeIn K cd3 "_law_ends" = true) (k3 : PySem.W.keepIn K (.ref f3) = true)
    (a4 : PySem.W.nsIn K mainGlobals "_law_machine" = some (some (.ref f4))) (l4 : K.lookup f4 = some ⟨oc4, od4, .func (PySem.W.fnOf "_law_machine" "_law_machine" (defArgs sMach) (defBody sMach) (defScope sMach) .none kV4 dc4 pm4 an4 cd4 ct4), sl4⟩) (c4 : PySem.W.codeIn K cd4 "_law_machine" = true) (k4 : PySem.W.keepIn K (.ref f4) = true)
    (a5 : PySem.W.nsIn K mainGlobals "_law_numbered" = some (some (.ref f5))) (l5 : K.lookup f5 = some ⟨oc5, od5, .func (PySem.W.fnOf "_law_numbered" "_law_numbered" (defArgs sNumb) (defBody sNumb) (defScope sNumb) .none kV5 dc5 pm5 an5 cd5 ct5), sl5⟩) (c5 : PySem.W.codeIn K cd5 "_law_numbered" = true) (k5 : PySem.W.keepIn K (.ref f5) = true)
    (a6 : PySem.W.nsIn K mainGlobals "is_toss" = some (some (.ref f6))) (l6 : K.lookup f6 = some ⟨oc6, od6, .func (PySem.W.fnOf "is_toss" "is_toss" (defArgs sToss) (defBody sToss) (defScope sToss) .none kV6 dc6 pm6 an6 cd6 ct6), sl6⟩) (c6 : PySem.W.codeIn K cd6 "is_toss" = true) (k6 : PySem.W.keepIn K (.ref f6) = true)
    (a7 : PySem.W.nsIn K mainGlobals "find_tapes" = some (some (.ref f7))) (l7 : K.lookup f7 = some ⟨oc7, od7, .func (PySem.W.fnOf "find_tapes" "find_tapes" (defArgs sFind) (defBody sFind) (defScope sFind) .none kV7 dc7 pm7 an7 cd7 ct7), sl7⟩) (c7 : PySem.W.codeIn K cd7 "find_tapes" = true) (k7 : PySem.W.keepIn K (.ref f7) = true)
    (a8 : PySem.W.nsIn K mainGlobals "reachable_states" = some (some (.ref f8))) (l8 : K.lookup f8 = some ⟨oc8, od8, .func (PySem.W.fnOf "reachable_states" "reachable_states" (defArgs sReach) (defBody sReach) (defScope sReach) .none kV8 dc8 pm8 an8 cd8 ct8), sl8⟩) (c8 : PySem.W.codeIn K cd8 "reachable_states" = true) (k8 : PySem.W.keepIn K (.ref f8) = true)
    (a9 : PySem.W.nsIn K mainGlobals "end_distances" = some (some (.ref f9))) (l9 : K.lookup f9 = some ⟨oc9, od9, .func (PySem.W.fnOf "end_distances" "end_distances" (defArgs sDist) (defBody sDist) (defScope sDist) .none kV9 dc9 pm9 an9 cd9 ct9), sl9⟩) (c9 : PySem.W.codeIn K cd9 "end_distances" = true) (k9 : PySem.W.keepIn K (.ref f9) = true)
    (a10 : PySem.W.nsIn K mainGlobals "list_tossers" = some (some (.ref f10))) (l10 : K.lookup f10 = some ⟨oc10, od10, .func (PySem.W.fnOf "list_tossers" "list_tossers" (defArgs sLT) (defBody sLT) (defScope sLT) .none kV10 dc10 pm10 an10 cd10 ct10), sl10⟩) (c10 : PySem.W.codeIn K cd10 "list_tossers" = true) (k10 : PySem.W.keepIn K (.ref f10) = true)
    (a11 : PySem.W.nsIn K mainGlobals "follow_choice" = some (some (.ref f11))) (l11 : K.lookup f11 = some ⟨oc11, od11, .func (PySem.W.fnOf "follow_choice" "follow_choice" (defArgs sFC) (defBody sFC) (defScope sFC) .none kV11 dc11 pm11 an11 cd11 ct11), sl11⟩) (c11 : PySem.W.codeIn K cd11 "follow_choice" = true) (k11 : PySem.W.keepIn K (.ref f11) = true)
    (a12 : PySem.W.nsIn K mainGlobals "count_choices" = some (some (.ref f12))) (l12 : K.lookup f12 = some ⟨oc12, od12, .func (PySem.W.fnOf "count_choices" "count_choices" (defArgs sCC) (defBody sCC) (defScope sCC) .none kV12 dc12 pm12 an12 cd12 ct12), sl12⟩) (c12 : PySem.W.codeIn K cd12 "count_choices" = true) (k12 : PySem.W.keepIn K (.ref f12) = true)
    (a13 : PySem.W.nsIn K mainGlobals "count_good_choices" = some (some (.ref f13))) (l13 : K.lookup f13 = some ⟨oc13, od13, .func (PySem.W.fnOf "count_good_choices" "count_good_choices" (defArgs sCG) (defBody sCG) (defScope sCG) .none kV13 dc13 pm13 an13 cd13 ct13), sl13⟩) (c13 : PySem.W.codeIn K cd13 "count_good_choices" = true) (k13 : PySem.W.keepIn K (.ref f13) = true)
    (a14 : PySem.W.nsIn K mainGlobals "_law_reached" = some (some (.ref f14))) (l14 : K.lookup f14 = some ⟨oc14, od14, .func (PySem.W.fnOf "_law_reached" "_law_reached" (defArgs sLR) (defBody sLR) (defScope sLR) .none kV14 dc14 pm14 an14 cd14 ct14), sl14⟩) (c14 : PySem.W.codeIn K cd14 "_law_reached" = true) (k14 : PySem.W.keepIn K (.ref f14) = true)
    (a15 : PySem.W.nsIn K mainGlobals "_law_open" = some (some (.ref f15))) (l15 : K.lookup f15 = some ⟨oc15, od15, .func (PySem.W.fnOf "_law_open" "_law_open" (defArgs sLO) (defBody sLO) (defScope sLO) .none kV15 dc15 pm15 an15 cd15 ct15), sl15⟩) (c15 : PySem.W.codeIn K cd15 "_law_open" = true) (k15 : PySem.W.keepIn K (.ref f15) = true)
    (a16 : PySem.W.nsIn K mainGlobals "_law_led_to" = some (some (.ref f16))) (l16 : K.lookup f16 = some ⟨oc16, od16, .func (PySem.W.fnOf "_law_led_to" "_law_led_to" (defArgs sLed) (defBody sLed) (defScope sLed) .none kV16 dc16 pm16 an16 cd16 ct16), sl16⟩) (c16 : PySem.W.codeIn K cd16 "_law_led_to" = true) (k16 : PySem.W.keepIn K (.ref f16) = true)
    (a17 : PySem.W.nsIn K mainGlobals "_law_choices" = some (some (.ref f17))) (l17 : K.lookup f17 = some ⟨oc17, od17, .func (PySem.W.fnOf "_law_choices" "_law_choices" (defArgs sLCh) (defBody sLCh) (defScope sLCh) .none kV17 dc17 pm17 an17 cd17 ct17), sl17⟩) (c17 : PySem.W.codeIn K cd17 "_law_choices" = true) (k17 : PySem.W.keepIn K (.ref f17) = true)
    (a18 : PySem.W.nsIn K mainGlobals "stop_answer" = some (some (.ref f18))) (l18 : K.lookup f18 = some ⟨oc18, od18, .func (PySem.W.fnOf "stop_answer" "stop_answer" (defArgs sSA) (defBody sSA) (defScope sSA) .none kV18 dc18 pm18 an18 cd18 ct18), sl18⟩) (c18 : PySem.W.codeIn K cd18 "stop_answer" = true) (k18 : PySem.W.keepIn K (.ref f18) = true)
    (a19 : PySem.W.nsIn K mainGlobals "recipe_from_choices" = some (some (.ref f19))) (l19 : K.lookup f19 = some ⟨oc19, od19, .func (PySem.W.fnOf "recipe_from_choices" "recipe_from_choices" (defArgs sRC) (defBody sRC) (defScope sRC) .none kV19 dc19 pm19 an19 cd19 ct19), sl19⟩) (c19 : PySem.W.codeIn K cd19 "recipe_from_choices" = true) (k19 : PySem.W.keepIn K (.ref f19) = true)
    (a20 : PySem.W.nsIn K mainGlobals "is_integer" = some (some (.ref f20))) (l20 : K.lookup f20 = some ⟨oc20, od20, .func (PySem.W.fnOf "is_integer" "is_integer" (defArgs sII) (defBody sII) (defScope sII) .none kV20 dc20 pm20 an20 cd20 ct20), sl20⟩) (c20 : PySem.W.codeIn K cd20 "is_integer" = true) (k20 : PySem.W.keepIn K (.ref f20) = true)
    (a21 : PySem.W.nsIn K mainGlobals "is_index" = some (some (.ref f21))) (l21 : K.lookup f21 = some ⟨oc21, od21, .func (PySem.W.fnOf "is_index" "is_index" (defArgs sIX) (defBody sIX) (defScope sIX) .none kV21 dc21 pm21 an21 cd21 ct21), sl21⟩) (c21 : PySem.W.codeIn K cd21 "is_index" = true) (k21 : PySem.W.keepIn K (.ref f21) = true)
    (a22 : PySem.W.nsIn K mainGlobals "is_tuple" = some (some (.ref f22))) (l22 : K.lookup f22 = some ⟨oc22, od22, .func (PySem.W.fnOf "is_tuple" "is_tuple" (defArgs sIT) (defBody sIT) (defScope sIT) .none kV22 dc22 pm22 an22 cd22 ct22), sl22⟩) (c22 : PySem.W.codeIn K cd22 "is_tuple" = true) (k22 : PySem.W.keepIn K (.ref f22) = true)
    (a23 : PySem.W.nsIn K mainGlobals "is_row_of_integers" = some (some (.ref f23))) (l23 : K.lookup f23 = some ⟨oc23, od23, .func (PySem.W.fnOf "is_row_of_integers" "is_row_of_integers" (defArgs sIR) (defBody sIR) (defScope sIR) .none kV23 dc23 pm23 an23 cd23 ct23), sl23⟩) (c23 : PySem.W.codeIn K cd23 "is_row_of_integers" = true) (k23 : PySem.W.keepIn K (.ref f23) = true)
    (a24 : PySem.W.nsIn K mainGlobals "find_wrong_row" = some (some (.ref f24))) (l24 : K.lookup f24 = some ⟨oc24, od24, .func (PySem.W.fnOf "find_wrong_row" "find_wrong_row" (defArgs sFW) (defBody sFW) (defScope sFW) .none kV24 dc24 pm24 an24 cd24 ct24), sl24⟩) (c24 : PySem.W.codeIn K cd24 "find_wrong_row" = true) (k24 : PySem.W.keepIn K (.ref f24) = true)
    (a25 : PySem.W.nsIn K mainGlobals "recipe_error" = some (some (.ref f25))) (l25 : K.lookup f25 = some ⟨oc25, od25, .func (PySem.W.fnOf "recipe_error" "recipe_error" (defArgs sRE) (defBody sRE) (defScope sRE) .none kV25 dc25 pm25 an25 cd25 ct25), sl25⟩) (c25 : PySem.W.codeIn K cd25 "recipe_error" = true) (k25 : PySem.W.keepIn K (.ref f25) = true)
    (a26 : PySem.W.nsIn K mainGlobals "_law_counts" = some (some (.ref f26))) (l26 : K.lookup f26 = some ⟨oc26, od26, .func (PySem.W.fnOf "_law_counts" "_law_counts" (defArgs sLCo) (defBody sLCo) (defScope sLCo) .none kV26 dc26 pm26 an26 cd26 ct26), sl26⟩) (c26 : PySem.W.codeIn K cd26 "_law_counts" = true) (k26 : PySem.W.keepIn K (.ref f26) = true)
    (a27 : PySem.W.nsIn K mainGlobals "law" = some (some (.ref f27))) (l27 : K.lookup f27 = some ⟨oc27, od27, .func (PySem.W.fnOf "law" "law" (defArgs sLaw) (defBody sLaw) (defScope sLaw) .none kV27 dc27 pm27 an27 cd27 ct27), sl27⟩) (c27 : PySem.W.codeIn K cd27 "law" = true) (k27 : PySem.W.keepIn K (.ref f27) = true)
    (z_list : PySem.W.nsIn K mainGlobals "list" = some none)
    (z_tuple : PySem.W.nsIn K mainGlobals "tuple" = some none)
    (z_len : PySem.W.nsIn K mainGlobals "len" = some none)
    (z_range : PySem.W.nsIn K mainGlobals "range" = some none)
    (z_zip : PySem.W.nsIn K mainGlobals "zip" = some none)
    (z_sum : PySem.W.nsIn K mainGlobals "sum" = some none)
    (z_dict : PySem.W.nsIn K mainGlobals "dict" = some none)
    (z_sorted : PySem.W.nsIn K mainGlobals "sorted" = some none)
    (z_enumerate : PySem.W.nsIn K mainGlobals "enumerate" = some none)
    (z_int : PySem.W.nsIn K mainGlobals "int" = some none)
    (z_repr : PySem.W.nsIn K mainGlobals "repr" = some none)
    (z_bool : PySem.W.nsIn K mainGlobals "bool" = some none)
    (z_isinstance : PySem.W.nsIn K mainGlobals "isinstance" = some none)
    (z_all : PySem.W.nsIn K mainGlobals "all" = some none)
    (z_any : PySem.W.nsIn K mainGlobals "any" = some none)
    (x_comb : PySem.W.nsIn K mainGlobals "comb" = some (some (.builtin "math.comb")))
    (x_MAX_CHOICE_STATES : PySem.W.nsIn K mainGlobals "MAX_CHOICE_STATES" = some (some (.int 10 tP)))
    (x_MAX_RECIPE_TOSSES : PySem.W.nsIn K mainGlobals "MAX_RECIPE_TOSSES" = some (some (.int 40 tR)))
    : ∃ fd : FuncData, (∀ (s : Shared) (v : Value), BindsTo s fd ⟨[v], []⟩ [("script", v)]) ∧ ∀ base : Heap, K.In base → base.Ns mainGlobals mg → FnG (PySem.Challenge.rw_bentcoin_k37_recipes_of_machines).prog w K mg base 8 fa fd ["script"] (spLaw K) := by
  have e := hfa.symm.trans (PySem.W.mg_of X G a27)
  cases e
  have F0 := fun_mk (st := sPen) l0 c0 k0
  have b0 := F0.binds (ps := ["script"]) fun _ _ _ _ _ _ us hl => match us, hl with | [_], _ => rfl
  have F1 := fun_mk (st := sFresh) l1 c1 k1
  have b1 := F1.binds (ps := ["pen"]) fun _ _ _ _ _ _ us hl => match us, hl with | [_], _ => rfl
  have F2 := fun_mk (st := sDraw) l2 c2 k2
  have b2 := F2.binds (ps := ["pen", "many"]) fun _ _ _ _ _ _ us hl => match us, hl with | [_, _], _ => rfl
  have F3 := fun_mk (st := sEnds) l3 c3 k3
  have b3 := F3.binds (ps := ["pen", "answers"]) fun _ _ _ _ _ _ us hl => match us, hl with | [_, _], _ => rfl
  have F4 := fun_mk (st := sMach) l4 c4 k4
  have b4 := F4.binds (ps := ["pen", "most", "answers"]) fun _ _ _ _ _ _ us hl => match us, hl with | [_, _, _], _ => rfl
  have F5 := fun_mk (st := sNumb) l5 c5 k5
  have b5 := F5.binds (ps := ["machine", "order"]) fun _ _ _ _ _ _ us hl => match us, hl with | [_, _], _ => rfl
  have F6 := fun_mk (st := sToss) l6 c6 k6
  have b6 := F6.binds (ps := ["state"]) fun _ _ _ _ _ _ us hl => match us, hl with | [_], _ => rfl
  have F7 := fun_mk (st := sFind) l7 c7 k7
  have b7 := F7.binds (ps := ["machine", "start"]) fun _ _ _ _ _ _ us hl => match us, hl with | [_, _], _ => rfl
  have F8 := fun_mk (st := sReach) l8 c8 k8
  have b8 := F8.binds (ps := ["machine"]) fun _ _ _ _ _ _ us hl => match us, hl with | [_], _ => rfl
  have F9 := fun_mk (st := sDist) l9 c9 k9
  have b9 := F9.binds (ps := ["machine"]) fun _ _ _ _ _ _ us hl => match us, hl with | [_], _ => rfl
  have F10 := fun_mk (st := sLT) l10 c10 k10
  have b10 := F10.binds (ps := ["machine"]) fun _ _ _ _ _ _ us hl => match us, hl with | [_], _ => rfl
  have F11 := fun_mk (st := sFC) l11 c11 k11
  have b11 := F11.binds (ps := ["selected", "start"]) fun _ _ _ _ _ _ us hl => match us, hl with | [_, _], _ => rfl
  have F12 := fun_mk (st := sCC) l12 c12 k12
  have b12 := F12.binds (ps := ["machine", "tossers", "goals"]) fun _ _ _ _ _ _ us hl => match us, hl with | [_, _, _], _ => rfl
  have F13 := fun_mk (st := sCG) l13 c13 k13
  have b13 := F13.binds (ps := ["machine"]) fun _ _ _ _ _ _ us hl => match us, hl with | [_], _ => rfl
  have F14 := fun_mk (st := sLR) l14 c14 k14
  have b14 := F14.binds (ps := ["machine", "start"]) fun _ _ _ _ _ _ us hl => match us, hl with | [_, _], _ => rfl
  have F15 := fun_mk (st := sLO) l15 c15 k15
  have b15 := F15.binds (ps := ["machine"]) fun _ _ _ _ _ _ us hl => match us, hl with | [_], _ => rfl
  have F16 := fun_mk (st := sLed) l16 c16 k16
  have b16 := F16.binds (ps := ["machine", "picked", "start"]) fun _ _ _ _ _ _ us hl => match us, hl with | [_, _, _], _ => rfl
  have F17 := fun_mk (st := sLCh) l17 c17 k17
  have b17 := F17.binds (ps := ["machine", "left_out"]) fun _ _ _ _ _ _ us hl => match us, hl with | [_, _], _ => rfl
  have F18 := fun_mk (st := sSA) l18 c18 k18
  have b18 := F18.binds (ps := ["machine", "index"]) fun _ _ _ _ _ _ us hl => match us, hl with | [_, _], _ => rfl
  have F19 := fun_mk (st := sRC) l19 c19 k19
  have b19 := F19.binds (ps := ["machine", "answer"]) fun _ _ _ _ _ _ us hl => match us, hl with | [_, _], _ => rfl
  have F20 := fun_mk (st := sII) l20 c20 k20
  have b20 := F20.binds (ps := ["value"]) fun _ _ _ _ _ _ us hl => match us, hl with | [_], _ => rfl
  have F21 := fun_mk (st := sIX) l21 c21 k21
  have b21 := F21.binds (ps := ["value", "size"]) fun _ _ _ _ _ _ us hl => match us, hl with | [_, _], _ => rfl
  have F22 := fun_mk (st := sIT) l22 c22 k22
  have b22 := F22.binds (ps := ["value", "size"]) fun _ _ _ _ _ _ us hl => match us, hl with | [_, _], _ => rfl
  have F23 := fun_mk (st := sIR) l23 c23 k23
  have b23 := F23.binds (ps := ["value", "size"]) fun _ _ _ _ _ _ us hl => match us, hl with | [_, _], _ => rfl
  have F24 := fun_mk (st := sFW) l24 c24 k24
  have b24 := F24.binds (ps := ["tosses", "ds", "es"]) fun _ _ _ _ _ _ us hl => match us, hl with | [_, _, _], _ => rfl
  have F25 := fun_mk (st := sRE) l25 c25 k25
  have b25 := F25.binds (ps := ["value"]) fun _ _ _ _ _ _ us hl => match us, hl with | [_], _ => rfl
  have F26 := fun_mk (st := sLCo) l26 c26 k26
  have b26 := F26.binds (ps := ["machine", "answer"]) fun _ _ _ _ _ _ us hl => match us, hl with | [_, _], _ => rfl
  have F27 := fun_mk (st := sLaw) l27 c27 k27
  refine ⟨PySem.W.fnOf "law" "law" (defArgs sLaw) (defBody sLaw) (defScope sLaw) .none kV27 dc27 pm27 an27 cd27 ct27, fun s v => .of_eq rfl, fun base _ _ => ?_⟩
  have N : Names mg := ⟨PySem.W.mg_none_of X G z_list, PySem.W.mg_none_of X G z_tuple, PySem.W.mg_none_of X G z_len, PySem.W.mg_none_of X G z_range⟩
  have T : NamesL mg := ⟨⟨⟨⟨N, PySem.W.mg_none_of X G z_zip, PySem.W.mg_none_of X G z_sum⟩, PySem.W.mg_none_of X G z_dict⟩, PySem.W.mg_none_of X G z_int⟩, PySem.W.mg_none_of X G z_sorted, PySem.W.mg_none_of X G z_repr⟩
  have NG : NamesG mg := ⟨N, PySem.W.mg_none_of X G z_sorted, PySem.W.mg_none_of X G z_enumerate⟩
  have NI : NamesI mg := ⟨N, PySem.W.mg_none_of X G z_isinstance, PySem.W.mg_none_of X G z_all, PySem.W.mg_none_of X G z_any⟩
  have m : ∀ {x : Str} {u : Value}, PySem.W.nsIn K mainGlobals x = some (some u) → mg x = some u := fun e => PySem.W.mg_of X G e
  have G0 := ok_pen (P := PySem.Challenge.pw_bentcoin_k37_recipes_of_machines) (w := w) (mg := mg) (base := base) F0 N
  have G1 := ok_fresh (P := PySem.Challenge.pw_bentcoin_k37_recipes_of_machines) (w := w) (mg := mg) (base := base) F1 N
  have G2 := ok_draw F2 G1 (m a1) k1 b1
  have G3 := ok_ends F3 N G2 ⟨m a2, k2, b2⟩
  have G5 := ok_numb (P := PySem.Challenge.pw_bentcoin_k37_recipes_of_machines) (w := w) (mg := mg) (base := base) F5 N
  have G4 := ok_mach F4 N G2 ⟨m a2, k2, b2⟩ G3 ⟨m a3, k3, b3⟩ G5 ⟨m a5, k5, b5⟩
  have G6 := ok_toss (P := PySem.Challenge.pw_bentcoin_k37_recipes_of_machines) (w := w) (mg := mg) (base := base) F6
  have G7 := ok_find F7 N G6 ⟨m a6, k6, b6⟩
  have G8 := ok_reach F8 NG G7 ⟨m a7, k7, b7⟩
  have G9 := ok_dist F9 NG G6 ⟨m a6, k6, b6⟩
  have G10 := ok_lt F10 N (m x_MAX_CHOICE_STATES) G9 ⟨m a9, k9, b9⟩ G8 ⟨m a8, k8, b8⟩ G6 ⟨m a6, k6, b6⟩
  have G11 := ok_fc (P := PySem.Challenge.pw_bentcoin_k37_recipes_of_machines) (w := w) (mg := mg) (base := base) F11 N
  have G12 := ok_cc F12 T.toNamesC G11 ⟨m a11, k11, b11⟩
  have G13 := ok_cg F13 T.toNamesC G10 ⟨m a10, k10, b10⟩ G12 ⟨m a12, k12, b12⟩
  have G14 := ok_lr (P := PySem.Challenge.pw_bentcoin_k37_recipes_of_machines) (w := w) (mg := mg) (base := base) F14 T.sorted
  have G15 := ok_lo F15 N G14 ⟨m a14, k14, b14⟩
  have G16 := ok_led (P := PySem.Challenge.pw_bentcoin_k37_recipes_of_machines) (w := w) (mg := mg) (base := base) F16 N
  have G17 := ok_lch F17 T.toNamesDi G15 ⟨m a15, k15, b15⟩ G14 ⟨m a14, k14, b14⟩ G16 ⟨m a16, k16, b16⟩
  have G18 := ok_sa (P := PySem.Challenge.pw_bentcoin_k37_recipes_of_machines) (w := w) (mg := mg) (base := base) F18
  have G19 := ok_rc F19 T.toNamesC G10 ⟨m a10, k10, b10⟩ G12 ⟨m a12, k12, b12⟩ G18 ⟨m a18, k18, b18⟩ G13 ⟨m a13, k13, b13⟩
  have G20 := ok_ii (P := PySem.Challenge.pw_bentcoin_k37_recipes_of_machines) (w := w) (mg := mg) (base := base) F20 NI T.int (PySem.W.mg_none_of X G z_bool)
  have G21 := ok_ix F21 G20 ⟨m a20, k20, b20⟩
  have G22 := ok_it (P := PySem.Challenge.pw_bentcoin_k37_recipes_of_machines) (w := w) (mg := mg) (base := base) F22 NI
  have G23 := ok_ir F23 NI G20 ⟨m a20, k20, b20⟩ G22 ⟨m a22, k22, b22⟩
  have G24 := ok_fw (P := PySem.Challenge.pw_bentcoin_k37_recipes_of_machines) (w := w) (mg := mg) (base := base) F24 NI (m x_comb)
  have G25 := ok_re F25 NI (m x_MAX_RECIPE_TOSSES) G21 ⟨m a21, k21, b21⟩ G22 ⟨m a22, k22, b22⟩ G23 ⟨m a23, k23, b23⟩ G24 ⟨m a24, k24, b24⟩
  have G26 := ok_lco F26 T.toNamesJ G17 ⟨m a17, k17, b17⟩ G15 ⟨m a15, k15, b15⟩
  exact ok_law F27 T G0 ⟨m a0, k0, b0⟩ G2 ⟨m a2, k2, b2⟩ G4 ⟨m a4, k4, b4⟩ G26 ⟨m a26, k26, b26⟩ G19 ⟨m a19, k19, b19⟩ G25 ⟨m a25, k25, b25⟩
end Z
open PySem PySem.W PyProof.Rows
set_option maxRecDepth 100000 in
set_option maxHeartbeats 0 in
theorem PySem.Challenge.cw_bentcoin_k37_recipes_of_machines_holds : PySem.Challenge.rw_bentcoin_k37_recipes_of_machines.Holds := by
  w_on; o_law; k_head; (case hw => w_witness2)
  k_fill
  refine GG.walkG (l := PySem.Challenge.rw_bentcoin_k37_recipes_of_machines) (n := 63) (k := 8) (x := "script") (sp := Z.spLaw) rfl (by decide) rfl ⟨rfl, by decide, by decide⟩ (fun w h Y => PySem.W.kIn_of Y) ?F (fun _ _ a ns hl hS => ⟨a, ns, rfl, hS, hl, fun _ => rfl⟩)
  case F =>
    intro w mg fa h KX G hmg
    refine' Z.all_mk KX G hmg ?a0 ?l0 ?c0 ?k0 ?a1 ?l1 ?c1 ?k1 ?a2 ?l2 ?c2 ?k2 ?a3 ?l3 ?c3 ?k3 ?a4 ?l4 ?c4 ?k4 ?a5 ?l5 ?c5 ?k5 ?a6 ?l6 ?c6 ?k6 ?a7 ?l7 ?c7 ?k7 ?a8 ?l8 ?c8 ?k8 ?a9 ?l9 ?c9 ?k9 ?a10 ?l10 ?c10 ?k10 ?a11 ?l11 ?c11 ?k11 ?a12 ?l12 ?c12 ?k12 ?a13 ?l13 ?c13 ?k13 ?a14 ?l14 ?c14 ?k14 ?a15 ?l15 ?c15 ?k15 ?a16 ?l16 ?c16 ?k16 ?a17 ?l17 ?c17 ?k17 ?a18 ?l18 ?c18 ?k18 ?a19 ?l19 ?c19 ?k19 ?a20 ?l20 ?c20 ?k20 ?a21 ?l21 ?c21 ?k21 ?a22 ?l22 ?c22 ?k22 ?a23 ?l23 ?c23 ?k23 ?a24 ?l24 ?c24 ?k24 ?a25 ?l25 ?c25 ?k25 ?a26 ?l26 ?c26 ?k26 ?a27 ?l27 ?c27 ?k27 ?z_list ?z_tuple ?z_len ?z_range ?z_zip ?z_sum ?z_dict ?z_sorted ?z_enumerate ?z_int ?z_repr ?z_bool ?z_isinstance ?z_all ?z_any ?x_comb ?x_MAX_CHOICE_STATES ?x_MAX_RECIPE_TOSSES
    (case a0 => k_is)
    (case l0 => k_is)
    (case c0 => k_is)
    (case k0 => k_is)
    (case a1 => k_is)
    (case l1 => k_is)
    (case c1 => k_is)
    (case k1 => k_is)
    (case a2 => k_is)
    (case l2 => k_is)
    (case c2 => k_is)
    (case k2 => k_is)
    (case a3 => k_is)
    (case l3 => k_is)
    (case c3 => k_is)
    (case k3 => k_is)
    (case a4 => k_is)
    (case l4 => k_is)
    (case c4 => k_is)
    (case k4 => k_is)
    (case a5 => k_is)
    (case l5 => k_is)
    (case c5 => k_is)
    (case k5 => k_is)
    (case a6 => k_is)
    (case l6 => k_is)
    (case c6 => k_is)
    (case k6 => k_is)
    (case a7 => k_is)
    (case l7 => k_is)
    (case c7 => k_is)
    (case k7 => k_is)
    (case a8 => k_is)
    (case l8 => k_is)
    (case c8 => k_is)
    (case k8 => k_is)
    (case a9 => k_is)
    (case l9 => k_is)
    (case c9 => k_is)
    (case k9 => k_is)
    (case a10 => k_is)
    (case l10 => k_is)
    (case c10 => k_is)
    (case k10 => k_is)
    (case a11 => k_is)
    (case l11 => k_is)
    (case c11 => k_is)
    (case k11 => k_is)
    (case a12 => k_is)
    (case l12 => k_is)
    (case c12 => k_is)
    (case k12 => k_is)
    (case a13 => k_is)
    (case l13 => k_is)
    (case c13 => k_is)
    (case k13 => k_is)
    (case a14 => k_is)
    (case l14 => k_is)
    (case c14 => k_is)
    (case k14 => k_is)
    (case a15 => k_is)
    (case l15 => k_is)
    (case c15 => k_is)
    (case k15 => k_is)
    (case a16 => k_is)
    (case l16 => k_is)
    (case c16 => k_is)
    (case k16 => k_is)
    (case a17 => k_is)
    (case l17 => k_is)
    (case c17 => k_is)
    (case k17 => k_is)
    (case a18 => k_is)
    (case l18 => k_is)
    (case c18 => k_is)
    (case k18 => k_is)
    (case a19 => k_is)
    (case l19 => k_is)
    (case c19 => k_is)
    (case k19 => k_is)
    (case a20 => k_is)
    (case l20 => k_is)
    (case c20 => k_is)
    (case k20 => k_is)
    (case a21 => k_is)
    (case l21 => k_is)
    (case c21 => k_is)
    (case k21 => k_is)
    (case a22 => k_is)
    (case l22 => k_is)
    (case c22 => k_is)
    (case k22 => k_is)
    (case a23 => k_is)
    (case l23 => k_is)
    (case c23 => k_is)
    (case k23 => k_is)
    (case a24 => k_is)
    (case l24 => k_is)
    (case c24 => k_is)
    (case k24 => k_is)
    (case a25 => k_is)
    (case l25 => k_is)
    (case c25 => k_is)
    (case k25 => k_is)
    (case a26 => k_is)
    (case l26 => k_is)
    (case c26 => k_is)
    (case k26 => k_is)
    (case a27 => k_is)
    (case l27 => k_is)
    (case c27 => k_is)
    (case k27 => k_is)
    (case z_list => k_is)
    (case z_tuple => k_is)
    (case z_len => k_is)
    (case z_range => k_is)
    (case z_zip => k_is)
    (case z_sum => k_is)
    (case z_dict => k_is)
    (case z_sorted => k_is)
    (case z_enumerate => k_is)
    (case z_int => k_is)
    (case z_repr => k_is)
    (case z_bool => k_is)
    (case z_isinstance => k_is)
    (case z_all => k_is)
    (case z_any => k_is)
    (case x_comb => k_is)
    (case x_MAX_CHOICE_STATES => k_is)
    (case x_MAX_RECIPE_TOSSES => k_is)
