import PyProof.Rows.All
import Wide.All
import OpenK.AllK
import Wide.FinOn
import HandS.ForMost
import HandS.Defaults
import HandS.Wide
import HandS.Rev
import HandS.Flow
import HandS.Zip
import HandS.Gcd
import KE.KMathGC
import KE.DataAny
import HandS.IsInst
import HandS.StrMore
import HandS.Conv
import HandS.TupAny
import HandS.TupMul
import HandS.Words
import PySem.Challenge.RW_bentcoin_k43_why_it_is_no_recipe
set_option Elab.async false
set_option maxRecDepth 100000
set_option maxHeartbeats 4000000
/-! Defs that are run where no text of an object is being made: so that repr gives the whole text. -/
namespace GG
open PySem PySem.Spec PyProof.Rows L2
section
variable {P : Program} {w : World} {K : PySem.W.Frag} {mg : Str → Option Value} {base : Heap}
structure FnG (P : Program) (w : World) (K : PySem.W.Frag) (mg : Str → Option Value) (base : Heap) (k : Nat) (f : Addr) (fd : FuncData) (ps : List Str) (sp : Sp) : Prop where
  size : ∀ vs H Q E, sp vs H Q E → vs.length = ps.length
  goes : ∀ (A : Around) (o : List Env) (s : Shared) (H : Hp) (ar : Args) (us : List Value) (vs : List V) (Q : VK) (E : XK),
    A.guards = some [] → Room k A → Env0 P w K mg base A o s H → BindsTo s fd ar (ps.zip us) → Vals vs us → sp vs H Q E →
    codeAny (model P w) A (.call (.ref f) ar) (CR CX0 o P w H s Q E) s

theorem fnG_of {x qual : Str} {st : Stmt} {f : Addr} {fd : FuncData} {N ps : List Str} {k : Nat} {sp : Sp}
    (F : Fun K x qual st f fd) (S : FnScope N ps (defScope st)) (size : ∀ vs H Q E, sp vs H Q E → vs.length = ps.length)
    (body : ∀ (cd : Value) (A : Around) (o : List Env) (s : Shared) (H : Hp) (vs : List V) (Q : VK) (E : XK),
      A.guards = some [] → Room k (A.deeper (envOfC qual (defScope st) s.heap.objs.size f cd)) → sp vs H Q E →
      ∃ t, PSs (cxOf CX0 P w K mg base N qual (defScope st) f cd A o s H E).nox (defBody st) t ∧
        t { nx := fun _ H' => Q .non H', rt := Q } (start N vs) H) :
    FnG P w K mg base (k + 1) f fd ps sp := by
  obtain ⟨oc, od, kV, doc, pm, an, cd, ct, slots, rfl, found, code⟩ := F.ex
  refine ⟨size, ?_⟩
  intro A o s H ar us vs Q E gA room e0 hbind given asked
  have inK : K.In s.heap := e0.mod.kin.keeps fun b u e => (e0.bs b u e).1
  have free : s.heap.NoLimit := e0.mod.nolimit.keeps fun b u e => (e0.bs b u e).1
  have many := size vs H Q E asked
  have kinds : ∀ y ∈ ps.zip us, (defScope st).names.lookup y.1 = some .local ∨ ((defScope st).names.lookup y.1 = some .cell ∧
      ((cellsFrom (s.heap.objs.size + 1) (defScope st).names []).lookup y.1).isSome = true) := by
    rintro ⟨n, v⟩ hy
    cases S.par n (List.of_mem_zip hy).1 with
    | inl q => exact Or.inl q
    | inr q => exact Or.inr ⟨q, PySem.W.cellsFrom_some _ _ _ (Or.inl q)⟩
  apply codeAny_call_function room.depth (inK _ _ found) rfl S.co S.gen rfl (PySem.W.codeRec_of inK code)
  apply hbind
  apply wpAny_newFunctionEnv_cells S.kind kinds
  intro env he s1 ready
  subst he
  refine ⟨free.keeps ready.toInCall.keep, ?_⟩
  apply codeAny_func
  obtain ⟨t, ht, hq⟩ := body cd A o s H vs Q E gA (room.deeper _) asked
  have first := inv_start (E := E) (CX := CX0) S room.hd e0 many given ready
  refine wpAny_mono (ht.nox.run [] s1 (start N vs) H _ first hq) (fun fl s' hs => ?_) (fun e s' hs => hs)
  cases fl with
  | next =>
    obtain ⟨σ', H', J, q⟩ := hs
    exact ⟨V.non, H', J.os, J.bare, J.base, J.hok, rfl, q⟩
  | ret u =>
    obtain ⟨v, σ', H', J, rv, q⟩ := hs
    exact ⟨v, H', J.os, J.bare, J.base, J.hok, rv, q⟩
  | brk => exact hs.elim fun _ z => z.elim fun _ z => z.elim fun _ z => z.elim
  | cont => exact hs.elim fun _ z => z.elim fun _ z => z.elim fun _ z => z.elim

/-- what is left of the heap when the script stands alone in it -/
def one (a : Addr) (o : HO) : Hp := fun b => if b = a then some o else none
theorem one_at {a : Addr} {o : HO} : one a o a = some o := if_pos rfl
theorem one_no {a b : Addr} {o : HO} (h : b ≠ a) : one a o b = none := if_neg h

section
variable {mb : Str → Option Value} {k : Nat} {fa a : Addr} {fd : FuncData} {x : Str} {sp : Sp} {s₁ : Shared} {vs : List Value} {ns : List Int}
abbrev Fine (s₁ : Shared) (r : Result) (s' : Shared) : Prop := r = .ok (.ret (.bool true)) ∧ OldK s₁.heap s'.heap ∧ s'.os = s₁.os ∧ AllBare s'.gens

/-- from a heap in which at most the script is told of -/
theorem from_heap {H : Hp} (inK : K.In (hidT s₁.heap H)) (names : (hidT s₁.heap H).Ns mainGlobals mg) (blt : (hidT s₁.heap H).Ns builtinsNs mb)
    (known : ∀ y : Str, y ≠ "__name__" → mb y = bootBuiltins y) (free : (hidT s₁.heap H).NoLimit) (none_ : s₁.gens = #[])
    (alone : ∀ b, H b = none ∨ ∃ o xs, H b = some (.frz o (.lst xs))) (hok : HOk P w H s₁.heap) (room : Room k callerA)
    (F : FnG P w K mg (hidT s₁.heap H) k fa fd [x] sp) (binds : ∀ (s : Shared) (u : Value), BindsTo s fd ⟨[u], []⟩ [(x, u)])
    (asked : sp [.ref a] H (fun v _ => v = .bl true) fun _ _ _ => False) :
    codeAny (model P w) callerA (.call (.ref fa) ⟨[.ref a], []⟩) (Fine s₁) s₁ := by
  have entry : Env0 P w K mg (hidT s₁.heap H) callerA [] s₁ H :=
    { frames := rfl, mod := ⟨inK, names, ⟨mb, blt, known⟩, free⟩, bs := fun b u e => of_hidT e, bsz := Nat.le_of_eq (hidT_size _ _), funs := trivial,
      frf := fun b hb => absurd (show b ∈ ([] : List Addr) from hb) (by simp), hok := hok, bare := .of_eq none_ }
  have run := F.goes callerA [] s₁ H ⟨[.ref a], []⟩ [.ref a] [.ref a] _ _ rfl room entry (binds s₁ (.ref a)) (.cons rfl .nil) asked
  refine codeAny_mono run fun r s' got => ?_
  cases r with
  | error e => exact False.elim got
  | ok fl =>
    cases fl with
    | ret u =>
      obtain ⟨v, H', os, bare, un, hok', ru, yes⟩ := got
      have yes' : v = .bl true := yes
      subst yes'
      have eu : u = Value.bool true := ru
      subst eu
      refine ⟨rfl, OldK.of_keep ?_, os, bare⟩
      intro b u e
      rcases alone b with q | ⟨ob, xs, q⟩
      · exact un.keep b u e q (fun z => absurd (show b ∈ ([] : List Addr) from z) (by simp)) (by simp)
      · have e1 := (hok b _ q).1
        have e2 := (hok' b _ (un.frzs b ob _ q)).1
        rw [e] at e1
        cases e1
        exact e2
    | next => exact False.elim got
    | brk => exact False.elim got
    | cont => exact False.elim got
/-- the law's call, its promise once -/
theorem lawG (inK : K.In s₁.heap) (names : s₁.heap.Ns mainGlobals mg) (blt : s₁.heap.Ns builtinsNs mb) (known : ∀ y : Str, y ≠ "__name__" → mb y = bootBuiltins y)
    (free : s₁.heap.NoLimit) (none_ : s₁.gens = #[]) (script : s₁.heap.get? a = some { cls := .type "list", data := .seq vs.toArray }) (nums : IntsAre vs ns)
    (few : ns.length ≤ sizeLine) (room : Room k callerA) (F : ∀ base : Heap, K.In base → base.Ns mainGlobals mg → FnG P w K mg base k fa fd [x] sp)
    (binds : ∀ (s : Shared) (u : Value), BindsTo s fd ⟨[u], []⟩ [(x, u)]) (asked : ∀ H : Hp, SqL K H a (ns.map V.int) → sp [.ref a] H (fun v _ => v = .bl true) fun _ _ _ => False) :
    codeAny (model P w) callerA (.call (.ref fa) ⟨[.ref a], []⟩) (Fine s₁) s₁ := by
  have rel := vals_ints nums
  have len := nums.length
  cases look : K.lookup a with
  | some o =>
    have e := inK a o look
    rw [script] at e
    cases e
    have keep : ∀ {b : Addr} {u : Obj}, s₁.heap.get? b = some u → (hidT s₁.heap fun _ => none).get? b = some u := fun e => hidT_get e rfl
    have ns' : ∀ {b : Addr} {m : Str → Option Value}, s₁.heap.Ns b m → (hidT s₁.heap fun _ => none).Ns b m := fun ⟨o, es, ep, e, d, r⟩ => ⟨o, es, ep, keep e, d, r⟩
    have inK' : K.In (hidT s₁.heap fun _ => none) := fun b u e => keep (inK b u e)
    refine from_heap inK' (ns' names) (ns' blt) known (let ⟨mc, h1, h2⟩ := free; ⟨mc, ns' h1, h2⟩) none_ (fun _ => .inl rfl) (fun b u z => nomatch z) room (F _ inK' (ns' names)) binds ?_
    exact asked _ (.inr ⟨_, vs.toArray, _, look, rfl, rfl, rfl, by rw [List.size_toArray, len]; exact few, by simpa using rel⟩)
  | none =>
    have keep : ∀ {b : Addr} {u : Obj}, b ≠ a → s₁.heap.get? b = some u → (hidT s₁.heap (one a (.frz { cls := .type "list", data := .seq vs.toArray } (.lst (ns.map V.int))))).get? b = some u := fun n e => hidT_get e (one_no n)
    have ns' : ∀ {b : Addr} {m : Str → Option Value}, s₁.heap.Ns b m → (hidT s₁.heap (one a (.frz { cls := .type "list", data := .seq vs.toArray } (.lst (ns.map V.int))))).Ns b m := by
      rintro b m ⟨o, es, ep, e, d, r⟩
      refine ⟨o, es, ep, keep (fun z => ?_) e, d, r⟩
      rw [z, script] at e
      cases e
      cases d
    have inK' : K.In (hidT s₁.heap (one a (.frz { cls := .type "list", data := .seq vs.toArray } (.lst (ns.map V.int))))) := fun b u e => keep (fun z => by rw [z, look] at e; cases e) (inK b u e)
    refine from_heap inK' (ns' names) (ns' blt) known (let ⟨mc, h1, h2⟩ := free; ⟨mc, ns' h1, h2⟩) none_ (fun b => ?_) (fun b u z => ?_) room (F _ inK' (ns' names)) binds (asked _ (.inl (.inr ⟨_, one_at⟩)))
    · by_cases e : b = a
      · exact .inr ⟨_, _, by rw [e]; exact one_at⟩
      · exact .inl (one_no e)
    · by_cases e : b = a
      · subst e
        have z' := one_at.symm.trans z
        cases z'
        exact ⟨script, by rw [List.length_map]; exact few, vs, _, rel, script⟩
      · have z' := (one_no e).symm.trans z
        cases z'
end
end
/-- the end of a proof: as the layer's own, for such a promise -/
theorem walkG {l : PySem.W.OpenLaw} {n k : Nat} {q : Program} {loose : List Str} {XP : (Str → Option Value) → Heap → Prop} {YP : World → Heap → Prop} {d : DefRec} {K : Params → PySem.W.Frag}
    {sp : PySem.W.Frag → Sp} {x : Str} (most : l.most = some n) (few : n ≤ sizeLine) (plain : d.params.defaults = []) (room : Room k callerA) (inY : ∀ (w : World) (h : Heap), YP w h → (K w.params).In h)
    (F : ∀ (w : World) (mg : Str → Option Value) (fa : Addr) (h : Heap), (K w.params).In h → h.Ns mainGlobals mg → mg d.name = some (.ref fa) →
      ∃ fd : FuncData, (∀ (s : Shared) (u : Value), BindsTo s fd ⟨[u], []⟩ [(x, u)]) ∧
        ∀ base : Heap, (K w.params).In base → base.Ns mainGlobals mg → FnG l.prog w (K w.params) mg base k fa fd [x] (sp (K w.params)))
    (asked : ∀ (K : PySem.W.Frag) (H : Hp) (a : Addr) (ns : List Int), ns.length ≤ n → SqL K H a (ns.map V.int) → sp K [.ref a] H (fun v _ => v = .bl true) fun _ _ _ => False) :
    PySem.W.WalkO q loose XP YP l.row.toRowW d [] (fun f vs => PySem.call f vs) := by
  apply Att.attach_call most plain
  intro w s₀ s₁ mg mb fa o pm cd doc a vs ns G Y _ _ _ named script nums size none_
  have inK := inY w _ Y
  obtain ⟨fd, binds, hF⟩ := F w mg fa _ inK G.T.g named
  exact lawG inK G.T.g G.T.b G.T.builtins G.T.nolimit none_ script nums (Nat.le_trans size few) room hF binds fun H hs => asked _ H a ns size hs

/-! the text of data -/
/-- data whose text is made: no dict, no int too long, not too deep, not too many -/
structure Shows (d : PyData) (deep many : Nat) : Prop where
  s : d.showable = true
  l : d.leavesShort 1922 = true
  h : d.hasDict = false
  p : d.depth ≤ deep
  b : d.bulk ≤ many
theorem Shows.mono {d : PyData} {a b a' b' : Nat} (x : Shows d a b) (h1 : a ≤ a') (h2 : b ≤ b') : Shows d a' b' := ⟨x.s, x.l, x.h, Nat.le_trans x.p h1, Nat.le_trans x.b h2⟩
theorem Shows.room {d : PyData} (x : Shows d 50 8000) : d.shown.length ≤ sizeLine := by
  have h := PyData.shown_le_bulk 1922 (by decide) d x.l
  have hb := x.b
  have e : sizeLine = 16777216 := by decide
  have := Nat.mul_le_mul_left 1924 hb
  omega
theorem short_int {i : Int} (h : i.natAbs.log2 < 1920) : (PyData.int i).leavesShort 1922 = true := by
  simp only [PyData.leavesShort, decide_eq_true_eq]
  have e := int_text_length_le (k := 1920) (by decide) h
  rw [PyData.shown_int, PySem.ofString_length]
  omega
theorem ints_show : ∀ {ns : List Int}, (∀ n ∈ ns, n.natAbs.log2 < 1920) → PyData.showableAll (ns.map PyData.int) = true ∧ PyData.leavesShortAll 1922 (ns.map PyData.int) = true ∧ PyData.hasDictAll (ns.map PyData.int) = false ∧ PyData.depthAll (ns.map PyData.int) = 0 ∧ PyData.bulkAll (ns.map PyData.int) = ns.length
  | [], _ => ⟨rfl, rfl, rfl, rfl, rfl⟩
  | n :: r, h => by
    obtain ⟨h1, h2, h3, h4, h5⟩ := ints_show (ns := r) fun m hm => h m (List.mem_cons_of_mem _ hm)
    have hn := h n List.mem_cons_self
    have hs := short_int hn
    refine ⟨?_, ?_, ?_, ?_, ?_⟩
    · simp [PyData.showableAll, PyData.showable, h1, hn]
    · simp [PyData.leavesShortAll, h2, hs]
    · simp [PyData.hasDictAll, PyData.hasDict, h3]
    · simp [PyData.depthAll, PyData.depth, h4]
    · simp [PyData.bulkAll, PyData.bulk, h5]; omega
theorem shows_ints {ns : List Int} (h : ∀ n ∈ ns, n.natAbs.log2 < 1920) : Shows (.tuple (ns.map PyData.int)) 1 ns.length := by
  obtain ⟨h1, h2, h3, h4, h5⟩ := ints_show h
  exact ⟨by simp [PyData.showable, h1], by simp [PyData.leavesShort, h2], by simp [PyData.hasDict, h3], by simp [PyData.depth, h4], by simp [PyData.bulk, h5]⟩
section
variable {X : Cx}
def rRepr (K : PySem.W.Frag) : List V → Hp → VK → Prop := fun vs H Q => ∃ (a : Addr) (d : PyData), vs = [.ref a] ∧ Dp K H (.ref a) d ∧ Shows d 50 8000 ∧ Q (.str d.shown) H
theorem call_repr {k : Nat} (hg : X.A.guards = some []) (room : Room k X.A) : CallR X (.builtin "repr") (rRepr X.K) := by
  intro pins s σ H vs us Q I r h
  obtain ⟨a, d, rfl, hd, hs, q⟩ := h
  obtain ⟨u, rfl, ru⟩ := vals1 r
  have eu : u = Value.ref a := ru
  subst eu
  obtain ⟨as, reads⟩ := Dp.reads I d (.ref a) (.ref a) hd rfl
  have hu := room.un
  have hp := hs.p
  refine repr_of_reads' reads hs.s (fun e => by rw [hs.h] at e; cases e) hg (by omega) (fun _ _ e => e) (fun h' u tk hk => ?_) hs.room
  exact ⟨.str d.shown, H, I.kept hk, ⟨u, rfl⟩, q⟩
/-! x *= e of ints -/
theorem ip_mulW : PIp X .Mult (fun x y H Q => ∃ i j : Int, x = .int i ∧ y = .int j ∧ IntMulOk i j ∧ Q (.int (i * j)) H) := by
  intro pins s σ H x y v u Q I rx ry h
  obtain ⟨i, j, ex, ey, ok, q⟩ := h
  subst ex ey
  obtain ⟨t, et⟩ := rx
  obtain ⟨t', et'⟩ := ry
  subst et et'
  exact imul_int ⟨V.int (i * j), H, I.tok _, ⟨_, rfl⟩, q⟩ ok
/-! f(k = v, ..): all by their names -/
variable {CX : CXT} {k : Nat} {f : Addr} {fd : FuncData} {ps ks : List Str} {sp : Sp} {E : XK} {x : Str} {p pos : Pos} {kws : List Keyword} {t tk : TA}
  {g : List Value → List Value → List Value} {gV : List V → List V → List V}
def tNamed (sp : Sp) (gV : List V → List V → List V) (E : XK) (m : Nat) (tk : TA) : TE := fun σ H Q => tk σ H fun zs H1 => zs.length = m ∧ sp (gV [] zs) H1 Q E
theorem pe_named (F : FnOk X.prog X.w X.K X.mg X.base CX k f fd ps sp) (room : Room k X.A) (glob : Gl X x) (is : X.mg x = some (.ref f)) (keep : PySem.W.keepIn X.K (.ref f) = true)
    (bound : KBn X.K fd ps 0 ks g gV) (pass : Passes CX X E) (args : PK X kws tk) (all : (backToKw pos (keywordEach kws X.env)).all (·.1.isSome) = true := by rfl)
    (names : (backToKw pos (keywordEach kws X.env)).filterMap (·.1) = ks := by rfl) (nodebug : (x == ("__debug__" : Str)) = false := by decide)
    (plain : ((backTo pos (starEach [] X.env)).any (·.1) || (backToKw pos (keywordEach kws X.env)).any (·.1.isNone)) = false := by rfl) :
    PE X (.Call (.Name x p) [] kws pos) (tNamed sp gV E ks.length tk) := by
  constructor
  intro pins s σ H Q I h
  apply wpAny_Call_Name_kw
  refine ld_glob I glob is ?_ nodebug
  apply PySem.W.callWith_KW0 I.ok.mod.kin keep all _ plain
  have run := args.run pos pins s σ H _ I h
  refine thn run fun ws s2 done => ?_
  obtain ⟨zs, H2, I2, rz, many, q⟩ := done
  refine ⟨I2.kIn, ?_⟩
  rw [names]
  have few : ws.length = ks.length := by rw [← rz.length]; exact many
  first
  | exact run_fnN (us := []) (vs := []) F room bound pass I2 .nil rz rfl few q
  | exact run_fnN (us := []) (vs := []) F room bound pass I2 .nil rz rfl many q
def turned {α : Type} : List α → List α
  | [u, v] => [v, u]
  | l => l
theorem turned_vals : ∀ {zs : List V} {ws : List Value}, Vals zs ws → Vals (turned zs) (turned ws)
  | _, _, .nil => .nil
  | _, _, .cons a .nil => .cons a .nil
  | _, _, .cons a (.cons b .nil) => .cons b (.cons a .nil)
  | _, _, .cons a (.cons b (.cons c r)) => .cons a (.cons b (.cons c r))
/-- two parameters, both by name, the second ahead -/
theorem named2 {K : PySem.W.Frag} {x qual : Str} {st : Stmt} {a b : Str} (F : Fun K x qual st f fd)
    (h : ∀ (kV doc pm : Value) (an : Option Addr) (cd ct u v : Value), bindArgs (PySem.W.fnOf x qual (defArgs st) (defBody st) (defScope st) .none kV doc pm an cd ct) ⟨[], [(b, u), (a, v)]⟩ = pure [(a, v), (b, u)]) :
    KBn K fd [a, b] 0 [b, a] (fun _ ws => turned ws) (fun _ zs => turned zs) := by
  obtain ⟨oc, od, kV, doc, pm, an, cd, ct, slots, rfl, found, code⟩ := F.ex
  refine ⟨fun s us ws _ l0 l2 => ?_, fun _ r => turned_vals r⟩
  match us, ws, l0, l2 with
  | [], [u, v], _, _ => exact .of_eq (h kV doc pm an cd ct u v)
theorem max_is (calm : X.calm = true) : CallR X (.builtin "max") (fun vs H Q => ∃ i j k : Int, vs = [.int i, .int j] ∧ k = (if j > i then j else i) ∧ Q (.int k) H) := by
  intro pins s σ H vs us Q I r h
  obtain ⟨i, j, k, e, ek, q⟩ := h
  subst ek
  exact call_max2 calm pins s σ H vs us Q I r ⟨i, j, e, q⟩
/-! a def that wants that no text is being made, called -/
theorem pe_callG {F : FuncData} {es : List Expr} {e : Expr} (G : FnG X.prog X.w X.K X.mg X.base k f F ps sp) (quiet : X.A.guards = some []) (room : Room k X.A) (glob : Gl X x) (is : X.mg x = some (.ref f)) (keep : PySem.W.keepIn X.K (.ref f) = true)
    (bound : Binds X.K F ps []) (args : PA X (e :: es) t) (nodebug : (x == ("__debug__" : Str)) = false := by decide) (star : starEach (e :: es) X.env = (false, eval e X.env) :: starEach es X.env := by rfl)
    (plain : (backTo pos (starEach es X.env)).any (·.1) = false := by rfl) : PE X (.Call (.Name x p) (e :: es) [] pos) (tCall sp [] E0 t) := by
  constructor
  intro pins s σ H Q I h
  apply wpAny_Call_Name_kw
  refine ld_glob I glob is ?_ nodebug
  refine PySem.W.callWith_K (h₀ := X.base) I.ok.mod.kin keep (thn (args.run pos pins s σ H _ I h) fun us s1 got => ?_) star plain
  obtain ⟨vs, H1, I1, r, asked⟩ := got
  refine ⟨I1.kIn, ?_⟩
  have asked' : sp vs H1 Q E0 := by simpa using asked
  have many : (us ++ []).length = ps.length := by rw [List.append_nil, ← r.length]; exact G.size _ _ _ _ asked'
  have bind := bound s1 us I1.kIn many
  rw [List.append_nil] at bind
  apply wpAny_call
  refine codeAny_mono (G.goes X.A X.stack s1 H1 ⟨us, []⟩ us vs Q E0 quiet room I1.env0 bind r asked') fun res s' hq => ?_
  cases res with
  | error e => exact False.elim hq
  | ok fl =>
    cases fl with
    | ret u => exact I1.after hq
    | next => exact False.elim hq
    | brk => exact False.elim hq
    | cont => exact False.elim hq
/-! repr of None, or of data -/
def rRepr2 (K : PySem.W.Frag) : List V → Hp → VK → Prop := fun vs H Q => (vs = [.non] ∧ Q (.str "None") H) ∨ rRepr K vs H Q
theorem call_repr2 {k : Nat} (hg : X.A.guards = some []) (room : Room k X.A) : CallR X (.builtin "repr") (rRepr2 X.K) := by
  intro pins s σ H vs us Q I r h
  rcases h with ⟨ev, q⟩ | h
  · subst ev
    obtain ⟨u, eu, ru⟩ := vals1 r
    subst eu
    have e : u = Value.none := ru
    subst e
    exact PySem.P.repr_of_none ⟨.str _, H, I.tok _, ⟨_, rfl⟩, q⟩
  · exact call_repr hg room pins s σ H vs us Q I r h
end
end GG

set_option Elab.async false
set_option linter.all false
set_option maxRecDepth 100000
set_option maxHeartbeats 4000000
namespace Z
open PySem PySem.Spec PyProof.Rows L2 GG
def top (i : Nat) : Stmt := PySem.Challenge.pw_bentcoin_k43_why_it_is_no_recipe.main.body.getD i (.Pass ⟨0, 0, 0, 0⟩)
abbrev sPen : Stmt := top 11
abbrev sFresh : Stmt := top 12
abbrev sDraw : Stmt := top 13
/-- what follows an if, once for all ways to it -/
theorem if_tail {c : TT} {a b : TS} {D : Ends} {σ : L2.St} {H : Hp} (W : L2.St → Hp → Prop) (tail : ∀ σ H, W σ H → D.nx σ H) (go : (∀ σ H, W σ H → D.nx σ H) → tIfS c a b D σ H) : tIfS c a b D σ H := go tail
theorem on {t u : TS} {D : Ends} {σ : L2.St} {H : Hp} (h : t { D with nx := u D } σ H) : tSeq t u D σ H := h
theorem put_c {v : V} {i : Nat} {D : Ends} {σ : L2.St} {H : Hp} (h : D.nx (σ.set i (some v)) H) : tAsg (tC v) (gName i) D σ H := h
/-! heaps -/
theorem Same.upd {H : Hp} {p : Addr} {o : HO} (h : H p = none) : Same H (L2.upd H p o) := fun b x e => by
  rw [upd_ne (ne_of_none e h)]
  exact e
/-- all that was told of stands, but what is at a -/
def But (a : Addr) (H H' : Hp) : Prop := ∀ b o, H b = some o → b ≠ a → H' b = some o
theorem But.refl (a : Addr) (H : Hp) : But a H H := fun _ _ e _ => e
theorem But.trans {a : Addr} {H H1 H2 : Hp} (x : But a H H1) (y : But a H1 H2) : But a H H2 := fun b o e n => y b o (x b o e n) n
theorem But.of {a : Addr} {H H1 : Hp} (x : Same H H1) : But a H H1 := fun b o e _ => x b o e
theorem But.put {a : Addr} {H : Hp} {o : HO} : But a H (L2.upd H a o) := fun b u e n => by
  rw [upd_ne n]
  exact e
theorem But.free {a : Addr} {H H' : Hp} {l : Addr} (e : But a H H') (n : l ≠ a) (h : H' l = none) : H l = none := by
  cases q : H l with
  | none => rfl
  | some o =>
    rw [e l o q n] at h
    cases h
theorem But.same {a : Addr} {H H0 H' : Hp} (s : Same H0 H) (n : H0 a = none) (b : But a H H') : Same H0 H' := fun c o e => b c o (s c o e) (ne_of_none e n)
theorem But.seq {a c : Addr} {K : PySem.W.Frag} {H H' : Hp} {xs : List V} (e : But a H H') (n : c ≠ a) (h : SqL K H c xs) : SqL K H' c xs := by
  rcases h with (h | ⟨o, h⟩) | h
  · exact .inl (.inl (e _ _ h n))
  · exact .inl (.inr ⟨o, e _ _ h n⟩)
  · exact .inr h
/-- a pen stands at a -/
def Pen (H : Hp) (a l : Addr) : Prop := ∃ (cs : List Int) (pos val : Int), H a = some (.lst [.ref l, .int pos, .int val]) ∧ H l = some (.lst (cs.map V.int)) ∧ 0 ≤ pos
theorem Pen.ne {H : Hp} {a l : Addr} {cs : List Int} {p v : Int} (h : H a = some (.lst [.ref l, .int p, .int v])) (e : H l = some (.lst (cs.map V.int))) : l ≠ a := by
  intro z
  subst z
  rw [h] at e
  cases cs with
  | nil => cases e
  | cons x r => cases e
theorem Pen.put {H : Hp} {a l : Addr} {cs : List Int} {p v q u : Int} (h : H a = some (.lst [.ref l, .int p, .int v])) (e : H l = some (.lst (cs.map V.int))) (hq : 0 ≤ q) : Pen (upd H a (.lst [.ref l, .int q, .int u])) a l :=
  ⟨cs, q, u, upd_same, by rw [upd_ne (Pen.ne h e)]; exact e, hq⟩
theorem Pen.same {H H' : Hp} {a l : Addr} (p : Pen H a l) (s : Same H H') : Pen H' a l := by
  obtain ⟨cs, q, v, h1, h2, h3⟩ := p
  exact ⟨cs, q, v, s _ _ h1, s _ _ h2, h3⟩
theorem dpInts {K : PySem.W.Frag} {H : Hp} : ∀ ns : List Int, DpAll K H (ns.map V.int) (ns.map PyData.int)
  | [] => .nil
  | n :: r => .cons (.int n) (dpInts r)
theorem cut_to {α : Type} (xs : List V) (n : Nat) : ∃ m, cutV xs none (some (n : Int)) = xs.take m := ⟨_, by unfold cutV; rw [HT.sIx_none]; rfl⟩
/-- a row without the zeros at its end -/
def strip (l : List Int) : List Int := (l.reverse.dropWhile (· == 0)).reverse
theorem strip_nil : strip [] = [] := rfl
theorem strip_zero (l : List Int) : strip (l ++ [0]) = strip l := by
  unfold strip
  rw [List.reverse_append]
  rfl
theorem strip_last {l : List Int} {z : Int} (h : z ≠ 0) : strip (l ++ [z]) = l ++ [z] := by
  unfold strip
  rw [List.reverse_append]
  show (List.dropWhile (· == 0) (z :: l.reverse)).reverse = _
  rw [List.dropWhile_cons_of_neg (by simpa using h), List.reverse_cons, List.reverse_reverse]
theorem strip_mem {l : List Int} {c : Int} (h : c ∈ strip l) : c ∈ l := by
  unfold strip at h
  rw [List.mem_reverse] at h
  exact List.mem_reverse.mp ((List.dropWhile_sublist _).subset h)
theorem strip_len (l : List Int) : (strip l).length ≤ l.length := by
  unfold strip
  rw [List.length_reverse]
  have := (List.dropWhile_sublist (· == 0) (l := l.reverse)).length_le
  rwa [List.length_reverse] at this
theorem strip_strip (l : List Int) : strip (strip l) = strip l := by
  rcases List.eq_nil_or_concat (strip l) with e | ⟨r, z, e⟩
  · rw [e]; rfl
  · rw [List.concat_eq_append] at e
    by_cases h : z = 0
    · exfalso
      have e2 : l.reverse.dropWhile (· == 0) = z :: r.reverse := by
        have := congrArg List.reverse e
        unfold strip at this
        rw [List.reverse_reverse, List.reverse_append] at this
        exact this
      have := List.head?_dropWhile_not (p := fun x : Int => x == 0) (l := l.reverse)
      rw [e2] at this
      simp [h] at this
    · rw [e, strip_last h]
theorem eqv_nil : ∀ {xs : List Int}, xs ≠ [] → (!PyData.eqv (.list (xs.map PyData.int)) (.list [])) = true
  | [], h => absurd rfl h
  | _ :: _, _ => rfl
structure Names (mg : Str → Option Value) : Prop where
  list : mg "list" = none
  tuple : mg "tuple" = none
  len : mg "len" = none
  range : mg "range" = none
structure Def (K : PySem.W.Frag) (mg : Str → Option Value) (x : Str) (f : Addr) (fd : FuncData) (ps : List Str) : Prop where
  is : mg x = some (.ref f)
  kp : PySem.W.keepIn K (.ref f) = true
  bi : Binds K fd ps []
theorem Pen.apart {H : Hp} {a l e : Addr} (p : Pen H a l) (h : H e = none) : e ≠ a ∧ e ≠ l := by
  obtain ⟨cs, pos, val, ha, hl, _⟩ := p
  exact ⟨(ne_of_none ha h).symm, (ne_of_none hl h).symm⟩
theorem Pen.notTup {H : Hp} {a l e : Addr} {xs : List V} (p : Pen H a l) (h : H e = some (.tup xs)) : e ≠ a := by
  obtain ⟨cs, pos, val, ha, hl, _⟩ := p
  rintro rfl
  rw [ha] at h
  cases h
theorem But.mem {a p : Addr} {H H' : Hp} {o : HO} (b : But a H H') (n : p ≠ a) (e : H p = some o) : H' p = some o := b p o e n
/-- what follows a value, once for all ways to it -/
theorem asg_tail {te : TE} {g : TG} {D : Ends} {σ : L2.St} {H : Hp} (W : V → Hp → Prop) (tail : ∀ v H', W v H' → g v σ H' D.nx) (go : (∀ v H', W v H' → g v σ H' D.nx) → te σ H fun x H1 => g x σ H1 D.nx) : tAsg te g D σ H := go tail
theorem log_le {b : Int} (h : b.natAbs < 2 ^ 100) : b.natAbs.log2 < 9000 := Nat.lt_of_lt_of_le (PySem.Flt.log2_lt_of (k := 100) (by decide) h) (by decide)
section
variable {P : Program} {w : World} {K : PySem.W.Frag} {mg : Str → Option Value} {base : Heap}
/-! ### the pen -/
def spPen (K : PySem.W.Frag) : Sp := fun vs H Q _ => ∃ (s : Addr) (ns : List Int), vs = [.ref s] ∧ SqL K H s (ns.map V.int) ∧ ns.length ≤ 63 ∧ ∀ p l H', Same H H' → H p = none → H l = none → Pen H' p l → Q (.ref p) H'
theorem scPen : FnScope ["script"] ["script"] (defScope sPen) := ⟨rfl, rfl, rfl, by decide +kernel, rfl, by decide +kernel, by decide +kernel⟩
theorem ok_pen {f : Addr} {fd : FuncData} (F : Fun K "_law_pen" "_law_pen" sPen f fd) (T : Names mg) : FnOk P w K mg base CX0 1 f fd ["script"] (spPen K) := by
  refine F.ok scPen (fun vs H Q E h => ?_) (fun cdv A outer s H vs Q E hr h => ?_)
  · obtain ⟨a, ns, rfl, _⟩ := h
    rfl
  · obtain ⟨a, ns, rfl, hS, hlen, q⟩ := h
    refine ⟨_, pss_one (ps_ret (pe_lst (pa_cons (pe_callTy call_list_of (by rfl) T.list (by decide +kernel) (pa_cons (pe_slice sl_list (pv 0) po_none (po_some pe_int)) pa_nil)) (pa_cons pe_int (pa_cons pe_int pa_nil))))), ?_⟩
    refine ⟨.ref a, rfl, 63, rfl, a, _, rfl, hS, fun c nc => ?_⟩
    refine ⟨c, _, rfl, .inl (.inl (.inl upd_same)), fun l nl => ?_⟩
    refine ⟨by show 3 ≤ sizeLine; decide, fun p np => ?_⟩
    obtain ⟨m, em⟩ := cut_to (α := Int) (ns.map V.int) 63
    have em : cutV (ns.map V.int) none (some 63) = (ns.map V.int).take m := em
    have lp : l ≠ p := ne_of_none upd_same np
    have h1 := (Same.trans (Same.upd (o := .lst (cutV (ns.map V.int) none (some 63))) nc) (Same.trans (Same.upd (o := .lst (cutV (ns.map V.int) none (some 63))) nl) (Same.upd (o := .lst [.ref l, .int 0, .int 0]) np)))
    refine q p l _ h1 (Same.free (Same.trans (Same.upd nc) (Same.upd nl)) np) (Same.free (Same.upd nc) nl) ⟨ns.take m, 0, 0, upd_same, ?_, by decide⟩
    rw [upd_ne lp, upd_same, em, List.map_take]
/-! ### a fresh number -/
def spFresh : Sp := fun vs H Q _ => ∃ (a l : Addr), vs = [.ref a] ∧ Pen H a l ∧ ∀ (v : Int) H', But a H H' → Pen H' a l → Q (.int v) H'
theorem scFresh : FnScope ["pen", "at", "cell", "p", "one", "found", "turn"] ["pen"] (defScope sFresh) := ⟨rfl, rfl, rfl, by decide +kernel, rfl, by decide +kernel, by decide +kernel⟩
theorem ok_fresh {f : Addr} {fd : FuncData} (F : Fun K "_law_fresh" "_law_fresh" sFresh f fd) (T : Names mg) : FnOk P w K mg base CX0 1 f fd ["pen"] spFresh := by
  refine F.ok scFresh (fun vs H Q E h => ?_) (fun cdv A outer s H vs Q E hr h => ?_)
  · obtain ⟨a, l, rfl, _⟩ := h
    rfl
  · obtain ⟨a, l, rfl, ⟨cs, pos, val, ha, hl, hp⟩, q⟩ := h
    have hu : A.units + 3 + 64 < cLine := hr.units
    refine ⟨_, pss_cons (ps_set (i := 1) scFresh.nd rfl (.inl rfl) (pe_ix ix_list (pv 0) pe_int (fun _ _ => rfl)))
      (pss_cons (ps_asg (pe_op op_add (pv 1) pe_int) (pg_sub (pv 0) pe_int set_list))
      (pss_cons (ps_set (i := 2) scFresh.nd rfl (.inl rfl) pe_int)
      (pss_cons (ps_if (pt_cmpR (op_neD hu) (pe_ix ix_list (pv 0) pe_int (fun _ _ => rfl)) (pe_lst pa_nil) (nomark _))
        (pss_one (ps_set (i := 2) scFresh.nd rfl (.inl rfl) (pe_ix ix_list (pe_ix ix_list (pv 0) pe_int (fun _ _ => rfl)) (pe_op op_mod (pv 1) (pe_callB call_len_seq (by rfl) T.len PySem.boot_len (pa_cons (pe_ix ix_list (pv 0) pe_int (fun _ _ => rfl)) pa_nil))) (fun _ _ => rfl)))) pss_nil)
      (pss_cons (ps_if (PW.pt (pw_and (pt_cmpR op_lt (pv 1) (pe_callB call_len_seq (by rfl) T.len PySem.boot_len (pa_cons (pe_ix ix_list (pv 0) pe_int (fun _ _ => rfl)) pa_nil)) (nomark _)) (pw_and1 (pt_cmpR op_ge (pv 2) (pe_op op_pow pe_int pe_int) (nomark _)))))
        (pss_one (ps_ret (pe_op op_sub (pv 2) (pe_op op_pow pe_int pe_int)))) pss_nil)
      (pss_cons (ps_set (i := 3) scFresh.nd rfl (.inl rfl) pe_int)
      (pss_cons (ps_set (i := 4) scFresh.nd rfl (.inl rfl) (pe_op op_mod (pe_op op_add (pe_op op_add (pe_op op_mul (pv 2) pe_int) (pe_op op_mul pe_int (pv 1))) pe_int) (pv 3)))
      (pss_cons (ps_set (i := 5) scFresh.nd rfl (.inl rfl) (pv 4))
      (pss_cons (ps_for PassesOwn.never rfl (pi_range1 rfl T.range (pa_cons pe_int pa_nil)) (pg_name (i := 6) scFresh.nd rfl (.inl rfl))
        (pss_cons (ps_set (i := 4) scFresh.nd rfl (.inl rfl) (pe_op op_mod (pe_op op_add (pe_op op_add (pe_op op_mul (pv 4) (pv 4)) (pe_op op_mul (pe_op op_mul pe_int (pe_op op_add (pv 6) pe_int)) (pe_op op_add (pv 1) pe_int))) (pv 2)) (pv 3)))
        (pss_one (ps_set (i := 5) scFresh.nd rfl (.inl rfl) (pe_op op_add (pe_op op_mul (pv 5) (pv 3)) (pv 4))))))
      (pss_one (ps_ret (pv 5))))))))))), ?_⟩
    -- position = pen[1]; pen[1] = position + 1; cell = 0
    refine ⟨.ref a, rfl, a, _, 1, .int pos, rfl, rfl, SqL.of ha, atI_nat (j := 1) rfl, ?_⟩
    refine ⟨_, rfl, _, _, rfl, rfl, .ref a, rfl, a, _, 1, 1, rfl, rfl, ha, rfl, ?_⟩
    have ha1 : upd H a (.lst [.ref l, .int (pos + 1), .int val]) a = some (.lst [.ref l, .int (pos + 1), .int val]) := upd_same
    have hl1 : upd H a (.lst [.ref l, .int (pos + 1), .int val]) l = some (.lst (cs.map V.int)) := by
      rw [upd_ne (Pen.ne ha hl)]
      exact hl
    have b1 : But a H (upd H a (.lst [.ref l, .int (pos + 1), .int val])) := But.put
    change (_ : Hp → Prop) (upd H a (.lst [.ref l, .int (pos + 1), .int val]))
    generalize upd H a (.lst [.ref l, .int (pos + 1), .int val]) = H1 at ha1 hl1 b1 ⊢
    -- if pen[0] != []
    have ec : cs = [] ∨ ∃ x r, cs = x :: r := by
      cases cs with
      | nil => exact .inl rfl
      | cons x r => exact .inr ⟨x, r, rfl⟩
    dsimp only
    refine on (put_c ?_)
    dsimp only
    refine on (if_tail (fun σ H' => ∃ cell : Int, σ = [some (V.ref a), some (V.int pos), some (V.int cell), none, none, none, none] ∧ Same H1 H') ?_ (fun t => ?_))
    rotate_left
    · refine ⟨.ref a, rfl, a, _, 0, .ref l, rfl, rfl, SqL.of ha1, atI_nat (j := 0) rfl, Nat.zero_le _, fun e0 ne0 => ?_⟩
      have s2 : Same H1 (upd H1 e0 (.lst [])) := Same.upd ne0
      have ha2 := s2 _ _ ha1
      have hl2 := s2 _ _ hl1
      have d0 : Dp K (upd H1 e0 (.lst [])) (.ref e0) (.list []) := .lst (SqL.of upd_same) .nil
      generalize upd H1 e0 (.lst []) = H2 at s2 ha2 hl2 d0 ⊢
      refine ⟨.list (cs.map PyData.int), .list [], .lst (SqL.of hl2) (dpInts cs), d0, PySem.W.ke_shaped_ints cs, rfl, _, rfl, ?_⟩
      rcases ec with rfl | ⟨x, r, rfl⟩
      · exact iteF (t _ _ ⟨0, rfl, s2⟩)
      · refine iteT ?_
        have hpos : pos % (((x :: r).length : Nat) : Int) < ((x :: r).length : Nat) ∧ 0 ≤ pos % (((x :: r).length : Nat) : Int) := by
          have : (0 : Int) < ((x :: r).length : Nat) := by rw [List.length_cons]; omega
          exact ⟨Int.emod_lt_of_pos _ this, Int.emod_nonneg _ (by omega)⟩
        obtain ⟨j, ej⟩ : ∃ j : Nat, pos % (((x :: r).length : Nat) : Int) = (j : Int) := ⟨(pos % (((x :: r).length : Nat) : Int)).toNat, by omega⟩
        have hj : j < (x :: r).length := by omega
        refine ⟨.ref a, rfl, a, _, 0, .ref l, rfl, rfl, SqL.of ha2, atI_nat (j := 0) rfl, .int pos, rfl, .ref a, rfl, a, _, 0, .ref l, rfl, rfl, SqL.of ha2, atI_nat (j := 0) rfl, l, _, rfl, .inl (SqL.of hl2), _, _, rfl, rfl, ?_, ?_⟩
        · show (0 : Int) < _
          rw [List.length_map, List.length_cons]
          omega
        · refine ⟨l, _, _, .int (x :: r)[j], rfl, rfl, SqL.of hl2, ?_, t _ _ ⟨_, rfl, s2⟩⟩
          rw [List.length_map, ej]
          exact atI_nat (by rw [List.getElem?_map, List.getElem?_eq_getElem hj]; rfl)
    · rintro σ H' ⟨cell, rfl, s2⟩
      have ha2 := s2 _ _ ha1
      have hl2 := s2 _ _ hl1
      have b2 : But a H H' := b1.trans (But.of s2)
      have p2 : Pen H' a l := ⟨cs, pos + 1, val, ha2, hl2, by omega⟩
      -- if position < len(pen[0]) and cell >= 10 ** 18: return cell - 10 ** 18
      dsimp only
      refine on (if_tail (fun σ H3 => σ = [some (V.ref a), some (V.int pos), some (V.int cell), none, none, none, none] ∧ H3 = H') ?_ (fun t => ?_))
      rotate_left
      · refine ⟨_, rfl, .ref a, rfl, a, _, 0, .ref l, rfl, rfl, SqL.of ha2, atI_nat (j := 0) rfl, l, _, rfl, .inl (SqL.of hl2), _, _, rfl, rfl, _, rfl, ite2 (fun _ => ?_) (fun _ => iteF (t _ _ ⟨rfl, rfl⟩))⟩
        refine ⟨_, rfl, _, _, rfl, rfl, ⟨by decide, by decide, by decide⟩, _, _, rfl, rfl, _, rfl, ite2 (fun _ => ?_) (fun _ => t _ _ ⟨rfl, rfl⟩)⟩
        exact ⟨_, rfl, _, _, rfl, rfl, ⟨by decide, by decide, by decide⟩, _, _, rfl, rfl, q _ _ b2 p2⟩
      · rintro σ H3 ⟨rfl, rfl⟩
        -- state, mixed, the six turns
        refine ⟨_, rfl, _, _, rfl, rfl, .inr ⟨by decide, by decide⟩, _, rfl, _, _, rfl, rfl, .inl ⟨by decide, by decide⟩, _, _, rfl, rfl, _, _, rfl, rfl, _, rfl, _, _, rfl, rfl, (by show (0 : Int) < 2305843009213693951; decide), _, rfl,
          6, rfl, by decide, by decide, for_range (lo := 0) (n := 6) (fun i σ H4 => ∃ (st mx : Int) (v : Option V), σ = [some (V.ref a), some (V.int pos), some (V.int cell), some (V.int 2305843009213693951), some (V.int st), some (V.int mx), v] ∧ H4 = H3 ∧ 0 ≤ st ∧ st < 2305843009213693951)
            ⟨_, _, none, rfl, rfl, Int.emod_nonneg _ (by decide), Int.emod_lt_of_pos _ (by decide)⟩ ?_ ?_⟩
        · rintro i σ H4 hi ⟨st, mx, v, rfl, rfl, h0, h1⟩
          refine ⟨_, rfl, _, rfl, _, _, rfl, rfl, .inl ⟨by omega, by omega⟩, _, rfl, _, _, rfl, rfl, _, _, rfl, rfl, .inl ⟨by decide, by decide⟩, _, rfl, _, _, rfl, rfl, _, _, rfl, rfl, .inl ⟨by show -(2 ^ 64) < (69621 : Int) * (0 + (i : Int) + 1); omega, by show (69621 : Int) * (0 + (i : Int) + 1) < 2 ^ 64; omega⟩, _, _, rfl, rfl,
            _, rfl, _, _, rfl, rfl, _, rfl, _, _, rfl, rfl, (by show (0 : Int) < 2305843009213693951; decide), _, rfl, _, rfl, _, _, rfl, rfl, .inr ⟨by decide, by decide⟩, _, rfl, _, _, rfl, rfl, ?_⟩
          exact ⟨_, _, _, rfl, rfl, Int.emod_nonneg _ (by decide), Int.emod_lt_of_pos _ (by decide)⟩
        · rintro σ H4 ⟨st, mx, v, rfl, rfl, h0, h1⟩
          exact ⟨_, rfl, q _ _ b2 p2⟩
/-! ### a number below a bound -/
def spDraw : Sp := fun vs H Q _ => ∃ (a l : Addr) (b : Int), vs = [.ref a, .int b] ∧ Pen H a l ∧ 0 < b ∧ b.natAbs.log2 < 9000 ∧ ∀ (d : Int) H', 0 ≤ d → d < b → But a H H' → Pen H' a l → Q (.int d) H'
theorem scDraw : FnScope ["pen", "many", "digit"] ["pen", "many"] (defScope sDraw) := ⟨rfl, rfl, rfl, by decide +kernel, rfl, by decide +kernel, by decide +kernel⟩
theorem ok_draw {f g : Addr} {fd gd : FuncData} (F : Fun K "_law_draw" "_law_draw" sDraw f fd) (GF : FnOk P w K mg base CX0 1 g gd ["pen"] spFresh) (mF : mg "_law_fresh" = some (.ref g)) (kF : PySem.W.keepIn K (.ref g) = true) (bF : Binds K gd ["pen"] []) :
    FnOk P w K mg base CX0 2 f fd ["pen", "many"] spDraw := by
  refine F.ok scDraw (fun vs H Q E h => ?_) (fun cdv A outer s H vs Q E hr h => ?_)
  · obtain ⟨a, l, b, rfl, _⟩ := h
    rfl
  · obtain ⟨a, l, b, rfl, pn, hb, hb2, q⟩ := h
    refine ⟨_, pss_cons (ps_if (pt_cmpR op_lt (pe_ix ix_list (pv 0) pe_int (fun _ _ => rfl)) (pv 1) (nomark _))
        (pss_one (ps_asg (pe_call GF hr (by rfl) mF kF bF .nil pass0 (pa_cons (pv 0) pa_nil)) (pg_sub (pv 0) pe_int set_list))) pss_nil)
      (pss_cons (ps_set (i := 2) scDraw.nd rfl (.inl rfl) (pe_op op_mod (pe_ix ix_list (pv 0) pe_int (fun _ _ => rfl)) (pv 1)))
      (pss_cons (ps_asg (pe_op op_fdivW (pe_ix ix_list (pv 0) pe_int (fun _ _ => rfl)) (pv 1)) (pg_sub (pv 0) pe_int set_list))
      (pss_one (ps_ret (pv 2))))), ?_⟩
    refine on (if_tail (fun σ H' => σ = [some (V.ref a), some (V.int b), none] ∧ Pen H' a l ∧ But a H H') ?_ (fun t => ?_))
    rotate_left
    · obtain ⟨cs, pos, val, ha, hl, hp⟩ := id pn
      refine ⟨.ref a, rfl, a, _, 2, .int val, rfl, rfl, SqL.of ha, atI_nat (j := 2) rfl, _, rfl, _, _, rfl, rfl, _, rfl, ite2 (fun _ => ?_) (fun _ => t _ _ ⟨rfl, pn, But.refl _ _⟩)⟩
      refine ⟨.ref a, rfl, a, l, rfl, pn, fun v H1 b1 p1 => ?_⟩
      obtain ⟨cs, pos, val, ha, hl, hp⟩ := p1
      exact ⟨.ref a, rfl, a, _, 2, 2, rfl, rfl, ha, rfl, t _ _ ⟨rfl, Pen.put ha hl hp, b1.trans But.put⟩⟩
    · rintro σ H1 ⟨rfl, ⟨cs, pos, val, ha, hl, hp⟩, b1⟩
      refine ⟨.ref a, rfl, a, _, 2, .int val, rfl, rfl, SqL.of ha, atI_nat (j := 2) rfl, _, rfl, _, _, rfl, rfl, hb, .ref a, rfl, a, _, 2, .int val, rfl, rfl, SqL.of ha, atI_nat (j := 2) rfl, _, rfl, _, _, rfl, rfl, ⟨hb, hb2⟩, .ref a, rfl, a, _, 2, 2, rfl, rfl, ha, rfl, _, rfl, ?_⟩
      exact q _ _ (Int.emod_nonneg _ (by omega)) (Int.emod_lt_of_pos _ hb) (b1.trans But.put) (Pen.put ha hl hp)
end
end Z

set_option Elab.async false
set_option linter.all false
set_option maxRecDepth 100000
set_option maxHeartbeats 4000000
/-! a comprehension over zip of two lists; binomials -/
namespace ZC
open PySem PySem.Spec PyProof.Rows L2 GG
theorem lc_zL {K : PySem.W.Frag} {a b : Addr} {xs ys : List V} {g : TG} {tt : TT} {te : TE} {vs : List Nat} {σ : L2.St} {H1 : Hp} {D : Addr} {Qd : Hp → Prop} (len : xs.length = ys.length) (Pv : Nat → Hp → Prop) (h0 : Pv 0 (upd H1 D (.lst []))) (hl : ∀ i H, Pv i H → SqL K H a xs ∧ SqL K H b ys)
    (turn : ∀ i x y H T, xs[i]? = some x → ys[i]? = some y → Pv i H → H T = none → g (.ref T) (wipe σ vs) (upd H T (.tup [x, y])) fun σ2 H2 => wipe σ2 vs = wipe σ vs ∧ tt σ2 H2 fun c H3 =>
      if c = true then te σ2 H3 fun y H4 => ∃ acc, H4 D = some (.lst acc) ∧ acc.length < sizeLine ∧ Pv (i + 1) (upd H4 D (.lst (acc ++ [y]))) else Pv (i + 1) H3) (done : ∀ H, Pv xs.length H → Qd H) :
    ∃ W : Nat → Nat → Hp → Prop, (∃ m, W 0 m (upd H1 D (.lst []))) ∧ ∀ i m H, W i m H →
      ((Itz K a b).stop i H ∧ Qd H) ∨ ((Itz K a b).go i H ∧ ∃ Nx : Hp → Prop, (∀ H', Nx H' → ∃ m', m' < m ∧ W (i + 1) m' H') ∧
        ∀ x H', (Itz K a b).yld i H x H' → g x (wipe σ vs) H' fun σ2 H2 => wipe σ2 vs = wipe σ vs ∧ tt σ2 H2 fun c H3 =>
          if c = true then te σ2 H3 fun y H4 => ∃ acc, H4 D = some (.lst acc) ∧ acc.length < sizeLine ∧ Nx (upd H4 D (.lst (acc ++ [y]))) else Nx H3) := by
  refine ⟨fun i m H => m = xs.length - i ∧ i ≤ xs.length ∧ Pv i H, ⟨_, rfl, Nat.zero_le _, h0⟩, ?_⟩
  rintro i m H ⟨rfl, le, pv⟩
  obtain ⟨qx, qy⟩ := hl i H pv
  rcases Nat.lt_or_ge i xs.length with lt | ge
  · have hx : xs[i]? = some xs[i] := List.getElem?_eq_getElem lt
    have lt2 : i < ys.length := by omega
    have hy : ys[i]? = some ys[i] := List.getElem?_eq_getElem lt2
    refine .inr ⟨⟨xs, ys, _, _, qx, qy, hx, hy⟩, Pv (i + 1), fun H' n => ⟨xs.length - (i + 1), by omega, rfl, lt, n⟩, ?_⟩
    rintro v H' ⟨T, x, y, rfl, nT, rfl, f1, f2⟩
    exact turn i x y H T (f1 xs qx) (f2 ys qy) pv nT
  · have e : i = xs.length := by omega
    subst e
    exact .inl ⟨⟨xs, ys, qx, qy, .inl (Nat.le_refl _)⟩, done H pv⟩

/-- the binomial number -/
def ch : Nat → Nat → Nat
  | _, 0 => 1
  | 0, _ + 1 => 0
  | n + 1, k + 1 => ch n k + ch n (k + 1)
theorem ch_over : ∀ (n k : Nat), n < k → ch n k = 0
  | 0, k + 1, _ => rfl
  | n + 1, k + 1, h => by
    show ch n k + ch n (k + 1) = 0
    rw [ch_over n k (by omega), ch_over n (k + 1) (by omega)]
theorem ch_zero (n : Nat) : ch n 0 = 1 := by cases n <;> rfl
theorem ch_le : ∀ (n k : Nat), ch n k ≤ 2 ^ n
  | n, 0 => by
    rw [ch_zero]
    exact Nat.one_le_two_pow
  | 0, k + 1 => Nat.zero_le _
  | n + 1, k + 1 => by
    show ch n k + ch n (k + 1) ≤ 2 ^ (n + 1)
    have := ch_le n k
    have := ch_le n (k + 1)
    rw [Nat.pow_succ]
    omega
def bin (n : Nat) : List Int := (List.range (n + 1)).map fun k => (ch n k : Int)
theorem bin_len (n : Nat) : (bin n).length = n + 1 := by simp [bin]
theorem bin_get {n k : Nat} (h : k ≤ n) : (bin n)[k]? = some (ch n k : Int) := by
  unfold bin
  rw [List.getElem?_map, List.getElem?_range (by omega)]
  rfl
/-- the two summands at a place -/
theorem bin_left {n k : Nat} (h : k ≤ n + 1) : (bin n ++ [0])[k]? = some (ch n k : Int) := by
  rcases Nat.lt_or_ge k (n + 1) with lt | ge
  · rw [List.getElem?_append_left (by rw [bin_len]; exact lt), bin_get (by omega)]
  · have e : k = n + 1 := by omega
    subst e
    rw [List.getElem?_append_right (by rw [bin_len]; exact Nat.le_refl _), bin_len, Nat.sub_self, ch_over n (n + 1) (by omega)]
    rfl
def low (n : Nat) : Nat → Int
  | 0 => 0
  | j + 1 => (ch n j : Int)
theorem bin_right {n k : Nat} (h : k ≤ n + 1) : ((0 : Int) :: bin n)[k]? = some (low n k) := by
  cases k with
  | zero => rfl
  | succ j =>
    rw [List.getElem?_cons_succ, bin_get (by omega)]
    rfl
theorem bin_step (n k : Nat) : (ch (n + 1) k : Int) = (ch n k : Int) + low n k := by
  cases k with
  | zero => simp [ch_zero, low]
  | succ j =>
    show ((ch n j + ch n (j + 1) : Nat) : Int) = _
    rw [Int.natCast_add]
    exact Int.add_comm _ _
end ZC

set_option Elab.async false
set_option linter.all false
set_option maxRecDepth 100000
set_option maxHeartbeats 4000000
/-! math.comb -/
namespace CM
open PySem PySem.Spec PyProof.Rows L2 GG ZC
theorem fp_left (n : Int) : ∀ k : Nat, Builtin.Math.fallingProduct (n + 1) (k + 1) = (n + 1) * Builtin.Math.fallingProduct n k
  | 0 => by
    rw [PySem.W.mc_fp_succ, PySem.W.mc_fp_zero, PySem.W.mc_fp_zero]
    simp
  | k + 1 => by
    rw [PySem.W.mc_fp_succ (n + 1) (k + 1), fp_left n k, PySem.W.mc_fp_succ n k, Int.mul_assoc]
    congr 2
    omega
theorem ch_abs : ∀ n k : Nat, (k + 1) * ch (n + 1) (k + 1) = (n + 1) * ch n k
  | 0, 0 => rfl
  | 0, k + 1 => by
    show (k + 1 + 1) * (ch 0 (k + 1) + ch 0 (k + 1 + 1)) = (0 + 1) * 0
    show (k + 1 + 1) * (0 + 0) = (0 + 1) * 0
    simp
  | n + 1, 0 => by
    have h := ch_abs n 0
    have e : ch (n + 1 + 1) (0 + 1) = ch (n + 1) 0 + ch (n + 1) (0 + 1) := rfl
    rw [e, ch_zero]
    rw [ch_zero] at h
    omega
  | n + 1, k + 1 => by
    have h1 := ch_abs n k
    have h2 := ch_abs n (k + 1)
    have e1 : ch (n + 1 + 1) (k + 1 + 1) = ch (n + 1) (k + 1) + ch (n + 1) (k + 1 + 1) := rfl
    have e2 : ch (n + 1) (k + 1) = ch n k + ch n (k + 1) := rfl
    have e3 : (n + 1) * ch (n + 1) (k + 1) = (n + 1) * ch n k + (n + 1) * ch n (k + 1) := by rw [e2, Nat.mul_add]
    rw [e1, Nat.mul_add, h2, Nat.add_mul (k + 1) 1, h1, Nat.one_mul, Nat.add_mul (n + 1) 1, Nat.one_mul]
    omega
theorem ch_fp : ∀ k n : Nat, k ≤ n → (ch n k : Int) * Builtin.Math.fallingProduct k k = Builtin.Math.fallingProduct n k
  | 0, n, _ => by
    rw [ch_zero, PySem.W.mc_fp_zero, PySem.W.mc_fp_zero]
    rfl
  | k + 1, 0, h => by omega
  | k + 1, n + 1, h => by
    have ih := ch_fp k n (by omega)
    have e := congrArg (Nat.cast (R := Int)) (ch_abs n k)
    rw [Int.natCast_mul, Int.natCast_mul] at e
    have l1 : Builtin.Math.fallingProduct ((k + 1 : Nat) : Int) (k + 1) = ((k + 1 : Nat) : Int) * Builtin.Math.fallingProduct k k := by rw [Int.natCast_add]; exact fp_left _ k
    have l2 : Builtin.Math.fallingProduct ((n + 1 : Nat) : Int) (k + 1) = ((n + 1 : Nat) : Int) * Builtin.Math.fallingProduct n k := by rw [Int.natCast_add]; exact fp_left _ k
    rw [l1, l2, ← Int.mul_assoc, Int.mul_comm (ch (n + 1) (k + 1) : Int), e, Int.mul_assoc, ih]
theorem ch_self : ∀ n : Nat, ch n n = 1
  | 0 => rfl
  | n + 1 => by
    show ch n n + ch n (n + 1) = 1
    rw [ch_self n, ch_over n (n + 1) (by omega)]
theorem ch_sym : ∀ s a b : Nat, a + b = s → ch s a = ch s b
  | 0, a, b, h => by
    have e : a = 0 ∧ b = 0 := by omega
    rw [e.1, e.2]
  | s + 1, 0, b, h => by
    have e : b = s + 1 := by omega
    rw [e, ch_zero, ch_self]
  | s + 1, a + 1, 0, h => by
    have e : a = s := by omega
    rw [e, ch_zero, ch_self]
  | s + 1, a + 1, b + 1, h => by
    show ch s a + ch s (a + 1) = ch s b + ch s (b + 1)
    rw [ch_sym s a (b + 1) (by omega), ch_sym s (a + 1) b (by omega), Nat.add_comm]
theorem comb_ch (n k : Nat) : PySem.W.mcComb n k = ch n k := by
  rcases Nat.lt_or_ge n k with lt | le
  · rw [PySem.W.mcComb_above (by omega), ch_over n k lt]
    rfl
  · have go : ∀ m : Nat, m ≤ n → (Builtin.Math.fallingProduct n m / Builtin.Math.fallingProduct m m : Int) = ch n m := by
      intro m hm
      have h := ch_fp m n hm
      have p := PySem.W.mc_fp_pos (n := (m : Int)) m (Int.le_refl _)
      show (Builtin.Math.fallingProduct n m / Builtin.Math.fallingProduct m m : Int) = _
      rw [← h]
      exact Int.mul_ediv_cancel _ (by show Builtin.Math.fallingProduct m m ≠ 0; have : 1 ≤ Builtin.Math.fallingProduct m m := p; omega)
    rcases Nat.le_total k (n - k) with q | q
    · rw [PySem.W.mcComb_at (m := (k : Int)) (by omega) (by omega) (by omega), Int.toNat_natCast]
      exact go k le
    · rw [PySem.W.mcComb_at (m := ((n - k : Nat) : Int)) (by omega) (by omega) (by omega), Int.toNat_natCast, go _ (by omega)]
      rw [ch_sym n (n - k) k (by omega)]
section
variable {X : Cx}
def rComb : List V → Hp → VK → Prop := fun vs H Q => ∃ n k : Nat, vs = [.int (n : Nat), .int (k : Nat)] ∧ n ≤ 1000 ∧ Q (.int (ch n k : Nat)) H
theorem cr_comb : CallR X (.builtin "math.comb") rComb := by
  intro pins s σ H vs us Q I r h
  obtain ⟨n, k, rfl, hn, q⟩ := h
  obtain ⟨t, u, rfl⟩ := Vals.int2 r
  exact PySem.W.mc_comb_v (by omega) (by omega) (by omega) (.inr (by omega)) (comb_ch n k) ⟨.int _, H, I.tok _, ⟨_, rfl⟩, q⟩
end
end CM

set_option Elab.async false
set_option linter.all false
set_option maxRecDepth 100000
/-! a chain of three comparisons, as a test -/
namespace CH3
open PySem PySem.Spec PyProof.Rows L2 GG
variable {X : Cx} {a b c d : Expr} {ta tb tc td : TE} {pos : Pos}
def tChain3 (r r' r'' : R2) (ta tb tc td : TE) : TT := fun σ H Q => ta σ H fun x H1 => tb σ H1 fun y H2 => r x y H2 fun z H3 => ∃ k, z = .bl k ∧
  (if k = true then tc σ H3 fun w H4 => r' y w H4 fun z2 H5 => ∃ k2, z2 = .bl k2 ∧ (if k2 = true then td σ H5 fun u H6 => r'' w u H6 fun z3 H7 => ∃ k3, z3 = .bl k3 ∧ Q k3 H7 else Q false H5) else Q false H3)
theorem pt_chain3 {op op' op'' : CmpOp} {r r' r'' : R2} (ho : OpR X (compareOp op) r) (ho' : OpR X (compareOp op') r') (ho'' : OpR X (compareOp op'') r'') (ha : PE X a ta) (hb : PE X b tb) (hc : PE X c tc) (hd : PE X d td)
    (hm : lastMarks [op, op', op''] [b, c, d] = false := by with_unfolding_all rfl) : PT X (.Compare a [op, op', op''] [b, c, d] pos) (tChain3 r r' r'' ta tb tc td) := by
  refine ⟨fun pins s σ H Q I h => ?_⟩
  refine isTrue_chain (thn (ha.run pins s σ H _ I h) fun v s1 ⟨x, H1, I1, r1, q1⟩ => test_link (thn (hb.run pins s1 σ H1 _ I1 q1) fun u s2 ⟨y, H2, I2, r2, q2⟩ =>
    thn (ho pins s2 σ H2 x y v u _ I2 r1 r2 q2) fun d' s3 ⟨z, H3, I3, r3, k, e, q3⟩ => ?_)) hm
  subst e
  cases r3
  refine wpAny_truthy_bool ?_
  cases k with
  | false => exact ite_ff ⟨H3, I3, q3⟩
  | true =>
    refine ite_tt (test_link (thn (hc.run pins s3 σ H3 _ I3 q3) fun w' s4 ⟨z', H4, I4, r4, q4⟩ => thn (ho' pins s4 σ H4 y z' u w' _ I4 r2 r4 q4) fun d2 s5 ⟨z2, H5, I5, r5, k2, e2, q5⟩ => ?_))
    subst e2
    cases r5
    refine wpAny_truthy_bool ?_
    cases k2 with
    | false => exact ite_ff ⟨H5, I5, q5⟩
    | true =>
      refine ite_tt (test_last (thn (hd.run pins s5 σ H5 _ I5 q5) fun w3 s6 ⟨z3, H6, I6, r6, q6⟩ => thn (ho'' pins s6 σ H6 z' z3 w' w3 _ I6 r4 r6 q6) fun d3 s7 ⟨z4, H7, I7, r7, k3, e3, q7⟩ => ?_))
      subst e3
      cases r7
      exact wpAny_truthy_bool ⟨H7, I7, q7⟩
end CH3

set_option Elab.async false
set_option linter.all false
set_option maxRecDepth 100000
set_option maxHeartbeats 4000000
/-! operators and calls that the layer has for fewer numbers -/
namespace OPS
open PySem PySem.Spec PyProof.Rows L2
section
variable {X : Cx}
/-- a divisor of either sign -/
def CDivZ (_ j : Int) : Prop := j ≠ 0 ∧ j.natAbs.log2 < 9000
theorem op_fdivZ : OpR X (binaryOp .FloorDiv) (rI CDivZ fun i j => .int (i.fdiv j)) := opI fun _ _ _ _ _ _ _ c q => floordiv_int c.1 q (.inl (PyProof.noPylong_of_log2 c.2))
theorem call_divmodZ : CallR X (.builtin "divmod") (fun vs H Q => ∃ i j : Int, vs = [.int i, .int j] ∧ CDivZ i j ∧ ∀ p, H p = none → Q (.ref p) (upd H p (.tup [.int (i.fdiv j), .int (i.fmod j)]))) := by
  intro pins s σ H vs us Q I r h
  obtain ⟨i, j, ev, c, q⟩ := h
  subst ev
  obtain ⟨u, v, eu, ⟨t, et⟩, ⟨t', et'⟩⟩ := vals2 r
  subst eu et et'
  apply divmod_int c.1 _ (.inl (PyProof.noPylong_of_log2 c.2))
  have free : H s.heap.objs.size = none := I.hok.fresh (Nat.le_refl _)
  refine ⟨.ref s.heap.objs.size, _, I.laid (fun b o e => Heap.get?_push_of_some _ e) (Nat.le_refl _) ?_, rfl, q _ free⟩
  exact ⟨by show 2 ≤ sizeLine; decide, [.int (i.fdiv j) s.toks, .int (i.fmod j) (s.toks + 1)], .cons ⟨_, rfl⟩ (.cons ⟨_, rfl⟩ .nil), ⟨_, Heap.get?_push_size s.heap rfl, rfl, 0, rfl⟩⟩
/-- xs[i] as read ahead of xs[i] op= .. -/
theorem get_list : PGet X (fun o i H Q => ∃ (p : Addr) (xs : List V) (k : Nat) (v : V), o = .ref p ∧ i = .int (k : Int) ∧ SqL X.K H p xs ∧ xs[k]? = some v ∧ Q v H) := by
  intro pins s σ H o i ov iv Q I ro ri h
  obtain ⟨p, xs, k, v, eo, ei, hq, hv, q⟩ := h
  subst eo ei
  have eov : ov = Value.ref p := ro
  subst eov
  obtain ⟨t, et⟩ := ri
  subst et
  obtain ⟨its, r, pl, hz⟩ := I.list hq
  obtain ⟨u, hu, ru⟩ := r.get hv
  have lt : k < its.length := (List.getElem?_eq_some_iff.mp hu).1
  have hl := r.length
  have hn := line63
  refine wpAny_getItem_list pl.isList (by omega) (by omega) (x := u) (by simpa using hu) ⟨v, H, I, ru, q⟩
/-- any(xs), xs a list of ints -/
def rAnyI (K : PySem.W.Frag) : List V → Hp → VK → Prop := fun vs H Q => ∃ (a : Addr) (ns : List Int), vs = [.ref a] ∧ SqL K H a (ns.map V.int) ∧ Q (.bl (ns.any fun n => n != 0)) H
theorem dpI {K : PySem.W.Frag} {H : Hp} : ∀ ns : List Int, DpAll K H (ns.map V.int) (ns.map PyData.int)
  | [] => .nil
  | n :: r => .cons (.int n) (dpI r)
theorem plain_ints : ∀ ns : List Int, PyData.plainAll (ns.map PyData.int) = true
  | [] => rfl
  | _ :: r => by simp [PyData.plainAll, PyData.plain, plain_ints r]
theorem any_truthy : ∀ ns : List Int, (ns.map PyData.int).any PyData.truthy = ns.any fun n => n != 0
  | [] => rfl
  | n :: r => by simp [PyData.truthy, List.any_map]; rfl
theorem call_anyI (calm : X.calm = true) : CallR X (.builtin "any") (rAnyI X.K) := by
  intro pins s σ H vs us Q I r h
  obtain ⟨a, ns, ev, hs, q⟩ := h
  subst ev
  rw [Vals.ref1 r]
  obtain ⟨as, reads⟩ := Dp.reads I (.list (ns.map PyData.int)) (.ref a) (.ref a) (.lst hs (dpI ns)) rfl
  obtain ⟨its, rv, hl, _⟩ := I.list hs
  cases reads with
  | list hg hc hd hr =>
    rename_i o vs n bs
    refine PySem.W.any_list_data (vs := vs) (I.ok.hd calm) ⟨_, hg, hc, _, hd⟩ hr (plain_ints ns) (fun x hx => ?_) fun h' tk hk => ?_
    · obtain ⟨n, _, rfl⟩ := List.mem_map.mp hx
      trivial
    · exact ⟨.bl _, H, I.kept hk, by rw [any_truthy]; rfl, q⟩
end
end OPS

set_option Elab.async false
set_option linter.all false
set_option maxRecDepth 100000
/-! any over a tuple of ints; isinstance within comprehensions -/
namespace ANT
open PySem PySem.Spec PyProof.Rows L2 GG OPS
variable {X : Cx}
def rAnyT (K : PySem.W.Frag) : List V → Hp → VK → Prop := fun vs H Q => ∃ (a : Addr) (ns : List Int), vs = [.ref a] ∧ SqT K H a (ns.map V.int) ∧ Q (.bl (ns.any fun n => n != 0)) H
theorem call_anyT (calm : X.calm = true) : CallR X (.builtin "any") (rAnyT X.K) := by
  intro pins s σ H vs us Q I r h
  obtain ⟨a, ns, ev, hs, q⟩ := h
  subst ev
  rw [Vals.ref1 r]
  obtain ⟨as, reads⟩ := Dp.reads I (.tuple (ns.map PyData.int)) (.ref a) (.ref a) (.tup hs (dpI ns)) rfl
  cases reads with
  | tuple hg hc hd hr =>
    rename_i o vs n
    refine PySem.W.any_tuple_data (vs := vs) (I.ok.hd calm) ⟨_, hg, hc, _, hd⟩ hr (plain_ints ns) (fun x hx => ?_) fun h' tk hk => ?_
    · obtain ⟨n, _, rfl⟩ := List.mem_map.mp hx
      trivial
    · exact ⟨.bl _, H, I.kept hk, by rw [any_truthy]; rfl, q⟩
theorem call_isiK {K : PySem.W.Frag} (hK : X.K = K) : CallR X (.builtin "isinstance") (rIsi K) := by
  subst hK
  exact call_isi
end ANT

set_option Elab.async false
set_option linter.all false
set_option maxRecDepth 100000
set_option maxHeartbeats 4000000
/-! data with empty dicts in it, and its text: lists that do not lie at the address of sys.modules -/
namespace TPD
open PySem PySem.Spec PyProof.Rows L2 GG
mutual
inductive Tp (K : PySem.W.Frag) (H : Hp) : V → PyData → Prop
  | non : Tp K H .non .none
  | bl (b : Bool) : Tp K H (.bl b) (.bool b)
  | int (i : Int) : Tp K H (.int i) (.int i)
  | str (x : Str) : Tp K H (.str x) (.str x)
  | lst {a : Addr} {xs : List V} {ds : List PyData} : sysModules < a → SqL K H a xs → TpAll K H xs ds → Tp K H (.ref a) (.list ds)
  | tup {a : Addr} {xs : List V} {ds : List PyData} : SqT K H a xs → TpAll K H xs ds → Tp K H (.ref a) (.tuple ds)
  | dic {a : Addr} : H a = some (.dK []) → Tp K H (.ref a) (.dict [])
inductive TpAll (K : PySem.W.Frag) (H : Hp) : List V → List PyData → Prop
  | nil : TpAll K H [] []
  | cons {v : V} {vs : List V} {d : PyData} {ds : List PyData} : Tp K H v d → TpAll K H vs ds → TpAll K H (v :: vs) (d :: ds)
end
section
variable {X : Cx} {pins : List (Addr × Obj)} {σ : L2.St} {H : Hp} {s : Shared}
mutual
theorem Tp.reads (I : Inv X pins σ H s) : ∀ (d : PyData) (v : V) (u : Value), Tp X.K H v d → RelV v u → ∃ as, Reads s.heap u d as ∧ sysModules ∉ as
  | .none, _, _, h, r => by
    cases h
    cases r
    exact ⟨_, Reads.none, by simp⟩
  | .bool b, _, _, h, r => by
    cases h
    cases r
    exact ⟨_, Reads.bool b, by simp⟩
  | .int i, _, _, h, r => by
    cases h
    obtain ⟨t, rfl⟩ := r
    exact ⟨_, Reads.int i t, by simp⟩
  | .str x, _, _, h, r => by
    cases h
    obtain ⟨t, rfl⟩ := r
    exact ⟨_, Reads.str x t, by simp⟩
  | .list ds, _, _, h, r => by
    cases h with
    | lst hb hs ha =>
      cases r
      obtain ⟨its, rv, ⟨o, n, ho, hc, _, hd⟩, _⟩ := I.list hs
      obtain ⟨as, hr, na⟩ := Tp.readsAll I ds _ its ha rv
      exact ⟨_, Reads.list ho hc hd hr, fun m => by
        rcases List.mem_cons.mp m with e | m
        · rw [← e] at hb
          exact Nat.lt_irrefl _ hb
        · exact na m⟩
  | .tuple ds, _, _, h, r => by
    cases h with
    | tup hs ha =>
      cases r
      obtain ⟨its, rv, ⟨o, ho, hc, n, hd⟩, _⟩ := I.tuple hs
      obtain ⟨as, hr, na⟩ := Tp.readsAll I ds _ its ha rv
      exact ⟨_, Reads.tuple ho hc hd hr, na⟩
  | .dict kvs, _, _, h, r => by
    cases h with
    | @dic a e =>
      cases r
      obtain ⟨_, low, vs, kv, dd⟩ := dk_of I.hok e
      cases kv
      obtain ⟨o, es, ep, ho, ex, hdt, _, pr, _⟩ := dd
      have hl := pr.length
      have e0 : es.toList = [] := List.length_eq_zero_iff.mp hl
      refine ⟨_, Reads.dict ho ex.1 hdt (as := []) (bs := []) (by rw [e0]; exact .nil) (by rw [e0]; exact .nil), fun m => ?_⟩
      have h2 : sysModules = a := by simpa using m
      rw [← h2] at low
      simp at low
theorem Tp.readsAll (I : Inv X pins σ H s) : ∀ (ds : List PyData) (vs : List V) (us : List Value), TpAll X.K H vs ds → Vals vs us → ∃ as, ReadsAll s.heap us ds as ∧ sysModules ∉ as
  | [], _, _, h, r => by
    cases h
    cases r
    exact ⟨_, ReadsAll.nil, by simp⟩
  | d :: ds, _, _, h, r => by
    cases h with
    | cons h1 h2 =>
      cases r with
      | cons r1 r2 =>
        obtain ⟨as, q1, n1⟩ := Tp.reads I d _ _ h1 r1
        obtain ⟨bs, q2, n2⟩ := Tp.readsAll I ds _ _ h2 r2
        exact ⟨_, ReadsAll.cons q1 q2, fun m => by
          rcases List.mem_append.mp m with m | m
          · exact n1 m
          · exact n2 m⟩
end
end
section
variable {X : Cx}
/-- repr of such data -/
structure ShowsT (d : PyData) : Prop where
  s : d.showable = true
  p : d.depth ≤ 50
  z : d.shown.length ≤ sizeLine
def rReprT (K : PySem.W.Frag) : List V → Hp → VK → Prop := fun vs H Q => ∃ (a : Addr) (d : PyData), vs = [.ref a] ∧ Tp K H (.ref a) d ∧ ShowsT d ∧ Q (.str d.shown) H
theorem call_reprT {k : Nat} (hg : X.A.guards = some []) (room : Room k X.A) : CallR X (.builtin "repr") (rReprT X.K) := by
  intro pins s σ H vs us Q I r h
  obtain ⟨a, d, rfl, hd, hs, q⟩ := h
  obtain ⟨u, rfl, ru⟩ := vals1 r
  have eu : u = Value.ref a := ru
  subst eu
  obtain ⟨as, reads, na⟩ := Tp.reads I d (.ref a) (.ref a) hd rfl
  have hu := room.un
  have hp := hs.p
  refine repr_of_reads' reads hs.s (fun _ => na) hg (by omega) (fun _ _ e => e) (fun h' u tk hk => ?_) hs.z
  exact ⟨.str d.shown, H, I.kept hk, ⟨u, rfl⟩, q⟩
/-- [..]: a new list, and where it does not lie -/
def tLstS (t : TA) : TE := fun σ H Q => t σ H fun xs H1 => xs.length ≤ sizeLine ∧ ∀ l, sysModules < l → H1 l = none → Q (.ref l) (upd H1 l (.lst xs))
variable {es : List Expr} {t : TA} {pos : Pos}
theorem pe_lstS (h : PA X es t) : PE X (.List es pos) (tLstS t) := by
  refine ⟨fun pins s σ H Q I hq => ?_⟩
  refine wpAny_List_spliced (thn (h.run pos pins s σ H _ I hq) fun us s1 ⟨xs, H1, I1, r, z, q⟩ => ⟨by rw [← r.length]; exact z, ?_⟩)
  have hf : H1 s1.heap.objs.size = none := I1.hok.fresh (Nat.le_refl _)
  refine ⟨.ref s1.heap.objs.size, upd H1 s1.heap.objs.size (.lst xs), I1.laid (t' := s1.toks) (fun b u e => Heap.get?_push_of_some _ e) (Nat.le_refl _) ?_, rfl, q _ I1.big hf⟩
  exact ⟨z, us, 0, r, Heap.get?_push_size _ rfl⟩
/-- list(x): a new list, and where it does not lie -/
theorem call_listS : CallR X (.type "list") (fun xs H Q => ∃ p ys, xs = [.ref p] ∧ (SqL X.K H p ys ∨ SqT X.K H p ys) ∧ ∀ l, sysModules < l → H l = none → Q (.ref l) (upd H l (.lst ys))) := by
  intro pins s σ H xs us Q I r h
  obtain ⟨p, ys, rfl, hq, q⟩ := h
  obtain ⟨u, rfl, rx⟩ := vals1 r
  cases rx
  have fin : ∀ (its : List Value), Vals ys its → ys.length ≤ sizeLine → ∀ (h' : Heap) (c' : Nat), (∀ b o', s.heap.get? b = some o' → h'.get? b = some o') →
      h'.get? s.heap.objs.size = some { cls := .type "list", dict := none, data := .seq its.toArray c', slots := #[] } → EP X pins σ Q (.ref s.heap.objs.size) { s with heap := h' } := fun its r' hz h' c' kp e =>
    ⟨.ref s.heap.objs.size, _, I.laid (t' := s.toks) kp (Nat.le_refl _) (show ObjOk X.prog X.w _ h' _ (.lst ys) from ⟨hz, its, c', r', e⟩), rfl, q _ I.big (I.hok.fresh (Nat.le_refl _))⟩
  rcases hq with hq | hq
  · obtain ⟨its, r', pl, hz⟩ := I.list hq
    have hlen := r'.length
    obtain ⟨o, ho, hc, n, hd⟩ := pl.isList
    exact call_list_seq p (.inl rfl) ho hc hd (fun h' c' kp e => fin its r' hz h' c' kp e) (by simp only [List.size_toArray] <;> omega)
  · obtain ⟨its, r', pl, hz⟩ := I.tuple hq
    have hlen := r'.length
    obtain ⟨o, ho, hc, n, hd⟩ := pl
    exact call_list_seq p (.inr rfl) ho hc hd (fun h' c' kp e => fin its r' hz h' c' kp e) (by simp only [List.size_toArray] <;> omega)
end
end TPD

set_option Elab.async false
set_option linter.all false
set_option maxRecDepth 100000
set_option maxHeartbeats 4000000
/-! kinds of data -/
namespace TPD
open PySem PySem.Spec PyProof.Rows L2 GG
def tyD : PyData → String
  | .none => "NoneType"
  | .bool _ => "bool"
  | .int _ => "int"
  | .str _ => "str"
  | .list _ => "list"
  | .tuple _ => "tuple"
  | .dict _ => "dict"
theorem kit_int : ∀ d : PyData, kitB (tyD d) "int" = some (match d with | .int _ => true | .bool _ => true | _ => false)
  | .none => by decide +kernel
  | .bool _ => by show kitB "bool" "int" = some true; decide +kernel
  | .int _ => by show kitB "int" "int" = some true; decide +kernel
  | .str _ => by show kitB "str" "int" = some false; decide +kernel
  | .list _ => by show kitB "list" "int" = some false; decide +kernel
  | .tuple _ => by show kitB "tuple" "int" = some false; decide +kernel
  | .dict _ => by show kitB "dict" "int" = some false; decide +kernel
theorem kit_bool : ∀ d : PyData, kitB (tyD d) "bool" = some (match d with | .bool _ => true | _ => false)
  | .none => by decide +kernel
  | .bool _ => by show kitB "bool" "bool" = some true; decide +kernel
  | .int _ => by show kitB "int" "bool" = some false; decide +kernel
  | .str _ => by show kitB "str" "bool" = some false; decide +kernel
  | .list _ => by show kitB "list" "bool" = some false; decide +kernel
  | .tuple _ => by show kitB "tuple" "bool" = some false; decide +kernel
  | .dict _ => by show kitB "dict" "bool" = some false; decide +kernel
theorem kit_tup : ∀ d : PyData, kitB (tyD d) "tuple" = some (match d with | .tuple _ => true | _ => false)
  | .none => by decide +kernel
  | .bool _ => by show kitB "bool" "tuple" = some false; decide +kernel
  | .int _ => by show kitB "int" "tuple" = some false; decide +kernel
  | .str _ => by show kitB "str" "tuple" = some false; decide +kernel
  | .list _ => by show kitB "list" "tuple" = some false; decide +kernel
  | .tuple _ => by show kitB "tuple" "tuple" = some true; decide +kernel
  | .dict _ => by show kitB "dict" "tuple" = some false; decide +kernel
theorem sql_ty {K : PySem.W.Frag} {H : Hp} {a : Addr} {xs : List V} (h : SqL K H a xs) : TyX K H (.ref a) (.type "list") := by
  rcases h with (h | ⟨o, h⟩) | ⟨o, its, n, e, c, _⟩
  · exact .base (.lst h)
  · exact .base (.frz h)
  · exact .kList e c
theorem sqt_ty {K : PySem.W.Frag} {H : Hp} {a : Addr} {xs : List V} (h : SqT K H a xs) : TyX K H (.ref a) (.type "tuple") := by
  rcases h with (h | ⟨o, h⟩) | ⟨o, its, n, e, c, _⟩
  · exact .base (.tup h)
  · exact .fTuple h
  · exact .kTuple e c
theorem Tp.ty {K : PySem.W.Frag} {H : Hp} {v : V} {d : PyData} (h : Tp K H v d) : TyX K H v (.type (tyD d)) := by
  cases h with
  | non => exact .base .non
  | bl b => exact .base (.bl b)
  | int i => exact .base (.int i)
  | str x => exact .base (.str x)
  | lst _ s _ => exact sql_ty s
  | tup s _ => exact sqt_ty s
  | dic e => exact .base (.dK e)
theorem sqt_same {K : PySem.W.Frag} {H H' : Hp} {a : Addr} {xs : List V} (s : Same H H') (h : SqT K H a xs) : SqT K H' a xs := by
  rcases h with (h | ⟨o, h⟩) | h
  · exact .inl (.inl (s _ _ h))
  · exact .inl (.inr ⟨o, s _ _ h⟩)
  · exact .inr h
theorem sql_same {K : PySem.W.Frag} {H H' : Hp} {a : Addr} {xs : List V} (s : Same H H') (h : SqL K H a xs) : SqL K H' a xs := by
  rcases h with (h | ⟨o, h⟩) | h
  · exact .inl (.inl (s _ _ h))
  · exact .inl (.inr ⟨o, s _ _ h⟩)
  · exact .inr h
mutual
theorem Tp.same {K : PySem.W.Frag} {H H' : Hp} (s : Same H H') : ∀ (d : PyData) (v : V), Tp K H v d → Tp K H' v d
  | .none, _, h => by cases h; exact .non
  | .bool b, _, h => by cases h; exact .bl b
  | .int i, _, h => by cases h; exact .int i
  | .str x, _, h => by cases h; exact .str x
  | .list ds, _, h => by
    cases h with
    | lst hb hs ha => exact .lst hb (sql_same s hs) (Tp.sameAll s ds _ ha)
  | .tuple ds, _, h => by
    cases h with
    | tup hs ha => exact .tup (sqt_same s hs) (Tp.sameAll s ds _ ha)
  | .dict _, _, h => by
    cases h with
    | dic e => exact .dic (s _ _ e)
theorem Tp.sameAll {K : PySem.W.Frag} {H H' : Hp} (s : Same H H') : ∀ (ds : List PyData) (vs : List V), TpAll K H vs ds → TpAll K H' vs ds
  | [], _, h => by cases h; exact .nil
  | d :: ds, _, h => by
    cases h with
    | cons h1 h2 => exact .cons (Tp.same s d _ h1) (Tp.sameAll s ds _ h2)
end
end TPD

set_option Elab.async false
set_option linter.all false
set_option maxRecDepth 100000
set_option maxHeartbeats 4000000
namespace Z
open PySem PySem.Spec PyProof.Rows L2 GG ZC TPD
abbrev sII : Stmt := top 2
abbrev sIX : Stmt := top 3
abbrev sIT : Stmt := top 4
abbrev sIR : Stmt := top 9
abbrev sFW : Stmt := top 8
abbrev sRE : Stmt := top 7
structure NamesI (mg : Str → Option Value) : Prop extends Names mg where
  isinstance : mg "isinstance" = none
  all : mg "all" = none
  any : mg "any" = none
def numI : PyData → Bool
  | .int _ => true
  | _ => false
def idxD (n : Int) : PyData → Bool
  | .int i => decide (0 ≤ i) && decide (i < n)
  | _ => false
def tupD (n : Int) : PyData → Bool
  | .tuple ds => decide ((ds.length : Int) = n)
  | _ => false
def rowD (n : Int) : PyData → Bool
  | .tuple ds => decide ((ds.length : Int) = n) && ds.all numI
  | _ => false
theorem tpLen {K : PySem.W.Frag} {H : Hp} : ∀ {xs : List V} {ds : List PyData}, TpAll K H xs ds → xs.length = ds.length
  | _, _, .nil => rfl
  | _, _, .cons _ t => congrArg Nat.succ (tpLen t)
theorem tpGet {K : PySem.W.Frag} {H : Hp} : ∀ {xs : List V} {ds : List PyData}, TpAll K H xs ds → ∀ {j : Nat} {x : V}, xs[j]? = some x → ∃ d, ds[j]? = some d ∧ Tp K H x d
  | _, _, .nil, j, x, h => by simp at h
  | _, _, .cons a t, 0, x, h => by
    cases h
    exact ⟨_, rfl, a⟩
  | _, _, .cons a t, j + 1, x, h => tpGet t h
section
variable {P : Program} {w : World} {K : PySem.W.Frag} {mg : Str → Option Value} {base : Heap}
def spII (K : PySem.W.Frag) : Sp := fun vs H Q _ => ∃ (v : V) (d : PyData), vs = [v] ∧ Tp K H v d ∧ Q (.bl (numI d)) H
theorem scII : FnScope ["value"] ["value"] (defScope sII) := ⟨rfl, rfl, rfl, by decide +kernel, rfl, by decide +kernel, by decide +kernel⟩
theorem ok_ii {f : Addr} {fd : FuncData} (F : Fun K "is_integer" "is_integer" sII f fd) (T : NamesI mg) (nI : mg "int" = none) (nB : mg "bool" = none) : FnOk P w K mg base CX0 1 f fd ["value"] (spII K) := by
  refine F.ok scII (fun vs H Q E h => ?_) (fun cdv A outer s H vs Q E hr h => ?_)
  · obtain ⟨v, d, rfl, _⟩ := h
    rfl
  · obtain ⟨v, d, rfl, hd, q⟩ := h
    refine ⟨_, (pss_one (ps_ret (pe_and (pe_callB call_isi (by rfl) T.isinstance (by decide +kernel) (pa_cons (pv 0) (pa_cons (pe_bltn (v := .ty "int") (by rfl) nI (by decide +kernel) rfl) pa_nil))) (pe_one (pe_not (pe_callB call_isi (by rfl) T.isinstance (by decide +kernel) (pa_cons (pv 0) (pa_cons (pe_bltn (v := .ty "bool") (by rfl) nB (by decide +kernel) rfl) pa_nil)))))))), ?_⟩
    refine ⟨_, rfl, _, .ty "int", .type (tyD d), .type "int", _, rfl, .ty "int", hd.ty, kit_ty (kit_int d), _, rfl, ?_⟩
    cases d with
    | int i => exact iteT ⟨_, rfl, _, .ty "bool", .type "int", .type "bool", _, rfl, .ty "bool", hd.ty, kit_ty (kit_bool (.int i)), _, rfl, q⟩
    | bool b => exact iteT ⟨_, rfl, _, .ty "bool", .type "bool", .type "bool", _, rfl, .ty "bool", hd.ty, kit_ty (kit_bool (.bool b)), _, rfl, q⟩
    | none => exact iteF q
    | str x => exact iteF q
    | list ds => exact iteF q
    | tuple ds => exact iteF q
    | dict kvs => exact iteF q
def spIX (K : PySem.W.Frag) : Sp := fun vs H Q _ => ∃ (v : V) (d : PyData) (n : Int), vs = [v, .int n] ∧ Tp K H v d ∧ Q (.bl (idxD n d)) H
theorem scIX : FnScope ["value", "size"] ["value", "size"] (defScope sIX) := ⟨rfl, rfl, rfl, by decide +kernel, rfl, by decide +kernel, by decide +kernel⟩
theorem ok_ix {f g : Addr} {fd gd : FuncData} (F : Fun K "is_index" "is_index" sIX f fd) (GI : FnOk P w K mg base CX0 1 g gd ["value"] (spII K)) (PI_ : Def K mg "is_integer" g gd ["value"]) : FnOk P w K mg base CX0 2 f fd ["value", "size"] (spIX K) := by
  refine F.ok scIX (fun vs H Q E h => ?_) (fun cdv A outer s H vs Q E hr h => ?_)
  · obtain ⟨v, d, n, rfl, _⟩ := h
    rfl
  · obtain ⟨v, d, n, rfl, hd, q⟩ := h
    refine ⟨_, (pss_one (ps_ret (pe_and (pe_call GI (hr.mono (by decide)) (by rfl) PI_.is PI_.kp PI_.bi .nil pass0 (pa_cons (pv 0) pa_nil)) (pe_one (pe_chain op_le op_lt pe_int (pv 0) (pv 1)))))), ?_⟩
    refine ⟨_, rfl, v, d, rfl, hd, _, rfl, ?_⟩
    cases d with
    | int i =>
      cases hd
      refine iteT ⟨_, rfl, _, _, rfl, rfl, _, rfl, ?_⟩
      have q : Q (.bl (decide (0 ≤ i) && decide (i < n))) H := q
      by_cases h0 : 0 ≤ i
      · rw [decide_eq_true h0] at q ⊢
        exact iteT ⟨_, rfl, _, _, rfl, rfl, q⟩
      · rw [decide_eq_false h0] at q ⊢
        exact iteF q
    | bool b => exact iteF q
    | none => exact iteF q
    | str x => exact iteF q
    | list ds => exact iteF q
    | tuple ds => exact iteF q
    | dict kvs => exact iteF q
def spIT (K : PySem.W.Frag) : Sp := fun vs H Q _ => ∃ (v : V) (d : PyData) (n : Int), vs = [v, .int n] ∧ Tp K H v d ∧ Q (.bl (tupD n d)) H
theorem scIT : FnScope ["value", "size"] ["value", "size"] (defScope sIT) := ⟨rfl, rfl, rfl, by decide +kernel, rfl, by decide +kernel, by decide +kernel⟩
theorem ok_it {f : Addr} {fd : FuncData} (F : Fun K "is_tuple" "is_tuple" sIT f fd) (T : NamesI mg) : FnOk P w K mg base CX0 1 f fd ["value", "size"] (spIT K) := by
  refine F.ok scIT (fun vs H Q E h => ?_) (fun cdv A outer s H vs Q E hr h => ?_)
  · obtain ⟨v, d, n, rfl, _⟩ := h
    rfl
  · obtain ⟨v, d, n, rfl, hd, q⟩ := h
    refine ⟨_, (pss_one (ps_ret (pe_and (pe_callB call_isi (by rfl) T.isinstance (by decide +kernel) (pa_cons (pv 0) (pa_cons (pe_bltn (v := .ty "tuple") (by rfl) T.tuple (by decide +kernel) rfl) pa_nil))) (pe_one (pe_cmpR op_eq (pe_callB call_len_seq (by rfl) T.len PySem.boot_len (pa_cons (pv 0) pa_nil)) (pv 1) (nomark _)))))), ?_⟩
    refine ⟨_, rfl, _, .ty "tuple", .type (tyD d), .type "tuple", _, rfl, .ty "tuple", hd.ty, kit_ty (kit_tup d), _, rfl, ?_⟩
    cases d with
    | tuple ds =>
      cases hd with
      | @tup a xs _ hs ha =>
        refine iteT ⟨_, rfl, a, xs, rfl, .inr hs, _, rfl, rfl, ?_⟩
        have e : (V.int (xs.length : Nat) = .int n) ↔ ((ds.length : Int) = n) := by
          rw [tpLen ha]
          exact ⟨fun h => V.int.inj h, fun h => by rw [h]⟩
        show Q (.bl (decide (V.int (xs.length : Nat) = .int n))) H
        have q : Q (.bl (decide ((ds.length : Int) = n))) H := q
        rw [decide_eq_decide.mpr e]
        exact q
    | int i => exact iteF q
    | bool b => exact iteF q
    | none => exact iteF q
    | str x => exact iteF q
    | list ds => exact iteF q
    | dict kvs => exact iteF q
def spIR (K : PySem.W.Frag) : Sp := fun vs H Q _ => ∃ (v : V) (d : PyData) (n : Int), vs = [v, .int n] ∧ Tp K H v d ∧ n ≤ 1000 ∧ ∀ H', Same H H' → Q (.bl (rowD n d)) H'
theorem scIR : FnScope ["value", "size", "part"] ["value", "size"] (defScope sIR) := ⟨rfl, rfl, rfl, by decide +kernel, rfl, by decide +kernel, by decide +kernel⟩
theorem ok_ir {f g h : Addr} {fd gd hd : FuncData} (F : Fun K "is_row_of_integers" "is_row_of_integers" sIR f fd) (T : NamesI mg) (GI : FnOk P w K mg base CX0 1 g gd ["value"] (spII K)) (PI_ : Def K mg "is_integer" g gd ["value"]) (GT : FnOk P w K mg base CX0 1 h hd ["value", "size"] (spIT K)) (PT_ : Def K mg "is_tuple" h hd ["value", "size"]) : FnOk P w K mg base CX0 2 f fd ["value", "size"] (spIR K) := by
  refine F.ok scIR (fun vs H Q E h => ?_) (fun cdv A outer s H vs Q E hr h => ?_)
  · obtain ⟨v, d, n, rfl, _⟩ := h
    rfl
  · obtain ⟨v, d, n, rfl, hd, n1000, q⟩ := h
    have line : sizeLine = 16777216 := by decide
    refine ⟨_, (pss_one (ps_ret (pe_and (pe_call GT (hr.mono (by decide)) (by rfl) PT_.is PT_.kp PT_.bi .nil pass0 (pa_cons (pv 0) (pa_cons (pv 1) pa_nil))) (pe_one (pe_callB (cr_all rfl) (by rfl) T.all (by decide +kernel) (pa_cons (pe_lc (own := [("part", 2)]) (g := gName 2) (tt := tYes) rfl scIR.nd (pi_tup (pv 0)) (blkOk_by (N := ["value", "size", "part"]) (sc := defScope sIR) (own := [("part", 2)]) (by decide +kernel)) (fun _ _ _ _ _ => (pg_name (i := 2) scIR.nd rfl (.inl rfl))) (fun _ _ _ _ _ => pts_nil) (fun _ _ _ _ _ => (pe_call GI (hr.mono (by decide)) (by rfl) PI_.is PI_.kp PI_.bi .nil pass0 (pa_cons (pv 2) pa_nil)))) pa_nil)))))), ?_⟩
    refine ⟨_, rfl, _, rfl, v, d, n, rfl, hd, tupD n d, rfl, ?_⟩
    cases ht : tupD n d with
    | false =>
      have : rowD n d = false := by
        cases d with
        | tuple ds =>
          have ht : decide ((ds.length : Int) = n) = false := ht
          show (decide ((ds.length : Int) = n) && _) = false
          rw [ht, Bool.false_and]
        | int i => rfl
        | bool b => rfl
        | none => rfl
        | str x => rfl
        | list ds => rfl
        | dict kvs => rfl
      have q := q H (Same.refl H)
      rw [this] at q
      exact iteF q
    | true =>
      cases d with
      | int i => cases ht
      | bool b => cases ht
      | none => cases ht
      | str x => cases ht
      | list ds => cases ht
      | dict kvs => cases ht
      | tuple ds =>
        have hn : (ds.length : Int) = n := of_decide_eq_true ht
        have h0 := hd
        obtain ⟨a, xs, rfl, hs, ha⟩ : ∃ a xs, v = .ref a ∧ SqT K H a xs ∧ TpAll K H xs ds := by
          cases h0 with
          | @tup a xs _ hs ha => exact ⟨a, xs, rfl, hs, ha⟩
        have lx := tpLen ha
        refine iteT ⟨_, rfl, a, rfl, ⟨_, hs⟩, fun D nD => ?_⟩
        refine lc_tup (K := K) (a := a) (xs := xs) (fun j Hx => Same H Hx ∧ Hx D = some (.lst (((ds.take j).map numI).map V.bl))) ⟨Same.upd nD, upd_same⟩ (fun j Hx _ h => sqt_same h.1 hs) ?_ ?_
        · rintro j x H4 hx ⟨s4, e4⟩
          have hj := (List.getElem?_eq_some_iff.mp hx).1
          obtain ⟨d, hdj, td⟩ := tpGet ha hx
          have tx : Tp K H4 x d := Tp.same s4 d x td
          refine ⟨rfl, ?_⟩
          dsimp only [tYes]
          refine iteT ⟨_, rfl, x, d, rfl, tx, _, e4, by rw [List.length_map, List.length_map, List.length_take]; omega, fun b o h => by rw [upd_ne (ne_of_none h nD)]; exact s4 _ _ h, ?_⟩
          rw [upd_same, List.take_succ, hdj, List.map_append, List.map_append]
          rfl
        · rintro H4 ⟨s4, e4⟩
          rw [lx, List.take_length] at e4
          refine ⟨D, _, rfl, SqL.of e4, ?_⟩
          have q := q H4 s4
          have e : rowD n (.tuple ds) = (ds.map numI).all id := by
            show (decide ((ds.length : Int) = n) && ds.all numI) = _
            rw [decide_eq_true hn, Bool.true_and, List.all_map]
            rfl
          rw [e] at q
          exact q
def okR (n : Nat) (ds es : List Int) (k : Nat) : Bool := decide (0 ≤ ds.getD k 0) && (decide (ds.getD k 0 ≤ es.getD k 0) && decide (es.getD k 0 ≤ (ch n k : Nat)))
def wrR (n : Nat) (ds es : List Int) : Option Nat := (List.range (n + 1)).find? fun k => !okR n ds es k
def oN : Option Nat → V
  | some k => .int (k : Nat)
  | none => .non
def spFW (K : PySem.W.Frag) : Sp := fun vs H Q _ => ∃ (n : Nat) (d e : V) (da ea : Addr) (ds es : List Int), vs = [.int (n : Nat), d, e] ∧ d = .ref da ∧ e = .ref ea ∧ SqT K H da (ds.map V.int) ∧ SqT K H ea (es.map V.int) ∧ n ≤ 40 ∧ ds.length = n + 1 ∧ es.length = n + 1 ∧ Q (oN (wrR n ds es)) H
theorem scFW : FnScope ["tosses", "ds", "es", "k"] ["tosses", "ds", "es"] (defScope sFW) := ⟨rfl, rfl, rfl, by decide +kernel, rfl, by decide +kernel, by decide +kernel⟩
theorem ok_fw {f : Addr} {fd : FuncData} (F : Fun K "find_wrong_row" "find_wrong_row" sFW f fd) (T : NamesI mg) (mC : mg "comb" = some (.builtin "math.comb")) : FnOk P w K mg base CX0 1 f fd ["tosses", "ds", "es"] (spFW K) := by
  refine F.ok scFW (fun vs H Q E h => ?_) (fun cdv A outer s H vs Q E hr h => ?_)
  · obtain ⟨n, d, e, da, ea, ds, es, rfl, _⟩ := h
    rfl
  · obtain ⟨n, _, _, d, e, ds, es, rfl, rfl, rfl, ed, ee, hn, ld, le, q⟩ := h
    refine ⟨_, (pss_cons (ps_for PassesOwn.never rfl (pi_range1 rfl T.range (pa_cons (pe_op op_add (pv 0) pe_int) pa_nil)) (pg_name (i := 3) scFW.nd rfl (.inl rfl)) (pss_one (ps_if (pt_not (CH3.pt_chain3 op_le op_le op_le pe_int (pe_ix ix_tup (pv 1) (pv 3) (fun _ _ => rfl)) (pe_ix ix_tup (pv 2) (pv 3) (fun _ _ => rfl)) (pe_callBfun CM.cr_comb (by rfl) mC (pa_cons (pv 0) (pa_cons (pv 3) pa_nil))))) (pss_one (ps_ret (pv 3))) pss_nil)))
      (pss_one (ps_ret pe_non))), ?_⟩
    have hn1 : ((n : Int) + 1).toNat = n + 1 := by omega
    refine ⟨_, rfl, _, _, rfl, rfl, _, rfl, by omega, by omega, for_range (D := { nx := tRet (tC V.non) { nx := fun x H' => Q V.non H', rt := Q }, rt := Q }) (lo := 0) (n := ((n : Int) + 1).toNat) (fun i σ H' => ∃ v3 : Option V, σ = [some (V.int (n : Nat)), some (V.ref d), some (V.ref e), v3] ∧ H' = H ∧ wrR n ds es = ((List.range (n + 1)).drop i).find? fun k => !okR n ds es k) ⟨none, rfl, rfl, rfl⟩ ?_ ?_⟩
    · rintro i σ H' hi ⟨v3, rfl, rfl, hw⟩
      rw [hn1] at hi
      rw [Int.zero_add]
      have gd : ds[i]? = some (ds.getD i 0) := by rw [List.getD_eq_getElem?_getD, List.getElem?_eq_getElem (by omega)]; rfl
      have ge : es[i]? = some (es.getD i 0) := by rw [List.getD_eq_getElem?_getD, List.getElem?_eq_getElem (by omega)]; rfl
      have dr : (List.range (n + 1)).drop i = i :: (List.range (n + 1)).drop (i + 1) := by
        rw [List.drop_eq_getElem_cons (by rw [List.length_range]; exact hi), List.getElem_range]
      rw [dr, List.find?_cons] at hw
      have bad : okR n ds es i = false → Q (.int (i : Nat)) H' := fun h => by
        rw [h] at hw
        rw [show wrR n ds es = some i from hw] at q
        exact q
      have good : okR n ds es i = true → wrR n ds es = ((List.range (n + 1)).drop (i + 1)).find? fun k => !okR n ds es k := fun h => by
        rw [h] at hw
        exact hw
      unfold okR at bad good
      refine ⟨_, rfl, _, rfl, d, _, (i : Int), .int (ds.getD i 0), rfl, rfl, ed, atI_nat (by rw [List.getElem?_map, gd]; rfl), _, _, rfl, rfl, _, rfl, ?_⟩
      by_cases h0 : 0 ≤ ds.getD i 0
      · rw [decide_eq_true h0] at bad good ⊢
        refine iteT ⟨_, rfl, _, rfl, e, _, (i : Int), .int (es.getD i 0), rfl, rfl, ee, atI_nat (by rw [List.getElem?_map, ge]; rfl), _, _, rfl, rfl, _, rfl, ?_⟩
        by_cases h1 : ds.getD i 0 ≤ es.getD i 0
        · rw [decide_eq_true h1] at bad good ⊢
          refine iteT ⟨_, rfl, _, rfl, n, i, rfl, by omega, _, _, rfl, rfl, _, rfl, ?_⟩
          by_cases h2 : es.getD i 0 ≤ (ch n i : Nat)
          · rw [decide_eq_true h2] at good ⊢
            exact iteF ⟨_, rfl, rfl, good rfl⟩
          · rw [decide_eq_false h2] at bad ⊢
            exact iteT ⟨_, rfl, bad rfl⟩
        · rw [decide_eq_false h1] at bad ⊢
          exact iteF (iteT ⟨_, rfl, bad rfl⟩)
      · rw [decide_eq_false h0] at bad ⊢
        exact iteF (iteT ⟨_, rfl, bad rfl⟩)
    · rintro σ H' ⟨v3, rfl, rfl, hw⟩
      rw [hn1, List.drop_of_length_le (by rw [List.length_range]; exact Nat.le_refl _)] at hw
      rw [show wrR n ds es = none from hw] at q
      exact q
end
end Z

set_option Elab.async false
set_option linter.all false
set_option maxRecDepth 100000
set_option maxHeartbeats 4000000
namespace Z
open PySem PySem.Spec PyProof.Rows L2 GG ZC TPD
/-! ### what is wrong with any data -/
def itD (d : PyData) (i : Nat) : PyData := match d with
  | .tuple l => l.getD i .none
  | _ => .none
def intD (d : PyData) : Int := match d with
  | .int i => i
  | _ => 0
def intsD (d : PyData) : List Int := match d with
  | .tuple l => l.map intD
  | _ => []
def goodF (d : PyData) : Bool := tupD 3 d && (idxD 41 (itD d 0) && (rowD (intD (itD d 0) + 1) (itD d 1) && rowD (intD (itD d 0) + 1) (itD d 2)))
def wrD : Option Nat → PyData
  | none => .none
  | some k => .tuple [.str "row", .int (k : Nat)]
def resD (d : PyData) : PyData := if goodF d = false then .str "form" else if ((intsD (itD d 2)).any fun n => n != 0) = false then .str "few" else wrD (wrR (intD (itD d 0)).toNat (intsD (itD d 1)) (intsD (itD d 2)))
theorem intsD_ints (ns : List Int) : intsD (.tuple (ns.map PyData.int)) = ns := by
  show (ns.map PyData.int).map intD = ns
  rw [List.map_map]
  conv => rhs; rw [← List.map_id ns]
  exact List.map_congr_left fun n _ => rfl
theorem len3 {α : Type} : ∀ {l : List α}, l.length = 3 → ∃ x y z, l = [x, y, z]
  | [x, y, z], _ => ⟨x, y, z, rfl⟩
theorem tupD_of {n : Int} {d : PyData} (h : tupD n d = true) : ∃ l, d = .tuple l ∧ (l.length : Int) = n := by
  cases d with
  | tuple l => exact ⟨l, rfl, of_decide_eq_true h⟩
  | int i => cases h
  | bool b => cases h
  | none => cases h
  | str x => cases h
  | list ds => cases h
  | dict kvs => cases h
theorem idxD_of {n : Int} {d : PyData} (h : idxD n d = true) : ∃ i, d = .int i ∧ 0 ≤ i ∧ i < n := by
  cases d with
  | int i =>
    have h : (decide (0 ≤ i) && decide (i < n)) = true := h
    rw [Bool.and_eq_true, decide_eq_true_eq, decide_eq_true_eq] at h
    exact ⟨i, rfl, h.1, h.2⟩
  | tuple l => cases h
  | bool b => cases h
  | none => cases h
  | str x => cases h
  | list ds => cases h
  | dict kvs => cases h
theorem nums_of : ∀ {l : List PyData}, l.all numI = true → l = (l.map intD).map PyData.int
  | [], _ => rfl
  | d :: r, h => by
    rw [List.all_cons, Bool.and_eq_true] at h
    have ih := nums_of h.2
    have hd : d = .int (intD d) := by
      have h1 := h.1
      cases d with
      | int i => rfl
      | tuple l => cases h1
      | bool b => cases h1
      | none => cases h1
      | str x => cases h1
      | list ds => cases h1
      | dict kvs => cases h1
    rw [List.map_cons, List.map_cons, ← hd, ← ih]
theorem rowD_of {n : Int} {d : PyData} (h : rowD n d = true) : ∃ ns : List Int, d = .tuple (ns.map PyData.int) ∧ (ns.length : Int) = n := by
  cases d with
  | tuple l =>
    have h : (decide ((l.length : Int) = n) && l.all numI) = true := h
    rw [Bool.and_eq_true, decide_eq_true_eq] at h
    refine ⟨l.map intD, congrArg PyData.tuple (nums_of h.2), by rw [List.length_map]; exact h.1⟩
  | int i => cases h
  | bool b => cases h
  | none => cases h
  | str x => cases h
  | list ds => cases h
  | dict kvs => cases h
section
variable {K : PySem.W.Frag} {H : Hp}
theorem tp_tup {v : V} {l : List PyData} (h : Tp K H v (.tuple l)) : ∃ a xs, v = .ref a ∧ SqT K H a xs ∧ TpAll K H xs l := by
  cases h with
  | @tup a xs _ hs ha => exact ⟨a, xs, rfl, hs, ha⟩
theorem tp_ints : ∀ {ns : List Int} {xs : List V}, TpAll K H xs (ns.map PyData.int) → xs = ns.map V.int
  | [], _, h => by
    cases h
    rfl
  | n :: r, _, h => by
    cases h with
    | cons h1 h2 =>
      cases h1
      rw [tp_ints h2]
      rfl
theorem ints_tp : ∀ ns : List Int, TpAll K H (ns.map V.int) (ns.map PyData.int)
  | [] => .nil
  | n :: r => .cons (.int n) (ints_tp r)
theorem tp_three {xs : List V} {x y z : PyData} (h : TpAll K H xs [x, y, z]) : ∃ u v w, xs = [u, v, w] ∧ Tp K H u x ∧ Tp K H v y ∧ Tp K H w z := by
  cases h with
  | cons h1 h =>
    cases h with
    | cons h2 h =>
      cases h with
      | cons h3 h =>
        cases h
        exact ⟨_, _, _, rfl, h1, h2, h3⟩
theorem tp_int {v : V} {i : Int} (h : Tp K H v (.int i)) : v = .int i := by
  cases h
  rfl
theorem tp_row {v : V} {ns : List Int} (h : Tp K H v (.tuple (ns.map PyData.int))) : ∃ a, v = .ref a ∧ SqT K H a (ns.map V.int) := by
  obtain ⟨a, xs, rfl, hs, ha⟩ := tp_tup h
  rw [tp_ints ha] at hs
  exact ⟨a, rfl, hs⟩
end
section
variable {P : Program} {w : World} {K : PySem.W.Frag} {mg : Str → Option Value} {base : Heap}
def spRE (K : PySem.W.Frag) : Sp := fun vs H Q _ => ∃ (v : V) (d : PyData), vs = [v] ∧ Tp K H v d ∧ ∀ r H', Same H H' → Tp K H' r (resD d) → Q r H'
theorem scRE : FnScope ["value", "tosses", "ds", "es", "k"] ["value"] (defScope sRE) := ⟨rfl, rfl, rfl, by decide +kernel, rfl, by decide +kernel, by decide +kernel⟩
theorem ok_re {f g h i j : Addr} {fd gd hd id_ jd : FuncData} {tM : Tok} (F : Fun K "recipe_error" "recipe_error" sRE f fd) (T : NamesI mg) (mM : mg "MAX_RECIPE_TOSSES" = some (.int 40 tM)) (GX : FnOk P w K mg base CX0 2 g gd ["value", "size"] (spIX K)) (PX_ : Def K mg "is_index" g gd ["value", "size"]) (GT : FnOk P w K mg base CX0 1 h hd ["value", "size"] (spIT K)) (PT_ : Def K mg "is_tuple" h hd ["value", "size"])
    (GR : FnOk P w K mg base CX0 2 i id_ ["value", "size"] (spIR K)) (PR_ : Def K mg "is_row_of_integers" i id_ ["value", "size"]) (GW : FnOk P w K mg base CX0 1 j jd ["tosses", "ds", "es"] (spFW K)) (PW_ : Def K mg "find_wrong_row" j jd ["tosses", "ds", "es"]) : FnOk P w K mg base CX0 3 f fd ["value"] (spRE K) := by
  refine F.ok scRE (fun vs H Q E h => ?_) (fun cdv A outer s H vs Q E hr h => ?_)
  · obtain ⟨v, d, rfl, _⟩ := h
    rfl
  · obtain ⟨v, d, rfl, hd, q⟩ := h
    have form : goodF d = false → ∀ H', Same H H' → Q (.str "form") H' := fun h H' s => q _ H' s (by
      unfold resD
      rw [if_pos h]
      exact .str _)
    refine ⟨_, (pss_cons (ps_if (PW.pt (pw_or (pt_not (pt_val (pe_call GT (hr.mono (by decide)) (by rfl) PT_.is PT_.kp PT_.bi .nil pass0 (pa_cons (pv 0) (pa_cons pe_int pa_nil))))) (pw_or1 (pt_not (pt_val (pe_call GX (hr.mono (by decide)) (by rfl) PX_.is PX_.kp PX_.bi .nil pass0 (pa_cons (pe_ix ix_tup (pv 0) pe_int (fun _ _ => rfl)) (pa_cons (pe_op op_add (pe_glob (v := .int 40) rfl mM ⟨_, rfl⟩) pe_int) pa_nil)))))))) (pss_one (ps_ret pe_str)) pss_nil)
      (pss_cons (ps_asg (pv 0) (pg_tup rfl (pgs_cons (pg_name (i := 1) scRE.nd rfl (.inl rfl)) (pgs_cons (pg_name (i := 2) scRE.nd rfl (.inl rfl)) (pgs_cons (pg_name (i := 3) scRE.nd rfl (.inl rfl)) pgs_nil)))))
      (pss_cons (ps_if (PW.pt (pw_or (pt_not (pt_val (pe_call GR (hr.mono (by decide)) (by rfl) PR_.is PR_.kp PR_.bi .nil pass0 (pa_cons (pv 2) (pa_cons (pe_op op_add (pv 1) pe_int) pa_nil))))) (pw_or1 (pt_not (pt_val (pe_call GR (hr.mono (by decide)) (by rfl) PR_.is PR_.kp PR_.bi .nil pass0 (pa_cons (pv 3) (pa_cons (pe_op op_add (pv 1) pe_int) pa_nil)))))))) (pss_one (ps_ret pe_str)) pss_nil)
      (pss_cons (ps_if (pt_not (pt_val (pe_callB (ANT.call_anyT rfl) (by rfl) T.any (by decide +kernel) (pa_cons (pv 3) pa_nil)))) (pss_one (ps_ret pe_str)) pss_nil)
      (pss_cons (ps_set (i := 4) scRE.nd rfl (.inl rfl) (pe_call GW (hr.mono (by decide)) (by rfl) PW_.is PW_.kp PW_.bi .nil pass0 (pa_cons (pv 1) (pa_cons (pv 2) (pa_cons (pv 3) pa_nil)))))
      (pss_one (ps_ret (pe_ifExp (pt_cmpR op_isN (pv 4) pe_non (nomark _)) pe_non (pe_tup (pa_cons pe_str (pa_cons (pv 4) pa_nil))))))))))), ?_⟩
    refine ⟨_, rfl, v, d, 3, rfl, hd, _, rfl, ?_⟩
    cases ht : tupD 3 d with
    | false =>
      exact iteT (form (by unfold goodF; rw [ht]; rfl) H (Same.refl _))
    | true =>
      obtain ⟨l, rfl, hl⟩ := tupD_of ht
      obtain ⟨x, y, z, rfl⟩ := len3 (by omega : l.length = 3)
      obtain ⟨a, xs, rfl, hs, ha⟩ := tp_tup hd
      obtain ⟨u, v, w, rfl, h1, h2, h3⟩ := tp_three ha
      have gf : goodF (.tuple [x, y, z]) = (idxD 41 x && (rowD (intD x + 1) y && rowD (intD x + 1) z)) := by
        unfold goodF
        rw [ht, Bool.true_and]
        rfl
      refine iteF ⟨_, rfl, a, _, 0, u, rfl, rfl, hs, atI_nat (j := 0) rfl, _, _, rfl, rfl, u, x, 41, rfl, h1, _, rfl, ?_⟩
      cases hx : idxD 41 x with
      | false => exact iteT (form (by rw [gf, hx]; rfl) H (Same.refl _))
      | true =>
        obtain ⟨i, rfl, i0, i1⟩ := idxD_of hx
        obtain ⟨n, rfl⟩ : ∃ n : Nat, i = (n : Int) := ⟨i.toNat, by omega⟩
        have eu := tp_int h1
        subst eu
        rw [hx, Bool.true_and] at gf
        have gf : goodF (.tuple [.int (n : Nat), y, z]) = (rowD ((n : Int) + 1) y && rowD ((n : Int) + 1) z) := gf
        refine iteF ⟨_, rfl, a, _, rfl, hs, rfl, _, _, rfl, _, _, rfl, _, _, rfl, rfl, ?_⟩
        refine ⟨_, rfl, _, rfl, _, _, rfl, rfl, v, y, (n : Int) + 1, rfl, h2, by omega, fun H1 s1 => ⟨_, rfl, ?_⟩⟩
        cases hy : rowD ((n : Int) + 1) y with
        | false => exact iteT (form (by rw [gf, hy]; rfl) H1 s1)
        | true =>
          rw [hy, Bool.true_and] at gf
          refine iteF ⟨_, rfl, _, rfl, _, _, rfl, rfl, w, z, (n : Int) + 1, rfl, Tp.same s1 _ _ h3, by omega, fun H2 s2 => ⟨_, rfl, ?_⟩⟩
          have s12 := s1.trans s2
          cases hz : rowD ((n : Int) + 1) z with
          | false => exact iteT (form (by rw [gf, hz]) H2 s12)
          | true =>
            rw [hz] at gf
            obtain ⟨ds, rfl, ld⟩ := rowD_of hy
            obtain ⟨es, rfl, le⟩ := rowD_of hz
            obtain ⟨da, rfl, sd⟩ := tp_row (Tp.same s12 _ _ h2)
            obtain ⟨ea, rfl, se⟩ := tp_row (Tp.same s12 _ _ h3)
            have er : resD (.tuple [.int (n : Nat), .tuple (ds.map PyData.int), .tuple (es.map PyData.int)]) = if (es.any fun n => n != 0) = false then .str "few" else wrD (wrR n ds es) := by
              unfold resD
              rw [if_neg (by rw [gf]; decide)]
              show (if ((intsD (.tuple (es.map PyData.int))).any fun n => n != 0) = false then _ else wrD (wrR _ (intsD (.tuple (ds.map PyData.int))) (intsD (.tuple (es.map PyData.int))))) = _
              rw [intsD_ints, intsD_ints]
              rfl
            rw [er] at q
            refine iteF ⟨_, rfl, ea, es, rfl, se, _, rfl, ?_⟩
            cases hA : es.any fun n => n != 0 with
            | false =>
              rw [hA, if_pos rfl] at q
              exact iteT (q _ H2 s12 (.str _))
            | true =>
              rw [hA, if_neg (by decide)] at q
              refine iteF ⟨_, rfl, _, rfl, _, rfl, n, .ref da, .ref ea, da, ea, ds, es, rfl, rfl, rfl, sd, se, by omega, by omega, by omega, ?_⟩
              cases hw : wrR n ds es with
              | none =>
                rw [hw] at q
                refine ⟨_, rfl, rfl, _, rfl, ?_⟩
                exact iteT (q _ H2 s12 .non)
              | some k =>
                rw [hw] at q
                refine ⟨_, rfl, rfl, _, rfl, ?_⟩
                refine iteF ⟨_, rfl, by show 2 ≤ sizeLine; decide, fun t nt => ?_⟩
                exact q _ _ (s12.trans (Same.upd nt)) (.tup (SqT.of upd_same) (.cons (.str _) (.cons (.int _) .nil)))
end
end Z

set_option Elab.async false
set_option linter.all false
set_option maxRecDepth 100000
set_option maxHeartbeats 4000000
namespace Z
open PySem PySem.Spec PyProof.Rows L2 GG ZC
abbrev sBin : Stmt := top 14
structure NamesR (mg : Str → Option Value) : Prop extends Names mg where
  zip : mg "zip" = none
  enumerate : mg "enumerate" = none
  int : mg "int" = none
section
variable {P : Program} {w : World} {K : PySem.W.Frag} {mg : Str → Option Value} {base : Heap}
def spBin : Sp := fun vs H Q _ => ∃ n : Nat, vs = [.int (n : Nat)] ∧ n ≤ 60 ∧ ∀ p H', Same H H' → H p = none → H' p = some (.lst ((bin n).map V.int)) → Q (.ref p) H'
theorem scBin : FnScope ["many", "found", "k", "a", "b"] ["many"] (defScope sBin) := ⟨rfl, rfl, rfl, by decide +kernel, rfl, by decide +kernel, by decide +kernel⟩
theorem ok_bin {f : Addr} {fd : FuncData} (F : Fun K "_law_binomials" "_law_binomials" sBin f fd) (T : NamesR mg) : FnOk P w K mg base CX0 1 f fd ["many"] spBin := by
  refine F.ok scBin (fun vs H Q E h => ?_) (fun cdv A outer s H vs Q E hr h => ?_)
  · obtain ⟨n, rfl, _⟩ := h
    rfl
  · obtain ⟨n, rfl, hn, q⟩ := h
    refine ⟨_, (pss_cons (ps_set (i := 1) scBin.nd rfl (.inl rfl) (pe_lst (pa_cons pe_int pa_nil)))
      (pss_cons (ps_for PassesOwn.never rfl (pi_range1 rfl T.range (pa_cons (pv 0) pa_nil)) (pg_name (i := 2) scBin.nd rfl (.inl rfl)) (pss_one (ps_setLc (i := 1) (own := [("a", 3), ("b", 4)]) (g := gTup K 2 (gCons (gName 3) (gCons (gName 4) gNil))) (tt := tYes) rfl scBin.nd rfl rfl (sw_true rfl rfl rfl (by decide +kernel)) (pi_zip (by rfl) T.zip (pa_cons (pe_op op_cat (pv 1) (pe_lst (pa_cons pe_int pa_nil))) (pa_cons (pe_op op_cat (pe_lst (pa_cons pe_int pa_nil)) (pv 1)) pa_nil))) (blkOk_by (N := ["many", "found", "k", "a", "b"]) (sc := defScope sBin) (own := [("a", 3), ("b", 4)]) (by decide +kernel)) (fun _ _ _ _ _ => (pg_tup rfl (pgs_cons (pg_name (i := 3) scBin.nd rfl (.inl rfl) (Or.inr rfl)) (pgs_cons (pg_name (i := 4) scBin.nd rfl (.inl rfl) (Or.inr rfl)) pgs_nil)))) (fun _ _ _ _ _ => pts_nil) (fun _ _ _ _ _ => (pe_op op_add (pv 3) (pv 4))))))
      (pss_one (ps_ret (pv 1))))), ?_⟩
    refine ⟨by show 1 ≤ sizeLine; decide, fun D nD => ?_⟩
    have s1 : Same H (upd H D (.lst [.int 1])) := Same.upd nD
    have eD : upd H D (.lst [.int 1]) D = some (.lst ((bin 0).map V.int)) := upd_same
    change (_ : Hp → Prop) (upd H D (.lst [.int 1]))
    generalize upd H D (.lst [.int 1]) = H1 at s1 eD ⊢
    refine ⟨_, rfl, _, rfl, by omega, by omega, for_range (lo := 0) (n := n) (fun i σ H' => ∃ (p : Addr) (v2 : Option V), σ = [some (.int (n : Nat)), some (.ref p), v2, none, none] ∧ Same H H' ∧ H p = none ∧ H' p = some (.lst ((bin i).map V.int))) ⟨D, _, rfl, s1, nD, eD⟩ ?_ ?_⟩
    · rintro i σ H2 hi ⟨p, v2, rfl, s2, np, ep⟩
      have hb : (bin i).length ≤ 60 := by rw [bin_len]; omega
      have line : sizeLine = 16777216 := by decide
      refine ⟨_, rfl, by show 1 ≤ sizeLine; decide, fun z nz => ?_⟩
      have s3 := Same.upd (o := .lst [.int 0]) nz
      have ez : upd H2 z (.lst [.int 0]) z = some (.lst [.int 0]) := upd_same
      generalize upd H2 z (.lst [.int 0]) = H3 at s3 ez ⊢
      refine ⟨p, z, _, _, rfl, rfl, s3 _ _ ep, ez, by rw [List.length_map]; show (bin i).length + 1 ≤ sizeLine; omega, fun a na => ?_⟩
      have s4 := Same.upd (o := .lst ((bin i).map V.int ++ [.int 0])) na
      have ea : upd H3 a (.lst ((bin i).map V.int ++ [.int 0])) a = some (.lst ((bin i ++ [0]).map V.int)) := by rw [upd_same, List.map_append]; rfl
      change (_ : Hp → Prop) (upd H3 a (.lst ((bin i).map V.int ++ [.int 0])))
      generalize upd H3 a (.lst ((bin i).map V.int ++ [.int 0])) = H4 at s4 ea ⊢
      refine ⟨by show 1 ≤ sizeLine; decide, fun y ny => ?_⟩
      have s5 := Same.upd (o := .lst [.int 0]) ny
      have ey : upd H4 y (.lst [.int 0]) y = some (.lst [.int 0]) := upd_same
      generalize upd H4 y (.lst [.int 0]) = H5 at s5 ey ⊢
      refine ⟨_, rfl, y, p, _, _, rfl, rfl, ey, s5 _ _ (s4 _ _ (s3 _ _ ep)), by rw [List.length_map]; show 1 + (bin i).length ≤ sizeLine; omega, fun b nb => ?_⟩
      have s6 := Same.upd (o := .lst ([.int 0] ++ (bin i).map V.int)) nb
      have eb : upd H5 b (.lst ([.int 0] ++ (bin i).map V.int)) b = some (.lst (((0 : Int) :: bin i).map V.int)) := by rw [upd_same]; rfl
      change (_ : Hp → Prop) (upd H5 b (.lst ([.int 0] ++ (bin i).map V.int)))
      generalize upd H5 b (.lst ([.int 0] ++ (bin i).map V.int)) = H6 at s6 eb ⊢
      have ea6 := s6 _ _ (s5 _ _ ea)
      have s26 := ((s3.trans s4).trans s5).trans s6
      refine ⟨a, b, _, _, rfl, SqL.of ea6, SqL.of eb, fun D2 nD2 => ?_⟩
      refine lc_zL (K := K) (xs := (bin i ++ [0]).map V.int) (ys := ((0 : Int) :: bin i).map V.int) (by rw [List.length_map, List.length_map, List.length_append, List.length_cons]; rfl) (fun k H' => H' D2 = some (.lst (((List.range k).map fun t => (ch (i + 1) t : Int)).map V.int)) ∧ Same H6 H') ⟨upd_same, Same.upd nD2⟩ (fun k H' h => ⟨SqL.of (h.2 _ _ ea6), SqL.of (h.2 _ _ eb)⟩) ?_ ?_
      · rintro k x w H7 T0 hx hw ⟨e7, s7⟩ nT
        have hk : k ≤ i + 1 := by
          have := (List.getElem?_eq_some_iff.mp hx).1
          rw [List.length_map, List.length_append, bin_len] at this
          simp at this
          omega
        rw [List.getElem?_map, bin_left hk] at hx
        rw [List.getElem?_map, bin_right hk] at hw
        cases hx
        cases hw
        have s8 := Same.upd (o := .tup [.int (ch i k : Int), .int (low i k)]) nT
        refine ⟨T0, _, rfl, SqT.of upd_same, rfl, _, _, rfl, _, _, rfl, rfl, rfl, ?_⟩
        dsimp only [tYes]
        refine iteT ?_
        refine ⟨_, rfl, _, rfl, _, _, rfl, rfl, _, s8 _ _ e7, by rw [List.length_map, List.length_map, List.length_range]; exact small1000 (by omega), ?_, ?_⟩
        · rw [upd_same, List.range_succ, List.map_append, List.map_append]
          show some (HO.lst (_ ++ [V.int ((ch i k : Int) + low i k)])) = _
          rw [← bin_step]
          rfl
        · intro b o e
          rw [upd_ne (ne_of_none e nD2)]
          exact s8 _ _ (s7 _ _ e)
      · rintro H7 ⟨e7, s7⟩
        rw [List.length_map, List.length_append, bin_len] at e7
        exact ⟨D2, _, rfl, (s2.trans s26).trans s7, (s2.trans s26).free nD2, e7⟩
    · rintro σ H' ⟨p, v2, rfl, s2, np, ep⟩
      exact ⟨_, rfl, q p _ s2 np ep⟩
end
end Z

set_option Elab.async false
set_option linter.all false
set_option maxRecDepth 100000
set_option maxHeartbeats 4000000
namespace Z
open PySem PySem.Spec PyProof.Rows L2 GG ZC TPD
abbrev sLN : Stmt := top 16
abbrev sEx : Stmt := top 17
section
variable {P : Program} {w : World} {K : PySem.W.Frag} {mg : Str → Option Value} {base : Heap}
theorem scLN : FnScope ["one_thing"] ["one_thing"] (defScope sLN) := ⟨rfl, rfl, rfl, by decide +kernel, rfl, by decide +kernel, by decide +kernel⟩
theorem ok_ln {f : Addr} {fd : FuncData} (F : Fun K "_law_is_number" "_law_is_number" sLN f fd) (T : NamesI mg) (nI : mg "int" = none) (nB : mg "bool" = none) : FnOk P w K mg base CX0 1 f fd ["one_thing"] (spII K) := by
  refine F.ok scLN (fun vs H Q E h => ?_) (fun cdv A outer s H vs Q E hr h => ?_)
  · obtain ⟨v, d, rfl, _⟩ := h
    rfl
  · obtain ⟨v, d, rfl, hd, q⟩ := h
    refine ⟨_, (pss_one (ps_ret (pe_and (pe_callB call_isi (by rfl) T.isinstance (by decide +kernel) (pa_cons (pv 0) (pa_cons (pe_bltn (v := .ty "int") (by rfl) nI (by decide +kernel) rfl) pa_nil))) (pe_one (pe_not (pe_callB call_isi (by rfl) T.isinstance (by decide +kernel) (pa_cons (pv 0) (pa_cons (pe_bltn (v := .ty "bool") (by rfl) nB (by decide +kernel) rfl) pa_nil)))))))), ?_⟩
    refine ⟨_, rfl, _, .ty "int", .type (tyD d), .type "int", _, rfl, .ty "int", hd.ty, kit_ty (kit_int d), _, rfl, ?_⟩
    cases d with
    | int i => exact iteT ⟨_, rfl, _, .ty "bool", .type "int", .type "bool", _, rfl, .ty "bool", hd.ty, kit_ty (kit_bool (.int i)), _, rfl, q⟩
    | bool b => exact iteT ⟨_, rfl, _, .ty "bool", .type "bool", .type "bool", _, rfl, .ty "bool", hd.ty, kit_ty (kit_bool (.bool b)), _, rfl, q⟩
    | none => exact iteF q
    | str x => exact iteF q
    | list ds => exact iteF q
    | tuple ds => exact iteF q
    | dict kvs => exact iteF q
theorem idx_num {n : Int} {d : PyData} (h : numI d = false) : idxD n d = false := by
  cases d with
  | int i => cases h
  | tuple l => rfl
  | bool b => rfl
  | none => rfl
  | str x => rfl
  | list ds => rfl
  | dict kvs => rfl
theorem num_of {d : PyData} (h : numI d = true) : ∃ i, d = .int i := by
  cases d with
  | int i => exact ⟨i, rfl⟩
  | tuple l => cases h
  | bool b => cases h
  | none => cases h
  | str x => cases h
  | list ds => cases h
  | dict kvs => cases h
theorem scEx : FnScope ["item", "some", "caps", "k", "one"] ["item"] (defScope sEx) := ⟨rfl, rfl, rfl, by decide +kernel, rfl, by decide +kernel, by decide +kernel⟩
theorem ok_ex {f g b : Addr} {fd gd bd : FuncData} (F : Fun K "_law_expected" "_law_expected" sEx f fd) (T : NamesI mg) (GN : FnOk P w K mg base CX0 1 g gd ["one_thing"] (spII K)) (PN : Def K mg "_law_is_number" g gd ["one_thing"])
    (GB : FnOk P w K mg base CX0 1 b bd ["many"] spBin) (PB : Def K mg "_law_binomials" b bd ["many"]) : FnOk P w K mg base CX0 2 f fd ["item"] (spRE K) := by
  refine F.ok scEx (fun vs H Q E h => ?_) (fun cdv A outer s H vs Q E hr h => ?_)
  · obtain ⟨v, d, rfl, _⟩ := h
    rfl
  · obtain ⟨v, d, rfl, hd, q⟩ := h
    have hu64 : A.units + 3 + 64 < cLine := hr.units
    have line : sizeLine = 16777216 := by decide
    have form : goodF d = false → ∀ H', Same H H' → Q (.str "form") H' := fun h H' s => q _ H' s (by
      unfold resD
      rw [if_pos h]
      exact .str _)
    refine ⟨_, (pss_cons (ps_if (PW.pt (pw_or (pt_not (pt_val (pe_callB call_isi (by rfl) T.isinstance (by decide +kernel) (pa_cons (pv 0) (pa_cons (pe_bltn (v := .ty "tuple") (by rfl) T.tuple (by decide +kernel) rfl) pa_nil))))) (pw_or (pt_cmpR op_ne (pe_callB call_len_seq (by rfl) T.len PySem.boot_len (pa_cons (pv 0) pa_nil)) pe_int (nomark _)) (pw_or (pt_not (pt_val (pe_call GN (hr.mono (by decide)) (by rfl) PN.is PN.kp PN.bi .nil pass0 (pa_cons (pe_ix ix_tup (pv 0) pe_int (fun _ _ => rfl)) pa_nil)))) (pw_or (pt_cmpR op_lt (pe_ix ix_tup (pv 0) pe_int (fun _ _ => rfl)) pe_int (nomark _)) (pw_or1 (pt_cmpR op_gt (pe_ix ix_tup (pv 0) pe_int (fun _ _ => rfl)) pe_int (nomark _)))))))) (pss_one (ps_ret pe_str)) pss_nil)
      (pss_cons (ps_for PassesOwn.never rfl (pi_tup (pe_slice sl_tup (pv 0) (po_some pe_int) po_none)) (pg_name (i := 1) scEx.nd rfl (.inl rfl)) (pss_one (ps_if (PW.pt (pw_or (pt_not (pt_val (pe_callB call_isi (by rfl) T.isinstance (by decide +kernel) (pa_cons (pv 1) (pa_cons (pe_bltn (v := .ty "tuple") (by rfl) T.tuple (by decide +kernel) rfl) pa_nil))))) (pw_or (pt_cmpR op_ne (pe_callB call_len_seq (by rfl) T.len PySem.boot_len (pa_cons (pv 1) pa_nil)) (pe_op op_add (pe_ix ix_tup (pv 0) pe_int (fun _ _ => rfl)) pe_int) (nomark _)) (pw_or1 (pt_not (pt_val (pe_callB (cr_all rfl) (by rfl) T.all (by decide +kernel) (pa_cons (pe_lc (own := [("one", 4)]) (g := gName 4) (tt := tYes) rfl scEx.nd (pi_tup (pv 1)) (blkOk_by (N := ["item", "some", "caps", "k", "one"]) (sc := defScope sEx) (own := [("one", 4)]) (by decide +kernel)) (fun _ _ _ _ _ => (pg_name (i := 4) scEx.nd rfl (.inl rfl))) (fun _ _ _ _ _ => pts_nil) (fun _ _ _ _ _ => (pe_call GN (hr.mono (by decide)) (by rfl) PN.is PN.kp PN.bi .nil pass0 (pa_cons (pv 4) pa_nil)))) pa_nil)))))))) (pss_one (ps_ret pe_str)) pss_nil)))
      (pss_cons (ps_if (pt_cmpR (op_eqD hu64) (pe_lc (own := [("one", 4)]) (g := gName 4) rfl scEx.nd (pi_tup (pe_ix ix_tup (pv 0) pe_int (fun _ _ => rfl))) (blkOk_by (N := ["item", "some", "caps", "k", "one"]) (sc := defScope sEx) (own := [("one", 4)]) (by decide +kernel)) (fun _ _ _ _ _ => (pg_name (i := 4) scEx.nd rfl (.inl rfl))) (fun _ _ _ _ _ => (pts_one (pt_cmpR op_ne (pv 4) pe_int (nomark _)))) (fun _ _ _ _ _ => (pv 4))) (pe_lst pa_nil) (nomark _)) (pss_one (ps_ret pe_str)) pss_nil)
      (pss_cons (ps_set (i := 2) scEx.nd rfl (.inl rfl) (pe_call GB (hr.mono (by decide)) (by rfl) PB.is PB.kp PB.bi .nil pass0 (pa_cons (pe_ix ix_tup (pv 0) pe_int (fun _ _ => rfl)) pa_nil)))
      (pss_cons (ps_for PassesOwn.never rfl (pi_range1 rfl T.range (pa_cons (pe_op op_add (pe_ix ix_tup (pv 0) pe_int (fun _ _ => rfl)) pe_int) pa_nil)) (pg_name (i := 3) scEx.nd rfl (.inl rfl)) (pss_one (ps_if (PW.pt (pw_or (pt_cmpR op_lt (pe_ix ix_tup (pe_ix ix_tup (pv 0) pe_int (fun _ _ => rfl)) (pv 3) (fun _ _ => rfl)) pe_int (nomark _)) (pw_or (pt_cmpR op_gt (pe_ix ix_tup (pe_ix ix_tup (pv 0) pe_int (fun _ _ => rfl)) (pv 3) (fun _ _ => rfl)) (pe_ix ix_tup (pe_ix ix_tup (pv 0) pe_int (fun _ _ => rfl)) (pv 3) (fun _ _ => rfl)) (nomark _)) (pw_or1 (pt_cmpR op_gt (pe_ix ix_tup (pe_ix ix_tup (pv 0) pe_int (fun _ _ => rfl)) (pv 3) (fun _ _ => rfl)) (pe_ix ix_list (pv 2) (pv 3) (fun _ _ => rfl)) (nomark _)))))) (pss_one (ps_ret (pe_tup (pa_cons pe_str (pa_cons (pv 3) pa_nil))))) pss_nil)))
      (pss_one (ps_ret pe_non))))))), ?_⟩
    refine ⟨_, rfl, _, .ty "tuple", .type (tyD d), .type "tuple", _, rfl, .ty "tuple", hd.ty, kit_ty (kit_tup d), _, rfl, ?_⟩
    cases d with
    | int i => exact iteT (form rfl H (Same.refl _))
    | bool b => exact iteT (form rfl H (Same.refl _))
    | none => exact iteT (form rfl H (Same.refl _))
    | str x => exact iteT (form rfl H (Same.refl _))
    | list ds => exact iteT (form rfl H (Same.refl _))
    | dict kvs => exact iteT (form rfl H (Same.refl _))
    | tuple l =>
      obtain ⟨a, xs, rfl, hs, ha⟩ := tp_tup hd
      have lx := tpLen ha
      refine iteF ⟨_, rfl, a, xs, rfl, .inr hs, rfl, _, rfl, ?_⟩
      by_cases hl : l.length = 3
      · rw [decide_eq_true (by rw [lx, hl]; rfl)]
        obtain ⟨x, y, z, rfl⟩ := len3 hl
        obtain ⟨u, v, w, rfl, h1, h2, h3⟩ := tp_three ha
        have gf : goodF (.tuple [x, y, z]) = (idxD 41 x && (rowD (intD x + 1) y && rowD (intD x + 1) z)) := rfl
        refine iteF ⟨_, rfl, a, _, 0, u, rfl, rfl, hs, atI_nat (j := 0) rfl, u, x, rfl, h1, _, rfl, ?_⟩
        cases hx : numI x with
        | false => exact iteT (form (by rw [gf, idx_num hx]; rfl) H (Same.refl _))
        | true =>
          obtain ⟨i, rfl⟩ := num_of hx
          have eu := tp_int h1
          subst eu
          have ie : idxD 41 (.int i) = (decide (0 ≤ i) && decide (i < 41)) := rfl
          refine iteF ⟨_, rfl, a, _, 0, .int i, rfl, rfl, hs, atI_nat (j := 0) rfl, _, _, rfl, rfl, _, rfl, ?_⟩
          by_cases i0 : i < 0
          · rw [decide_eq_true i0]
            exact iteT (form (by rw [gf, ie, decide_eq_false (by omega)]; rfl) H (Same.refl _))
          · rw [decide_eq_false i0]
            refine iteF ⟨_, rfl, a, _, 0, .int i, rfl, rfl, hs, atI_nat (j := 0) rfl, _, _, rfl, rfl, _, rfl, ?_⟩
            by_cases i1 : i > 40
            · rw [decide_eq_true i1]
              exact iteT (form (by rw [gf, ie, decide_eq_false (show ¬ i < 41 by omega), Bool.and_false]; rfl) H (Same.refl _))
            · rw [decide_eq_false i1]
              obtain ⟨n, rfl⟩ : ∃ n : Nat, i = (n : Int) := ⟨i.toNat, by omega⟩
              rw [ie, decide_eq_true (by omega), decide_eq_true (by omega), Bool.and_true, Bool.true_and] at gf
              have gf : goodF (.tuple [.int (n : Nat), y, z]) = (rowD ((n : Int) + 1) y && rowD ((n : Int) + 1) z) := gf
              refine iteF ⟨_, rfl, ?_⟩
              refine Exists.intro (1 : Int) (And.intro rfl ?_)
              refine Exists.intro a (Exists.intro _ (And.intro rfl (And.intro hs (And.intro (fun h => absurd h.1 (by show ¬ HT.sIx 3 0 (some 1) = 0; decide)) fun t nt => ?_))))
              have et : upd H t (.tup (cutV [V.int (n : Nat), v, w] (some 1) none)) t = some (.tup [v, w]) := upd_same
              have st := Same.upd (o := .tup (cutV [V.int (n : Nat), v, w] (some 1) none)) nt
              generalize upd H t (.tup (cutV [V.int (n : Nat), v, w] (some 1) none)) = H0 at et st ⊢
              refine ⟨t, rfl, ⟨_, SqT.of et⟩, ?_⟩
              refine for_tup (K := K) (a := t) (xs := [v, w]) (fun j σ H' => ∃ v1 : Option V, σ = [some (V.ref a), v1, none, none, none] ∧ Same H0 H' ∧ ∀ k, k < j → ∀ d, [y, z][k]? = some d → rowD ((n : Int) + 1) d = true) ⟨none, rfl, Same.refl _, fun k hk => absurd hk (Nat.not_lt_zero _)⟩ (fun j σ H' _ ⟨_, _, h, _⟩ => SqT.of (h _ _ et)) ?_ ?_
              · rintro j x σ H1 hx ⟨v1, rfl, s1, before⟩
                have s01 := st.trans s1
                obtain ⟨dj, hdj, tx⟩ := tpGet (.cons h2 (.cons h3 .nil) : TpAll K H [v, w] [y, z]) hx
                have tx1 := Tp.same s01 _ _ tx
                have bad : rowD ((n : Int) + 1) dj = false → ∀ H', Same H1 H' → Q (.str "form") H' := fun hb H' s' => form (by
                  rw [gf]
                  match j, hdj with
                  | 0, hdj =>
                    cases hdj
                    rw [hb]
                    rfl
                  | 1, hdj =>
                    cases hdj
                    rw [hb, Bool.and_false]) H' (s01.trans s')
                have good : rowD ((n : Int) + 1) dj = true → ∀ k, k < j + 1 → ∀ d, [y, z][k]? = some d → rowD ((n : Int) + 1) d = true := fun hg k hk d hd' => by
                  by_cases e : k = j
                  · subst e
                    rw [hdj] at hd'
                    cases hd'
                    exact hg
                  · exact before k (by omega) d hd'
                refine ⟨_, rfl, _, .ty "tuple", .type (tyD dj), .type "tuple", _, rfl, .ty "tuple", tx1.ty, kit_ty (kit_tup dj), _, rfl, ?_⟩
                cases dj with
                | int i => exact iteT (bad rfl H1 (Same.refl _))
                | bool b => exact iteT (bad rfl H1 (Same.refl _))
                | none => exact iteT (bad rfl H1 (Same.refl _))
                | str x => exact iteT (bad rfl H1 (Same.refl _))
                | list ds => exact iteT (bad rfl H1 (Same.refl _))
                | dict kvs => exact iteT (bad rfl H1 (Same.refl _))
                | tuple l =>
                  obtain ⟨b, ys, rfl, hb, hys⟩ := tp_tup tx1
                  have ly := tpLen hys
                  have er : rowD ((n : Int) + 1) (.tuple l) = (decide ((l.length : Int) = (n : Int) + 1) && l.all numI) := rfl
                  refine iteF ⟨_, rfl, b, ys, rfl, .inr hb, _, rfl, a, _, 0, .int (n : Nat), rfl, rfl, sqt_same s01 hs, atI_nat (j := 0) rfl, _, _, rfl, rfl, rfl, _, rfl, ?_⟩
                  by_cases hl : (l.length : Int) = (n : Int) + 1
                  · rw [decide_eq_true (by rw [ly, hl])]
                    refine iteF ⟨_, rfl, b, rfl, ⟨_, hb⟩, fun D nD => ?_⟩
                    refine lc_tup (K := K) (a := b) (xs := ys) (fun j Hx => Same H1 Hx ∧ Hx D = some (.lst (((l.take j).map numI).map V.bl))) ⟨Same.upd nD, upd_same⟩ (fun j Hx _ h => sqt_same h.1 hb) ?_ ?_
                    · rintro m x H4 hx4 ⟨s4, e4⟩
                      have hj := (List.getElem?_eq_some_iff.mp hx4).1
                      obtain ⟨dm, hdm, td⟩ := tpGet hys hx4
                      have tx4 : Tp K H4 x dm := Tp.same s4 dm x td
                      refine ⟨rfl, ?_⟩
                      dsimp only [tYes]
                      refine iteT ⟨_, rfl, x, dm, rfl, tx4, _, e4, by rw [List.length_map, List.length_map, List.length_take]; omega, fun b o h => by rw [upd_ne (ne_of_none h nD)]; exact s4 _ _ h, ?_⟩
                      rw [upd_same, List.take_succ, hdm, List.map_append, List.map_append]
                      rfl
                    · rintro H4 ⟨s4, e4⟩
                      rw [ly, List.take_length] at e4
                      refine ⟨D, _, rfl, SqL.of e4, _, rfl, ?_⟩
                      have ea : (l.map numI).all id = l.all numI := by
                        rw [List.all_map]
                        rfl
                      rw [ea]
                      rw [decide_eq_true hl, Bool.true_and] at er
                      cases hA : l.all numI with
                      | false => exact iteT (bad (by rw [er, hA]) H4 s4)
                      | true => exact iteF ⟨_, rfl, s1.trans s4, good (by rw [er, hA])⟩
                  · rw [decide_eq_false (by rw [ly]; intro e; exact hl (V.int.inj e))]
                    exact iteT (bad (by rw [er, decide_eq_false hl]; rfl) H1 (Same.refl _))
              · rintro σ H1 ⟨v1, rfl, s1, rows⟩
                have s01 := st.trans s1
                have hy := rows 0 (by show 0 < 2; omega) y rfl
                have hz := rows 1 (by show 1 < 2; omega) z rfl
                rw [hy, hz] at gf
                obtain ⟨ds, rfl, ld⟩ := rowD_of hy
                obtain ⟨es, rfl, le⟩ := rowD_of hz
                obtain ⟨da, rfl, sd⟩ := tp_row h2
                obtain ⟨ea, rfl, se⟩ := tp_row h3
                have er : resD (.tuple [.int (n : Nat), .tuple (ds.map PyData.int), .tuple (es.map PyData.int)]) = if (es.any fun n => n != 0) = false then .str "few" else wrD (wrR n ds es) := by
                  unfold resD
                  rw [if_neg (by rw [gf]; decide)]
                  show (if ((intsD (.tuple (es.map PyData.int))).any fun n => n != 0) = false then _ else wrD (wrR _ (intsD (.tuple (ds.map PyData.int))) (intsD (.tuple (es.map PyData.int))))) = _
                  rw [intsD_ints, intsD_ints]
                  rfl
                rw [er] at q
                have hs1 := sqt_same s01 hs
                have se1 := sqt_same s01 se
                refine ⟨_, rfl, a, _, 2, .ref ea, rfl, rfl, hs1, atI_nat (j := 2) rfl, ea, rfl, ⟨_, se1⟩, fun D nD => ?_⟩
                refine lc_tup (K := K) (a := ea) (xs := es.map V.int) (fun j Hx => Same H1 Hx ∧ Hx D = some (.lst (((es.take j).filter (· != 0)).map V.int))) ⟨Same.upd nD, upd_same⟩ (fun j Hx _ h => sqt_same h.1 se1) ?_ ?_
                · rintro m x H4 hx4 ⟨s4, e4⟩
                  rw [List.getElem?_map] at hx4
                  obtain ⟨e, he, rfl⟩ := Option.map_eq_some_iff.mp hx4
                  refine ⟨rfl, _, rfl, rfl, _, rfl, ?_⟩
                  have tk : (es.take (m + 1)).filter (· != 0) = (es.take m).filter (· != 0) ++ (if e = 0 then [] else [e]) := by
                    rw [List.take_succ, he, List.filter_append]
                    by_cases e0 : e = 0
                    · subst e0
                      rfl
                    · rw [if_neg e0]
                      simp [e0]
                  by_cases e0 : e = 0
                  · rw [if_pos e0, List.append_nil] at tk
                    rw [decide_eq_true (by rw [e0])]
                    exact iteF ⟨s4, by rw [tk]; exact e4⟩
                  · rw [if_neg e0] at tk
                    rw [decide_eq_false (fun h => e0 (V.int.inj h))]
                    refine iteT ⟨_, rfl, _, e4, ?_, fun b o h => by rw [upd_ne (ne_of_none h nD)]; exact s4 _ _ h, ?_⟩
                    · rw [List.length_map]
                      have h1 := List.length_filter_le (· != (0 : Int)) (es.take m)
                      rw [List.length_take] at h1
                      omega
                    · rw [upd_same, tk, List.map_append]
                      rfl
                · rintro H4 ⟨s4, e4⟩
                  rw [List.length_map, List.take_length] at e4
                  refine ⟨by show 0 ≤ sizeLine; decide, fun D2 nD2 => ?_⟩
                  have s5 := Same.upd (o := .lst []) nD2
                  have e5 := s5 _ _ e4
                  refine ⟨_, _, .lst (SqL.of e5) (dpInts _), .lst (SqL.of upd_same) .nil, PySem.W.ke_shaped_ints _, rfl, _, rfl, ?_⟩
                  have any_ : (es.any fun n => n != 0) = !PyData.eqv (.list ((es.filter (· != 0)).map PyData.int)) (.list []) := by
                    cases hf : es.filter (· != 0) with
                    | nil =>
                      have : (es.any fun n => n != 0) = false := by
                        rw [List.any_eq_false]
                        exact List.filter_eq_nil_iff.mp hf
                      rw [this]
                      rfl
                    | cons c r =>
                      have : (es.any fun n => n != 0) = true := by
                        rw [List.any_eq_true]
                        have hc : c ∈ es.filter (· != 0) := by rw [hf]; exact List.mem_cons_self
                        rw [List.mem_filter] at hc
                        exact ⟨c, hc.1, hc.2⟩
                      rw [this]
                      rfl
                  rw [any_] at q
                  have s15 := s4.trans s5
                  have s05 := s01.trans s15
                  change ite (PyData.eqv (.list ((es.filter (· != 0)).map PyData.int)) (.list []) = true) _ _
                  cases hq : PyData.eqv (.list ((es.filter (· != 0)).map PyData.int)) (.list []) with
                  | true =>
                    rw [hq, if_pos (show (!true) = false from rfl)] at q
                    exact iteT (q _ _ s05 (.str _))
                  | false =>
                    rw [hq, if_neg (show ¬ (!false) = false by decide)] at q
                    have hs5 := sqt_same s05 hs
                    refine iteF ⟨_, rfl, a, _, 0, .int (n : Nat), rfl, rfl, hs5, atI_nat (j := 0) rfl, n, rfl, by omega, fun c H6 s6 nc ec => ?_⟩
                    have s06 := s05.trans s6
                    have hs6 := sqt_same s06 hs
                    have hn1 : ((n : Int) + 1).toNat = n + 1 := by omega
                    refine ⟨_, rfl, a, _, 0, .int (n : Nat), rfl, rfl, hs6, atI_nat (j := 0) rfl, _, _, rfl, rfl, _, rfl, by omega, by omega, for_range (D := { nx := tRet (tC V.non) { nx := fun x H' => Q V.non H', rt := Q }, rt := Q }) (lo := 0) (n := ((n : Int) + 1).toNat) (fun i σ H' => ∃ v1 v3 : Option V, σ = [some (V.ref a), v1, some (V.ref c), v3, none] ∧ H' = H6 ∧ wrR n ds es = ((List.range (n + 1)).drop i).find? fun k => !okR n ds es k) ⟨_, none, rfl, rfl, rfl⟩ ?_ ?_⟩
                    · rintro i σ H' hi ⟨v1, v3, rfl, rfl, hw⟩
                      rw [hn1] at hi
                      rw [Int.zero_add]
                      have gd : ds[i]? = some (ds.getD i 0) := by rw [List.getD_eq_getElem?_getD, List.getElem?_eq_getElem (by omega)]; rfl
                      have ge : es[i]? = some (es.getD i 0) := by rw [List.getD_eq_getElem?_getD, List.getElem?_eq_getElem (by omega)]; rfl
                      have dr : (List.range (n + 1)).drop i = i :: (List.range (n + 1)).drop (i + 1) := by
                        rw [List.drop_eq_getElem_cons (by rw [List.length_range]; exact hi), List.getElem_range]
                      rw [dr, List.find?_cons] at hw
                      have sd6 := sqt_same s06 sd
                      have se6 := sqt_same s06 se
                      have bad : okR n ds es i = false → ∀ t, H' t = none → Q (.ref t) (upd H' t (.tup [.str "row", .int (i : Nat)])) := fun h t nt => by
                        rw [h] at hw
                        rw [show wrR n ds es = some i from hw] at q
                        exact q _ _ (s06.trans (Same.upd nt)) (.tup (SqT.of upd_same) (.cons (.str _) (.cons (.int _) .nil)))
                      have good : okR n ds es i = true → wrR n ds es = ((List.range (n + 1)).drop (i + 1)).find? fun k => !okR n ds es k := fun h => by
                        rw [h] at hw
                        exact hw
                      unfold okR at bad good
                      refine ⟨_, rfl, a, _, 1, .ref da, rfl, rfl, hs6, atI_nat (j := 1) rfl, _, rfl, da, _, (i : Int), .int (ds.getD i 0), rfl, rfl, sd6, atI_nat (by rw [List.getElem?_map, gd]; rfl), _, _, rfl, rfl, _, rfl, ?_⟩
                      by_cases h0 : ds.getD i 0 < 0
                      · rw [decide_eq_true h0]
                        rw [decide_eq_false (show ¬ 0 ≤ ds.getD i 0 by omega)] at bad
                        exact iteT ⟨_, rfl, by show 2 ≤ sizeLine; decide, bad rfl⟩
                      · rw [decide_eq_false h0]
                        rw [decide_eq_true (show 0 ≤ ds.getD i 0 by omega)] at bad good
                        refine iteF ⟨_, rfl, a, _, 1, .ref da, rfl, rfl, hs6, atI_nat (j := 1) rfl, _, rfl, da, _, (i : Int), .int (ds.getD i 0), rfl, rfl, sd6, atI_nat (by rw [List.getElem?_map, gd]; rfl), _, rfl, a, _, 2, .ref ea, rfl, rfl, hs6, atI_nat (j := 2) rfl, _, rfl, ea, _, (i : Int), .int (es.getD i 0), rfl, rfl, se6, atI_nat (by rw [List.getElem?_map, ge]; rfl), _, _, rfl, rfl, _, rfl, ?_⟩
                        by_cases h1 : es.getD i 0 < ds.getD i 0
                        · rw [decide_eq_true h1]
                          rw [decide_eq_false (show ¬ ds.getD i 0 ≤ es.getD i 0 by omega)] at bad
                          exact iteT ⟨_, rfl, by show 2 ≤ sizeLine; decide, bad rfl⟩
                        · rw [decide_eq_false h1]
                          rw [decide_eq_true (show ds.getD i 0 ≤ es.getD i 0 by omega)] at bad good
                          refine iteF ⟨_, rfl, a, _, 2, .ref ea, rfl, rfl, hs6, atI_nat (j := 2) rfl, _, rfl, ea, _, (i : Int), .int (es.getD i 0), rfl, rfl, se6, atI_nat (by rw [List.getElem?_map, ge]; rfl), _, rfl, _, rfl, c, _, (i : Int), .int (ch n i : Nat), rfl, rfl, SqL.of ec, atI_nat (by rw [List.getElem?_map, bin_get (by omega)]; rfl), _, _, rfl, rfl, _, rfl, ?_⟩
                          by_cases h2 : (ch n i : Nat) < es.getD i 0
                          · rw [decide_eq_true h2]
                            rw [decide_eq_false (show ¬ es.getD i 0 ≤ (ch n i : Nat) by omega)] at bad
                            exact iteT ⟨_, rfl, by show 2 ≤ sizeLine; decide, bad rfl⟩
                          · rw [decide_eq_false h2]
                            rw [decide_eq_true (show es.getD i 0 ≤ (ch n i : Nat) by omega)] at good
                            exact iteF ⟨_, _, rfl, rfl, good rfl⟩
                    · rintro σ H' ⟨v1, v3, rfl, rfl, hw⟩
                      rw [hn1, List.drop_of_length_le (by rw [List.length_range]; exact Nat.le_refl _)] at hw
                      rw [show wrR n ds es = none from hw] at q
                      exact q _ _ s06 .non
      · rw [decide_eq_false (by rw [lx]; intro e; have := V.int.inj e; omega)]
        exact iteT (form (by
          have : tupD 3 (.tuple l) = false := decide_eq_false (by omega)
          unfold goodF
          rw [this]
          rfl) H (Same.refl _))
end
end Z

set_option Elab.async false
set_option linter.all false
set_option maxRecDepth 100000
set_option maxHeartbeats 4000000
namespace Z
open PySem PySem.Spec PyProof.Rows L2 GG ZC
abbrev sRecipe : Stmt := top 15
/-- a recipe's numbers -/
structure WR (m : Nat) (ds es : List Int) : Prop where
  dl : ds.length = m + 1
  el : es.length = m + 1
  ok : ∀ k, k ≤ m → 0 ≤ ds.getD k 0 ∧ ds.getD k 0 ≤ es.getD k 0 ∧ es.getD k 0 ≤ (ch m k : Nat)
  some : ∃ k, k ≤ m ∧ es.getD k 0 ≠ 0
/-- it stands at r -/
def Rec (H : Hp) (r : Addr) (m : Nat) (ds es : List Int) : Prop := ∃ a b, H r = some (.tup [.int (m : Nat), .ref a, .ref b]) ∧ H a = some (.tup (ds.map V.int)) ∧ H b = some (.tup (es.map V.int))
theorem Rec.same {H H' : Hp} {r : Addr} {m : Nat} {ds es : List Int} (h : Rec H r m ds es) (s : Same H H') : Rec H' r m ds es := by
  obtain ⟨a, b, h1, h2, h3⟩ := h
  exact ⟨a, b, s _ _ h1, s _ _ h2, s _ _ h3⟩
theorem Rec.but {H H' : Hp} {p l r : Addr} {m : Nat} {ds es : List Int} (h : Rec H r m ds es) (q : Pen H p l) (b : But p H H') : Rec H' r m ds es := by
  obtain ⟨x, y, h1, h2, h3⟩ := h
  exact ⟨x, y, b.mem (q.notTup h1) h1, b.mem (q.notTup h2) h2, b.mem (q.notTup h3) h3⟩
theorem ch_small {m k : Nat} (h : m ≤ 60) : ((ch m k : Nat) : Int).natAbs < 2 ^ 61 := by
  rw [Int.natAbs_natCast]
  exact Nat.lt_of_le_of_lt (ch_le m k) (Nat.lt_of_le_of_lt (Nat.pow_le_pow_right (by decide) h) (by decide))
theorem sum_some : ∀ {l : List Int}, l.sum ≠ 0 → ∃ x ∈ l, x ≠ 0
  | [], h => absurd rfl h
  | x :: r, h => by
    by_cases e : x = 0
    · have : r.sum ≠ 0 := fun z => h (by rw [List.sum_cons, z, e]; rfl)
      obtain ⟨y, hy, ny⟩ := sum_some this
      exact ⟨y, List.mem_cons_of_mem _ hy, ny⟩
    · exact ⟨x, List.mem_cons_self, e⟩
section
variable {P : Program} {w : World} {K : PySem.W.Frag} {mg : Str → Option Value} {base : Heap}
structure NamesS (mg : Str → Option Value) : Prop extends NamesR mg where
  sum : mg "sum" = none
def spRecipe : Sp := fun vs H Q _ => ∃ (p l : Addr) (most : Nat), vs = [.ref p, .int (most : Nat)] ∧ Pen H p l ∧ most ≤ 40 ∧ ∀ (r : Addr) (m : Nat) (ds es : List Int) H', But p H H' → Pen H' p l → m ≤ most → WR m ds es → H r = none → Rec H' r m ds es → Q (.ref r) H'
theorem scRecipe : FnScope ["pen", "most", "many", "caps", "ends", "cap", "end"] ["pen", "most"] (defScope sRecipe) := ⟨rfl, rfl, rfl, by decide +kernel, rfl, by decide +kernel, by decide +kernel⟩
theorem ok_recipe {f g b : Addr} {fd gd bd : FuncData} (F : Fun K "_law_recipe" "_law_recipe" sRecipe f fd) (T : NamesS mg) (GD : FnOk P w K mg base CX0 2 g gd ["pen", "many"] spDraw) (PD : Def K mg "_law_draw" g gd ["pen", "many"])
    (GB : FnOk P w K mg base CX0 1 b bd ["many"] spBin) (PB : Def K mg "_law_binomials" b bd ["many"]) :
    FnOk P w K mg base CX0 3 f fd ["pen", "most"] spRecipe := by
  refine F.ok scRecipe (fun vs H Q E h => ?_) (fun cdv A outer s H vs Q E hr h => ?_)
  · obtain ⟨p, l, m, rfl, _⟩ := h
    rfl
  · obtain ⟨p, l, most, rfl, pn, hm, q⟩ := h
    refine ⟨_, (pss_cons (ps_set (i := 2) scRecipe.nd rfl (.inl rfl) (pe_call GD (hr.mono (by decide)) (by rfl) PD.is PD.kp PD.bi .nil pass0 (pa_cons (pv 0) (pa_cons (pe_op op_add (pv 1) pe_int) pa_nil))))
      (pss_cons (ps_set (i := 3) scRecipe.nd rfl (.inl rfl) (pe_call GB (hr.mono (by decide)) (by rfl) PB.is PB.kp PB.bi .nil pass0 (pa_cons (pv 2) pa_nil)))
      (pss_cons (ps_setLc (i := 4) (own := [("cap", 5)]) (g := gName 5) (tt := tYes) rfl scRecipe.nd rfl rfl (sw_true rfl rfl rfl (by decide +kernel)) (pi_list (pv 3)) (blkOk_by (N := ["pen", "most", "many", "caps", "ends", "cap", "end"]) (sc := defScope sRecipe) (own := [("cap", 5)]) (by decide +kernel)) (fun _ _ _ _ _ => (pg_name (i := 5) scRecipe.nd rfl (.inl rfl))) (fun _ _ _ _ _ => pts_nil) (fun _ _ _ _ _ => (pe_call GD (hr.mono (by decide)) (by rfl) PD.is PD.kp PD.bi .nil pass0 (pa_cons (pv 0) (pa_cons (pe_op op_add (pv 5) pe_int) pa_nil)))))
      (pss_cons (ps_if (pt_cmpR op_eq (pe_callB (cr_sum rfl) (by rfl) T.sum (by decide +kernel) (pa_cons (pv 4) pa_nil)) pe_int (nomark _)) (pss_one (ps_set (i := 4) scRecipe.nd rfl (.inl rfl) (pv 3))) pss_nil)
      (pss_one (ps_ret (pe_tup (pa_cons (pv 2) (pa_cons (pe_callTy call_tuple_of (by rfl) T.tuple (by decide +kernel) (pa_cons (pe_lc (own := [("end", 6)]) (g := gName 6) (tt := tYes) rfl scRecipe.nd (pi_list (pv 4)) (blkOk_by (N := ["pen", "most", "many", "caps", "ends", "cap", "end"]) (sc := defScope sRecipe) (own := [("end", 6)]) (by decide +kernel)) (fun _ _ _ _ _ => (pg_name (i := 6) scRecipe.nd rfl (.inl rfl))) (fun _ _ _ _ _ => pts_nil) (fun _ _ _ _ _ => (pe_call GD (hr.mono (by decide)) (by rfl) PD.is PD.kp PD.bi .nil pass0 (pa_cons (pv 0) (pa_cons (pe_op op_add (pv 6) pe_int) pa_nil))))) pa_nil)) (pa_cons (pe_callTy call_tuple_of (by rfl) T.tuple (by decide +kernel) (pa_cons (pv 4) pa_nil)) pa_nil)))))))))), ?_⟩
    have line : sizeLine = 16777216 := by decide
    refine ⟨.ref p, rfl, _, rfl, _, _, rfl, rfl, p, l, (most : Int) + 1, rfl, pn, by omega, log_le (by omega), fun d H1 d0 d1 b1 p1 => ?_⟩
    obtain ⟨m, rfl⟩ : ∃ m : Nat, d = (m : Int) := ⟨d.toNat, by omega⟩
    refine ⟨_, rfl, m, rfl, by omega, fun c H2 s2 nc ec => ?_⟩
    have ac := p1.apart nc
    have p2 := p1.same s2
    -- ends
    refine ⟨_, rfl, c, rfl, ⟨_, SqL.of ec⟩, fun D nD => ?_⟩
    have aD := p2.apart nD
    have hb : (bin m).length = m + 1 := bin_len m
    refine lc_list (K := K) (a := c) (xs := (bin m).map V.int) (fun i Hx => ∃ es : List Int, Hx D = some (.lst (es.map V.int)) ∧ es.length = i ∧ (∀ k, k < i → 0 ≤ es.getD k 0 ∧ es.getD k 0 ≤ (ch m k : Nat)) ∧ But p H2 Hx ∧ Pen Hx p l) ⟨[], upd_same, rfl, fun k hk => absurd hk (Nat.not_lt_zero _), But.of (Same.upd nD), p2.same (Same.upd nD)⟩ (fun j Hx _ ⟨_, _, _, _, b, _⟩ => SqL.of (b.mem ac.1 ec)) ?_ ?_
    · rintro i x H3 hx ⟨es, e3, len, hes, b3, p3⟩
      have hi : i ≤ m := by
        have := (List.getElem?_eq_some_iff.mp hx).1
        rw [List.length_map, hb] at this
        omega
      rw [List.getElem?_map, bin_get hi] at hx
      cases hx
      refine ⟨rfl, ?_⟩
      dsimp only [tYes]
      have hc := ch_small (m := m) (k := i) (by omega)
      refine iteT ⟨.ref p, rfl, _, rfl, _, _, rfl, rfl, p, l, (ch m i : Int) + 1, rfl, p3, by omega, log_le (by omega), fun u H4 u0 u1 b4 p4 => ?_⟩
      refine ⟨_, b4.mem aD.1 e3, by rw [List.length_map]; omega, es ++ [u], ?_, by simp [len], ?_, ?_, ?_⟩
      · rw [upd_same, List.map_append]
        rfl
      · intro k hk
        rcases Nat.lt_or_ge k i with lt | ge
        · have := hes k lt
          rw [List.getD_eq_getElem?_getD, List.getElem?_append_left (by omega), ← List.getD_eq_getElem?_getD]
          exact this
        · have ek : k = i := by omega
          subst ek
          rw [List.getD_eq_getElem?_getD, List.getElem?_append_right (by omega), len, Nat.sub_self]
          show 0 ≤ u ∧ u ≤ _
          omega
      · intro b o e n
        rw [upd_ne (ne_of_none e nD)]
        exact b4 _ _ (b3 _ _ e n) n
      · obtain ⟨cs, pos, val, h1, h2, h3⟩ := p4
        exact ⟨cs, pos, val, by rw [upd_ne aD.1.symm]; exact h1, by rw [upd_ne aD.2.symm]; exact h2, h3⟩
    · rintro H3 ⟨es, e3, len, hes, b3, p3⟩
      rw [List.length_map, hb] at len hes
      have e3c := b3.mem ac.1 ec
      dsimp only
      refine on (if_tail (fun σ Hx => ∃ (e : Addr) (es : List Int), σ = [some (V.ref p), some (V.int (most : Nat)), some (V.int (m : Nat)), some (V.ref c), some (V.ref e), none, none] ∧ Hx = H3 ∧ H3 e = some (.lst (es.map V.int)) ∧ e ≠ p ∧ es.length = m + 1 ∧ (∀ k, k ≤ m → 0 ≤ es.getD k 0 ∧ es.getD k 0 ≤ (ch m k : Nat)) ∧ ∃ k, k ≤ m ∧ es.getD k 0 ≠ 0) ?_ (fun tl => ?_))
      rotate_left
      · refine ⟨_, rfl, D, es, rfl, SqL.of e3, rfl, _, rfl, ?_⟩
        by_cases h0 : es.sum = 0
        · rw [h0, decide_eq_true rfl]
          refine iteT ⟨_, rfl, tl _ _ ⟨c, bin m, rfl, rfl, e3c, ac.1, hb, ?_, 0, by omega, ?_⟩⟩
          · intro k hk
            rw [List.getD_eq_getElem?_getD, bin_get hk]
            show 0 ≤ (ch m k : Int) ∧ (ch m k : Int) ≤ (ch m k : Nat)
            omega
          · rw [List.getD_eq_getElem?_getD, bin_get (by omega), ch_zero]
            decide
        · rw [decide_eq_false (by intro h; exact h0 (V.int.inj h))]
          refine iteF (tl _ _ ⟨D, es, rfl, rfl, e3, aD.1, len, fun k hk => hes k (by omega), ?_⟩)
          obtain ⟨x, hx, nx⟩ := sum_some h0
          obtain ⟨k, hk, ek⟩ := List.getElem_of_mem hx
          exact ⟨k, by omega, by rw [List.getD_eq_getElem?_getD, List.getElem?_eq_getElem hk, ek]; exact nx⟩
      · rintro σ Hx ⟨e, es, rfl, eHx, ee, ep, len, hes, hsome⟩
        subst eHx
        refine ⟨_, rfl, _, rfl, e, rfl, ⟨_, SqL.of ee⟩, fun D2 nD2 => ?_⟩
        have aD2 := p3.apart nD2
        refine lc_list (K := K) (a := e) (xs := es.map V.int) (fun i Hy => ∃ ds : List Int, Hy D2 = some (.lst (ds.map V.int)) ∧ ds.length = i ∧ (∀ k, k < i → 0 ≤ ds.getD k 0 ∧ ds.getD k 0 ≤ es.getD k 0) ∧ But p Hx Hy ∧ Pen Hy p l) ⟨[], upd_same, rfl, fun k hk => absurd hk (Nat.not_lt_zero _), But.of (Same.upd nD2), p3.same (Same.upd nD2)⟩ (fun j Hx _ ⟨_, _, _, _, b, _⟩ => SqL.of (b.mem ep ee)) ?_ ?_
        · rintro i x H5 hx ⟨ds, e5, ld, hds, b5, p5⟩
          obtain ⟨hi, hx⟩ := List.getElem?_eq_some_iff.mp hx
          rw [List.length_map, len] at hi
          have hx : x = V.int (es.getD i 0) := by
            rw [← hx, List.getElem_map, List.getD_eq_getElem?_getD, List.getElem?_eq_getElem (by omega)]
            rfl
          subst hx
          have hei := hes i (by omega)
          have hc := ch_small (m := m) (k := i) (by omega)
          refine ⟨rfl, ?_⟩
          dsimp only [tYes]
          refine iteT ⟨.ref p, rfl, _, rfl, _, _, rfl, rfl, p, l, es.getD i 0 + 1, rfl, p5, by omega, log_le (by omega), fun u H6 u0 u1 b6 p6 => ?_⟩
          refine ⟨_, b6.mem aD2.1 e5, by rw [List.length_map]; omega, ds ++ [u], ?_, by simp [ld], ?_, ?_, ?_⟩
          · rw [upd_same, List.map_append]
            rfl
          · intro k hk
            rcases Nat.lt_or_ge k i with lt | ge
            · have := hds k lt
              rw [List.getD_eq_getElem?_getD, List.getElem?_append_left (by omega), ← List.getD_eq_getElem?_getD]
              exact this
            · have ek : k = i := by omega
              subst ek
              rw [List.getD_eq_getElem?_getD, List.getElem?_append_right (by omega), ld, Nat.sub_self]
              show 0 ≤ u ∧ u ≤ _
              omega
          · intro b o e n
            rw [upd_ne (ne_of_none e nD2)]
            exact b6 _ _ (b5 _ _ e n) n
          · obtain ⟨cs, pos, val, h1, h2, h3⟩ := p6
            exact ⟨cs, pos, val, by rw [upd_ne aD2.1.symm]; exact h1, by rw [upd_ne aD2.2.symm]; exact h2, h3⟩
        · rintro H5 ⟨ds, e5, ld, hds, b5, p5⟩
          rw [List.length_map, len] at ld hds
          refine ⟨D2, _, rfl, .inl ⟨SqL.of e5, fun t nt => ?_⟩⟩
          have s6 := Same.upd (o := .tup (ds.map V.int)) nt
          have e6 : upd H5 t (.tup (ds.map V.int)) t = some (.tup (ds.map V.int)) := upd_same
          change (_ : Hp → Prop) (upd H5 t (.tup (ds.map V.int)))
          generalize upd H5 t (.tup (ds.map V.int)) = H6 at s6 e6 ⊢
          refine ⟨_, rfl, e, _, rfl, .inl ⟨SqL.of (s6 _ _ (b5.mem ep ee)), fun u nu => ?_⟩⟩
          have s7 := Same.upd (o := .tup (es.map V.int)) nu
          have e7 : upd H6 u (.tup (es.map V.int)) u = some (.tup (es.map V.int)) := upd_same
          change (_ : Hp → Prop) (upd H6 u (.tup (es.map V.int)))
          generalize upd H6 u (.tup (es.map V.int)) = H7 at s7 e7 ⊢
          refine ⟨by show 3 ≤ sizeLine; decide, fun r nr => ?_⟩
          have s8 := Same.upd (o := .tup [.int (m : Nat), .ref t, .ref u]) nr
          have p7 := (p5.same s6).same s7
          have ar := p7.apart nr
          have bb : But p H H7 := ((((b1.trans (But.of s2)).trans b3).trans b5).trans (But.of s6)).trans (But.of s7)
          exact q r m ds es _ (bb.trans (But.of s8)) (p7.same s8) (by omega) ⟨ld, len, fun k hk => ⟨(hds k (by omega)).1, (hds k (by omega)).2, (hes k hk).2⟩, hsome⟩ (bb.free ar.1 nr) ⟨t, u, upd_same, s8 _ _ (s7 _ _ e6), s8 _ _ e7⟩
end
end Z

set_option Elab.async false
set_option linter.all false
set_option maxRecDepth 100000
set_option maxHeartbeats 4000000
/-! t * k, k 0 or more -/
namespace TR
open PySem PySem.Spec PyProof.Rows L2
theorem mul_one_ (l : Addr) (items : Array Value) (n : Nat) (dd : Option Addr) (sl : Array (Option Value)) (x : Int) (u : Tok) (h1 : x = 1) :
    Meets (Builtin.«tuple.__mul__» ⟨[.ref l, .int x u], []⟩) (fun _ R s => s.heap.get? l = some { cls := .type "tuple", dict := dd, data := .seq items n, slots := sl } ∧ R (.ok (.ret (.ref l))) s) := by
  refine .of_wp fun prog w A R s h => ?_
  obtain ⟨hp, g, d, tk, os⟩ := s
  obtain ⟨hl, h⟩ := h
  subst h1
  have ix := AutoSeq1.idx_int
  have c0 : ¬ ((decide ((1 : Int) < -(2 ^ 63)) || decide ((1 : Int) ≥ 2 ^ 63)) = true) := by decide
  have c1 : (items.isEmpty || (1 : Int) == 1) = true := by simp
  wp_walk using wpAny_loadPart' hl
  repeat (first
    | (refine wpAny_ite_false (decide_eq_false c0) ?_; wp_walk using wpAny_loadPart' hl)
    | (refine wpAny_ite_true (decide_eq_true c1) ?_; wp_walk using wpAny_loadPart' hl))
  exact ⟨_, rfl, h⟩
theorem mul_none_ (l : Addr) (items : Array Value) (n : Nat) (dd : Option Addr) (sl : Array (Option Value)) (x : Int) (u : Tok) (h1 : x = 0) (ne : items.isEmpty = false) :
    Meets (Builtin.«tuple.__mul__» ⟨[.ref l, .int x u], []⟩) (fun _ R s => s.heap.get? l = some { cls := .type "tuple", dict := dd, data := .seq items n, slots := sl } ∧
      R (.ok (.ret (.ref s.heap.objs.size))) { s with heap := s.heap.push { cls := .type "tuple", data := .seq #[] }, toks := s.toks }) := by
  refine .of_wp fun prog w A R s h => ?_
  obtain ⟨hp, g, d, tk, os⟩ := s
  obtain ⟨hl, h⟩ := h
  subst h1
  have ix := AutoSeq1.idx_int
  have c0 : ¬ ((decide ((0 : Int) < -(2 ^ 63)) || decide ((0 : Int) ≥ 2 ^ 63)) = true) := by decide
  have c1 : ¬ ((items.isEmpty || (0 : Int) == 1) = true) := by rw [ne]; decide
  have c2 : (decide ((0 : Int) ≤ 0) || items.isEmpty) = true := by simp
  wp_walk using wpAny_loadPart' hl
  repeat (first
    | (refine wpAny_ite_false (decide_eq_false c0) ?_; wp_walk using wpAny_loadPart' hl)
    | (refine wpAny_ite_false (decide_eq_false c1) ?_; wp_walk using wpAny_loadPart' hl)
    | (refine wpAny_ite_true (decide_eq_true c2) ?_; wp_walk using wpAny_loadPart' hl))
  exact ⟨_, rfl, h⟩
section
variable {X : Cx}
def rRepA (K : PySem.W.Frag) : R2 := fun x y H Q => ∃ (l : Addr) (k : Int) (xs : List V), x = .ref l ∧ y = .int k ∧ SqT K H l xs ∧ xs ≠ [] ∧ 0 ≤ k ∧ k ≤ 1000 ∧ xs.length ≤ 1000 ∧ (k = 1 → Q (.ref l) H) ∧ (k ≠ 1 → ∀ p, H p = none → Q (.ref p) (upd H p (.tup (List.replicate k.toNat xs).flatten)))
theorem op_repA : OpR X (binaryOp .Mult) (rRepA X.K) := by
  intro pins s σ H x y v u Q I rx ry h
  obtain ⟨l, k, xs, rfl, rfl, hT, hne, h1, h2, hz, q1, q2⟩ := h
  by_cases two : 2 ≤ k
  · exact op_repT pins s σ H _ _ v u Q I rx ry ⟨l, k, xs, rfl, rfl, hT, hne, two, h2, hz, q2 (by omega)⟩
  · cases rx
    obtain ⟨t, rfl⟩ := ry
    obtain ⟨its, r, ⟨⟨cls, dd, data, sl⟩, ho, hc, n, hd⟩, hs⟩ := I.tuple hT
    simp only at hc hd
    subst hc hd
    by_cases one : k = 1
    · refine wpAny_binaryOp_repeat_ref (T := "tuple") (U := "int") (by decide) ⟨_, ho, rfl⟩ (fun s' => typeIs_int s' k t) noFill_tuple_mul F.fills_int_mul F.slot_int_rmul repeat_tuple F.slot_int_index.lookup ?_
      refine call_meets F.slot_int_rmul (typeIs_int s k t) F.entry_int_rmul (F.args_int_rmul_2 _ _) (int_rmul_tuple k t l its.toArray n dd sl) ⟨ho, rfl, ⟨_, ho, rfl⟩, ?_⟩
      exact call_meets F.slot_tuple_mul ⟨_, ho, rfl⟩ F.entry_tuple_mul (F.args_tuple_mul_2 _ _) (mul_one_ l its.toArray n dd sl k t one) ⟨ho, ⟨.ref l, H, I, rfl, q1 one⟩⟩
    · have ne : its.toArray.isEmpty = false := by
        have len := r.length
        cases its with
        | nil => exact absurd (List.eq_nil_of_length_eq_zero len) hne
        | cons a b => rfl
      have zero : k = 0 := by omega
      refine wpAny_binaryOp_repeat_ref (T := "tuple") (U := "int") (by decide) ⟨_, ho, rfl⟩ (fun s' => typeIs_int s' k t) noFill_tuple_mul F.fills_int_mul F.slot_int_rmul repeat_tuple F.slot_int_index.lookup ?_
      refine call_meets F.slot_int_rmul (typeIs_int s k t) F.entry_int_rmul (F.args_int_rmul_2 _ _) (int_rmul_tuple k t l its.toArray n dd sl) ⟨ho, rfl, ⟨_, ho, rfl⟩, ?_⟩
      refine call_meets F.slot_tuple_mul ⟨_, ho, rfl⟩ F.entry_tuple_mul (F.args_tuple_mul_2 _ _) (mul_none_ l its.toArray n dd sl k t zero ne) ⟨ho, ?_⟩
      have q := q2 one
      rw [zero] at q
      refine ⟨.ref s.heap.objs.size, _, I.laid (t' := s.toks) (o := .tup []) (fun b ob q => Heap.get?_push_of_some _ q) (Nat.le_refl _) ?_, rfl, q _ (I.hok.fresh (Nat.le_refl _))⟩
      exact ⟨Nat.zero_le _, _, .nil, IsTup.new _ _⟩
end
end TR

set_option Elab.async false
set_option linter.all false
set_option maxRecDepth 100000
set_option maxHeartbeats 4000000
set_option exponentiation.threshold 20000
namespace Z
open PySem PySem.Spec PyProof.Rows L2 GG ZC TPD
abbrev sMT : Stmt := top 18
abbrev sMu : Stmt := top 19
/-! ### data whose text is short -/
structure ShT (d : PyData) (a b : Nat) : Prop where
  s : d.showable = true
  l : d.leavesShort 1922 = true
  p : d.depth ≤ a
  b : d.bulk ≤ b
theorem ShT.mono {d : PyData} {a b a' b' : Nat} (x : ShT d a b) (h1 : a ≤ a') (h2 : b ≤ b') : ShT d a' b' := ⟨x.s, x.l, Nat.le_trans x.p h1, Nat.le_trans x.b h2⟩
theorem ShT.t {d : PyData} (x : ShT d 50 8000) : ShowsT d := by
  refine ⟨x.s, x.p, ?_⟩
  have h := PyData.shown_le_bulk 1922 (by decide) d x.l
  have hb := x.b
  have e : sizeLine = 16777216 := by decide
  have := Nat.mul_le_mul_left 1924 hb
  omega
theorem sht_all {a b : Nat} : ∀ {ds : List PyData}, (∀ d ∈ ds, ShT d a b) → PyData.showableAll ds = true ∧ PyData.leavesShortAll 1922 ds = true ∧ PyData.depthAll ds ≤ a ∧ PyData.bulkAll ds ≤ ds.length * (b + 1)
  | [], _ => ⟨rfl, rfl, Nat.zero_le _, Nat.zero_le _⟩
  | d :: r, h => by
    obtain ⟨h1, h2, h4, h5⟩ := sht_all (ds := r) fun m hm => h m (List.mem_cons_of_mem _ hm)
    have x := h d List.mem_cons_self
    have xs := x.s
    have xl := x.l
    have xp := x.p
    have xb := x.b
    refine ⟨?_, ?_, ?_, ?_⟩
    · simp [PyData.showableAll, xs, h1]
    · simp [PyData.leavesShortAll, xl, h2]
    · simp only [PyData.depthAll]
      omega
    · simp only [PyData.bulkAll, List.length_cons, Nat.add_mul, Nat.one_mul]
      omega
theorem sht_lst {a b m : Nat} {ds : List PyData} (hl : ds.length ≤ m) (h : ∀ d ∈ ds, ShT d a b) : ShT (.list ds) (a + 1) (m * (b + 1)) := by
  obtain ⟨h1, h2, h4, h5⟩ := sht_all h
  have h6 : ds.length * (b + 1) ≤ m * (b + 1) := Nat.mul_le_mul_right _ hl
  refine ⟨?_, ?_, ?_, ?_⟩
  · simpa [PyData.showable] using h1
  · show PyData.leavesShort 1922 (.list ds) = true
    unfold PyData.leavesShort
    exact h2
  · simp only [PyData.depth]
    omega
  · simp only [PyData.bulk]
    omega
theorem sht_tup {a b m : Nat} {ds : List PyData} (hl : ds.length ≤ m) (h : ∀ d ∈ ds, ShT d a b) : ShT (.tuple ds) (a + 1) (m * (b + 1)) := by
  obtain ⟨h1, h2, h4, h5⟩ := sht_all h
  have h6 : ds.length * (b + 1) ≤ m * (b + 1) := Nat.mul_le_mul_right _ hl
  refine ⟨?_, ?_, ?_, ?_⟩
  · simpa [PyData.showable] using h1
  · show PyData.leavesShort 1922 (.tuple ds) = true
    unfold PyData.leavesShort
    exact h2
  · simp only [PyData.depth]
    omega
  · simp only [PyData.bulk]
    omega
theorem sht_int {i : Int} (h : i.natAbs < 2 ^ 300) : ShT (.int i) 0 20 := by
  have l : i.natAbs.log2 < 1920 := Nat.lt_of_lt_of_le (PySem.Flt.log2_lt_of (k := 300) (by decide) h) (by decide)
  refine ⟨by simp [PyData.showable, l], short_int l, ?_, ?_⟩
  · simp [PyData.depth]
  · simp [PyData.bulk]
theorem sht_non : ShT .none 0 20 := ⟨rfl, rfl, Nat.le_refl _, Nat.zero_le _⟩
theorem sht_bl (b : Bool) : ShT (.bool b) 0 20 := ⟨rfl, rfl, Nat.le_refl _, Nat.zero_le _⟩
theorem sht_dic : ShT (.dict []) 1 20 := ⟨rfl, rfl, by decide, by decide⟩
theorem sht_str {x : Str} (h1 : (x.cps.toList.all fun c => decide (c < 16 ^ 8)) = true) (h2 : x.cps.size ≤ 20) : ShT (.str x) 0 20 := by
  refine ⟨rfl, ?_, Nat.le_refl _, h2⟩
  unfold PyData.leavesShort
  exact h1
/-- all but what is in N stays -/
def BN (N : Addr → Prop) (H H' : Hp) : Prop := ∀ b o, H b = some o → ¬ N b → H' b = some o
/-- data that stays as long as all but N stays -/
def Dt (K : PySem.W.Frag) (N : Addr → Prop) (H : Hp) (v : V) (a b : Nat) : Prop := ∃ d, (∀ H', BN N H H' → Tp K H' v d) ∧ ShT d a b
section
variable {K : PySem.W.Frag} {N : Addr → Prop} {p : Addr} {H H' : Hp} {a b : Nat}
theorem BN.but (np : N p) (h : But p H H') : BN N H H' := fun b o e n => h b o e fun z => n (z ▸ np)
theorem BN.trans {H1 : Hp} (x : BN N H H1) (y : BN N H1 H') : BN N H H' := fun b o e n => y b o (x b o e n) n
theorem BN.of (s : Same H H') : BN N H H' := fun b o e _ => s b o e
theorem BN.mem {q : Addr} {o : HO} (b : BN N H H') (n : ¬ N q) (e : H q = some o) : H' q = some o := b q o e n
theorem Dt.bn {v : V} (x : Dt K N H v a b) (h : BN N H H') : Dt K N H' v a b := by
  obtain ⟨d, h1, h2⟩ := x
  exact ⟨d, fun H2 b2 => h1 H2 (h.trans b2), h2⟩
theorem Dt.but {v : V} (x : Dt K N H v a b) (np : N p) (h : But p H H') : Dt K N H' v a b := x.bn (BN.but np h)
theorem Dt.mono {v : V} {a' b' : Nat} (x : Dt K N H v a b) (h1 : a ≤ a') (h2 : b ≤ b') : Dt K N H v a' b' := by
  obtain ⟨d, h3, h4⟩ := x
  exact ⟨d, h3, h4.mono h1 h2⟩
theorem dt_int {i : Int} (h : i.natAbs < 2 ^ 300) : Dt K N H (.int i) 0 20 := ⟨_, fun _ _ => .int i, sht_int h⟩
theorem dt_non : Dt K N H .non 0 20 := ⟨_, fun _ _ => .non, sht_non⟩
theorem dt_bl (c : Bool) : Dt K N H (.bl c) 0 20 := ⟨_, fun _ _ => .bl c, sht_bl c⟩
theorem dt_str {x : Str} (h1 : (x.cps.toList.all fun c => decide (c < 16 ^ 8)) = true) (h2 : x.cps.size ≤ 20) : Dt K N H (.str x) 0 20 := ⟨_, fun _ _ => .str x, sht_str h1 h2⟩
theorem dt_dic {q : Addr} (e : H q = some (.dK [])) (n : ¬ N q) : Dt K N H (.ref q) 1 20 := ⟨_, fun H' bb => .dic (bb.mem n e), sht_dic⟩
theorem dt_all : ∀ {xs : List V}, (∀ v ∈ xs, Dt K N H v a b) → ∃ ds, ds.length = xs.length ∧ (∀ H', BN N H H' → TpAll K H' xs ds) ∧ ∀ d ∈ ds, ShT d a b
  | [], _ => ⟨[], rfl, fun _ _ => .nil, fun d h => (List.not_mem_nil h).elim⟩
  | v :: r, h => by
    obtain ⟨ds, h1, h2, h3⟩ := dt_all (xs := r) fun w hw => h w (List.mem_cons_of_mem _ hw)
    obtain ⟨d, h4, h5⟩ := h v List.mem_cons_self
    refine ⟨d :: ds, by rw [List.length_cons, List.length_cons, h1], fun H' bb => .cons (h4 H' bb) (h2 H' bb), fun c hc => ?_⟩
    rcases List.mem_cons.mp hc with rfl | hc
    · exact h5
    · exact h3 c hc
theorem dt_tup {q : Addr} {xs : List V} {m : Nat} (e : H q = some (.tup xs)) (n : ¬ N q) (hm : xs.length ≤ m) (h : ∀ v ∈ xs, Dt K N H v a b) : Dt K N H (.ref q) (a + 1) (m * (b + 1)) := by
  obtain ⟨ds, h1, h2, h3⟩ := dt_all h
  exact ⟨.tuple ds, fun H' bb => .tup (SqT.of (bb.mem n e)) (h2 H' bb), sht_tup (by omega) h3⟩
theorem dt_lst {q : Addr} {xs : List V} {m : Nat} (hq : sysModules < q) (e : H q = some (.lst xs)) (n : ¬ N q) (hm : xs.length ≤ m) (h : ∀ v ∈ xs, Dt K N H v a b) : Dt K N H (.ref q) (a + 1) (m * (b + 1)) := by
  obtain ⟨ds, h1, h2, h3⟩ := dt_all h
  exact ⟨.list ds, fun H' bb => .lst hq (SqL.of (bb.mem n e)) (h2 H' bb), sht_lst (by omega) h3⟩
theorem pick {xs : List V} {O : V → Prop} (h : ∀ v ∈ xs, O v) {k : Int} (h0 : 0 ≤ k) (h1 : k < xs.length) : ∃ v, atI xs k = some v ∧ O v := by
  obtain ⟨j, rfl⟩ : ∃ j : Nat, k = (j : Int) := ⟨k.toNat, by omega⟩
  have hj : j < xs.length := by omega
  exact ⟨xs[j], atI_nat (List.getElem?_eq_getElem hj), h _ (List.getElem_mem hj)⟩
end
theorem cut_mem {xs : List V} {lo hi : Option Int} {v : V} (h : v ∈ cutV xs lo hi) : v ∈ xs := List.mem_of_mem_drop (List.mem_of_mem_take h)
theorem cut_last {n : Nat} (h : HT.sIx (n + 1) 0 none = 0 ∧ HT.sIx (n + 1) (n + 1) (some (-1)) = n + 1) : False := by
  have e : HT.sIx (n + 1) (n + 1) (some (-1)) = ((-1 : Int) + ((n + 1 : Nat) : Int)).toNat := by
    show (if ((-1 : Int)) < 0 then ((-1 : Int) + ((n + 1 : Nat) : Int)).toNat else min ((-1 : Int)).toNat (n + 1)) = _
    rw [if_pos (by decide)]
  have := h.2
  rw [e] at this
  omega
section
variable {P : Program} {w : World} {K : PySem.W.Frag} {mg : Str → Option Value} {base : Heap}
def spMT (K : PySem.W.Frag) : Sp := fun vs H Q _ => ∃ (p l s c : Addr) (m : Nat) (ns : List Int) (N : Addr → Prop), vs = [.ref p, .ref s, .ref c] ∧ N p ∧ (∀ b, N b → H b ≠ none) ∧ ¬ N s ∧ Pen H p l ∧ m ≤ 40 ∧ H s = some (.tup (ns.map V.int)) ∧ H c = some (.lst ((bin m).map V.int)) ∧ c ≠ p ∧ ns.length = m + 1 ∧ (∀ n ∈ ns, n.natAbs < 2 ^ 100) ∧
  ∀ v H', But p H H' → Pen H' p l → Dt K N H' v 2 2000 → Q v H'
theorem scMT : FnScope ["pen", "some", "caps", "at", "form", "odd"] ["pen", "some", "caps"] (defScope sMT) := ⟨rfl, rfl, rfl, by decide +kernel, rfl, by decide +kernel, by decide +kernel⟩
theorem ok_mt {f g : Addr} {fd gd : FuncData} (F : Fun K "_law_mutated_tuple" "_law_mutated_tuple" sMT f fd) (T : Names mg) (GD : FnOk P w K mg base CX0 2 g gd ["pen", "many"] spDraw) (PD : Def K mg "_law_draw" g gd ["pen", "many"]) : FnOk P w K mg base CX0 3 f fd ["pen", "some", "caps"] (spMT K) := by
  refine F.ok scMT (fun vs H Q E h => ?_) (fun cdv A outer s H vs Q E hr h => ?_)
  · obtain ⟨p, l, s, c, m, ns, N, rfl, _⟩ := h
    rfl
  · obtain ⟨p, l, s, c, m, ns, N, rfl, np, occ, ns_, pn, hm, es, ec, cp, hl, hn, q⟩ := h
    have line : sizeLine = 16777216 := by decide
    refine ⟨_, (pss_cons (ps_set (i := 3) scMT.nd rfl (.inl rfl) (pe_call GD (hr.mono (by decide)) (by rfl) PD.is PD.kp PD.bi .nil pass0 (pa_cons (pv 0) (pa_cons (pe_callB call_len_seq (by rfl) T.len PySem.boot_len (pa_cons (pv 1) pa_nil)) pa_nil))))
      (pss_cons (ps_set (i := 4) scMT.nd rfl (.inl rfl) (pe_call GD (hr.mono (by decide)) (by rfl) PD.is PD.kp PD.bi .nil pass0 (pa_cons (pv 0) (pa_cons pe_int pa_nil))))
      (pss_cons (ps_if (pt_cmpR op_eq (pv 4) pe_int (nomark _)) (pss_one (ps_ret (pe_ix ix_list (pe_lst (pa_cons (pe_callTy TPD.call_listS (by rfl) T.list (by decide +kernel) (pa_cons (pv 1) pa_nil)) (pa_cons pe_non (pa_cons pe_str (pa_cons pe_dnewK (pa_cons (pe_slice sl_tupA (pv 1) po_none (po_some (pe_un un_neg pe_int))) (pa_cons (pe_op op_catA (pv 1) (pe_tup (pa_cons pe_int pa_nil))) (pa_cons (pe_tup (pa_cons (pv 1) pa_nil)) (pa_cons pe_int pa_nil))))))))) (pe_call GD (hr.mono (by decide)) (by rfl) PD.is PD.kp PD.bi .nil pass0 (pa_cons (pv 0) (pa_cons pe_int pa_nil))) (fun _ _ => rfl)))) pss_nil)
      (pss_cons (ps_if (pt_cmpR op_eq (pv 4) pe_int (nomark _)) (pss_one (ps_ret (pe_op TR.op_repA (pe_tup (pa_cons pe_int pa_nil)) (pe_callB call_len_seq (by rfl) T.len PySem.boot_len (pa_cons (pv 1) pa_nil))))) pss_nil)
      (pss_cons (ps_set (i := 5) scMT.nd rfl (.inl rfl) (pe_lst (pa_cons (pe_un un_neg pe_int) (pa_cons (pe_op op_add (pe_ix ix_list (pv 2) (pv 3) (fun _ _ => rfl)) pe_int) (pa_cons (pe_ix ix_list (pv 2) (pv 3) (fun _ _ => rfl)) (pa_cons (pe_op op_add (pe_ix ix_tup (pv 1) (pv 3) (fun _ _ => rfl)) pe_int) (pa_cons (pe_op op_sub (pe_ix ix_tup (pv 1) (pv 3) (fun _ _ => rfl)) pe_int) (pa_cons pe_bl (pa_cons pe_non (pa_cons pe_str (pa_cons (pe_op op_pow pe_int pe_int) pa_nil)))))))))))
      (pss_one (ps_ret (pe_op op_catA (pe_op op_catA (pe_slice sl_tupA (pv 1) po_none (po_some (pv 3))) (pe_tup (pa_cons (pe_ix ix_list (pv 5) (pe_call GD (hr.mono (by decide)) (by rfl) PD.is PD.kp PD.bi .nil pass0 (pa_cons (pv 0) (pa_cons pe_int pa_nil))) (fun _ _ => rfl)) pa_nil))) (pe_slice sl_tupA (pv 1) (po_some (pe_op op_add (pv 3) pe_int)) po_none))))))))), ?_⟩
    -- at, form
    refine ⟨_, rfl, _, rfl, s, _, rfl, .inr (SqT.of es), p, l, _, rfl, pn, by rw [List.length_map]; omega, log_le (by rw [List.length_map]; omega), fun d H1 d0 d1 b1 p1 => ?_⟩
    rw [List.length_map, hl] at d1
    obtain ⟨at_, rfl⟩ : ∃ j : Nat, d = (j : Int) := ⟨d.toNat, by omega⟩
    refine ⟨_, rfl, p, l, 9, rfl, p1, by decide, by decide +kernel, fun f H2 f0 f1 b2 p2 => ?_⟩
    have sp : s ≠ p := pn.notTup es
    have es2 := b2.mem sp (b1.mem sp es)
    have ec2 := b2.mem cp (b1.mem cp ec)
    have b12 := b1.trans b2
    have out : ∀ {Hk : Hp} {x : Addr}, But p H Hk → Hk x = none → x ≠ p → ¬ N x := fun bk nk ne h => occ _ h (bk.free ne nk)
    have okn : ∀ {H' : Hp}, ∀ v ∈ ns.map V.int, Dt K N H' v 0 20 := fun v hv => by
      obtain ⟨n, h, rfl⟩ := List.mem_map.mp hv
      exact dt_int (Nat.lt_of_lt_of_le (hn n h) (by decide))
    have okd : ∀ {H' : Hp} {xs : List V}, (∀ v ∈ xs, v ∈ ns.map V.int) → ∀ v ∈ xs, Dt K N H' v 0 20 := fun h v hv => okn v (h v hv)
    have nl : (ns.map V.int).length = m + 1 := by rw [List.length_map, hl]
    refine ⟨_, rfl, rfl, _, rfl, ?_⟩
    by_cases hf : f = 0
    · rw [decide_eq_true (congrArg V.int hf)]
      refine iteT ⟨_, rfl, s, _, rfl, .inr (SqT.of es2), fun q1 lq1 nq1 => ?_⟩
      have e1 : upd H2 q1 (.lst (ns.map V.int)) q1 = some (.lst (ns.map V.int)) := upd_same
      have s1 := Same.upd (o := .lst (ns.map V.int)) nq1
      have a1 := out b12 nq1 (p2.apart nq1).1
      have p3 := p2.same s1
      have es3 := s1 _ _ es2
      generalize upd H2 q1 (.lst (ns.map V.int)) = H3 at e1 s1 p3 es3 ⊢
      refine fun q2 nq2 => ?_
      have e2 : upd H3 q2 (.dK []) q2 = some (.dK []) := upd_same
      have s2 := Same.upd (o := .dK []) nq2
      have a2 := out (b12.trans (But.of s1)) nq2 (p3.apart nq2).1
      have p4 := p3.same s2
      have es4 := s2 _ _ es3
      change (_ : Hp → Prop) (upd H3 q2 (.dK []))
      generalize upd H3 q2 (.dK []) = H4 at e2 s2 p4 es4 ⊢
      refine ⟨_, rfl, ?_⟩
      dsimp only [tPart, tNoPart]
      refine ⟨1, rfl, -1, rfl, s, _, rfl, SqT.of es4, fun h => (cut_last (n := m) (by rw [nl] at h; exact h)).elim, fun _ q3 nq3 => ?_⟩
      have e3 : upd H4 q3 (.tup (cutV (ns.map V.int) none (some (-1)))) q3 = some (.tup (cutV (ns.map V.int) none (some (-1)))) := upd_same
      have s3 := Same.upd (o := .tup (cutV (ns.map V.int) none (some (-1)))) nq3
      have a3 := out (b12.trans (But.of (s1.trans s2))) nq3 (p4.apart nq3).1
      have p5 := p4.same s3
      have es5 := s3 _ _ es4
      change (_ : Hp → Prop) (upd H4 q3 (.tup (cutV (ns.map V.int) none (some (-1)))))
      generalize upd H4 q3 (.tup (cutV (ns.map V.int) none (some (-1)))) = H5 at e3 s3 p5 es5 ⊢
      refine ⟨_, rfl, by show 1 ≤ sizeLine; decide, fun z nz => ?_⟩
      have ez : upd H5 z (.tup [V.int 0]) z = some (.tup [V.int 0]) := upd_same
      have sz := Same.upd (o := .tup [V.int 0]) nz
      have p6 := p5.same sz
      have es6 := sz _ _ es5
      change (_ : Hp → Prop) (upd H5 z (.tup [V.int 0]))
      generalize upd H5 z (.tup [V.int 0]) = H6 at ez sz p6 es6 ⊢
      refine ⟨s, z, _, _, rfl, rfl, SqT.of es6, SqT.of ez, by rw [nl]; show m + 1 + 1 ≤ sizeLine; omega, fun h => ?_, fun _ h => (List.cons_ne_nil _ _ h).elim, fun _ _ q4 nq4 => ?_⟩
      · have := congrArg List.length h
        rw [nl, List.length_nil] at this
        omega
      have e4 : upd H6 q4 (.tup (ns.map V.int ++ [V.int 0])) q4 = some (.tup (ns.map V.int ++ [V.int 0])) := upd_same
      have s4 := Same.upd (o := .tup (ns.map V.int ++ [V.int 0])) nq4
      have a4 := out (b12.trans (But.of (s1.trans (s2.trans (s3.trans sz))))) nq4 (p6.apart nq4).1
      have p7 := p6.same s4
      have es7 := s4 _ _ es6
      change (_ : Hp → Prop) (upd H6 q4 (.tup (ns.map V.int ++ [V.int 0])))
      generalize upd H6 q4 (.tup (ns.map V.int ++ [V.int 0])) = H7 at e4 s4 p7 es7 ⊢
      refine ⟨_, rfl, by show 1 ≤ sizeLine; decide, fun q5 nq5 => ?_⟩
      have e5 : upd H7 q5 (.tup [V.ref s]) q5 = some (.tup [V.ref s]) := upd_same
      have s5 := Same.upd (o := .tup [V.ref s]) nq5
      have a5 := out (b12.trans (But.of (s1.trans (s2.trans (s3.trans (sz.trans s4)))))) nq5 (p7.apart nq5).1
      have p8 := p7.same s5
      have es8 := s5 _ _ es7
      change (_ : Hp → Prop) (upd H7 q5 (.tup [V.ref s]))
      generalize upd H7 q5 (.tup [V.ref s]) = H8 at e5 s5 p8 es8 ⊢
      refine ⟨by show 8 ≤ sizeLine; decide, fun q6 nq6 => ?_⟩
      have e6 : upd H8 q6 (.lst [.ref q1, .non, .str "", .ref q2, .ref q3, .ref q4, .ref q5, .int 0]) q6 = some (.lst [.ref q1, .non, .str "", .ref q2, .ref q3, .ref q4, .ref q5, .int 0]) := upd_same
      have s6 := Same.upd (o := .lst [.ref q1, .non, .str "", .ref q2, .ref q3, .ref q4, .ref q5, .int 0]) nq6
      have a6 := (p8.apart nq6).1
      have p9 := p8.same s6
      have es9 := s6 _ _ es8
      generalize upd H8 q6 (.lst [.ref q1, .non, .str "", .ref q2, .ref q3, .ref q4, .ref q5, .int 0]) = H9 at e6 s6 p9 es9 ⊢
      have s59 := s5.trans s6
      have s49 := s4.trans s59
      have s39 := s3.trans (sz.trans s49)
      have s29 := s2.trans s39
      have s19 := s1.trans s29
      have all : ∀ v ∈ [V.ref q1, .non, .str "", .ref q2, .ref q3, .ref q4, .ref q5, .int 0], Dt K N H9 v 2 2000 := fun v hv => by
        simp only [List.mem_cons, List.not_mem_nil, or_false] at hv
        rcases hv with rfl | rfl | rfl | rfl | rfl | rfl | rfl | rfl
        · exact (dt_lst (m := 41) lq1 (s29 _ _ e1) a1 (by rw [nl]; omega) okn).mono (by decide) (by decide)
        · exact dt_non.mono (by decide) (by decide)
        · exact (dt_str (by decide +kernel) (by decide +kernel)).mono (by decide) (by decide)
        · exact (dt_dic (s39 _ _ e2) a2).mono (by decide) (by decide)
        · exact (dt_tup (m := 41) (sz.trans s49 _ _ e3) a3 (Nat.le_trans (cutV_length _ _ _) (by rw [nl]; omega)) (okd fun v hv => cut_mem hv)).mono (by decide) (by decide)
        · refine (dt_tup (m := 42) (a := 0) (b := 20) (s59 _ _ e4) a4 (by rw [List.length_append, nl]; show m + 1 + 1 ≤ 42; omega) fun v hv => ?_).mono (by decide) (by decide)
          rcases List.mem_append.mp hv with hv | hv
          · exact okn v hv
          · rw [List.mem_singleton.mp hv]
            exact dt_int (by decide)
        · refine (dt_tup (m := 1) (a := 1) (b := 41 * 21) (s6 _ _ e5) a5 (by show 1 ≤ 1; omega) fun v hv => ?_).mono (by decide) (by decide)
          rw [List.mem_singleton.mp hv]
          exact dt_tup (m := 41) es9 ns_ (by rw [nl]; omega) okn
        · exact (dt_int (by decide)).mono (by decide) (by decide)
      refine ⟨_, rfl, p, l, 8, rfl, p9, by decide, by decide +kernel, fun k HA k0 k1 bA pA => ?_⟩
      obtain ⟨v, hv, ok⟩ := pick all k0 k1
      exact ⟨q6, _, k, v, rfl, rfl, SqL.of (bA.mem a6 e6), hv, q v HA (b12.trans ((But.of s19).trans bA)) pA (ok.but np bA)⟩
    · rw [decide_eq_false (fun h => hf (V.int.inj h))]
      refine iteF ⟨_, rfl, rfl, _, rfl, ?_⟩
      by_cases hf1 : f = 1
      · rw [decide_eq_true (congrArg V.int hf1)]
        refine iteT ⟨by show 1 ≤ sizeLine; decide, fun z nz => ?_⟩
        have ez : upd H2 z (.tup [V.int 0]) z = some (.tup [V.int 0]) := upd_same
        have sz := Same.upd (o := .tup [V.int 0]) nz
        have p3 := p2.same sz
        have az := out b12 nz (p2.apart nz).1
        have es3 := sz _ _ es2
        change (_ : Hp → Prop) (upd H2 z (.tup [V.int 0]))
        generalize upd H2 z (.tup [V.int 0]) = H3 at ez sz p3 es3 ⊢
        refine ⟨_, rfl, s, _, rfl, .inr (SqT.of es3), z, _, _, rfl, rfl, SqT.of ez, List.cons_ne_nil _ _, by omega, by rw [nl]; omega, by decide, fun _ => ?_, fun _ q1 nq1 => ?_⟩
        · exact q _ _ (b12.trans (But.of sz)) p3 ((dt_tup (m := 1) ez az (by decide) fun v hv => by rw [List.mem_singleton.mp hv]; exact dt_int (by decide)).mono (by decide) (by decide))
        · have e1 : upd H3 q1 (.tup (List.replicate (((ns.map V.int).length : Nat) : Int).toNat [V.int 0]).flatten) q1 = some (.tup (List.replicate (((ns.map V.int).length : Nat) : Int).toNat [V.int 0]).flatten) := upd_same
          have s1 := Same.upd (o := .tup (List.replicate (((ns.map V.int).length : Nat) : Int).toNat [V.int 0]).flatten) nq1
          refine q _ _ (b12.trans (But.of (sz.trans s1))) (p3.same s1) ((dt_tup (m := 41) (a := 0) (b := 20) e1 (out (b12.trans (But.of sz)) nq1 (p3.apart nq1).1) ?_ fun v hv => ?_).mono (by decide) (by decide))
          · rw [List.length_flatten, List.map_replicate, List.sum_replicate_nat, nl]
            show (((m + 1 : Nat) : Int).toNat * 1) ≤ 41
            omega
          · obtain ⟨l', h1, h2⟩ := List.mem_flatten.mp hv
            rw [List.eq_of_mem_replicate h1, List.mem_singleton] at h2
            rw [h2]
            exact dt_int (by decide)
      · rw [decide_eq_false (fun h => hf1 (V.int.inj h))]
        have at1 : at_ < ns.length := by rw [hl]; omega
        obtain ⟨sv, hsv⟩ : ∃ v, ns[at_]? = some v := ⟨_, List.getElem?_eq_getElem at1⟩
        have hsv0 := hn sv (List.mem_of_getElem? hsv)
        have aS : atI (ns.map V.int) ((at_ : Nat) : Int) = some (.int sv) := atI_nat (by rw [List.getElem?_map, hsv]; rfl)
        have aC : atI ((bin m).map V.int) ((at_ : Nat) : Int) = some (.int (ch m at_ : Nat)) := atI_nat (by rw [List.getElem?_map, bin_get (by omega)]; rfl)
        have hch : ((ch m at_ : Nat) : Int).natAbs < 2 ^ 61 := ch_small (by omega)
        refine iteF ⟨1, rfl, _, rfl, _, rfl, c, _, _, _, rfl, rfl, SqL.of ec2, aC, _, _, rfl, rfl, _, rfl, _, rfl, c, _, _, _, rfl, rfl, SqL.of ec2, aC, _, rfl, _, rfl, s, _, _, _, rfl, rfl, SqT.of es2, aS, _, _, rfl, rfl, _, rfl, _, rfl, s, _, _, _, rfl, rfl, SqT.of es2, aS, _, _, rfl, rfl, 10, 50, rfl, rfl, ⟨by decide, by decide, by decide⟩, by show 9 ≤ sizeLine; decide, fun o no => ?_⟩
        have eo : upd H2 o (.lst [.int (-1), .int ((ch m at_ : Nat) + 1), .int (ch m at_ : Nat), .int (sv + 1), .int (sv - 1), .bl true, .non, .str "0", .int (10 ^ (50 : Int).toNat)]) o = some (.lst [.int (-1), .int ((ch m at_ : Nat) + 1), .int (ch m at_ : Nat), .int (sv + 1), .int (sv - 1), .bl true, .non, .str "0", .int (10 ^ (50 : Int).toNat)]) := upd_same
        have so := Same.upd (o := .lst [.int (-1), .int ((ch m at_ : Nat) + 1), .int (ch m at_ : Nat), .int (sv + 1), .int (sv - 1), .bl true, .non, .str "0", .int (10 ^ (50 : Int).toNat)]) no
        have ao := (p2.apart no).1
        have p3 := p2.same so
        have es3 := so _ _ es2
        change (_ : Hp → Prop) (upd H2 o (.lst [.int (-1), .int ((ch m at_ : Nat) + 1), .int (ch m at_ : Nat), .int (sv + 1), .int (sv - 1), .bl true, .non, .str "0", .int (10 ^ (50 : Int).toNat)]))
        generalize upd H2 o (.lst [.int (-1), .int ((ch m at_ : Nat) + 1), .int (ch m at_ : Nat), .int (sv + 1), .int (sv - 1), .bl true, .non, .str "0", .int (10 ^ (50 : Int).toNat)]) = H3 at eo so p3 es3 ⊢
        have b23 : (2 : Nat) ^ 61 + 1 < 2 ^ 300 := by decide
        have b24 : (2 : Nat) ^ 100 + 1 < 2 ^ 300 := by decide
        have all : ∀ v ∈ [V.int (-1), .int ((ch m at_ : Nat) + 1), .int (ch m at_ : Nat), .int (sv + 1), .int (sv - 1), .bl true, .non, .str "0", .int (10 ^ (50 : Int).toNat)], Dt K N H3 v 0 20 := fun v hv => by
          simp only [List.mem_cons, List.not_mem_nil, or_false] at hv
          rcases hv with rfl | rfl | rfl | rfl | rfl | rfl | rfl | rfl | rfl
          · exact dt_int (by decide)
          · refine dt_int ?_
            generalize (2 : Nat) ^ 300 = B at *
            generalize (2 : Nat) ^ 61 = B1 at *
            omega
          · refine dt_int ?_
            generalize (2 : Nat) ^ 300 = B at *
            generalize (2 : Nat) ^ 61 = B1 at *
            omega
          · refine dt_int ?_
            generalize (2 : Nat) ^ 300 = B at *
            generalize (2 : Nat) ^ 100 = B1 at *
            omega
          · refine dt_int ?_
            generalize (2 : Nat) ^ 300 = B at *
            generalize (2 : Nat) ^ 100 = B1 at *
            omega
          · exact dt_bl true
          · exact dt_non
          · exact dt_str (by decide +kernel) (by decide +kernel)
          · exact dt_int (by decide)
        refine ⟨_, rfl, ?_⟩
        dsimp only [tPart, tNoPart]
        refine ⟨_, rfl, _, rfl, s, _, rfl, SqT.of es3, fun h => ?_, fun _ q1 nq1 => ?_⟩
        · exfalso
          have h1 := h.2
          rw [nl, HT.sIx_nat] at h1
          omega
        have e1 : upd H3 q1 (.tup (cutV (ns.map V.int) none (some ((at_ : Nat) : Int)))) q1 = some (.tup (cutV (ns.map V.int) none (some ((at_ : Nat) : Int)))) := upd_same
        have s1 := Same.upd (o := .tup (cutV (ns.map V.int) none (some ((at_ : Nat) : Int)))) nq1
        have a1 := (p3.apart nq1).1
        have p5 := p3.same s1
        have es5 := s1 _ _ es3
        have eo5 := s1 _ _ eo
        have l1 : (cutV (ns.map V.int) none (some ((at_ : Nat) : Int))).length ≤ m + 1 := Nat.le_trans (cutV_length _ _ _) (by rw [nl]; exact Nat.le_refl _)
        generalize upd H3 q1 (.tup (cutV (ns.map V.int) none (some ((at_ : Nat) : Int)))) = H5 at e1 s1 p5 es5 eo5 ⊢
        refine ⟨_, rfl, _, rfl, p, l, 9, rfl, p5, by decide, by decide +kernel, fun k HA k0 k1 bA pA => ?_⟩
        obtain ⟨v, hv, ok⟩ := pick (fun v hv => (all v hv).but np (But.of s1)) k0 k1
        have ok : Dt K N H5 v 0 20 := ok
        refine ⟨o, _, k, v, rfl, rfl, SqL.of (bA.mem ao eo5), hv, by show 1 ≤ sizeLine; decide, fun q2 nq2 => ?_⟩
        have e2 : upd HA q2 (.tup [v]) q2 = some (.tup [v]) := upd_same
        have s2 := Same.upd (o := .tup [v]) nq2
        have a2 := out ((b12.trans (But.of (so.trans s1))).trans bA) nq2 (pA.apart nq2).1
        have p6 := pA.same s2
        have es6 := s2 _ _ (bA.mem sp es5)
        have e16 := s2 _ _ (bA.mem a1 e1)
        have b6 := ((b12.trans (But.of (so.trans s1))).trans bA).trans (But.of s2)
        change (_ : Hp → Prop) (upd HA q2 (.tup [v]))
        generalize upd HA q2 (.tup [v]) = H6 at e2 s2 p6 es6 e16 b6 ⊢
        have one : ∀ {H' : Hp}, Dt K N H' v 0 20 → ∀ u ∈ [v], Dt K N H' u 0 20 := fun h u hu => by
          rw [List.mem_singleton.mp hu]
          exact h
        have two : ∀ {H' : Hp}, Dt K N H' v 0 20 → ∀ u ∈ cutV (ns.map V.int) none (some ((at_ : Nat) : Int)) ++ [v], Dt K N H' u 0 20 := fun h u hu => by
          rcases List.mem_append.mp hu with hu | hu
          · exact okn u (cut_mem hu)
          · exact one h u hu
        have len1 : ([v] : List V).length ≤ 1 := Nat.le_refl _
        have len2 : (cutV (ns.map V.int) none (some ((at_ : Nat) : Int)) ++ [v]).length ≤ m + 2 := by
          rw [List.length_append]
          show _ + 1 ≤ m + 2
          omega
        refine ⟨q1, q2, _, _, rfl, rfl, SqT.of e16, SqT.of e2, by show _ + 1 ≤ sizeLine; omega, fun _ => ?_, fun _ h => (List.cons_ne_nil _ _ h).elim, fun _ _ q3 nq3 => ?_⟩
        · skip
          refine ⟨_, rfl, ?_⟩
          dsimp only [tPart, tNoPart]
          refine ⟨_, rfl, _, _, rfl, rfl, _, rfl, s, _, rfl, SqT.of es6, fun h => ?_, fun _ q4 nq4 => ?_⟩
          · exfalso
            have h1 := h.1
            rw [nl, show ((at_ : Nat) : Int) + 1 = ((at_ + 1 : Nat) : Int) by omega, HT.sIx_nat] at h1
            omega
          have e4 : upd H6 q4 (.tup (cutV (ns.map V.int) (some (((at_ : Nat) : Int) + 1)) none)) q4 = some (.tup (cutV (ns.map V.int) (some (((at_ : Nat) : Int) + 1)) none)) := upd_same
          have s4 := Same.upd (o := .tup (cutV (ns.map V.int) (some (((at_ : Nat) : Int) + 1)) none)) nq4
          have et4 := s4 _ _ e2
          have p4 := p6.same s4
          have fin4 := b6.trans (But.of s4)
          have l4 : (cutV (ns.map V.int) (some (((at_ : Nat) : Int) + 1)) none).length ≤ m + 1 := Nat.le_trans (cutV_length _ _ _) (by rw [nl]; exact Nat.le_refl _)
          have o4 := ok.but np (bA.trans ((But.of s2).trans (But.of s4)))
          refine ⟨q2, q4, _, _, rfl, rfl, SqT.of et4, SqT.of e4, by have := len1; omega, fun h => absurd h (List.cons_ne_nil _ _), fun _ _ => ?_, fun _ _ q5 nq5 => ?_⟩
          · exact q _ _ fin4 p4 (((dt_tup (m := 42) (a := 0) (b := 20) et4 a2 (by have := len1; omega) (one o4))).mono (by decide) (by decide))
          · have s5 := Same.upd (o := .tup ([v] ++ cutV (ns.map V.int) (some (((at_ : Nat) : Int) + 1)) none)) nq5
            refine q _ _ (fin4.trans (But.of s5)) (p4.same s5) ((dt_tup (m := 90) (a := 0) (b := 20) upd_same (out fin4 nq5 (p4.apart nq5).1) (by rw [List.length_append]; have := len1; omega) fun u hu => ?_).mono (by decide) (by decide))
            rcases List.mem_append.mp hu with hu | hu
            · exact one (o4.but np (But.of s5)) u hu
            · exact okn u (cut_mem hu)
        · have e3 : upd H6 q3 (.tup (cutV (ns.map V.int) none (some ((at_ : Nat) : Int)) ++ [v])) q3 = some (.tup (cutV (ns.map V.int) none (some ((at_ : Nat) : Int)) ++ [v])) := upd_same
          have s3 := Same.upd (o := .tup (cutV (ns.map V.int) none (some ((at_ : Nat) : Int)) ++ [v])) nq3
          have a3 := out b6 nq3 (p6.apart nq3).1
          have p7 := p6.same s3
          have es7 := s3 _ _ es6
          have b7 := b6.trans (But.of s3)
          have s23 := s2.trans s3
          change (_ : Hp → Prop) (upd H6 q3 (.tup (cutV (ns.map V.int) none (some ((at_ : Nat) : Int)) ++ [v])))
          generalize upd H6 q3 (.tup (cutV (ns.map V.int) none (some ((at_ : Nat) : Int)) ++ [v])) = H7 at e3 s3 p7 es7 b7 s23 ⊢
          refine ⟨_, rfl, ?_⟩
          dsimp only [tPart, tNoPart]
          refine ⟨_, rfl, _, _, rfl, rfl, _, rfl, s, _, rfl, SqT.of es7, fun h => ?_, fun _ q4 nq4 => ?_⟩
          · exfalso
            have h1 := h.1
            rw [nl, show ((at_ : Nat) : Int) + 1 = ((at_ + 1 : Nat) : Int) by omega, HT.sIx_nat] at h1
            omega
          have e4 : upd H7 q4 (.tup (cutV (ns.map V.int) (some (((at_ : Nat) : Int) + 1)) none)) q4 = some (.tup (cutV (ns.map V.int) (some (((at_ : Nat) : Int) + 1)) none)) := upd_same
          have s4 := Same.upd (o := .tup (cutV (ns.map V.int) (some (((at_ : Nat) : Int) + 1)) none)) nq4
          have et4 := s4 _ _ e3
          have p4 := p7.same s4
          have fin4 := b7.trans (But.of s4)
          have l4 : (cutV (ns.map V.int) (some (((at_ : Nat) : Int) + 1)) none).length ≤ m + 1 := Nat.le_trans (cutV_length _ _ _) (by rw [nl]; exact Nat.le_refl _)
          have o4 := ok.but np (bA.trans ((But.of s23).trans (But.of s4)))
          refine ⟨q3, q4, _, _, rfl, rfl, SqT.of et4, SqT.of e4, by have := len2; omega, fun h => absurd h (by simp), fun _ _ => ?_, fun _ _ q5 nq5 => ?_⟩
          · exact q _ _ fin4 p4 (((dt_tup (m := 42) (a := 0) (b := 20) et4 a3 (by have := len2; omega) (two o4))).mono (by decide) (by decide))
          · have s5 := Same.upd (o := .tup ((cutV (ns.map V.int) none (some ((at_ : Nat) : Int)) ++ [v]) ++ cutV (ns.map V.int) (some (((at_ : Nat) : Int) + 1)) none)) nq5
            refine q _ _ (fin4.trans (But.of s5)) (p4.same s5) ((dt_tup (m := 90) (a := 0) (b := 20) upd_same (out fin4 nq5 (p4.apart nq5).1) (by rw [List.length_append]; have := len2; omega) fun u hu => ?_).mono (by decide) (by decide))
            rcases List.mem_append.mp hu with hu | hu
            · exact two (o4.but np (But.of s5)) u hu
            · exact okn u (cut_mem hu)
end
end Z

set_option Elab.async false
set_option linter.all false
set_option maxRecDepth 100000
set_option maxHeartbeats 4000000
set_option exponentiation.threshold 20000
namespace Z
open PySem PySem.Spec PyProof.Rows L2 GG ZC TPD
section
variable {P : Program} {w : World} {K : PySem.W.Frag} {mg : Str → Option Value} {base : Heap}
/-- small numbers -/
def Sml (ns : List Int) : Prop := ∀ n ∈ ns, n.natAbs < 2 ^ 100
theorem sml_dt {N : Addr → Prop} {H : Hp} {ns : List Int} (h : Sml ns) : ∀ v ∈ ns.map V.int, Dt K N H v 0 20 := fun v hv => by
  obtain ⟨n, hn, rfl⟩ := List.mem_map.mp hv
  exact dt_int (Nat.lt_of_lt_of_le (h n hn) (by decide))
def spMu (K : PySem.W.Frag) : Sp := fun vs H Q _ => ∃ (p l r c : Addr) (m : Nat) (ds es : List Int) (N : Addr → Prop), vs = [.ref p, .ref r, .ref c] ∧ N p ∧ (∀ b, N b → H b ≠ none) ∧ ¬ N r ∧ (∀ a b, H r = some (.tup [.int (m : Nat), .ref a, .ref b]) → ¬ N a ∧ ¬ N b) ∧ Pen H p l ∧ m ≤ 40 ∧ Rec H r m ds es ∧ H c = some (.lst ((bin m).map V.int)) ∧ c ≠ p ∧ ds.length = m + 1 ∧ es.length = m + 1 ∧ Sml ds ∧ Sml es ∧
  ∀ v H', But p H H' → Pen H' p l → Dt K N H' v 5 7000 → Q v H'
theorem scMu : FnScope ["pen", "item", "caps", "form", "things", "odd"] ["pen", "item", "caps"] (defScope sMu) := ⟨rfl, rfl, rfl, by decide +kernel, rfl, by decide +kernel, by decide +kernel⟩
theorem ok_mu {f g h : Addr} {fd gd hd : FuncData} (F : Fun K "_law_mutated" "_law_mutated" sMu f fd) (T : Names mg) (GD : FnOk P w K mg base CX0 2 g gd ["pen", "many"] spDraw) (PD : Def K mg "_law_draw" g gd ["pen", "many"])
    (GM : FnOk P w K mg base CX0 3 h hd ["pen", "some", "caps"] (spMT K)) (PM : Def K mg "_law_mutated_tuple" h hd ["pen", "some", "caps"]) : FnOk P w K mg base CX0 4 f fd ["pen", "item", "caps"] (spMu K) := by
  refine F.ok scMu (fun vs H Q E h => ?_) (fun cdv A outer s H vs Q E hr h => ?_)
  · obtain ⟨p, l, r, c, m, ds, es, N, rfl, _⟩ := h
    rfl
  · obtain ⟨p, l, r, c, m, ds, es, N, rfl, np, occ, rN, abN, pn, hm, rc0, ec, cp, dl, el, dn, en, q⟩ := h
    have line : sizeLine = 16777216 := by decide
    refine ⟨_, (pss_cons (ps_set (i := 3) scMu.nd rfl (.inl rfl) (pe_call GD (hr.mono (by decide)) (by rfl) PD.is PD.kp PD.bi .nil pass0 (pa_cons (pv 0) (pa_cons pe_int pa_nil))))
      (pss_cons (ps_if (pt_cmpR op_eq (pv 3) pe_int (nomark _)) (pss_cons (ps_set (i := 4) scMu.nd rfl (.inl rfl) (pe_lst (pa_cons pe_non (pa_cons pe_bl (pa_cons pe_str (pa_cons pe_int (pa_cons (pe_tup pa_nil) (pa_cons (TPD.pe_lstS pa_nil) (pa_cons pe_dnewK (pa_cons (pe_callTy TPD.call_listS (by rfl) T.list (by decide +kernel) (pa_cons (pv 1) pa_nil)) (pa_cons (pe_slice sl_tupA (pv 1) po_none (po_some pe_int)) (pa_cons (pe_op op_catA (pv 1) (pe_tup (pa_cons pe_int pa_nil))) (pa_cons (pe_tup (pa_cons (pv 1) pa_nil)) pa_nil)))))))))))))
      (pss_one (ps_ret (pe_ix ix_list (pv 4) (pe_call GD (hr.mono (by decide)) (by rfl) PD.is PD.kp PD.bi .nil pass0 (pa_cons (pv 0) (pa_cons pe_int pa_nil))) (fun _ _ => rfl))))) pss_nil)
      (pss_cons (ps_if (pt_cmpR op_eq (pv 3) pe_int (nomark _)) (pss_cons (ps_set (i := 5) scMu.nd rfl (.inl rfl) (pe_lst (pa_cons (pe_op op_add (pe_ix ix_tup (pv 1) pe_int (fun _ _ => rfl)) pe_int) (pa_cons (pe_op op_sub (pe_ix ix_tup (pv 1) pe_int (fun _ _ => rfl)) pe_int) (pa_cons (pe_un un_neg pe_int) (pa_cons pe_int (pa_cons pe_bl (pa_cons pe_non (pa_cons pe_str (pa_cons (pe_tup (pa_cons (pe_ix ix_tup (pv 1) pe_int (fun _ _ => rfl)) pa_nil)) pa_nil))))))))))
      (pss_one (ps_ret (pe_op op_catA (pe_tup (pa_cons (pe_ix ix_list (pv 5) (pe_call GD (hr.mono (by decide)) (by rfl) PD.is PD.kp PD.bi .nil pass0 (pa_cons (pv 0) (pa_cons pe_int pa_nil))) (fun _ _ => rfl)) pa_nil)) (pe_slice sl_tupA (pv 1) (po_some pe_int) po_none))))) pss_nil)
      (pss_cons (ps_if (pt_cmpR op_lt (pv 3) pe_int (nomark _)) (pss_one (ps_ret (pe_tup (pa_cons (pe_ix ix_tup (pv 1) pe_int (fun _ _ => rfl)) (pa_cons (pe_call GM (hr.mono (by decide)) (by rfl) PM.is PM.kp PM.bi .nil pass0 (pa_cons (pv 0) (pa_cons (pe_ix ix_tup (pv 1) pe_int (fun _ _ => rfl)) (pa_cons (pv 2) pa_nil)))) (pa_cons (pe_ix ix_tup (pv 1) pe_int (fun _ _ => rfl)) pa_nil)))))) pss_nil)
      (pss_one (ps_ret (pe_tup (pa_cons (pe_ix ix_tup (pv 1) pe_int (fun _ _ => rfl)) (pa_cons (pe_ix ix_tup (pv 1) pe_int (fun _ _ => rfl)) (pa_cons (pe_call GM (hr.mono (by decide)) (by rfl) PM.is PM.kp PM.bi .nil pass0 (pa_cons (pv 0) (pa_cons (pe_ix ix_tup (pv 1) pe_int (fun _ _ => rfl)) (pa_cons (pv 2) pa_nil)))) pa_nil)))))))))), ?_⟩
    refine ⟨_, rfl, p, l, 6, rfl, pn, by decide, by decide +kernel, fun f H1 f0 f1 b1 p1 => ?_⟩
    obtain ⟨a, b, er9, ea9, eb9⟩ := rc0
    obtain ⟨aN, bN⟩ := abN a b er9
    have er0 := b1.mem (pn.notTup er9) er9
    have ea0 := b1.mem (pn.notTup ea9) ea9
    have eb0 := b1.mem (pn.notTup eb9) eb9
    have out : ∀ {Hk : Hp} {x : Addr}, But p H Hk → Hk x = none → x ≠ p → ¬ N x := fun bk nk ne h => occ _ h (bk.free ne nk)
    have occ2 : ∀ {Hk : Hp}, But p H Hk → Pen Hk p l → ∀ b, N b → Hk b ≠ none := fun bk pk b hb e => by
      by_cases z : b = p
      · subst z
        obtain ⟨_, _, _, h, _⟩ := pk
        rw [h] at e
        cases e
      · exact occ b hb (bk.free z e)
    have rp := p1.notTup er0
    have ap := p1.notTup ea0
    have bp := p1.notTup eb0
    have ec1 := b1.mem cp ec
    have okd : ∀ {H' : Hp}, H' a = some (.tup (ds.map V.int)) → Dt K N H' (.ref a) 1 861 := fun e => dt_tup (m := 41) e aN (by rw [List.length_map]; omega) (sml_dt dn)
    have oke : ∀ {H' : Hp}, H' b = some (.tup (es.map V.int)) → Dt K N H' (.ref b) 1 861 := fun e => dt_tup (m := 41) e bN (by rw [List.length_map]; omega) (sml_dt en)
    have okm : ∀ {H' : Hp}, Dt K N H' (.int (m : Nat)) 1 861 := (dt_int (Nat.lt_of_le_of_lt (show ((m : Nat) : Int).natAbs ≤ 40 by omega) (by decide))).mono (by decide) (by decide)
    have ok3 : ∀ {H' : Hp}, H' a = some (.tup (ds.map V.int)) → H' b = some (.tup (es.map V.int)) → ∀ v ∈ [V.int (m : Nat), .ref a, .ref b], Dt K N H' v 1 861 := fun e1 e2 v hv => by
      simp only [List.mem_cons, List.not_mem_nil, or_false] at hv
      rcases hv with rfl | rfl | rfl
      · exact okm
      · exact okd e1
      · exact oke e2
    refine ⟨_, rfl, rfl, _, rfl, ?_⟩
    by_cases hf : f = 0
    · rw [decide_eq_true (congrArg V.int hf)]
      refine iteT ⟨by show 0 ≤ sizeLine; decide, fun q1 nq1 => ?_⟩
      have e1 : upd H1 q1 (.tup []) q1 = some (.tup []) := upd_same
      have s1 := Same.upd (o := .tup []) nq1
      have a1 := out b1 nq1 (p1.apart nq1).1
      have p2 := p1.same s1
      change (_ : Hp → Prop) (upd H1 q1 (.tup []))
      generalize upd H1 q1 (.tup []) = H2 at e1 s1 p2 ⊢
      refine ⟨by show 0 ≤ sizeLine; decide, fun q2 lq2 nq2 => ?_⟩
      have e2 : upd H2 q2 (.lst []) q2 = some (.lst []) := upd_same
      have s2 := Same.upd (o := .lst []) nq2
      have a2 := out (b1.trans (But.of s1)) nq2 (p2.apart nq2).1
      have p3 := p2.same s2
      change (_ : Hp → Prop) (upd H2 q2 (.lst []))
      generalize upd H2 q2 (.lst []) = H3 at e2 s2 p3 ⊢
      refine fun q3 nq3 => ?_
      have e3 : upd H3 q3 (.dK []) q3 = some (.dK []) := upd_same
      have s3 := Same.upd (o := .dK []) nq3
      have a3 := out (b1.trans (But.of (s1.trans s2))) nq3 (p3.apart nq3).1
      have p4 := p3.same s3
      change (_ : Hp → Prop) (upd H3 q3 (.dK []))
      generalize upd H3 q3 (.dK []) = H4 at e3 s3 p4 ⊢
      have s14 := s1.trans (s2.trans s3)
      refine ⟨_, rfl, r, _, rfl, .inr (SqT.of (s14 _ _ er0)), fun q4 lq4 nq4 => ?_⟩
      have e4 : upd H4 q4 (.lst [.int (m : Nat), .ref a, .ref b]) q4 = some (.lst [.int (m : Nat), .ref a, .ref b]) := upd_same
      have s4 := Same.upd (o := .lst [.int (m : Nat), .ref a, .ref b]) nq4
      have a4 := out (b1.trans (But.of s14)) nq4 (p4.apart nq4).1
      have p5 := p4.same s4
      change (_ : Hp → Prop) (upd H4 q4 (.lst [.int (m : Nat), .ref a, .ref b]))
      generalize upd H4 q4 (.lst [.int (m : Nat), .ref a, .ref b]) = H5 at e4 s4 p5 ⊢
      have s15 := s14.trans s4
      refine ⟨_, rfl, ?_⟩
      dsimp only [tPart, tNoPart]
      refine ⟨2, rfl, r, _, rfl, SqT.of (s15 _ _ er0), fun h => absurd h.2 (by show ¬ HT.sIx 3 3 (some 2) = 3; decide), fun _ q5 nq5 => ?_⟩
      have e5 : upd H5 q5 (.tup (cutV [V.int (m : Nat), .ref a, .ref b] none (some 2))) q5 = some (.tup (cutV [V.int (m : Nat), .ref a, .ref b] none (some 2))) := upd_same
      have s5 := Same.upd (o := .tup (cutV [V.int (m : Nat), .ref a, .ref b] none (some 2))) nq5
      have a5 := out (b1.trans (But.of s15)) nq5 (p5.apart nq5).1
      have p6 := p5.same s5
      change (_ : Hp → Prop) (upd H5 q5 (.tup (cutV [V.int (m : Nat), .ref a, .ref b] none (some 2))))
      generalize upd H5 q5 (.tup (cutV [V.int (m : Nat), .ref a, .ref b] none (some 2))) = H6 at e5 s5 p6 ⊢
      have s16 := s15.trans s5
      refine ⟨_, rfl, by show 1 ≤ sizeLine; decide, fun z nz => ?_⟩
      have ez : upd H6 z (.tup [V.int 0]) z = some (.tup [V.int 0]) := upd_same
      have sz := Same.upd (o := .tup [V.int 0]) nz
      have p7 := p6.same sz
      change (_ : Hp → Prop) (upd H6 z (.tup [V.int 0]))
      generalize upd H6 z (.tup [V.int 0]) = H7 at ez sz p7 ⊢
      have s17 := s16.trans sz
      refine ⟨r, z, _, _, rfl, rfl, SqT.of (s17 _ _ er0), SqT.of ez, by show 3 + 1 ≤ sizeLine; decide, fun h => (List.cons_ne_nil _ _ h).elim, fun _ h => (List.cons_ne_nil _ _ h).elim, fun _ _ q6 nq6 => ?_⟩
      have e6 : upd H7 q6 (.tup ([V.int (m : Nat), .ref a, .ref b] ++ [V.int 0])) q6 = some (.tup ([V.int (m : Nat), .ref a, .ref b] ++ [V.int 0])) := upd_same
      have s6 := Same.upd (o := .tup ([V.int (m : Nat), .ref a, .ref b] ++ [V.int 0])) nq6
      have a6 := out (b1.trans (But.of s17)) nq6 (p7.apart nq6).1
      have p8 := p7.same s6
      change (_ : Hp → Prop) (upd H7 q6 (.tup ([V.int (m : Nat), .ref a, .ref b] ++ [V.int 0])))
      generalize upd H7 q6 (.tup ([V.int (m : Nat), .ref a, .ref b] ++ [V.int 0])) = H8 at e6 s6 p8 ⊢
      have s18 := s17.trans s6
      refine ⟨_, rfl, by show 1 ≤ sizeLine; decide, fun q7 nq7 => ?_⟩
      have e7 : upd H8 q7 (.tup [V.ref r]) q7 = some (.tup [V.ref r]) := upd_same
      have s7 := Same.upd (o := .tup [V.ref r]) nq7
      have a7 := out (b1.trans (But.of s18)) nq7 (p8.apart nq7).1
      have p9 := p8.same s7
      change (_ : Hp → Prop) (upd H8 q7 (.tup [V.ref r]))
      generalize upd H8 q7 (.tup [V.ref r]) = H9 at e7 s7 p9 ⊢
      have s19 := s18.trans s7
      refine ⟨by show 11 ≤ sizeLine; decide, fun o no => ?_⟩
      have eo : upd H9 o (.lst [.non, .bl true, .str "recipe", .int 0, .ref q1, .ref q2, .ref q3, .ref q4, .ref q5, .ref q6, .ref q7]) o = some (.lst [.non, .bl true, .str "recipe", .int 0, .ref q1, .ref q2, .ref q3, .ref q4, .ref q5, .ref q6, .ref q7]) := upd_same
      have so := Same.upd (o := .lst [.non, .bl true, .str "recipe", .int 0, .ref q1, .ref q2, .ref q3, .ref q4, .ref q5, .ref q6, .ref q7]) no
      have ao := (p9.apart no).1
      have pA := p9.same so
      generalize upd H9 o (.lst [.non, .bl true, .str "recipe", .int 0, .ref q1, .ref q2, .ref q3, .ref q4, .ref q5, .ref q6, .ref q7]) = HA at eo so pA ⊢
      have s7A := s7.trans so
      have s6A := s6.trans s7A
      have s5A := s5.trans (sz.trans s6A)
      have s4A := s4.trans s5A
      have s3A := s3.trans s4A
      have s2A := s2.trans s3A
      have s1A := s1.trans s2A
      have er := s1A _ _ er0
      have ea := s1A _ _ ea0
      have eb := s1A _ _ eb0
      have all : ∀ v ∈ [V.non, .bl true, .str "recipe", .int 0, .ref q1, .ref q2, .ref q3, .ref q4, .ref q5, .ref q6, .ref q7], Dt K N HA v 5 7000 := fun v hv => by
        simp only [List.mem_cons, List.not_mem_nil, or_false] at hv
        rcases hv with rfl | rfl | rfl | rfl | rfl | rfl | rfl | rfl | rfl | rfl | rfl
        · exact dt_non.mono (by decide) (by decide)
        · exact (dt_bl true).mono (by decide) (by decide)
        · exact (dt_str (by decide +kernel) (by decide +kernel)).mono (by decide) (by decide)
        · exact (dt_int (by decide)).mono (by decide) (by decide)
        · exact (dt_tup (m := 0) (a := 0) (b := 0) (s2A _ _ e1) a1 (Nat.le_refl _) fun v hv => (List.not_mem_nil hv).elim).mono (by decide) (by decide)
        · exact (dt_lst (m := 0) (a := 0) (b := 0) lq2 (s3A _ _ e2) a2 (Nat.le_refl _) fun v hv => (List.not_mem_nil hv).elim).mono (by decide) (by decide)
        · exact (dt_dic (s4A _ _ e3) a3).mono (by decide) (by decide)
        · exact (dt_lst (m := 3) lq4 (s5A _ _ e4) a4 (Nat.le_refl _) (ok3 ea eb)).mono (by decide) (by decide)
        · exact (dt_tup (m := 3) (sz.trans s6A _ _ e5) a5 (cutV_length _ _ _) (fun v hv => ok3 ea eb v (cut_mem hv))).mono (by decide) (by decide)
        · refine (dt_tup (m := 4) (a := 1) (b := 861) (s7A _ _ e6) a6 (Nat.le_refl _) fun v hv => ?_).mono (by decide) (by decide)
          rcases List.mem_append.mp hv with hv | hv
          · exact ok3 ea eb v hv
          · rw [List.mem_singleton.mp hv]
            exact (dt_int (by decide)).mono (by decide) (by decide)
        · refine (dt_tup (m := 1) (a := 2) (b := 3 * 862) (so _ _ e7) a7 (Nat.le_refl _) fun v hv => ?_).mono (by decide) (by decide)
          rw [List.mem_singleton.mp hv]
          exact dt_tup (m := 3) er rN (Nat.le_refl _) (ok3 ea eb)
      refine ⟨_, rfl, _, rfl, p, l, 11, rfl, pA, by decide, by decide +kernel, fun k HB k0 k1 bB pB => ?_⟩
      obtain ⟨v, hv, ok⟩ := pick all k0 k1
      exact ⟨o, _, k, v, rfl, rfl, SqL.of (bB.mem ao eo), hv, q v HB (b1.trans ((But.of s1A).trans bB)) pB (ok.but np bB)⟩
    · rw [decide_eq_false (fun h => hf (V.int.inj h))]
      refine iteF ⟨_, rfl, rfl, _, rfl, ?_⟩
      by_cases hf1 : f = 1
      · rw [decide_eq_true (congrArg V.int hf1)]
        refine iteT ⟨_, rfl, r, _, 0, .int (m : Nat), rfl, rfl, SqT.of er0, atI_nat (j := 0) rfl, _, _, rfl, rfl, _, rfl, r, _, 0, .int (m : Nat), rfl, rfl, SqT.of er0, atI_nat (j := 0) rfl, _, _, rfl, rfl, 1, rfl, _, rfl, r, _, 0, .int (m : Nat), rfl, rfl, SqT.of er0, atI_nat (j := 0) rfl, by show 1 ≤ sizeLine; decide, fun q1 nq1 => ?_⟩
        have e1 : upd H1 q1 (.tup [.int (m : Nat)]) q1 = some (.tup [.int (m : Nat)]) := upd_same
        have s1 := Same.upd (o := .tup [.int (m : Nat)]) nq1
        have a1 := out b1 nq1 (p1.apart nq1).1
        have p2 := p1.same s1
        change (_ : Hp → Prop) (upd H1 q1 (.tup [.int (m : Nat)]))
        generalize upd H1 q1 (.tup [.int (m : Nat)]) = H2 at e1 s1 p2 ⊢
        refine ⟨by show 8 ≤ sizeLine; decide, fun o no => ?_⟩
        have eo : upd H2 o (.lst [.int ((m : Nat) + 1), .int ((m : Nat) - 1), .int (-1), .int 41, .bl true, .non, .str "1", .ref q1]) o = some (.lst [.int ((m : Nat) + 1), .int ((m : Nat) - 1), .int (-1), .int 41, .bl true, .non, .str "1", .ref q1]) := upd_same
        have so := Same.upd (o := .lst [.int ((m : Nat) + 1), .int ((m : Nat) - 1), .int (-1), .int 41, .bl true, .non, .str "1", .ref q1]) no
        have ao := (p2.apart no).1
        have p3 := p2.same so
        generalize upd H2 o (.lst [.int ((m : Nat) + 1), .int ((m : Nat) - 1), .int (-1), .int 41, .bl true, .non, .str "1", .ref q1]) = H3 at eo so p3 ⊢
        have s13 := s1.trans so
        have sm : ∀ {i : Int}, i.natAbs ≤ 41 → Dt K N H3 (.int i) 1 861 := fun h => (dt_int (Nat.lt_of_le_of_lt h (by decide))).mono (by decide) (by decide)
        have all : ∀ v ∈ [V.int ((m : Nat) + 1), .int ((m : Nat) - 1), .int (-1), .int 41, .bl true, .non, .str "1", .ref q1], Dt K N H3 v 1 861 := fun v hv => by
          simp only [List.mem_cons, List.not_mem_nil, or_false] at hv
          rcases hv with rfl | rfl | rfl | rfl | rfl | rfl | rfl | rfl
          · exact sm (by omega)
          · exact sm (by omega)
          · exact sm (by decide)
          · exact sm (by decide)
          · exact (dt_bl true).mono (by decide) (by decide)
          · exact dt_non.mono (by decide) (by decide)
          · exact (dt_str (by decide +kernel) (by decide +kernel)).mono (by decide) (by decide)
          · refine (dt_tup (m := 1) (a := 0) (b := 20) (so _ _ e1) a1 (Nat.le_refl _) fun v hv => ?_).mono (by decide) (by decide)
            rw [List.mem_singleton.mp hv]
            exact dt_int (Nat.lt_of_le_of_lt (show ((m : Nat) : Int).natAbs ≤ 40 by omega) (by decide))
        refine ⟨_, rfl, _, rfl, p, l, 8, rfl, p3, by decide, by decide +kernel, fun k HB k0 k1 bB pB => ?_⟩
        obtain ⟨v, hv, ok⟩ := pick all k0 k1
        refine ⟨o, _, k, v, rfl, rfl, SqL.of (bB.mem ao eo), hv, by show 1 ≤ sizeLine; decide, fun q2 nq2 => ?_⟩
        have e2 : upd HB q2 (.tup [v]) q2 = some (.tup [v]) := upd_same
        have s2 := Same.upd (o := .tup [v]) nq2
        have p4 := pB.same s2
        have er := s2 _ _ (bB.mem rp (s13 _ _ er0))
        have ea := s2 _ _ (bB.mem ap (s13 _ _ ea0))
        have eb := s2 _ _ (bB.mem bp (s13 _ _ eb0))
        have ok2 := ok.but np (bB.trans (But.of s2))
        change (_ : Hp → Prop) (upd HB q2 (.tup [v]))
        generalize upd HB q2 (.tup [v]) = H4 at e2 s2 p4 er ea eb ok2 ⊢
        refine ⟨_, rfl, ?_⟩
        dsimp only [tPart, tNoPart]
        refine ⟨1, rfl, r, _, rfl, SqT.of er, fun h => absurd h.1 (by show ¬ HT.sIx 3 0 (some 1) = 0; decide), fun _ q3 nq3 => ?_⟩
        have e3 : upd H4 q3 (.tup (cutV [V.int (m : Nat), .ref a, .ref b] (some 1) none)) q3 = some (.tup [.ref a, .ref b]) := upd_same
        have s3 := Same.upd (o := .tup (cutV [V.int (m : Nat), .ref a, .ref b] (some 1) none)) nq3
        have p5 := p4.same s3
        generalize upd H4 q3 (.tup (cutV [V.int (m : Nat), .ref a, .ref b] (some 1) none)) = H5 at e3 s3 p5 ⊢
        refine ⟨q2, q3, _, _, rfl, rfl, SqT.of (s3 _ _ e2), SqT.of e3, by show 1 + 2 ≤ sizeLine; decide, fun h => (List.cons_ne_nil _ _ h).elim, fun _ h => (List.cons_ne_nil _ _ h).elim, fun _ _ q4 nq4 => ?_⟩
        have s4 := Same.upd (o := .tup ([v] ++ [V.ref a, .ref b])) nq4
        refine q _ _ ((b1.trans (But.of s13)).trans (bB.trans (But.of (s2.trans (s3.trans s4))))) (p5.same s4) ((dt_tup (m := 3) (a := 1) (b := 861) upd_same (out ((b1.trans (But.of s13)).trans (bB.trans (But.of (s2.trans s3)))) nq4 (p5.apart nq4).1) (Nat.le_refl _) fun u hu => ?_).mono (by decide) (by decide))
        rcases List.mem_append.mp hu with hu | hu
        · rw [List.mem_singleton.mp hu]
          exact ok2.but np (But.of (s3.trans s4))
        · exact ok3 ((s3.trans s4) _ _ ea) ((s3.trans s4) _ _ eb) u (List.mem_cons_of_mem _ hu)
      · rw [decide_eq_false (fun h => hf1 (V.int.inj h))]
        refine iteF ⟨_, rfl, _, _, rfl, rfl, _, rfl, ?_⟩
        have fin : ∀ (x y : V) (q1 : Addr) (H2 : Hp), But p H1 H2 → Pen H2 p l → Dt K N H2 x 2 2000 → Dt K N H2 y 2 2000 → H2 q1 = none → Q (.ref q1) (upd H2 q1 (.tup [.int (m : Nat), x, y])) := fun x y q1 H2 b2 p2 ox oy nq1 => by
          have s1 := Same.upd (o := .tup [.int (m : Nat), x, y]) nq1
          refine q _ _ (b1.trans (b2.trans (But.of s1))) (p2.same s1) ((dt_tup (m := 3) (a := 2) (b := 2000) upd_same (out (b1.trans b2) nq1 (p2.apart nq1).1) (Nat.le_refl _) fun u hu => ?_).mono (by decide) (by decide))
          simp only [List.mem_cons, List.not_mem_nil, or_false] at hu
          rcases hu with rfl | rfl | rfl
          · exact okm.mono (by decide) (by decide)
          · exact ox.but np (But.of s1)
          · exact oy.but np (But.of s1)
        by_cases hf2 : f < 4
        · rw [decide_eq_true hf2]
          refine iteT ⟨_, rfl, r, _, 0, .int (m : Nat), rfl, rfl, SqT.of er0, atI_nat (j := 0) rfl, _, rfl, _, rfl, r, _, 1, .ref a, rfl, rfl, SqT.of er0, atI_nat (j := 1) rfl, _, rfl, p, l, a, c, m, ds, N, rfl, np, occ2 b1 p1, aN, p1, hm, ea0, ec1, cp, dl, dn, fun v H2 b2 p2 ok => ?_⟩
          refine ⟨_, rfl, r, _, 2, .ref b, rfl, rfl, SqT.of (b2.mem rp er0), atI_nat (j := 2) rfl, by show 3 ≤ sizeLine; decide, fun q1 nq1 => ?_⟩
          exact fin v (.ref b) q1 H2 b2 p2 ok ((oke (b2.mem bp eb0)).mono (by decide) (by decide)) nq1
        · rw [decide_eq_false hf2]
          refine iteF ⟨_, rfl, r, _, 0, .int (m : Nat), rfl, rfl, SqT.of er0, atI_nat (j := 0) rfl, _, rfl, r, _, 1, .ref a, rfl, rfl, SqT.of er0, atI_nat (j := 1) rfl, _, rfl, _, rfl, r, _, 2, .ref b, rfl, rfl, SqT.of er0, atI_nat (j := 2) rfl, _, rfl, p, l, b, c, m, es, N, rfl, np, occ2 b1 p1, bN, p1, hm, eb0, ec1, cp, el, en, fun v H2 b2 p2 ok => ?_⟩
          refine ⟨by show 3 ≤ sizeLine; decide, fun q1 nq1 => ?_⟩
          exact fin (.ref a) v q1 H2 b2 p2 ((okd (b2.mem ap ea0)).mono (by decide) (by decide)) ok nq1
end
end Z

set_option Elab.async false
set_option linter.all false
set_option maxRecDepth 100000
set_option maxHeartbeats 4000000
/-! repr of any data with empty dicts -/
namespace TPD
open PySem PySem.Spec PyProof.Rows L2 GG
section
variable {X : Cx}
def rReprA (K : PySem.W.Frag) : List V → Hp → VK → Prop := fun vs H Q => ∃ (v : V) (d : PyData), vs = [v] ∧ Tp K H v d ∧ ShowsT d ∧ Q (.str d.shown) H
theorem call_reprA {k : Nat} (hg : X.A.guards = some []) (room : Room k X.A) : CallR X (.builtin "repr") (rReprA X.K) := by
  intro pins s σ H vs us Q I r h
  obtain ⟨v, d, rfl, hd, hs, q⟩ := h
  cases hd with
  | non =>
    obtain ⟨u, rfl, ru⟩ := vals1 r
    have eu : u = Value.none := ru
    subst eu
    refine PySem.P.repr_of_none ⟨.str _, H, I.tok _, ⟨_, rfl⟩, ?_⟩
    rw [← PyData.shown_none]
    exact q
  | bl b =>
    obtain ⟨u, rfl, ru⟩ := vals1 r
    have eu : u = Value.bool b := ru
    subst eu
    refine PySem.P.repr_of_bool ⟨.str _, H, I.tok _, ⟨_, rfl⟩, ?_⟩
    rw [PyData.shown_bool] at q
    cases b <;> exact q
  | int i =>
    obtain ⟨u, rfl, ru⟩ := vals1 r
    obtain ⟨t, eu⟩ := ru
    subst eu
    have hi : i.natAbs.log2 < 1920 := by simpa [PyData.showable] using hs.s
    refine PySem.P.repr_of_int hi ⟨.str _, H, I.tok _, ⟨_, rfl⟩, ?_⟩
    rw [← PyData.shown_int]
    exact q
  | str x =>
    obtain ⟨u, rfl, ru⟩ := vals1 r
    obtain ⟨t, eu⟩ := ru
    subst eu
    have hz := hs.z
    rw [PyData.shown_str] at hz q
    exact PySem.P.repr_of_str ⟨.str _, H, I.tok _, ⟨_, rfl⟩, q⟩ hz
  | lst hb h1 h2 => exact call_reprT hg room pins s σ H _ us Q I r ⟨_, _, rfl, .lst hb h1 h2, hs, q⟩
  | tup h1 h2 => exact call_reprT hg room pins s σ H _ us Q I r ⟨_, _, rfl, .tup h1 h2, hs, q⟩
  | dic h1 => exact call_reprT hg room pins s σ H _ us Q I r ⟨_, _, rfl, .dic h1, hs, q⟩
end
end TPD

set_option Elab.async false
set_option linter.all false
set_option maxRecDepth 100000
set_option maxHeartbeats 4000000
/-! one parameter, by its name -/
namespace NM
open PySem PySem.Spec PyProof.Rows L2 GG
theorem named1 {K : PySem.W.Frag} {x qual : Str} {st : Stmt} {f : Addr} {fd : FuncData} {a : Str} (F : Fun K x qual st f fd)
    (h : ∀ (kV doc pm : Value) (an : Option Addr) (cd ct u : Value), bindArgs (PySem.W.fnOf x qual (defArgs st) (defBody st) (defScope st) .none kV doc pm an cd ct) ⟨[], [(a, u)]⟩ = pure [(a, u)]) :
    KBn K fd [a] 0 [a] (fun _ ws => ws) (fun _ zs => zs) := by
  obtain ⟨oc, od, kV, doc, pm, an, cd, ct, slots, rfl, found, code⟩ := F.ex
  refine ⟨fun s us ws _ l0 l2 => ?_, fun _ r => r⟩
  match us, ws, l0, l2 with
  | [], [u], _, _ => exact .of_eq (h kV doc pm an cd ct u)
end NM

set_option Elab.async false
set_option linter.all false
set_option maxRecDepth 100000
set_option maxHeartbeats 4000000
set_option exponentiation.threshold 20000
namespace Z
open PySem PySem.Spec PyProof.Rows L2 GG ZC TPD
abbrev sLaw : Stmt := top 20
def goodD (m : Nat) (ds es : List Int) : PyData := .tuple [.int (m : Nat), .tuple (ds.map PyData.int), .tuple (es.map PyData.int)]
theorem all_num : ∀ ns : List Int, (ns.map PyData.int).all numI = true
  | [] => rfl
  | n :: r => by
    rw [List.map_cons, List.all_cons, all_num r]
    rfl
theorem rowD_ints {n : Int} {ns : List Int} (h : (ns.length : Int) = n) : rowD n (.tuple (ns.map PyData.int)) = true := by
  show (decide (((ns.map PyData.int).length : Int) = n) && (ns.map PyData.int).all numI) = true
  rw [List.length_map, decide_eq_true h, all_num]
  rfl
theorem res_good {m : Nat} {ds es : List Int} (hm : m ≤ 40) (w : WR m ds es) : resD (goodD m ds es) = .none := by
  have gf : goodF (goodD m ds es) = true := by
    show (tupD 3 (goodD m ds es) && ((decide (0 ≤ (m : Int)) && decide ((m : Int) < 41)) && (rowD ((m : Int) + 1) (.tuple (ds.map PyData.int)) && rowD ((m : Int) + 1) (.tuple (es.map PyData.int))))) = true
    rw [rowD_ints (by rw [w.dl]; omega), rowD_ints (by rw [w.el]; omega), decide_eq_true (by omega), decide_eq_true (by omega)]
    rfl
  unfold resD
  rw [if_neg (by rw [gf]; decide)]
  show (if ((intsD (.tuple (es.map PyData.int))).any fun n => n != 0) = false then _ else wrD (wrR m (intsD (.tuple (ds.map PyData.int))) (intsD (.tuple (es.map PyData.int))))) = _
  rw [intsD_ints, intsD_ints]
  have h1 : (es.any fun n => n != 0) = true := by
    obtain ⟨k, hk, hne⟩ := w.some
    rw [List.any_eq_true]
    have hl : k < es.length := by rw [w.el]; omega
    refine ⟨es[k], List.getElem_mem hl, ?_⟩
    rw [List.getD_eq_getElem?_getD, List.getElem?_eq_getElem hl] at hne
    simpa using hne
  have h2 : wrR m ds es = none := by
    unfold wrR
    rw [List.find?_eq_none]
    intro k hk
    have hk := List.mem_range.mp hk
    obtain ⟨o1, o2, o3⟩ := w.ok k (by omega)
    unfold okR
    rw [decide_eq_true o1, decide_eq_true o2, decide_eq_true o3]
    decide
  rw [h1, h2, if_neg (by decide)]
  rfl
theorem sml_of {m : Nat} {ds es : List Int} (hm : m ≤ 40) (w : WR m ds es) : Sml ds ∧ Sml es := by
  have hb : ∀ k, k ≤ m → es.getD k 0 < 2 ^ 41 := fun k hk => by
    have h1 := (w.ok k hk).2.2
    have h2 := ch_le m k
    have h3 : 2 ^ m ≤ 2 ^ 40 := Nat.pow_le_pow_right (by decide) hm
    have h4 : (2 : Nat) ^ 40 < 2 ^ 41 := by decide
    have h5 : ((ch m k : Nat) : Int) < (2 : Int) ^ 41 := by
      have : ch m k < 2 ^ 41 := by omega
      exact_mod_cast this
    omega
  have small : ∀ {x : Int}, 0 ≤ x → x < 2 ^ 41 → x.natAbs < 2 ^ 100 := fun h0 h1 => by
    have e : (2 : Int) ^ 41 = 2199023255552 := by decide
    have e2 : (2 : Nat) ^ 100 = 1267650600228229401496703205376 := by decide
    omega
  refine ⟨fun n hn => ?_, fun n hn => ?_⟩
  · obtain ⟨k, hk, rfl⟩ := List.mem_iff_getElem.mp hn
    have hk2 : k ≤ m := by rw [w.dl] at hk; omega
    have e : ds.getD k 0 = ds[k] := by rw [List.getD_eq_getElem?_getD, List.getElem?_eq_getElem hk]; rfl
    obtain ⟨o1, o2, _⟩ := w.ok k hk2
    have o3 := hb k hk2
    rw [e] at o1 o2
    exact small o1 (by omega)
  · obtain ⟨k, hk, rfl⟩ := List.mem_iff_getElem.mp hn
    have hk2 : k ≤ m := by rw [w.el] at hk; omega
    have e : es.getD k 0 = es[k] := by rw [List.getD_eq_getElem?_getD, List.getElem?_eq_getElem hk]; rfl
    obtain ⟨o1, o2, _⟩ := w.ok k hk2
    have o3 := hb k hk2
    rw [e] at o2 o3
    exact small (by omega) o3
theorem res_short (d : PyData) : ShT (resD d) 50 8000 := by
  unfold resD
  by_cases h : goodF d = false
  · rw [if_pos h]
    exact (sht_str (by decide +kernel) (by decide +kernel)).mono (by decide) (by decide)
  · rw [if_neg h]
    by_cases h2 : ((intsD (itD d 2)).any fun n => n != 0) = false
    · rw [if_pos h2]
      exact (sht_str (by decide +kernel) (by decide +kernel)).mono (by decide) (by decide)
    · rw [if_neg h2]
      cases hw : wrR (intD (itD d 0)).toNat (intsD (itD d 1)) (intsD (itD d 2)) with
      | none => exact sht_non.mono (by decide) (by decide)
      | some k =>
        have hg : goodF d = true := by cases e : goodF d with
          | false => exact (h e).elim
          | true => rfl
        unfold goodF at hg
        rw [Bool.and_eq_true, Bool.and_eq_true] at hg
        obtain ⟨i, e, i0, i1⟩ := idxD_of hg.2.1
        have hk := List.mem_range.mp (List.mem_of_find?_eq_some hw)
        rw [e] at hk
        have hk : k < i.toNat + 1 := hk
        have h41 : ((k : Nat) : Int).natAbs < 2 ^ 300 := Nat.lt_of_le_of_lt (show ((k : Nat) : Int).natAbs ≤ 40 by omega) (by decide)
        refine (sht_tup (m := 2) (a := 0) (b := 20) (ds := [.str "row", .int (k : Nat)]) (Nat.le_refl _) fun x hx => ?_).mono (by decide) (by decide)
        simp only [List.mem_cons, List.not_mem_nil, or_false] at hx
        rcases hx with rfl | rfl
        · exact sht_str (by decide +kernel) (by decide +kernel)
        · exact sht_int h41
theorem ch_pos : ∀ {n k : Nat}, k ≤ n → 1 ≤ ch n k
  | n, 0, _ => by rw [ch_zero]; exact Nat.le_refl _
  | 0, k + 1, h => absurd h (by omega)
  | n + 1, k + 1, h => by
    show 1 ≤ ch n k + ch n (k + 1)
    have := ch_pos (n := n) (k := k) (by omega)
    omega
theorem wr_flat : WR 40 (List.replicate 41 0) (List.replicate 41 1) := by
  have g : ∀ (k : Nat) (x : Int), k ≤ 40 → (List.replicate 41 x).getD k 0 = x := fun k x h => by
    rw [List.getD_eq_getElem?_getD, List.getElem?_replicate, if_pos (by omega)]
    rfl
  refine ⟨List.length_replicate, List.length_replicate, fun k hk => ?_, ⟨0, by decide, by rw [g 0 1 (by decide)]; decide⟩⟩
  rw [g k 0 hk, g k 1 hk]
  have := ch_pos hk
  omega
theorem Pen.beside {H : Hp} {a l x : Addr} {o : HO} (p : Pen H a l) (h1 : x ≠ a) (h2 : x ≠ l) : Pen (upd H x o) a l := by
  obtain ⟨cs, pos, val, ha, hl, r⟩ := p
  exact ⟨cs, pos, val, by rw [upd_ne (Ne.symm h1)]; exact ha, by rw [upd_ne (Ne.symm h2)]; exact hl, r⟩
def spLaw (K : PySem.W.Frag) : Sp := fun vs H Q _ => ∃ (a : Addr) (ns : List Int), vs = [.ref a] ∧ SqL K H a (ns.map V.int) ∧ ns.length ≤ 63 ∧ ∀ H', Q (.bl true) H'
section
variable {P : Program} {w : World} {K : PySem.W.Frag} {mg : Str → Option Value} {base : Heap}
theorem scLaw : FnScope ["script", "pen", "turn", "good", "caps", "items", "item", "shown", "great"] ["script"] (defScope sLaw) := ⟨rfl, rfl, rfl, by decide +kernel, rfl, by decide +kernel, by decide +kernel⟩
theorem ok_law {f fP fD fR fB fT fM fE fX : Addr} {fd dP dD dR dB dT dM dE dX : FuncData} (F : Fun K "law" "law" sLaw f fd) (T : Names mg) (mR : mg "repr" = none)
    (GP : FnOk P w K mg base CX0 1 fP dP ["script"] (spPen K)) (P1 : Def K mg "_law_pen" fP dP ["script"])
    (GD : FnOk P w K mg base CX0 2 fD dD ["pen", "many"] spDraw) (P2 : Def K mg "_law_draw" fD dD ["pen", "many"])
    (GR : FnOk P w K mg base CX0 3 fR dR ["pen", "most"] spRecipe) (P3 : Def K mg "_law_recipe" fR dR ["pen", "most"])
    (GB : FnOk P w K mg base CX0 1 fB dB ["many"] spBin) (P4 : Def K mg "_law_binomials" fB dB ["many"])
    (GT : FnOk P w K mg base CX0 3 fT dT ["pen", "some", "caps"] (spMT K)) (P5 : Def K mg "_law_mutated_tuple" fT dT ["pen", "some", "caps"])
    (GM : FnOk P w K mg base CX0 4 fM dM ["pen", "item", "caps"] (spMu K)) (P6 : Def K mg "_law_mutated" fM dM ["pen", "item", "caps"])
    (GE : FnOk P w K mg base CX0 3 fE dE ["value"] (spRE K)) (P7 : Def K mg "recipe_error" fE dE ["value"]) (B7 : KBn K dE ["value"] 0 ["value"] (fun _ ws => ws) (fun _ zs => zs))
    (GX : FnOk P w K mg base CX0 2 fX dX ["item"] (spRE K)) (P8 : Def K mg "_law_expected" fX dX ["item"]) :
    FnG P w K mg base 5 f fd ["script"] (spLaw K) := by
  refine fnG_of F scLaw (fun vs H Q E h => ?_) (fun cdv A outer s H vs Q E hg hr h => ?_)
  · obtain ⟨a, ns, rfl, _⟩ := h
    rfl
  · obtain ⟨a, ns, rfl, hS, hlen, q⟩ := h
    have cr := call_reprA (X := (cxOf CX0 P w K mg base ["script", "pen", "turn", "good", "caps", "items", "item", "shown", "great"] "law" (defScope sLaw) f cdv A outer s H E).nox) hg hr
    have line : sizeLine = 16777216 := by decide
    refine ⟨_, (pss_cons (ps_set (i := 1) scLaw.nd rfl (.inl rfl) (pe_call GP (hr.mono (by decide)) (by rfl) P1.is P1.kp P1.bi .nil pass0 (pa_cons (pv 0) pa_nil)))
      (pss_cons (ps_for PassesOwn.never rfl (pi_range1 rfl T.range (pa_cons pe_int pa_nil)) (pg_name (i := 2) scLaw.nd rfl (.inl rfl)) (pss_cons (ps_set (i := 3) scLaw.nd rfl (.inl rfl) (pe_call GR (hr.mono (by decide)) (by rfl) P3.is P3.kp P3.bi .nil pass0 (pa_cons (pv 1) (pa_cons (pe_ix ix_list (pe_lst (pa_cons pe_int (pa_cons pe_int (pa_cons pe_int pa_nil)))) (pe_call GD (hr.mono (by decide)) (by rfl) P2.is P2.kp P2.bi .nil pass0 (pa_cons (pv 1) (pa_cons pe_int pa_nil))) (fun _ _ => rfl)) pa_nil))))
      (pss_cons (ps_set (i := 4) scLaw.nd rfl (.inl rfl) (pe_call GB (hr.mono (by decide)) (by rfl) P4.is P4.kp P4.bi .nil pass0 (pa_cons (pe_ix ix_tup (pv 3) pe_int (fun _ _ => rfl)) pa_nil)))
      (pss_cons (ps_set (i := 5) scLaw.nd rfl (.inl rfl) (pe_lst (pa_cons (pv 3) (pa_cons (pe_tup (pa_cons (pe_ix ix_tup (pv 3) pe_int (fun _ _ => rfl)) (pa_cons (pe_ix ix_tup (pv 3) pe_int (fun _ _ => rfl)) (pa_cons (pe_callTy call_tuple_of (by rfl) T.tuple (by decide +kernel) (pa_cons (pv 4) pa_nil)) pa_nil)))) (pa_cons (pe_call GM (hr.mono (by decide)) (by rfl) P6.is P6.kp P6.bi .nil pass0 (pa_cons (pv 1) (pa_cons (pv 3) (pa_cons (pv 4) pa_nil)))) pa_nil)))))
      (pss_cons (ps_expr (pe_bm PySem.F.plainAttrs_list PySem.F.slot_list_append PySem.F.type_list_append mt_append (pv 5) (pa_cons (pe_tup (pa_cons (pe_ix ix_tup (pv 3) pe_int (fun _ _ => rfl)) (pa_cons (pe_call GT (hr.mono (by decide)) (by rfl) P5.is P5.kp P5.bi .nil pass0 (pa_cons (pv 1) (pa_cons (pe_ix ix_tup (pv 3) pe_int (fun _ _ => rfl)) (pa_cons (pv 4) pa_nil)))) (pa_cons (pe_call GT (hr.mono (by decide)) (by rfl) P5.is P5.kp P5.bi .nil pass0 (pa_cons (pv 1) (pa_cons (pe_ix ix_tup (pv 3) pe_int (fun _ _ => rfl)) (pa_cons (pv 4) pa_nil)))) pa_nil)))) pa_nil)))
      (pss_cons (ps_for PassesOwn.never rfl (pi_list (pv 5)) (pg_name (i := 6) scLaw.nd rfl (.inl rfl)) (pss_cons (ps_set (i := 7) scLaw.nd rfl (.inl rfl) (pe_callB cr (by rfl) mR (by decide +kernel) (pa_cons (pv 6) pa_nil)))
      (pss_one (ps_if (PW.pt (pw_or (pt_cmpR op_ne (pe_callB cr (by rfl) mR (by decide +kernel) (pa_cons (pe_call GE (hr.mono (by decide)) (by rfl) P7.is P7.kp P7.bi .nil pass0 (pa_cons (pv 6) pa_nil)) pa_nil)) (pe_callB cr (by rfl) mR (by decide +kernel) (pa_cons (pe_call GX (hr.mono (by decide)) (by rfl) P8.is P8.kp P8.bi .nil pass0 (pa_cons (pv 6) pa_nil)) pa_nil)) (nomark _)) (pw_or1 (pt_cmpR op_ne (pe_callB cr (by rfl) mR (by decide +kernel) (pa_cons (pv 6) pa_nil)) (pv 7) (nomark _))))) (pss_one (ps_ret pe_bl)) pss_nil))))
      (pss_one (ps_if (pt_cmpR op_notN (pe_named GE (hr.mono (by decide)) (by rfl) P7.is P7.kp B7 pass0 (pk_cons (pv 3) pk_nil)) pe_non (nomark _)) (pss_one (ps_ret pe_bl)) pss_nil))))))))
      (pss_cons (ps_if (pt_cmpR op_ne (pe_call GE (hr.mono (by decide)) (by rfl) P7.is P7.kp P7.bi .nil pass0 (pa_cons (pe_tup (pa_cons pe_int (pa_cons (pe_op TR.op_repA (pe_tup (pa_cons pe_int pa_nil)) pe_int) (pa_cons (pe_op TR.op_repA (pe_tup (pa_cons pe_int pa_nil)) pe_int) pa_nil)))) pa_nil)) pe_str (nomark _)) (pss_one (ps_ret pe_bl)) pss_nil)
      (pss_cons (ps_set (i := 8) scLaw.nd rfl (.inl rfl) (pe_tup (pa_cons pe_int (pa_cons (pe_op TR.op_repA (pe_tup (pa_cons pe_int pa_nil)) pe_int) (pa_cons (pe_op TR.op_repA (pe_tup (pa_cons pe_int pa_nil)) pe_int) pa_nil)))))
      (pss_one (ps_ret (pe_and (pe_cmpR op_eq (pe_call GE (hr.mono (by decide)) (by rfl) P7.is P7.kp P7.bi .nil pass0 (pa_cons (pv 8) pa_nil)) pe_str (nomark _)) (pe_one (pe_cmpR op_isN (pe_call GE (hr.mono (by decide)) (by rfl) P7.is P7.kp P7.bi .nil pass0 (pa_cons (pe_tup (pa_cons pe_int (pa_cons (pe_op TR.op_repA (pe_tup (pa_cons pe_int pa_nil)) pe_int) (pa_cons (pe_op TR.op_repA (pe_tup (pa_cons pe_int pa_nil)) pe_int) pa_nil)))) pa_nil)) pe_non (nomark _)))))))))), ?_⟩
    refine ⟨.ref a, rfl, a, ns, rfl, hS, hlen, fun p l H1 s1 np nl p1 => ?_⟩
    refine ⟨6, rfl, by decide, by decide, for_range (lo := 0) (n := 6) (fun i σ H' => ∃ v2 v3 v4 v5 v6 v7 : Option V, σ = [some (V.ref a), some (V.ref p), v2, v3, v4, v5, v6, v7, none] ∧ Pen H' p l) ⟨none, none, none, none, none, none, rfl, p1⟩ ?_ ?_⟩
    · rintro i₀ σ H0 hi ⟨v2, v3, v4, v5, v6, v7, rfl, p0⟩
      refine ⟨_, rfl, by show 3 ≤ sizeLine; decide, fun e ne => ?_⟩
      have ee : upd H0 e (.lst [.int 3, .int 8, .int 40]) e = some (.lst [.int 3, .int 8, .int 40]) := upd_same
      have p2 := p0.same (Same.upd (o := .lst [.int 3, .int 8, .int 40]) ne)
      have ae := (p0.apart ne).1
      change (_ : Hp → Prop) (upd H0 e (.lst [.int 3, .int 8, .int 40]))
      generalize upd H0 e (.lst [.int 3, .int 8, .int 40]) = H2 at ee p2 ⊢
      refine ⟨_, rfl, p, l, 3, rfl, p2, by decide, by decide +kernel, fun d H3 d0 d1 b3 p3 => ?_⟩
      obtain ⟨v, hv, most, rfl, hmost⟩ := pick (O := fun v => ∃ n : Nat, v = V.int (n : Nat) ∧ n ≤ 40) (xs := [V.int 3, .int 8, .int 40]) (fun v hv => by
        simp only [List.mem_cons, List.not_mem_nil, or_false] at hv
        rcases hv with rfl | rfl | rfl
        · exact ⟨3, rfl, by decide⟩
        · exact ⟨8, rfl, by decide⟩
        · exact ⟨40, rfl, by decide⟩) d0 d1
      refine ⟨e, _, d, _, rfl, rfl, SqL.of (b3.mem ae ee), hv, p, l, most, rfl, p3, hmost, fun r m ds es H4 _ p4 hm4 wr nr rc4 => ?_⟩
      have hm : m ≤ 40 := by omega
      obtain ⟨sd, se⟩ := sml_of hm wr
      obtain ⟨da, ea, er4, ed4, ee4⟩ := id rc4
      have rp := p4.notTup er4
      have dp := p4.notTup ed4
      have ep := p4.notTup ee4
      -- caps
      refine ⟨_, rfl, r, _, 0, .int (m : Nat), rfl, rfl, SqT.of er4, atI_nat (j := 0) rfl, m, rfl, by omega, fun c H5 s5 nc ec => ?_⟩
      have cp := (p4.apart nc).1
      have p5 := p4.same s5
      have rc5 := rc4.same s5
      have er5 := s5 _ _ er4
      have ed5 := s5 _ _ ed4
      have ee5 := s5 _ _ ee4
      -- items
      refine ⟨_, rfl, _, rfl, r, _, 0, .int (m : Nat), rfl, rfl, SqT.of er5, atI_nat (j := 0) rfl, _, rfl, r, _, 2, .ref ea, rfl, rfl, SqT.of er5, atI_nat (j := 2) rfl, _, rfl, c, _, rfl, .inl ⟨SqL.of ec, fun t nt => ?_⟩⟩
      have et6 : upd H5 t (.tup ((bin m).map V.int)) t = some (.tup ((bin m).map V.int)) := upd_same
      have s6 := Same.upd (o := .tup ((bin m).map V.int)) nt
      have tp_ := (p5.apart nt).1
      have p6 := p5.same s6
      change (_ : Hp → Prop) (upd H5 t (.tup ((bin m).map V.int)))
      generalize upd H5 t (.tup ((bin m).map V.int)) = H6 at et6 s6 p6 ⊢
      refine ⟨by show 3 ≤ sizeLine; decide, fun q1 nq1 => ?_⟩
      have e1 : upd H6 q1 (.tup [.int (m : Nat), .ref ea, .ref t]) q1 = some (.tup [.int (m : Nat), .ref ea, .ref t]) := upd_same
      have s7 := Same.upd (o := .tup [.int (m : Nat), .ref ea, .ref t]) nq1
      have q1p := (p6.apart nq1).1
      have p7 := p6.same s7
      change (_ : Hp → Prop) (upd H6 q1 (.tup [.int (m : Nat), .ref ea, .ref t]))
      generalize upd H6 q1 (.tup [.int (m : Nat), .ref ea, .ref t]) = H7 at e1 s7 p7 ⊢
      have s57 := s6.trans s7
      have rc7 := rc5.same s57
      have er7 := s57 _ _ er5
      have ed7 := s57 _ _ ed5
      have ee7 := s57 _ _ ee5
      have ec7 := s57 _ _ ec
      have et7 := s7 _ _ et6
      have occ7 : ∀ b, b = p → H7 b ≠ none := fun b hb e => by
        subst hb
        obtain ⟨_, _, _, h, _⟩ := p7
        rw [h] at e
        cases e
      refine ⟨_, rfl, _, rfl, _, rfl, p, l, r, c, m, ds, es, (· = p), rfl, rfl, occ7, rp, fun a b h => ?_, p7, hm, rc7, ec7, cp, wr.dl, wr.el, sd, se, fun v3' H8 b8 p8 ok3 => ?_⟩
      · rw [er7] at h
        cases h
        exact ⟨dp, ep⟩
      refine ⟨by show 3 ≤ sizeLine; decide, fun o no => ?_⟩
      -- the good ones are data
      have binS : Sml (bin m) := fun n hn => by
        obtain ⟨k, _, rfl⟩ := List.mem_map.mp hn
        exact Nat.lt_of_lt_of_le (ch_small (by omega)) (by decide)
      have er8 := b8.mem rp er7
      have ed8 := b8.mem dp ed7
      have ee8 := b8.mem ep ee7
      have ec8 := b8.mem cp ec7
      have et8 := b8.mem tp_ et7
      have eq8 := b8.mem q1p e1
      have okm : ∀ {N : Addr → Prop} {H' : Hp}, Dt K N H' (.int (m : Nat)) 1 861 := (dt_int (Nat.lt_of_le_of_lt (show ((m : Nat) : Int).natAbs ≤ 40 by omega) (by decide))).mono (by decide) (by decide)
      have okrow : ∀ {N : Addr → Prop} {H' : Hp} {x : Addr} {ns : List Int}, H' x = some (.tup (ns.map V.int)) → ¬ N x → ns.length = m + 1 → Sml ns → Dt K N H' (.ref x) 1 861 := fun e n hl hs => dt_tup (m := 41) e n (by rw [List.length_map]; omega) (sml_dt hs)
      have ok1 : Dt K (· = p) H8 (.ref r) 2 2586 := (dt_tup (m := 3) (a := 1) (b := 861) er8 rp (Nat.le_refl _) fun u hu => by
        simp only [List.mem_cons, List.not_mem_nil, or_false] at hu
        rcases hu with rfl | rfl | rfl
        · exact okm
        · exact okrow ed8 dp wr.dl sd
        · exact okrow ee8 ep wr.el se).mono (by decide) (by decide)
      have ok2 : Dt K (· = p) H8 (.ref q1) 2 2586 := (dt_tup (m := 3) (a := 1) (b := 861) eq8 q1p (Nat.le_refl _) fun u hu => by
        simp only [List.mem_cons, List.not_mem_nil, or_false] at hu
        rcases hu with rfl | rfl | rfl
        · exact okm
        · exact okrow ee8 ep wr.el se
        · exact okrow et8 tp_ (bin_len m) binS).mono (by decide) (by decide)
      have eo : upd H8 o (.lst [.ref r, .ref q1, v3']) o = some (.lst [.ref r, .ref q1, v3']) := upd_same
      have s9 := Same.upd (o := .lst [.ref r, .ref q1, v3']) no
      have op := (p8.apart no)
      have p9 := p8.same s9
      generalize upd H8 o (.lst [.ref r, .ref q1, v3']) = H9 at eo s9 p9 ⊢
      have er9 := s9 _ _ er8
      have ed9 := s9 _ _ ed8
      have ee9 := s9 _ _ ee8
      have ec9 := s9 _ _ ec8
      have ne_o : ∀ {b : Addr} {x : HO}, H8 b = some x → b ≠ o := fun e z => by
        rw [z, no] at e
        cases e
      have occ9 : ∀ b, (b = p ∨ b = o) → H9 b ≠ none := fun b hb e => by
        rcases hb with rfl | rfl
        · obtain ⟨_, _, _, h, _⟩ := p9
          rw [h] at e
          cases e
        · rw [eo] at e
          cases e
      -- one more item
      refine ⟨_, rfl, .inl ⟨rfl, _, SqL.of eo⟩, _, rfl, r, _, 0, .int (m : Nat), rfl, rfl, SqT.of er9, atI_nat (j := 0) rfl, _, rfl, _, rfl, r, _, 1, .ref da, rfl, rfl, SqT.of er9, atI_nat (j := 1) rfl, _, rfl, p, l, da, c, m, ds, (fun b => b = p ∨ b = o), rfl, .inl rfl, occ9, fun h => h.elim dp (ne_o ed8), p9, hm, ed9, ec9, cp, wr.dl, sd, fun v4' HA bA pA ok4 => ?_⟩
      have erA := bA.mem rp er9
      have eeA := bA.mem ep ee9
      have ecA := bA.mem cp ec9
      have eoA := bA.mem op.1 eo
      have occA : ∀ b, (b = p ∨ b = o) → HA b ≠ none := fun b hb e => by
        rcases hb with rfl | rfl
        · obtain ⟨_, _, _, h, _⟩ := pA
          rw [h] at e
          cases e
        · rw [eoA] at e
          cases e
      refine ⟨_, rfl, _, rfl, r, _, 2, .ref ea, rfl, rfl, SqT.of erA, atI_nat (j := 2) rfl, _, rfl, p, l, ea, c, m, es, (fun b => b = p ∨ b = o), rfl, .inl rfl, occA, fun h => h.elim ep (ne_o ee8), pA, hm, eeA, ecA, cp, wr.el, se, fun v5' HB bB pB ok5 => ?_⟩
      have eoB := bB.mem op.1 eoA
      refine ⟨by show 3 ≤ sizeLine; decide, fun q4 nq4 => ?_⟩
      have e4 : upd HB q4 (.tup [.int (m : Nat), v4', v5']) q4 = some (.tup [.int (m : Nat), v4', v5']) := upd_same
      have sC := Same.upd (o := .tup [.int (m : Nat), v4', v5']) nq4
      have q4p := (pB.apart nq4).1
      have q4o : q4 ≠ o := (ne_of_none eoB nq4).symm
      have pC := pB.same sC
      have eoC := sC _ _ eoB
      have ok6 : Dt K (fun b => b = p ∨ b = o) (upd HB q4 (.tup [.int (m : Nat), v4', v5'])) (.ref q4) 3 6003 := (dt_tup (m := 3) (a := 2) (b := 2000) e4 (fun h => h.elim q4p q4o) (Nat.le_refl _) fun u hu => by
        simp only [List.mem_cons, List.not_mem_nil, or_false] at hu
        rcases hu with rfl | rfl | rfl
        · exact okm.mono (by decide) (by decide)
        · exact (ok4.but (.inl rfl) bB).bn (BN.of sC)
        · exact ok5.bn (BN.of sC)).mono (by decide) (by decide)
      have b8C : BN (· = p) H8 (upd HB q4 (.tup [.int (m : Nat), v4', v5'])) := ((BN.of s9).trans (BN.but (N := (· = p)) rfl bA)).trans ((BN.but (N := (· = p)) rfl bB).trans (BN.of sC))
      change (_ : Hp → Prop) (upd HB q4 (.tup [.int (m : Nat), v4', v5']))
      generalize upd HB q4 (.tup [.int (m : Nat), v4', v5']) = HC at e4 sC pC eoC ok6 b8C ⊢
      refine ⟨o, _, _, rfl, rfl, eoC, by show 3 < sizeLine; decide, ?_⟩
      have eoD : upd HC o (.lst ([.ref r, .ref q1, v3'] ++ [.ref q4])) o = some (.lst [.ref r, .ref q1, v3', .ref q4]) := upd_same
      have pD := pC.beside (x := o) (o := .lst ([.ref r, .ref q1, v3'] ++ [.ref q4])) op.1 op.2
      have b8D : BN (· = p) H8 (upd HC o (.lst ([.ref r, .ref q1, v3'] ++ [.ref q4]))) := fun b x e n => by
        rw [upd_ne (ne_o e)]
        exact b8C b x e n
      have bCD : BN (fun b => b = p ∨ b = o) HC (upd HC o (.lst ([.ref r, .ref q1, v3'] ++ [.ref q4]))) := fun b x e n => by
        rw [upd_ne (fun z => n (.inr z))]
        exact e
      have items : ∀ v ∈ [V.ref r, .ref q1, v3', .ref q4], ∃ d, (∀ H', Same (upd HC o (.lst ([.ref r, .ref q1, v3'] ++ [.ref q4]))) H' → Tp K H' v d) ∧ ShT d 50 8000 := fun v hv => by
        have of_ : ∀ {N : Addr → Prop} {a b : Nat}, Dt K N (upd HC o (.lst ([.ref r, .ref q1, v3'] ++ [.ref q4]))) v a b → a ≤ 50 → b ≤ 8000 → ∃ d, (∀ H', Same (upd HC o (.lst ([.ref r, .ref q1, v3'] ++ [.ref q4]))) H' → Tp K H' v d) ∧ ShT d 50 8000 := fun ⟨d, h1, h2⟩ ha hb => ⟨d, fun H' s => h1 H' (BN.of s), h2.mono ha hb⟩
        simp only [List.mem_cons, List.not_mem_nil, or_false] at hv
        rcases hv with rfl | rfl | rfl | rfl
        · exact of_ (ok1.bn b8D) (by decide) (by decide)
        · exact of_ (ok2.bn b8D) (by decide) (by decide)
        · exact of_ (ok3.bn b8D) (by decide) (by decide)
        · exact of_ (ok6.bn bCD) (by decide) (by decide)
      have erD := b8D.mem rp er8
      have edD := b8D.mem dp ed8
      have eeD := b8D.mem ep ee8
      change (_ : Hp → Prop) (upd HC o (.lst ([.ref r, .ref q1, v3'] ++ [.ref q4])))
      generalize upd HC o (.lst ([.ref r, .ref q1, v3'] ++ [.ref q4])) = HD at eoD pD items erD edD eeD ⊢
      refine ⟨_, rfl, o, rfl, ⟨_, SqL.of eoD⟩, ?_⟩
      refine for_list (K := K) (a := o) (xs := [.ref r, .ref q1, v3', .ref q4]) (fun i σ H' => ∃ v6 v7 : Option V, σ = [some (V.ref a), some (V.ref p), some (V.int (0 + (i₀ : Nat))), some (V.ref r), some (V.ref c), some (V.ref o), v6, v7, none] ∧ Same HD H')
        ⟨_, _, rfl, Same.refl _⟩ (fun i σ H' _ ⟨_, _, _, h⟩ => SqL.of (h _ _ eoD)) ?_ ?_
      · rintro i x σ HE hx ⟨v6, v7, rfl, sE⟩
        obtain ⟨d, td, sh⟩ := items x (List.mem_of_getElem? hx)
        refine ⟨_, rfl, x, d, rfl, td _ sE, sh.t, ?_⟩
        refine ⟨_, rfl, x, d, rfl, td _ sE, fun r1 HF sF t1 => ?_⟩
        refine ⟨r1, resD d, rfl, t1, (res_short d).t, _, rfl, x, d, rfl, td _ (sE.trans sF), fun r2 HG sG t2 => ?_⟩
        refine ⟨r2, resD d, rfl, t2, (res_short d).t, rfl, _, rfl, iteNS rfl ?_⟩
        have sEG := sE.trans (sF.trans sG)
        refine ⟨_, rfl, x, d, rfl, td _ sEG, sh.t, _, rfl, rfl, _, rfl, iteNS rfl ?_⟩
        exact ⟨_, _, rfl, sEG⟩
      · rintro σ HE ⟨v6, v7, rfl, sE⟩
        have tg : Tp K HE (.ref r) (goodD m ds es) := .tup (SqT.of (sE _ _ erD)) (.cons (.int _) (.cons (.tup (SqT.of (sE _ _ edD)) (ints_tp ds)) (.cons (.tup (SqT.of (sE _ _ eeD)) (ints_tp es)) .nil)))
        refine ⟨_, rfl, rfl, .ref r, goodD m ds es, rfl, tg, fun r1 HF sF t1 => ?_⟩
        rw [res_good hm wr] at t1
        cases t1
        refine ⟨rfl, _, rfl, ?_⟩
        rw [decide_eq_true rfl]
        exact iteF ⟨_, _, _, _, _, _, rfl, (pD.same sE).same sF⟩
    · rintro σ H5 ⟨v2, v3, v4, v5, v6, v7, rfl, pn⟩
      have reps : ∀ (k : Nat) (n : Int), (List.replicate (k : Int).toNat [V.int n]).flatten = (List.replicate k n).map V.int := fun k n => by
        rw [Int.toNat_natCast, List.map_replicate]
        induction k with
        | zero => rfl
        | succ k ih => rw [List.replicate_succ, List.flatten_cons, ih]; rfl
      have data : ∀ {H' : Hp} {q a b : Addr} {n : Int} {k : Nat} {x y : Int}, H' q = some (.tup [.int n, .ref a, .ref b]) → H' a = some (.tup ((List.replicate k x).map V.int)) → H' b = some (.tup ((List.replicate k y).map V.int)) → Tp K H' (.ref q) (.tuple [.int n, .tuple ((List.replicate k x).map PyData.int), .tuple ((List.replicate k y).map PyData.int)]) := fun e1 e2 e3 =>
        .tup (SqT.of e1) (.cons (.int _) (.cons (.tup (SqT.of e2) (ints_tp _)) (.cons (.tup (SqT.of e3) (ints_tp _)) .nil)))
      have bad : ∀ {x y : PyData}, resD (.tuple [.int 41, x, y]) = .str "form" := by
        intro x y
        unfold resD
        rw [if_pos (show goodF (.tuple [.int 41, x, y]) = false from rfl)]
      refine ⟨by show 1 ≤ sizeLine; decide, fun z1x nz1 => ?_⟩
      have sz1x := Same.upd (o := .tup [V.int 0]) nz1
      have ez1 : upd H5 z1x (.tup [V.int 0]) z1x = some (.tup [V.int 0]) := upd_same
      change (_ : Hp → Prop) (upd H5 z1x (.tup [V.int 0]))
      generalize upd H5 z1x (.tup [V.int 0]) = HAx at sz1x ez1 ⊢
      refine ⟨z1x, 42, _, rfl, rfl, SqT.of ez1, List.cons_ne_nil _ _, by decide, by decide, by show 1 ≤ 1000; decide, fun h => absurd h (by decide), fun _ a1x na1 => ?_⟩
      have sa1x := Same.upd (o := .tup (List.replicate (42 : Int).toNat [V.int 0]).flatten) na1
      have ea1x : upd HAx a1x (.tup (List.replicate (42 : Int).toNat [V.int 0]).flatten) a1x = some (.tup ((List.replicate 42 (0 : Int)).map V.int)) := by
        rw [upd_same]
        exact congrArg (fun x => some (HO.tup x)) (reps 42 0)
      change (_ : Hp → Prop) (upd HAx a1x (.tup (List.replicate (42 : Int).toNat [V.int 0]).flatten))
      generalize upd HAx a1x (.tup (List.replicate (42 : Int).toNat [V.int 0]).flatten) = HBx at sa1x ea1x ⊢
      refine ⟨by show 1 ≤ sizeLine; decide, fun z2x nz2 => ?_⟩
      have sz2x := Same.upd (o := .tup [V.int 0]) nz2
      have ez2 : upd HBx z2x (.tup [V.int 0]) z2x = some (.tup [V.int 0]) := upd_same
      change (_ : Hp → Prop) (upd HBx z2x (.tup [V.int 0]))
      generalize upd HBx z2x (.tup [V.int 0]) = HCx at sz2x ez2 ⊢
      refine ⟨z2x, 42, _, rfl, rfl, SqT.of ez2, List.cons_ne_nil _ _, by decide, by decide, by show 1 ≤ 1000; decide, fun h => absurd h (by decide), fun _ a2x na2 => ?_⟩
      have sa2x := Same.upd (o := .tup (List.replicate (42 : Int).toNat [V.int 0]).flatten) na2
      have ea2x : upd HCx a2x (.tup (List.replicate (42 : Int).toNat [V.int 0]).flatten) a2x = some (.tup ((List.replicate 42 (0 : Int)).map V.int)) := by
        rw [upd_same]
        exact congrArg (fun x => some (HO.tup x)) (reps 42 0)
      change (_ : Hp → Prop) (upd HCx a2x (.tup (List.replicate (42 : Int).toNat [V.int 0]).flatten))
      generalize upd HCx a2x (.tup (List.replicate (42 : Int).toNat [V.int 0]).flatten) = HDx at sa2x ea2x ⊢
      refine ⟨by show 3 ≤ sizeLine; decide, fun qx nq => ?_⟩
      have sqx := Same.upd (o := .tup [V.int 41, .ref a1x, .ref a2x]) nq
      have eqx : upd HDx qx (.tup [V.int 41, .ref a1x, .ref a2x]) qx = some (.tup [V.int 41, .ref a1x, .ref a2x]) := upd_same
      have tpx := data eqx (sqx _ _ (sa2x _ _ (sz2x _ _ ea1x))) (sqx _ _ ea2x)
      generalize upd HDx qx (.tup [V.int 41, .ref a1x, .ref a2x]) = HEx at sqx eqx tpx ⊢
      refine ⟨.ref qx, _, rfl, tpx, fun r1 HF sF t1 => ?_⟩
      rw [bad] at t1
      cases t1
      refine ⟨rfl, _, rfl, ?_⟩
      rw [decide_eq_true rfl]
      refine iteF ?_
      clear sz1x ea1x sa1x sz2x sa2x ea2x sqx eqx tpx
      refine ⟨by show 1 ≤ sizeLine; decide, fun z1y nz1 => ?_⟩
      have sz1y := Same.upd (o := .tup [V.int 0]) nz1
      have ez1 : upd HF z1y (.tup [V.int 0]) z1y = some (.tup [V.int 0]) := upd_same
      change (_ : Hp → Prop) (upd HF z1y (.tup [V.int 0]))
      generalize upd HF z1y (.tup [V.int 0]) = HAy at sz1y ez1 ⊢
      refine ⟨z1y, 42, _, rfl, rfl, SqT.of ez1, List.cons_ne_nil _ _, by decide, by decide, by show 1 ≤ 1000; decide, fun h => absurd h (by decide), fun _ a1y na1 => ?_⟩
      have sa1y := Same.upd (o := .tup (List.replicate (42 : Int).toNat [V.int 0]).flatten) na1
      have ea1y : upd HAy a1y (.tup (List.replicate (42 : Int).toNat [V.int 0]).flatten) a1y = some (.tup ((List.replicate 42 (0 : Int)).map V.int)) := by
        rw [upd_same]
        exact congrArg (fun x => some (HO.tup x)) (reps 42 0)
      change (_ : Hp → Prop) (upd HAy a1y (.tup (List.replicate (42 : Int).toNat [V.int 0]).flatten))
      generalize upd HAy a1y (.tup (List.replicate (42 : Int).toNat [V.int 0]).flatten) = HBy at sa1y ea1y ⊢
      refine ⟨by show 1 ≤ sizeLine; decide, fun z2y nz2 => ?_⟩
      have sz2y := Same.upd (o := .tup [V.int 1]) nz2
      have ez2 : upd HBy z2y (.tup [V.int 1]) z2y = some (.tup [V.int 1]) := upd_same
      change (_ : Hp → Prop) (upd HBy z2y (.tup [V.int 1]))
      generalize upd HBy z2y (.tup [V.int 1]) = HCy at sz2y ez2 ⊢
      refine ⟨z2y, 42, _, rfl, rfl, SqT.of ez2, List.cons_ne_nil _ _, by decide, by decide, by show 1 ≤ 1000; decide, fun h => absurd h (by decide), fun _ a2y na2 => ?_⟩
      have sa2y := Same.upd (o := .tup (List.replicate (42 : Int).toNat [V.int 1]).flatten) na2
      have ea2y : upd HCy a2y (.tup (List.replicate (42 : Int).toNat [V.int 1]).flatten) a2y = some (.tup ((List.replicate 42 (1 : Int)).map V.int)) := by
        rw [upd_same]
        exact congrArg (fun x => some (HO.tup x)) (reps 42 1)
      change (_ : Hp → Prop) (upd HCy a2y (.tup (List.replicate (42 : Int).toNat [V.int 1]).flatten))
      generalize upd HCy a2y (.tup (List.replicate (42 : Int).toNat [V.int 1]).flatten) = HDy at sa2y ea2y ⊢
      refine ⟨by show 3 ≤ sizeLine; decide, fun qy nq => ?_⟩
      have sqy := Same.upd (o := .tup [V.int 41, .ref a1y, .ref a2y]) nq
      have eqy : upd HDy qy (.tup [V.int 41, .ref a1y, .ref a2y]) qy = some (.tup [V.int 41, .ref a1y, .ref a2y]) := upd_same
      have tpy := data eqy (sqy _ _ (sa2y _ _ (sz2y _ _ ea1y))) (sqy _ _ ea2y)
      generalize upd HDy qy (.tup [V.int 41, .ref a1y, .ref a2y]) = HEy at sqy eqy tpy ⊢
      refine ⟨_, rfl, .ref qy, _, rfl, tpy, fun r1 HG sG t1 => ?_⟩
      rw [bad] at t1
      cases t1
      refine ⟨rfl, _, rfl, ?_⟩
      rw [decide_eq_true rfl]
      refine iteT ?_
      refine ⟨by show 1 ≤ sizeLine; decide, fun z1w nz1 => ?_⟩
      have sz1w := Same.upd (o := .tup [V.int 0]) nz1
      have ez1 : upd HG z1w (.tup [V.int 0]) z1w = some (.tup [V.int 0]) := upd_same
      change (_ : Hp → Prop) (upd HG z1w (.tup [V.int 0]))
      generalize upd HG z1w (.tup [V.int 0]) = HAw at sz1w ez1 ⊢
      refine ⟨z1w, 41, _, rfl, rfl, SqT.of ez1, List.cons_ne_nil _ _, by decide, by decide, by show 1 ≤ 1000; decide, fun h => absurd h (by decide), fun _ a1w na1 => ?_⟩
      have sa1w := Same.upd (o := .tup (List.replicate (41 : Int).toNat [V.int 0]).flatten) na1
      have ea1w : upd HAw a1w (.tup (List.replicate (41 : Int).toNat [V.int 0]).flatten) a1w = some (.tup ((List.replicate 41 (0 : Int)).map V.int)) := by
        rw [upd_same]
        exact congrArg (fun x => some (HO.tup x)) (reps 41 0)
      change (_ : Hp → Prop) (upd HAw a1w (.tup (List.replicate (41 : Int).toNat [V.int 0]).flatten))
      generalize upd HAw a1w (.tup (List.replicate (41 : Int).toNat [V.int 0]).flatten) = HBw at sa1w ea1w ⊢
      refine ⟨by show 1 ≤ sizeLine; decide, fun z2w nz2 => ?_⟩
      have sz2w := Same.upd (o := .tup [V.int 1]) nz2
      have ez2 : upd HBw z2w (.tup [V.int 1]) z2w = some (.tup [V.int 1]) := upd_same
      change (_ : Hp → Prop) (upd HBw z2w (.tup [V.int 1]))
      generalize upd HBw z2w (.tup [V.int 1]) = HCw at sz2w ez2 ⊢
      refine ⟨z2w, 41, _, rfl, rfl, SqT.of ez2, List.cons_ne_nil _ _, by decide, by decide, by show 1 ≤ 1000; decide, fun h => absurd h (by decide), fun _ a2w na2 => ?_⟩
      have sa2w := Same.upd (o := .tup (List.replicate (41 : Int).toNat [V.int 1]).flatten) na2
      have ea2w : upd HCw a2w (.tup (List.replicate (41 : Int).toNat [V.int 1]).flatten) a2w = some (.tup ((List.replicate 41 (1 : Int)).map V.int)) := by
        rw [upd_same]
        exact congrArg (fun x => some (HO.tup x)) (reps 41 1)
      change (_ : Hp → Prop) (upd HCw a2w (.tup (List.replicate (41 : Int).toNat [V.int 1]).flatten))
      generalize upd HCw a2w (.tup (List.replicate (41 : Int).toNat [V.int 1]).flatten) = HDw at sa2w ea2w ⊢
      refine ⟨by show 3 ≤ sizeLine; decide, fun qw nq => ?_⟩
      have sqw := Same.upd (o := .tup [V.int 40, .ref a1w, .ref a2w]) nq
      have eqw : upd HDw qw (.tup [V.int 40, .ref a1w, .ref a2w]) qw = some (.tup [V.int 40, .ref a1w, .ref a2w]) := upd_same
      have tpw := data eqw (sqw _ _ (sa2w _ _ (sz2w _ _ ea1w))) (sqw _ _ ea2w)
      generalize upd HDw qw (.tup [V.int 40, .ref a1w, .ref a2w]) = HEw at sqw eqw tpw ⊢
      refine ⟨.ref qw, _, rfl, tpw, fun r1 HH sH t1 => ?_⟩
      have t1 : Tp K HH r1 (resD (goodD 40 (List.replicate 41 0) (List.replicate 41 1))) := t1
      rw [res_good (Nat.le_refl _) wr_flat] at t1
      cases t1
      refine ⟨rfl, ?_⟩
      rw [decide_eq_true rfl]
      exact q _
end
theorem all_mk {w : World} {K : PySem.W.Frag} {h : Heap} {mg : Str → Option Value} {fa f0 f1 f2 f3 f4 f5 f6 f7 f8 f9 f10 f11 f12 f13 f14 f15 : Addr} (X : K.In h) (G : h.Ns mainGlobals mg) (hfa : mg "law" = some (.ref fa))
    {od0 an0 od1 an1 od2 an2 od3 an3 od4 an4 od5 an5 od6 an6 od7 an7 od8 an8 od9 an9 od10 an10 od11 an11 od12 an12 od13 an13 od14 an14 od15 an15 : Option Addr} {sl0 sl1 sl2 sl3 sl4 sl5 sl6 sl7 sl8 sl9 sl10 sl11 sl12 sl13 sl14 sl15 : Array (Option Value)} {oc0 kV0 dc0 pm0 cd0 ct0 oc1 kV1 dc1 pm1 cd1 ct1 oc2 kV2 dc2 pm2 cd2 ct2 oc3 kV3 dc3 pm3 cd3 ct3 oc4 kV4 dc4 pm4 cd4 ct4 oc5 kV5 dc5 pm5 cd5 ct5 oc6 kV6 dc6 pm6 cd6 ct6 oc7 kV7 dc7 pm7 cd7 ct7 oc8 kV8 dc8 pm8 cd8 ct8 oc9 kV9 dc9 pm9 cd9 ct9 oc10 kV10 dc10 pm10 cd10 ct10 oc11 kV11 dc11 pm11 cd11 ct11 oc12 kV12 dc12 pm12 cd12 ct12 oc13 kV13 dc13 pm13 cd13 ct13 oc14 kV14 dc14 pm14 cd14 ct14 oc15 kV15 dc15 pm15 cd15 ct15 : Value}
    {tR : Tok}
    (a0 : PySem.W.nsIn K mainGlobals "_law_pen" = some (some (.ref f0))) (l0 : K.lookup f0 = some ⟨oc0, od0, .func (PySem.W.fnOf "_law_pen" "_law_pen" (defArgs sPen) (defBody sPen) (defScope sPen) .none kV0 dc0 pm0 an0 cd0 ct0), sl0⟩) (c0 : PySem.W.codeIn K cd0 "_law_pen" = true) (k0 : PySem.W.keepIn K (.ref f0) = true)
    (a1 : PySem.W.nsIn K mainGlobals "_law_fresh" = some (some (.ref f1))) (l1 : K.lookup f1 = some ⟨oc1, od1, .func (PySem.W.fnOf "_law_fresh" "_law_fresh" (defArgs sFresh) (defBody sFresh) (defScope sFresh) .none kV1 dc1 pm1 an1 cd1 ct1), sl1⟩) (c1 : PySem.W.codeIn K cd1 "_law_fresh" = true) (k1 : PySem.W.keepIn K (.ref f1) = true)
    (a2 : PySem.W.nsIn K mainGlobals "_law_draw" = some (some (.ref f2))) (l2 : K.lookup f2 = some ⟨oc2, od2, .func (PySem.W.fnOf "_law_draw" "_law_draw" (defArgs sDraw) (defBody sDraw) (defScope sDraw) .none kV2 dc2 pm2 an2 cd2 ct2), sl2⟩) (c2 : PySem.W.codeIn K cd2 "_law_draw" = true) (k2 : PySem.W.keepIn K (.ref f2) = true)
    (a3 : PySem.W.nsIn K mainGlobals "_law_binomials" = some (some (.ref f3))) (l3 : K.lookup f3 = some ⟨oc3, od3, .func (PySem.W.fnOf "_law_binomials" "_law_binomials" (defArgs sBin) (defBody sBin) (defScope sBin) .none kV3 dc3 pm3 an3 cd3 ct3), sl3⟩) (c3 : PySem.W.codeIn K cd3 "_law_binomials" = true) (k3 : PySem.W.keepIn K (.ref f3) = true)
    (a4 : PySem.W.nsIn K mainGlobals "_law_recipe" = some (some (.ref f4))) (l4 : K.lookup f4 = some ⟨oc4, od4, .func (PySem.W.fnOf "_law_recipe" "_law_recipe" (defArgs sRecipe) (defBody sRecipe) (defScope sRecipe) .none kV4 dc4 pm4 an4 cd4 ct4), sl4⟩) (c4 : PySem.W.codeIn K cd4 "_law_recipe" = true) (k4 : PySem.W.keepIn K (.ref f4) = true)
    (a5 : PySem.W.nsIn K mainGlobals "is_integer" = some (some (.ref f5))) (l5 : K.lookup f5 = some ⟨oc5, od5, .func (PySem.W.fnOf "is_integer" "is_integer" (defArgs sII) (defBody sII) (defScope sII) .none kV5 dc5 pm5 an5 cd5 ct5), sl5⟩) (c5 : PySem.W.codeIn K cd5 "is_integer" = true) (k5 : PySem.W.keepIn K (.ref f5) = true)
    (a6 : PySem.W.nsIn K mainGlobals "is_index" = some (some (.ref f6))) (l6 : K.lookup f6 = some ⟨oc6, od6, .func (PySem.W.fnOf "is_index" "is_index" (defArgs sIX) (defBody sIX) (defScope sIX) .none kV6 dc6 pm6 an6 cd6 ct6), sl6⟩) (c6 : PySem.W.codeIn K cd6 "is_index" = true) (k6 : PySem.W.keepIn K (.ref f6) = true)
    (a7 : PySem.W.nsIn K mainGlobals "is_tuple" = some (some (.ref f7))) (l7 : K.lookup f7 = some ⟨oc7, od7, .func (PySem.W.fnOf "is_tuple" "is_tuple" (defArgs sIT) (defBody sIT) (defScope sIT) .none kV7 dc7 pm7 an7 cd7 ct7), sl7⟩) (c7 : PySem.W.codeIn K cd7 "is_tuple" = true) (k7 : PySem.W.keepIn K (.ref f7) = true)
    (a8 : PySem.W.nsIn K mainGlobals "is_row_of_integers" = some (some (.ref f8))) (l8 : K.lookup f8 = some ⟨oc8, od8, .func (PySem.W.fnOf "is_row_of_integers" "is_row_of_integers" (defArgs sIR) (defBody sIR) (defScope sIR) .none kV8 dc8 pm8 an8 cd8 ct8), sl8⟩) (c8 : PySem.W.codeIn K cd8 "is_row_of_integers" = true) (k8 : PySem.W.keepIn K (.ref f8) = true)
    (a9 : PySem.W.nsIn K mainGlobals "find_wrong_row" = some (some (.ref f9))) (l9 : K.lookup f9 = some ⟨oc9, od9, .func (PySem.W.fnOf "find_wrong_row" "find_wrong_row" (defArgs sFW) (defBody sFW) (defScope sFW) .none kV9 dc9 pm9 an9 cd9 ct9), sl9⟩) (c9 : PySem.W.codeIn K cd9 "find_wrong_row" = true) (k9 : PySem.W.keepIn K (.ref f9) = true)
    (a10 : PySem.W.nsIn K mainGlobals "recipe_error" = some (some (.ref f10))) (l10 : K.lookup f10 = some ⟨oc10, od10, .func (PySem.W.fnOf "recipe_error" "recipe_error" (defArgs sRE) (defBody sRE) (defScope sRE) .none kV10 dc10 pm10 an10 cd10 ct10), sl10⟩) (c10 : PySem.W.codeIn K cd10 "recipe_error" = true) (k10 : PySem.W.keepIn K (.ref f10) = true)
    (a11 : PySem.W.nsIn K mainGlobals "_law_is_number" = some (some (.ref f11))) (l11 : K.lookup f11 = some ⟨oc11, od11, .func (PySem.W.fnOf "_law_is_number" "_law_is_number" (defArgs sLN) (defBody sLN) (defScope sLN) .none kV11 dc11 pm11 an11 cd11 ct11), sl11⟩) (c11 : PySem.W.codeIn K cd11 "_law_is_number" = true) (k11 : PySem.W.keepIn K (.ref f11) = true)
    (a12 : PySem.W.nsIn K mainGlobals "_law_expected" = some (some (.ref f12))) (l12 : K.lookup f12 = some ⟨oc12, od12, .func (PySem.W.fnOf "_law_expected" "_law_expected" (defArgs sEx) (defBody sEx) (defScope sEx) .none kV12 dc12 pm12 an12 cd12 ct12), sl12⟩) (c12 : PySem.W.codeIn K cd12 "_law_expected" = true) (k12 : PySem.W.keepIn K (.ref f12) = true)
    (a13 : PySem.W.nsIn K mainGlobals "_law_mutated_tuple" = some (some (.ref f13))) (l13 : K.lookup f13 = some ⟨oc13, od13, .func (PySem.W.fnOf "_law_mutated_tuple" "_law_mutated_tuple" (defArgs sMT) (defBody sMT) (defScope sMT) .none kV13 dc13 pm13 an13 cd13 ct13), sl13⟩) (c13 : PySem.W.codeIn K cd13 "_law_mutated_tuple" = true) (k13 : PySem.W.keepIn K (.ref f13) = true)
    (a14 : PySem.W.nsIn K mainGlobals "_law_mutated" = some (some (.ref f14))) (l14 : K.lookup f14 = some ⟨oc14, od14, .func (PySem.W.fnOf "_law_mutated" "_law_mutated" (defArgs sMu) (defBody sMu) (defScope sMu) .none kV14 dc14 pm14 an14 cd14 ct14), sl14⟩) (c14 : PySem.W.codeIn K cd14 "_law_mutated" = true) (k14 : PySem.W.keepIn K (.ref f14) = true)
    (a15 : PySem.W.nsIn K mainGlobals "law" = some (some (.ref f15))) (l15 : K.lookup f15 = some ⟨oc15, od15, .func (PySem.W.fnOf "law" "law" (defArgs sLaw) (defBody sLaw) (defScope sLaw) .none kV15 dc15 pm15 an15 cd15 ct15), sl15⟩) (c15 : PySem.W.codeIn K cd15 "law" = true) (k15 : PySem.W.keepIn K (.ref f15) = true)
    (z_list : PySem.W.nsIn K mainGlobals "list" = some none)
    (z_tuple : PySem.W.nsIn K mainGlobals "tuple" = some none)
    (z_len : PySem.W.nsIn K mainGlobals "len" = some none)
    (z_range : PySem.W.nsIn K mainGlobals "range" = some none)
    (z_zip : PySem.W.nsIn K mainGlobals "zip" = some none)
    (z_sum : PySem.W.nsIn K mainGlobals "sum" = some none)
    (z_enumerate : PySem.W.nsIn K mainGlobals "enumerate" = some none)
    (z_int : PySem.W.nsIn K mainGlobals "int" = some none)
    (z_bool : PySem.W.nsIn K mainGlobals "bool" = some none)
    (z_isinstance : PySem.W.nsIn K mainGlobals "isinstance" = some none)
    (z_all : PySem.W.nsIn K mainGlobals "all" = some none)
    (z_any : PySem.W.nsIn K mainGlobals "any" = some none)
    (z_repr : PySem.W.nsIn K mainGlobals "repr" = some none)
    (x_comb : PySem.W.nsIn K mainGlobals "comb" = some (some (.builtin "math.comb")))
    (x_MAX_RECIPE_TOSSES : PySem.W.nsIn K mainGlobals "MAX_RECIPE_TOSSES" = some (some (.int 40 tR)))
    : ∃ fd : FuncData, (∀ (s : Shared) (v : Value), BindsTo s fd ⟨[v], []⟩ [("script", v)]) ∧ ∀ base : Heap, K.In base → base.Ns mainGlobals mg → FnG (PySem.Challenge.rw_bentcoin_k43_why_it_is_no_recipe).prog w K mg base 5 fa fd ["script"] (spLaw K) := by
  have e := hfa.symm.trans (PySem.W.mg_of X G a15)
  cases e
  have F0 := fun_mk (st := sPen) l0 c0 k0
  have b0 := F0.binds (ps := ["script"]) fun _ _ _ _ _ _ us hl => match us, hl with | [_], _ => rfl
  have F1 := fun_mk (st := sFresh) l1 c1 k1
  have b1 := F1.binds (ps := ["pen"]) fun _ _ _ _ _ _ us hl => match us, hl with | [_], _ => rfl
  have F2 := fun_mk (st := sDraw) l2 c2 k2
  have b2 := F2.binds (ps := ["pen", "many"]) fun _ _ _ _ _ _ us hl => match us, hl with | [_, _], _ => rfl
  have F3 := fun_mk (st := sBin) l3 c3 k3
  have b3 := F3.binds (ps := ["many"]) fun _ _ _ _ _ _ us hl => match us, hl with | [_], _ => rfl
  have F4 := fun_mk (st := sRecipe) l4 c4 k4
  have b4 := F4.binds (ps := ["pen", "most"]) fun _ _ _ _ _ _ us hl => match us, hl with | [_, _], _ => rfl
  have F5 := fun_mk (st := sII) l5 c5 k5
  have b5 := F5.binds (ps := ["value"]) fun _ _ _ _ _ _ us hl => match us, hl with | [_], _ => rfl
  have F6 := fun_mk (st := sIX) l6 c6 k6
  have b6 := F6.binds (ps := ["value", "size"]) fun _ _ _ _ _ _ us hl => match us, hl with | [_, _], _ => rfl
  have F7 := fun_mk (st := sIT) l7 c7 k7
  have b7 := F7.binds (ps := ["value", "size"]) fun _ _ _ _ _ _ us hl => match us, hl with | [_, _], _ => rfl
  have F8 := fun_mk (st := sIR) l8 c8 k8
  have b8 := F8.binds (ps := ["value", "size"]) fun _ _ _ _ _ _ us hl => match us, hl with | [_, _], _ => rfl
  have F9 := fun_mk (st := sFW) l9 c9 k9
  have b9 := F9.binds (ps := ["tosses", "ds", "es"]) fun _ _ _ _ _ _ us hl => match us, hl with | [_, _, _], _ => rfl
  have F10 := fun_mk (st := sRE) l10 c10 k10
  have b10 := F10.binds (ps := ["value"]) fun _ _ _ _ _ _ us hl => match us, hl with | [_], _ => rfl
  have F11 := fun_mk (st := sLN) l11 c11 k11
  have b11 := F11.binds (ps := ["one_thing"]) fun _ _ _ _ _ _ us hl => match us, hl with | [_], _ => rfl
  have F12 := fun_mk (st := sEx) l12 c12 k12
  have b12 := F12.binds (ps := ["item"]) fun _ _ _ _ _ _ us hl => match us, hl with | [_], _ => rfl
  have F13 := fun_mk (st := sMT) l13 c13 k13
  have b13 := F13.binds (ps := ["pen", "some", "caps"]) fun _ _ _ _ _ _ us hl => match us, hl with | [_, _, _], _ => rfl
  have F14 := fun_mk (st := sMu) l14 c14 k14
  have b14 := F14.binds (ps := ["pen", "item", "caps"]) fun _ _ _ _ _ _ us hl => match us, hl with | [_, _, _], _ => rfl
  have F15 := fun_mk (st := sLaw) l15 c15 k15
  refine ⟨PySem.W.fnOf "law" "law" (defArgs sLaw) (defBody sLaw) (defScope sLaw) .none kV15 dc15 pm15 an15 cd15 ct15, fun s v => .of_eq rfl, fun base _ _ => ?_⟩
  have N : Names mg := ⟨PySem.W.mg_none_of X G z_list, PySem.W.mg_none_of X G z_tuple, PySem.W.mg_none_of X G z_len, PySem.W.mg_none_of X G z_range⟩
  have R : NamesS mg := ⟨⟨N, PySem.W.mg_none_of X G z_zip, PySem.W.mg_none_of X G z_enumerate, PySem.W.mg_none_of X G z_int⟩, PySem.W.mg_none_of X G z_sum⟩
  have NI : NamesI mg := ⟨N, PySem.W.mg_none_of X G z_isinstance, PySem.W.mg_none_of X G z_all, PySem.W.mg_none_of X G z_any⟩
  have zI := PySem.W.mg_none_of X G z_int
  have zB := PySem.W.mg_none_of X G z_bool
  have m : ∀ {x : Str} {u : Value}, PySem.W.nsIn K mainGlobals x = some (some u) → mg x = some u := fun e => PySem.W.mg_of X G e
  have G0 := ok_pen (P := PySem.Challenge.pw_bentcoin_k43_why_it_is_no_recipe) (w := w) (mg := mg) (base := base) F0 N
  have G1 := ok_fresh (P := PySem.Challenge.pw_bentcoin_k43_why_it_is_no_recipe) (w := w) (mg := mg) (base := base) F1 N
  have G2 := ok_draw F2 G1 (m a1) k1 b1
  have G3 := ok_bin (P := PySem.Challenge.pw_bentcoin_k43_why_it_is_no_recipe) (w := w) (mg := mg) (base := base) F3 R.toNamesR
  have G4 := ok_recipe F4 R G2 ⟨m a2, k2, b2⟩ G3 ⟨m a3, k3, b3⟩
  have G5 := ok_ii (P := PySem.Challenge.pw_bentcoin_k43_why_it_is_no_recipe) (w := w) (mg := mg) (base := base) F5 NI zI zB
  have G6 := ok_ix F6 G5 ⟨m a5, k5, b5⟩
  have G7 := ok_it (P := PySem.Challenge.pw_bentcoin_k43_why_it_is_no_recipe) (w := w) (mg := mg) (base := base) F7 NI
  have G8 := ok_ir F8 NI G5 ⟨m a5, k5, b5⟩ G7 ⟨m a7, k7, b7⟩
  have G9 := ok_fw (P := PySem.Challenge.pw_bentcoin_k43_why_it_is_no_recipe) (w := w) (mg := mg) (base := base) F9 NI (m x_comb)
  have G10 := ok_re F10 NI (m x_MAX_RECIPE_TOSSES) G6 ⟨m a6, k6, b6⟩ G7 ⟨m a7, k7, b7⟩ G8 ⟨m a8, k8, b8⟩ G9 ⟨m a9, k9, b9⟩
  have G11 := ok_ln (P := PySem.Challenge.pw_bentcoin_k43_why_it_is_no_recipe) (w := w) (mg := mg) (base := base) F11 NI zI zB
  have G12 := ok_ex F12 NI G11 ⟨m a11, k11, b11⟩ G3 ⟨m a3, k3, b3⟩
  have G13 := ok_mt F13 N G2 ⟨m a2, k2, b2⟩
  have G14 := ok_mu F14 N G2 ⟨m a2, k2, b2⟩ G13 ⟨m a13, k13, b13⟩
  exact ok_law F15 N (PySem.W.mg_none_of X G z_repr) G0 ⟨m a0, k0, b0⟩ G2 ⟨m a2, k2, b2⟩ G4 ⟨m a4, k4, b4⟩ G3 ⟨m a3, k3, b3⟩ G13 ⟨m a13, k13, b13⟩ G14 ⟨m a14, k14, b14⟩ G10 ⟨m a10, k10, b10⟩ (NM.named1 F10 fun _ _ _ _ _ _ _ => rfl) G12 ⟨m a12, k12, b12⟩
end Z
open PySem PySem.W PyProof.Rows
set_option maxRecDepth 100000 in
set_option maxHeartbeats 0 in
theorem PySem.Challenge.cw_bentcoin_k43_why_it_is_no_recipe_holds : PySem.Challenge.rw_bentcoin_k43_why_it_is_no_recipe.Holds := by
  w_on; o_law; k_head; (case hw => w_witness2)
  k_fill
  refine GG.walkG (l := PySem.Challenge.rw_bentcoin_k43_why_it_is_no_recipe) (n := 63) (k := 5) (x := "script") (sp := Z.spLaw) rfl (by decide) rfl ⟨rfl, by decide, by decide⟩ (fun w h Y => PySem.W.kIn_of Y) ?F (fun _ _ a ns hl hS => ⟨a, ns, rfl, hS, hl, fun _ => rfl⟩)
  case F =>
    intro w mg fa h KX G hmg
    refine' Z.all_mk KX G hmg ?a0 ?l0 ?c0 ?k0 ?a1 ?l1 ?c1 ?k1 ?a2 ?l2 ?c2 ?k2 ?a3 ?l3 ?c3 ?k3 ?a4 ?l4 ?c4 ?k4 ?a5 ?l5 ?c5 ?k5 ?a6 ?l6 ?c6 ?k6 ?a7 ?l7 ?c7 ?k7 ?a8 ?l8 ?c8 ?k8 ?a9 ?l9 ?c9 ?k9 ?a10 ?l10 ?c10 ?k10 ?a11 ?l11 ?c11 ?k11 ?a12 ?l12 ?c12 ?k12 ?a13 ?l13 ?c13 ?k13 ?a14 ?l14 ?c14 ?k14 ?a15 ?l15 ?c15 ?k15 ?z_list ?z_tuple ?z_len ?z_range ?z_zip ?z_sum ?z_enumerate ?z_int ?z_bool ?z_isinstance ?z_all ?z_any ?z_repr ?x_comb ?x_MAX_RECIPE_TOSSES
    (case a0 => k_is)
    (case l0 => k_is)
    (case c0 => k_is)
    (case k0 => k_is)
    (case a1 => k_is)
    (case l1 => k_is)
    (case c1 => k_is)
    (case k1 => k_is)
    (case a2 => k_is)
    (case l2 => k_is)
    (case c2 => k_is)
    (case k2 => k_is)
    (case a3 => k_is)
    (case l3 => k_is)
    (case c3 => k_is)
    (case k3 => k_is)
    (case a4 => k_is)
    (case l4 => k_is)
    (case c4 => k_is)
    (case k4 => k_is)
    (case a5 => k_is)
    (case l5 => k_is)
    (case c5 => k_is)
    (case k5 => k_is)
    (case a6 => k_is)
    (case l6 => k_is)
    (case c6 => k_is)
    (case k6 => k_is)
    (case a7 => k_is)
    (case l7 => k_is)
    (case c7 => k_is)
    (case k7 => k_is)
    (case a8 => k_is)
    (case l8 => k_is)
    (case c8 => k_is)
    (case k8 => k_is)
    (case a9 => k_is)
    (case l9 => k_is)
    (case c9 => k_is)
    (case k9 => k_is)
    (case a10 => k_is)
    (case l10 => k_is)
    (case c10 => k_is)
    (case k10 => k_is)
    (case a11 => k_is)
    (case l11 => k_is)
    (case c11 => k_is)
    (case k11 => k_is)
    (case a12 => k_is)
    (case l12 => k_is)
    (case c12 => k_is)
    (case k12 => k_is)
    (case a13 => k_is)
    (case l13 => k_is)
    (case c13 => k_is)
    (case k13 => k_is)
    (case a14 => k_is)
    (case l14 => k_is)
    (case c14 => k_is)
    (case k14 => k_is)
    (case a15 => k_is)
    (case l15 => k_is)
    (case c15 => k_is)
    (case k15 => k_is)
    (case z_list => k_is)
    (case z_tuple => k_is)
    (case z_len => k_is)
    (case z_range => k_is)
    (case z_zip => k_is)
    (case z_sum => k_is)
    (case z_enumerate => k_is)
    (case z_int => k_is)
    (case z_bool => k_is)
    (case z_isinstance => k_is)
    (case z_all => k_is)
    (case z_any => k_is)
    (case z_repr => k_is)
    (case x_comb => k_is)
    (case x_MAX_RECIPE_TOSSES => k_is)
