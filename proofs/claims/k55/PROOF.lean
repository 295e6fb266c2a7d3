import PyProof.Rows.All
import Wide.All
import OpenK.AllK
import Wide.FinOn
import HandS.ForMost
import HandS.Defaults
import HandS.Wide
import HandS.Rev
import HandS.Flow
import HandS.Conv
import KE.GoesEnum
import PyProof.StrLawsIn
import HandS.Zip
import PyProof.StrOps2
import HandS.Text
import HandS.Sort
import HandS.More
import HandS.Iter
import HandS.SetFor
import HandS.Strs
import HandS.RaiseMore
import PySem.Challenge.RW_bentcoin_k55_why_it_is_no_coin
set_option Elab.async false
set_option maxRecDepth 100000
set_option maxHeartbeats 4000000
/-! Defs that are run where no text of an object is being made: so that repr gives the whole text. -/
namespace GG
open PySem PySem.Spec PyProof.Rows L2
section
variable {P : Program} {w : World} {K : PySem.W.Frag} {mg : Str → Option Value} {base : Heap}
structure FnG (P : Program) (w : World) (K : PySem.W.Frag) (mg : Str → Option Value) (base : Heap) (k : Nat) (f : Addr) (fd : FuncData) (ps : List Str) (sp : Sp) : Prop where
  size : ∀ vs H Q E, sp vs H Q E → vs.length = ps.length
  goes : ∀ (A : Around) (o : List Env) (s : Shared) (H : Hp) (ar : Args) (us : List Value) (vs : List V) (Q : VK) (E : XK),
    A.guards = some [] → Room k A → Env0 P w K mg base A o s H → BindsTo s fd ar (ps.zip us) → Vals vs us → sp vs H Q E →
    codeAny (model P w) A (.call (.ref f) ar) (CR CX0 o P w H s Q E) s

theorem fnG_of {x qual : Str} {st : Stmt} {f : Addr} {fd : FuncData} {N ps : List Str} {k : Nat} {sp : Sp}
    (F : Fun K x qual st f fd) (S : FnScope N ps (defScope st)) (size : ∀ vs H Q E, sp vs H Q E → vs.length = ps.length)
    (body : ∀ (cd : Value) (A : Around) (o : List Env) (s : Shared) (H : Hp) (vs : List V) (Q : VK) (E : XK),
      A.guards = some [] → Room k (A.deeper (envOfC qual (defScope st) s.heap.objs.size f cd)) → sp vs H Q E →
      ∃ t, PSs (cxOf CX0 P w K mg base N qual (defScope st) f cd A o s H E).nox (defBody st) t ∧
        t { nx := fun _ H' => Q .non H', rt := Q } (start N vs) H) :
    FnG P w K mg base (k + 1) f fd ps sp := by
  obtain ⟨oc, od, kV, doc, pm, an, cd, ct, slots, rfl, found, code⟩ := F.ex
  refine ⟨size, ?_⟩
  intro A o s H ar us vs Q E gA room e0 hbind given asked
  have inK : K.In s.heap := e0.mod.kin.keeps fun b u e => (e0.bs b u e).1
  have free : s.heap.NoLimit := e0.mod.nolimit.keeps fun b u e => (e0.bs b u e).1
  have many := size vs H Q E asked
  have kinds : ∀ y ∈ ps.zip us, (defScope st).names.lookup y.1 = some .local ∨ ((defScope st).names.lookup y.1 = some .cell ∧
      ((cellsFrom (s.heap.objs.size + 1) (defScope st).names []).lookup y.1).isSome = true) := by
    rintro ⟨n, v⟩ hy
    cases S.par n (List.of_mem_zip hy).1 with
    | inl q => exact Or.inl q
    | inr q => exact Or.inr ⟨q, PySem.W.cellsFrom_some _ _ _ (Or.inl q)⟩
  apply codeAny_call_function room.depth (inK _ _ found) rfl S.co S.gen rfl (PySem.W.codeRec_of inK code)
  apply hbind
  apply wpAny_newFunctionEnv_cells S.kind kinds
  intro env he s1 ready
  subst he
  refine ⟨free.keeps ready.toInCall.keep, ?_⟩
  apply codeAny_func
  obtain ⟨t, ht, hq⟩ := body cd A o s H vs Q E gA (room.deeper _) asked
  have first := inv_start (E := E) (CX := CX0) S room.hd e0 many given ready
  refine wpAny_mono (ht.nox.run [] s1 (start N vs) H _ first hq) (fun fl s' hs => ?_) (fun e s' hs => hs)
  cases fl with
  | next =>
    obtain ⟨σ', H', J, q⟩ := hs
    exact ⟨V.non, H', J.os, J.bare, J.base, J.hok, rfl, q⟩
  | ret u =>
    obtain ⟨v, σ', H', J, rv, q⟩ := hs
    exact ⟨v, H', J.os, J.bare, J.base, J.hok, rv, q⟩
  | brk => exact hs.elim fun _ z => z.elim fun _ z => z.elim fun _ z => z.elim
  | cont => exact hs.elim fun _ z => z.elim fun _ z => z.elim fun _ z => z.elim

/-- what is left of the heap when the script stands alone in it -/
def one (a : Addr) (o : HO) : Hp := fun b => if b = a then some o else none
theorem one_at {a : Addr} {o : HO} : one a o a = some o := if_pos rfl
theorem one_no {a b : Addr} {o : HO} (h : b ≠ a) : one a o b = none := if_neg h

section
variable {mb : Str → Option Value} {k : Nat} {fa a : Addr} {fd : FuncData} {x : Str} {sp : Sp} {s₁ : Shared} {vs : List Value} {ns : List Int}
abbrev Fine (s₁ : Shared) (r : Result) (s' : Shared) : Prop := r = .ok (.ret (.bool true)) ∧ OldK s₁.heap s'.heap ∧ s'.os = s₁.os ∧ AllBare s'.gens

/-- from a heap in which at most the script is told of -/
theorem from_heap {H : Hp} (inK : K.In (hidT s₁.heap H)) (names : (hidT s₁.heap H).Ns mainGlobals mg) (blt : (hidT s₁.heap H).Ns builtinsNs mb)
    (known : ∀ y : Str, y ≠ "__name__" → mb y = bootBuiltins y) (free : (hidT s₁.heap H).NoLimit) (none_ : s₁.gens = #[])
    (alone : ∀ b, H b = none ∨ ∃ o xs, H b = some (.frz o (.lst xs))) (hok : HOk P w H s₁.heap) (room : Room k callerA)
    (F : FnG P w K mg (hidT s₁.heap H) k fa fd [x] sp) (binds : ∀ (s : Shared) (u : Value), BindsTo s fd ⟨[u], []⟩ [(x, u)])
    (asked : sp [.ref a] H (fun v _ => v = .bl true) fun _ _ _ => False) :
    codeAny (model P w) callerA (.call (.ref fa) ⟨[.ref a], []⟩) (Fine s₁) s₁ := by
  have entry : Env0 P w K mg (hidT s₁.heap H) callerA [] s₁ H :=
    { frames := rfl, mod := ⟨inK, names, ⟨mb, blt, known⟩, free⟩, bs := fun b u e => of_hidT e, bsz := Nat.le_of_eq (hidT_size _ _), funs := trivial,
      frf := fun b hb => absurd (show b ∈ ([] : List Addr) from hb) (by simp), hok := hok, bare := .of_eq none_ }
  have run := F.goes callerA [] s₁ H ⟨[.ref a], []⟩ [.ref a] [.ref a] _ _ rfl room entry (binds s₁ (.ref a)) (.cons rfl .nil) asked
  refine codeAny_mono run fun r s' got => ?_
  cases r with
  | error e => exact False.elim got
  | ok fl =>
    cases fl with
    | ret u =>
      obtain ⟨v, H', os, bare, un, hok', ru, yes⟩ := got
      have yes' : v = .bl true := yes
      subst yes'
      have eu : u = Value.bool true := ru
      subst eu
      refine ⟨rfl, OldK.of_keep ?_, os, bare⟩
      intro b u e
      rcases alone b with q | ⟨ob, xs, q⟩
      · exact un.keep b u e q (fun z => absurd (show b ∈ ([] : List Addr) from z) (by simp)) (by simp)
      · have e1 := (hok b _ q).1
        have e2 := (hok' b _ (un.frzs b ob _ q)).1
        rw [e] at e1
        cases e1
        exact e2
    | next => exact False.elim got
    | brk => exact False.elim got
    | cont => exact False.elim got
/-- the law's call, its promise once -/
theorem lawG (inK : K.In s₁.heap) (names : s₁.heap.Ns mainGlobals mg) (blt : s₁.heap.Ns builtinsNs mb) (known : ∀ y : Str, y ≠ "__name__" → mb y = bootBuiltins y)
    (free : s₁.heap.NoLimit) (none_ : s₁.gens = #[]) (script : s₁.heap.get? a = some { cls := .type "list", data := .seq vs.toArray }) (nums : IntsAre vs ns)
    (few : ns.length ≤ sizeLine) (room : Room k callerA) (F : ∀ base : Heap, K.In base → base.Ns mainGlobals mg → FnG P w K mg base k fa fd [x] sp)
    (binds : ∀ (s : Shared) (u : Value), BindsTo s fd ⟨[u], []⟩ [(x, u)]) (asked : ∀ H : Hp, SqL K H a (ns.map V.int) → sp [.ref a] H (fun v _ => v = .bl true) fun _ _ _ => False) :
    codeAny (model P w) callerA (.call (.ref fa) ⟨[.ref a], []⟩) (Fine s₁) s₁ := by
  have rel := vals_ints nums
  have len := nums.length
  cases look : K.lookup a with
  | some o =>
    have e := inK a o look
    rw [script] at e
    cases e
    have keep : ∀ {b : Addr} {u : Obj}, s₁.heap.get? b = some u → (hidT s₁.heap fun _ => none).get? b = some u := fun e => hidT_get e rfl
    have ns' : ∀ {b : Addr} {m : Str → Option Value}, s₁.heap.Ns b m → (hidT s₁.heap fun _ => none).Ns b m := fun ⟨o, es, ep, e, d, r⟩ => ⟨o, es, ep, keep e, d, r⟩
    have inK' : K.In (hidT s₁.heap fun _ => none) := fun b u e => keep (inK b u e)
    refine from_heap inK' (ns' names) (ns' blt) known (let ⟨mc, h1, h2⟩ := free; ⟨mc, ns' h1, h2⟩) none_ (fun _ => .inl rfl) (fun b u z => nomatch z) room (F _ inK' (ns' names)) binds ?_
    exact asked _ (.inr ⟨_, vs.toArray, _, look, rfl, rfl, rfl, by rw [List.size_toArray, len]; exact few, by simpa using rel⟩)
  | none =>
    have keep : ∀ {b : Addr} {u : Obj}, b ≠ a → s₁.heap.get? b = some u → (hidT s₁.heap (one a (.frz { cls := .type "list", data := .seq vs.toArray } (.lst (ns.map V.int))))).get? b = some u := fun n e => hidT_get e (one_no n)
    have ns' : ∀ {b : Addr} {m : Str → Option Value}, s₁.heap.Ns b m → (hidT s₁.heap (one a (.frz { cls := .type "list", data := .seq vs.toArray } (.lst (ns.map V.int))))).Ns b m := by
      rintro b m ⟨o, es, ep, e, d, r⟩
      refine ⟨o, es, ep, keep (fun z => ?_) e, d, r⟩
      rw [z, script] at e
      cases e
      cases d
    have inK' : K.In (hidT s₁.heap (one a (.frz { cls := .type "list", data := .seq vs.toArray } (.lst (ns.map V.int))))) := fun b u e => keep (fun z => by rw [z, look] at e; cases e) (inK b u e)
    refine from_heap inK' (ns' names) (ns' blt) known (let ⟨mc, h1, h2⟩ := free; ⟨mc, ns' h1, h2⟩) none_ (fun b => ?_) (fun b u z => ?_) room (F _ inK' (ns' names)) binds (asked _ (.inl (.inr ⟨_, one_at⟩)))
    · by_cases e : b = a
      · exact .inr ⟨_, _, by rw [e]; exact one_at⟩
      · exact .inl (one_no e)
    · by_cases e : b = a
      · subst e
        have z' := one_at.symm.trans z
        cases z'
        exact ⟨script, by rw [List.length_map]; exact few, vs, _, rel, script⟩
      · have z' := (one_no e).symm.trans z
        cases z'
end
end
/-- the end of a proof: as the layer's own, for such a promise -/
theorem walkG {l : PySem.W.OpenLaw} {n k : Nat} {q : Program} {loose : List Str} {XP : (Str → Option Value) → Heap → Prop} {YP : World → Heap → Prop} {d : DefRec} {K : Params → PySem.W.Frag}
    {sp : PySem.W.Frag → Sp} {x : Str} (most : l.most = some n) (few : n ≤ sizeLine) (plain : d.params.defaults = []) (room : Room k callerA) (inY : ∀ (w : World) (h : Heap), YP w h → (K w.params).In h)
    (F : ∀ (w : World) (mg : Str → Option Value) (fa : Addr) (h : Heap), (K w.params).In h → h.Ns mainGlobals mg → mg d.name = some (.ref fa) →
      ∃ fd : FuncData, (∀ (s : Shared) (u : Value), BindsTo s fd ⟨[u], []⟩ [(x, u)]) ∧
        ∀ base : Heap, (K w.params).In base → base.Ns mainGlobals mg → FnG l.prog w (K w.params) mg base k fa fd [x] (sp (K w.params)))
    (asked : ∀ (K : PySem.W.Frag) (H : Hp) (a : Addr) (ns : List Int), ns.length ≤ n → SqL K H a (ns.map V.int) → sp K [.ref a] H (fun v _ => v = .bl true) fun _ _ _ => False) :
    PySem.W.WalkO q loose XP YP l.row.toRowW d [] (fun f vs => PySem.call f vs) := by
  apply Att.attach_call most plain
  intro w s₀ s₁ mg mb fa o pm cd doc a vs ns G Y _ _ _ named script nums size none_
  have inK := inY w _ Y
  obtain ⟨fd, binds, hF⟩ := F w mg fa _ inK G.T.g named
  exact lawG inK G.T.g G.T.b G.T.builtins G.T.nolimit none_ script nums (Nat.le_trans size few) room hF binds fun H hs => asked _ H a ns size hs

/-! the text of data -/
/-- data whose text is made: no dict, no int too long, not too deep, not too many -/
structure Shows (d : PyData) (deep many : Nat) : Prop where
  s : d.showable = true
  l : d.leavesShort 1922 = true
  h : d.hasDict = false
  p : d.depth ≤ deep
  b : d.bulk ≤ many
theorem Shows.mono {d : PyData} {a b a' b' : Nat} (x : Shows d a b) (h1 : a ≤ a') (h2 : b ≤ b') : Shows d a' b' := ⟨x.s, x.l, x.h, Nat.le_trans x.p h1, Nat.le_trans x.b h2⟩
theorem Shows.room {d : PyData} (x : Shows d 50 8000) : d.shown.length ≤ sizeLine := by
  have h := PyData.shown_le_bulk 1922 (by decide) d x.l
  have hb := x.b
  have e : sizeLine = 16777216 := by decide
  have := Nat.mul_le_mul_left 1924 hb
  omega
theorem short_int {i : Int} (h : i.natAbs.log2 < 1920) : (PyData.int i).leavesShort 1922 = true := by
  simp only [PyData.leavesShort, decide_eq_true_eq]
  have e := int_text_length_le (k := 1920) (by decide) h
  rw [PyData.shown_int, PySem.ofString_length]
  omega
theorem ints_show : ∀ {ns : List Int}, (∀ n ∈ ns, n.natAbs.log2 < 1920) → PyData.showableAll (ns.map PyData.int) = true ∧ PyData.leavesShortAll 1922 (ns.map PyData.int) = true ∧ PyData.hasDictAll (ns.map PyData.int) = false ∧ PyData.depthAll (ns.map PyData.int) = 0 ∧ PyData.bulkAll (ns.map PyData.int) = ns.length
  | [], _ => ⟨rfl, rfl, rfl, rfl, rfl⟩
  | n :: r, h => by
    obtain ⟨h1, h2, h3, h4, h5⟩ := ints_show (ns := r) fun m hm => h m (List.mem_cons_of_mem _ hm)
    have hn := h n List.mem_cons_self
    have hs := short_int hn
    refine ⟨?_, ?_, ?_, ?_, ?_⟩
    · simp [PyData.showableAll, PyData.showable, h1, hn]
    · simp [PyData.leavesShortAll, h2, hs]
    · simp [PyData.hasDictAll, PyData.hasDict, h3]
    · simp [PyData.depthAll, PyData.depth, h4]
    · simp [PyData.bulkAll, PyData.bulk, h5]; omega
theorem shows_ints {ns : List Int} (h : ∀ n ∈ ns, n.natAbs.log2 < 1920) : Shows (.tuple (ns.map PyData.int)) 1 ns.length := by
  obtain ⟨h1, h2, h3, h4, h5⟩ := ints_show h
  exact ⟨by simp [PyData.showable, h1], by simp [PyData.leavesShort, h2], by simp [PyData.hasDict, h3], by simp [PyData.depth, h4], by simp [PyData.bulk, h5]⟩
section
variable {X : Cx}
def rRepr (K : PySem.W.Frag) : List V → Hp → VK → Prop := fun vs H Q => ∃ (a : Addr) (d : PyData), vs = [.ref a] ∧ Dp K H (.ref a) d ∧ Shows d 50 8000 ∧ Q (.str d.shown) H
theorem call_repr {k : Nat} (hg : X.A.guards = some []) (room : Room k X.A) : CallR X (.builtin "repr") (rRepr X.K) := by
  intro pins s σ H vs us Q I r h
  obtain ⟨a, d, rfl, hd, hs, q⟩ := h
  obtain ⟨u, rfl, ru⟩ := vals1 r
  have eu : u = Value.ref a := ru
  subst eu
  obtain ⟨as, reads⟩ := Dp.reads I d (.ref a) (.ref a) hd rfl
  have hu := room.un
  have hp := hs.p
  refine repr_of_reads' reads hs.s (fun e => by rw [hs.h] at e; cases e) hg (by omega) (fun _ _ e => e) (fun h' u tk hk => ?_) hs.room
  exact ⟨.str d.shown, H, I.kept hk, ⟨u, rfl⟩, q⟩
/-! x *= e of ints -/
theorem ip_mulW : PIp X .Mult (fun x y H Q => ∃ i j : Int, x = .int i ∧ y = .int j ∧ IntMulOk i j ∧ Q (.int (i * j)) H) := by
  intro pins s σ H x y v u Q I rx ry h
  obtain ⟨i, j, ex, ey, ok, q⟩ := h
  subst ex ey
  obtain ⟨t, et⟩ := rx
  obtain ⟨t', et'⟩ := ry
  subst et et'
  exact imul_int ⟨V.int (i * j), H, I.tok _, ⟨_, rfl⟩, q⟩ ok
/-! f(k = v, ..): all by their names -/
variable {CX : CXT} {k : Nat} {f : Addr} {fd : FuncData} {ps ks : List Str} {sp : Sp} {E : XK} {x : Str} {p pos : Pos} {kws : List Keyword} {t tk : TA}
  {g : List Value → List Value → List Value} {gV : List V → List V → List V}
def tNamed (sp : Sp) (gV : List V → List V → List V) (E : XK) (m : Nat) (tk : TA) : TE := fun σ H Q => tk σ H fun zs H1 => zs.length = m ∧ sp (gV [] zs) H1 Q E
theorem pe_named (F : FnOk X.prog X.w X.K X.mg X.base CX k f fd ps sp) (room : Room k X.A) (glob : Gl X x) (is : X.mg x = some (.ref f)) (keep : PySem.W.keepIn X.K (.ref f) = true)
    (bound : KBn X.K fd ps 0 ks g gV) (pass : Passes CX X E) (args : PK X kws tk) (all : (backToKw pos (keywordEach kws X.env)).all (·.1.isSome) = true := by rfl)
    (names : (backToKw pos (keywordEach kws X.env)).filterMap (·.1) = ks := by rfl) (nodebug : (x == ("__debug__" : Str)) = false := by decide)
    (plain : ((backTo pos (starEach [] X.env)).any (·.1) || (backToKw pos (keywordEach kws X.env)).any (·.1.isNone)) = false := by rfl) :
    PE X (.Call (.Name x p) [] kws pos) (tNamed sp gV E ks.length tk) := by
  constructor
  intro pins s σ H Q I h
  apply wpAny_Call_Name_kw
  refine ld_glob I glob is ?_ nodebug
  apply PySem.W.callWith_KW0 I.ok.mod.kin keep all _ plain
  have run := args.run pos pins s σ H _ I h
  refine thn run fun ws s2 done => ?_
  obtain ⟨zs, H2, I2, rz, many, q⟩ := done
  refine ⟨I2.kIn, ?_⟩
  rw [names]
  have few : ws.length = ks.length := by rw [← rz.length]; exact many
  first
  | exact run_fnN (us := []) (vs := []) F room bound pass I2 .nil rz rfl few q
  | exact run_fnN (us := []) (vs := []) F room bound pass I2 .nil rz rfl many q
def turned {α : Type} : List α → List α
  | [u, v] => [v, u]
  | l => l
theorem turned_vals : ∀ {zs : List V} {ws : List Value}, Vals zs ws → Vals (turned zs) (turned ws)
  | _, _, .nil => .nil
  | _, _, .cons a .nil => .cons a .nil
  | _, _, .cons a (.cons b .nil) => .cons b (.cons a .nil)
  | _, _, .cons a (.cons b (.cons c r)) => .cons a (.cons b (.cons c r))
/-- two parameters, both by name, the second ahead -/
theorem named2 {K : PySem.W.Frag} {x qual : Str} {st : Stmt} {a b : Str} (F : Fun K x qual st f fd)
    (h : ∀ (kV doc pm : Value) (an : Option Addr) (cd ct u v : Value), bindArgs (PySem.W.fnOf x qual (defArgs st) (defBody st) (defScope st) .none kV doc pm an cd ct) ⟨[], [(b, u), (a, v)]⟩ = pure [(a, v), (b, u)]) :
    KBn K fd [a, b] 0 [b, a] (fun _ ws => turned ws) (fun _ zs => turned zs) := by
  obtain ⟨oc, od, kV, doc, pm, an, cd, ct, slots, rfl, found, code⟩ := F.ex
  refine ⟨fun s us ws _ l0 l2 => ?_, fun _ r => turned_vals r⟩
  match us, ws, l0, l2 with
  | [], [u, v], _, _ => exact .of_eq (h kV doc pm an cd ct u v)
theorem max_is (calm : X.calm = true) : CallR X (.builtin "max") (fun vs H Q => ∃ i j k : Int, vs = [.int i, .int j] ∧ k = (if j > i then j else i) ∧ Q (.int k) H) := by
  intro pins s σ H vs us Q I r h
  obtain ⟨i, j, k, e, ek, q⟩ := h
  subst ek
  exact call_max2 calm pins s σ H vs us Q I r ⟨i, j, e, q⟩
/-! a def that wants that no text is being made, called -/
theorem pe_callG {F : FuncData} {es : List Expr} {e : Expr} (G : FnG X.prog X.w X.K X.mg X.base k f F ps sp) (quiet : X.A.guards = some []) (room : Room k X.A) (glob : Gl X x) (is : X.mg x = some (.ref f)) (keep : PySem.W.keepIn X.K (.ref f) = true)
    (bound : Binds X.K F ps []) (args : PA X (e :: es) t) (nodebug : (x == ("__debug__" : Str)) = false := by decide) (star : starEach (e :: es) X.env = (false, eval e X.env) :: starEach es X.env := by rfl)
    (plain : (backTo pos (starEach es X.env)).any (·.1) = false := by rfl) : PE X (.Call (.Name x p) (e :: es) [] pos) (tCall sp [] E0 t) := by
  constructor
  intro pins s σ H Q I h
  apply wpAny_Call_Name_kw
  refine ld_glob I glob is ?_ nodebug
  refine PySem.W.callWith_K (h₀ := X.base) I.ok.mod.kin keep (thn (args.run pos pins s σ H _ I h) fun us s1 got => ?_) star plain
  obtain ⟨vs, H1, I1, r, asked⟩ := got
  refine ⟨I1.kIn, ?_⟩
  have asked' : sp vs H1 Q E0 := by simpa using asked
  have many : (us ++ []).length = ps.length := by rw [List.append_nil, ← r.length]; exact G.size _ _ _ _ asked'
  have bind := bound s1 us I1.kIn many
  rw [List.append_nil] at bind
  apply wpAny_call
  refine codeAny_mono (G.goes X.A X.stack s1 H1 ⟨us, []⟩ us vs Q E0 quiet room I1.env0 bind r asked') fun res s' hq => ?_
  cases res with
  | error e => exact False.elim hq
  | ok fl =>
    cases fl with
    | ret u => exact I1.after hq
    | next => exact False.elim hq
    | brk => exact False.elim hq
    | cont => exact False.elim hq
/-! repr of None, or of data -/
def rRepr2 (K : PySem.W.Frag) : List V → Hp → VK → Prop := fun vs H Q => (vs = [.non] ∧ Q (.str "None") H) ∨ rRepr K vs H Q
theorem call_repr2 {k : Nat} (hg : X.A.guards = some []) (room : Room k X.A) : CallR X (.builtin "repr") (rRepr2 X.K) := by
  intro pins s σ H vs us Q I r h
  rcases h with ⟨ev, q⟩ | h
  · subst ev
    obtain ⟨u, eu, ru⟩ := vals1 r
    subst eu
    have e : u = Value.none := ru
    subst e
    exact PySem.P.repr_of_none ⟨.str _, H, I.tok _, ⟨_, rfl⟩, q⟩
  · exact call_repr hg room pins s σ H vs us Q I r h
end
end GG

set_option Elab.async false
set_option linter.all false
set_option maxRecDepth 100000
set_option maxHeartbeats 4000000
namespace Z
open PySem PySem.Spec PyProof.Rows L2 GG
def top (i : Nat) : Stmt := PySem.Challenge.pw_bentcoin_k55_why_it_is_no_coin.main.body.getD i (.Pass ⟨0, 0, 0, 0⟩)
abbrev sPen : Stmt := top 10
abbrev sFresh : Stmt := top 11
abbrev sDraw : Stmt := top 12
/-- what follows an if, once for all ways to it -/
theorem if_tail {c : TT} {a b : TS} {D : Ends} {σ : L2.St} {H : Hp} (W : L2.St → Hp → Prop) (tail : ∀ σ H, W σ H → D.nx σ H) (go : (∀ σ H, W σ H → D.nx σ H) → tIfS c a b D σ H) : tIfS c a b D σ H := go tail
theorem on {t u : TS} {D : Ends} {σ : L2.St} {H : Hp} (h : t { D with nx := u D } σ H) : tSeq t u D σ H := h
theorem put_c {v : V} {i : Nat} {D : Ends} {σ : L2.St} {H : Hp} (h : D.nx (σ.set i (some v)) H) : tAsg (tC v) (gName i) D σ H := h
/-! heaps -/
theorem Same.upd {H : Hp} {p : Addr} {o : HO} (h : H p = none) : Same H (L2.upd H p o) := fun b x e => by
  rw [upd_ne (ne_of_none e h)]
  exact e
/-- all that was told of stands, but what is at a -/
def But (a : Addr) (H H' : Hp) : Prop := ∀ b o, H b = some o → b ≠ a → H' b = some o
theorem But.refl (a : Addr) (H : Hp) : But a H H := fun _ _ e _ => e
theorem But.trans {a : Addr} {H H1 H2 : Hp} (x : But a H H1) (y : But a H1 H2) : But a H H2 := fun b o e n => y b o (x b o e n) n
theorem But.of {a : Addr} {H H1 : Hp} (x : Same H H1) : But a H H1 := fun b o e _ => x b o e
theorem But.put {a : Addr} {H : Hp} {o : HO} : But a H (L2.upd H a o) := fun b u e n => by
  rw [upd_ne n]
  exact e
theorem But.free {a : Addr} {H H' : Hp} {l : Addr} (e : But a H H') (n : l ≠ a) (h : H' l = none) : H l = none := by
  cases q : H l with
  | none => rfl
  | some o =>
    rw [e l o q n] at h
    cases h
theorem But.same {a : Addr} {H H0 H' : Hp} (s : Same H0 H) (n : H0 a = none) (b : But a H H') : Same H0 H' := fun c o e => b c o (s c o e) (ne_of_none e n)
theorem But.seq {a c : Addr} {K : PySem.W.Frag} {H H' : Hp} {xs : List V} (e : But a H H') (n : c ≠ a) (h : SqL K H c xs) : SqL K H' c xs := by
  rcases h with (h | ⟨o, h⟩) | h
  · exact .inl (.inl (e _ _ h n))
  · exact .inl (.inr ⟨o, e _ _ h n⟩)
  · exact .inr h
/-- a pen stands at a -/
def Pen (H : Hp) (a l : Addr) : Prop := ∃ (cs : List Int) (pos val : Int), H a = some (.lst [.ref l, .int pos, .int val]) ∧ H l = some (.lst (cs.map V.int)) ∧ 0 ≤ pos
theorem Pen.ne {H : Hp} {a l : Addr} {cs : List Int} {p v : Int} (h : H a = some (.lst [.ref l, .int p, .int v])) (e : H l = some (.lst (cs.map V.int))) : l ≠ a := by
  intro z
  subst z
  rw [h] at e
  cases cs with
  | nil => cases e
  | cons x r => cases e
theorem Pen.put {H : Hp} {a l : Addr} {cs : List Int} {p v q u : Int} (h : H a = some (.lst [.ref l, .int p, .int v])) (e : H l = some (.lst (cs.map V.int))) (hq : 0 ≤ q) : Pen (upd H a (.lst [.ref l, .int q, .int u])) a l :=
  ⟨cs, q, u, upd_same, by rw [upd_ne (Pen.ne h e)]; exact e, hq⟩
theorem Pen.same {H H' : Hp} {a l : Addr} (p : Pen H a l) (s : Same H H') : Pen H' a l := by
  obtain ⟨cs, q, v, h1, h2, h3⟩ := p
  exact ⟨cs, q, v, s _ _ h1, s _ _ h2, h3⟩
theorem dpInts {K : PySem.W.Frag} {H : Hp} : ∀ ns : List Int, DpAll K H (ns.map V.int) (ns.map PyData.int)
  | [] => .nil
  | n :: r => .cons (.int n) (dpInts r)
theorem cut_to {α : Type} (xs : List V) (n : Nat) : ∃ m, cutV xs none (some (n : Int)) = xs.take m := ⟨_, by unfold cutV; rw [HT.sIx_none]; rfl⟩
/-- a row without the zeros at its end -/
def strip (l : List Int) : List Int := (l.reverse.dropWhile (· == 0)).reverse
theorem strip_nil : strip [] = [] := rfl
theorem strip_zero (l : List Int) : strip (l ++ [0]) = strip l := by
  unfold strip
  rw [List.reverse_append]
  rfl
theorem strip_last {l : List Int} {z : Int} (h : z ≠ 0) : strip (l ++ [z]) = l ++ [z] := by
  unfold strip
  rw [List.reverse_append]
  show (List.dropWhile (· == 0) (z :: l.reverse)).reverse = _
  rw [List.dropWhile_cons_of_neg (by simpa using h), List.reverse_cons, List.reverse_reverse]
theorem strip_mem {l : List Int} {c : Int} (h : c ∈ strip l) : c ∈ l := by
  unfold strip at h
  rw [List.mem_reverse] at h
  exact List.mem_reverse.mp ((List.dropWhile_sublist _).subset h)
theorem strip_len (l : List Int) : (strip l).length ≤ l.length := by
  unfold strip
  rw [List.length_reverse]
  have := (List.dropWhile_sublist (· == 0) (l := l.reverse)).length_le
  rwa [List.length_reverse] at this
theorem strip_strip (l : List Int) : strip (strip l) = strip l := by
  rcases List.eq_nil_or_concat (strip l) with e | ⟨r, z, e⟩
  · rw [e]; rfl
  · rw [List.concat_eq_append] at e
    by_cases h : z = 0
    · exfalso
      have e2 : l.reverse.dropWhile (· == 0) = z :: r.reverse := by
        have := congrArg List.reverse e
        unfold strip at this
        rw [List.reverse_reverse, List.reverse_append] at this
        exact this
      have := List.head?_dropWhile_not (p := fun x : Int => x == 0) (l := l.reverse)
      rw [e2] at this
      simp [h] at this
    · rw [e, strip_last h]
theorem eqv_nil : ∀ {xs : List Int}, xs ≠ [] → (!PyData.eqv (.list (xs.map PyData.int)) (.list [])) = true
  | [], h => absurd rfl h
  | _ :: _, _ => rfl
structure Names (mg : Str → Option Value) : Prop where
  list : mg "list" = none
  tuple : mg "tuple" = none
  len : mg "len" = none
  range : mg "range" = none
structure Def (K : PySem.W.Frag) (mg : Str → Option Value) (x : Str) (f : Addr) (fd : FuncData) (ps : List Str) : Prop where
  is : mg x = some (.ref f)
  kp : PySem.W.keepIn K (.ref f) = true
  bi : Binds K fd ps []
theorem Pen.apart {H : Hp} {a l e : Addr} (p : Pen H a l) (h : H e = none) : e ≠ a ∧ e ≠ l := by
  obtain ⟨cs, pos, val, ha, hl, _⟩ := p
  exact ⟨(ne_of_none ha h).symm, (ne_of_none hl h).symm⟩
theorem Pen.notTup {H : Hp} {a l e : Addr} {xs : List V} (p : Pen H a l) (h : H e = some (.tup xs)) : e ≠ a := by
  obtain ⟨cs, pos, val, ha, hl, _⟩ := p
  rintro rfl
  rw [ha] at h
  cases h
theorem But.mem {a p : Addr} {H H' : Hp} {o : HO} (b : But a H H') (n : p ≠ a) (e : H p = some o) : H' p = some o := b p o e n
/-- what follows a value, once for all ways to it -/
theorem asg_tail {te : TE} {g : TG} {D : Ends} {σ : L2.St} {H : Hp} (W : V → Hp → Prop) (tail : ∀ v H', W v H' → g v σ H' D.nx) (go : (∀ v H', W v H' → g v σ H' D.nx) → te σ H fun x H1 => g x σ H1 D.nx) : tAsg te g D σ H := go tail
theorem log_le {b : Int} (h : b.natAbs < 2 ^ 100) : b.natAbs.log2 < 9000 := Nat.lt_of_lt_of_le (PySem.Flt.log2_lt_of (k := 100) (by decide) h) (by decide)
section
variable {P : Program} {w : World} {K : PySem.W.Frag} {mg : Str → Option Value} {base : Heap}
/-! ### the pen -/
def spPen (K : PySem.W.Frag) : Sp := fun vs H Q _ => ∃ (s : Addr) (ns : List Int), vs = [.ref s] ∧ SqL K H s (ns.map V.int) ∧ ns.length ≤ 63 ∧ ∀ p l H', Same H H' → H p = none → H l = none → Pen H' p l → Q (.ref p) H'
theorem scPen : FnScope ["script"] ["script"] (defScope sPen) := ⟨rfl, rfl, rfl, by decide +kernel, rfl, by decide +kernel, by decide +kernel⟩
theorem ok_pen {f : Addr} {fd : FuncData} (F : Fun K "_law_pen" "_law_pen" sPen f fd) (T : Names mg) : FnOk P w K mg base CX0 1 f fd ["script"] (spPen K) := by
  refine F.ok scPen (fun vs H Q E h => ?_) (fun cdv A outer s H vs Q E hr h => ?_)
  · obtain ⟨a, ns, rfl, _⟩ := h
    rfl
  · obtain ⟨a, ns, rfl, hS, hlen, q⟩ := h
    refine ⟨_, pss_one (ps_ret (pe_lst (pa_cons (pe_callTy call_list_of (by rfl) T.list (by decide +kernel) (pa_cons (pe_slice sl_list (pv 0) po_none (po_some pe_int)) pa_nil)) (pa_cons pe_int (pa_cons pe_int pa_nil))))), ?_⟩
    refine ⟨.ref a, rfl, 63, rfl, a, _, rfl, hS, fun c nc => ?_⟩
    refine ⟨c, _, rfl, .inl (.inl (.inl upd_same)), fun l nl => ?_⟩
    refine ⟨by show 3 ≤ sizeLine; decide, fun p np => ?_⟩
    obtain ⟨m, em⟩ := cut_to (α := Int) (ns.map V.int) 63
    have em : cutV (ns.map V.int) none (some 63) = (ns.map V.int).take m := em
    have lp : l ≠ p := ne_of_none upd_same np
    have h1 := (Same.trans (Same.upd (o := .lst (cutV (ns.map V.int) none (some 63))) nc) (Same.trans (Same.upd (o := .lst (cutV (ns.map V.int) none (some 63))) nl) (Same.upd (o := .lst [.ref l, .int 0, .int 0]) np)))
    refine q p l _ h1 (Same.free (Same.trans (Same.upd nc) (Same.upd nl)) np) (Same.free (Same.upd nc) nl) ⟨ns.take m, 0, 0, upd_same, ?_, by decide⟩
    rw [upd_ne lp, upd_same, em, List.map_take]
/-! ### a fresh number -/
def spFresh : Sp := fun vs H Q _ => ∃ (a l : Addr), vs = [.ref a] ∧ Pen H a l ∧ ∀ (v : Int) H', But a H H' → Pen H' a l → Q (.int v) H'
theorem scFresh : FnScope ["pen", "at", "cell", "p", "one", "found", "turn"] ["pen"] (defScope sFresh) := ⟨rfl, rfl, rfl, by decide +kernel, rfl, by decide +kernel, by decide +kernel⟩
theorem ok_fresh {f : Addr} {fd : FuncData} (F : Fun K "_law_fresh" "_law_fresh" sFresh f fd) (T : Names mg) : FnOk P w K mg base CX0 1 f fd ["pen"] spFresh := by
  refine F.ok scFresh (fun vs H Q E h => ?_) (fun cdv A outer s H vs Q E hr h => ?_)
  · obtain ⟨a, l, rfl, _⟩ := h
    rfl
  · obtain ⟨a, l, rfl, ⟨cs, pos, val, ha, hl, hp⟩, q⟩ := h
    have hu : A.units + 3 + 64 < cLine := hr.units
    refine ⟨_, pss_cons (ps_set (i := 1) scFresh.nd rfl (.inl rfl) (pe_ix ix_list (pv 0) pe_int (fun _ _ => rfl)))
      (pss_cons (ps_asg (pe_op op_add (pv 1) pe_int) (pg_sub (pv 0) pe_int set_list))
      (pss_cons (ps_set (i := 2) scFresh.nd rfl (.inl rfl) pe_int)
      (pss_cons (ps_if (pt_cmpR (op_neD hu) (pe_ix ix_list (pv 0) pe_int (fun _ _ => rfl)) (pe_lst pa_nil) (nomark _))
        (pss_one (ps_set (i := 2) scFresh.nd rfl (.inl rfl) (pe_ix ix_list (pe_ix ix_list (pv 0) pe_int (fun _ _ => rfl)) (pe_op op_mod (pv 1) (pe_callB call_len_seq (by rfl) T.len PySem.boot_len (pa_cons (pe_ix ix_list (pv 0) pe_int (fun _ _ => rfl)) pa_nil))) (fun _ _ => rfl)))) pss_nil)
      (pss_cons (ps_if (PW.pt (pw_and (pt_cmpR op_lt (pv 1) (pe_callB call_len_seq (by rfl) T.len PySem.boot_len (pa_cons (pe_ix ix_list (pv 0) pe_int (fun _ _ => rfl)) pa_nil)) (nomark _)) (pw_and1 (pt_cmpR op_ge (pv 2) (pe_op op_pow pe_int pe_int) (nomark _)))))
        (pss_one (ps_ret (pe_op op_sub (pv 2) (pe_op op_pow pe_int pe_int)))) pss_nil)
      (pss_cons (ps_set (i := 3) scFresh.nd rfl (.inl rfl) pe_int)
      (pss_cons (ps_set (i := 4) scFresh.nd rfl (.inl rfl) (pe_op op_mod (pe_op op_add (pe_op op_add (pe_op op_mul (pv 2) pe_int) (pe_op op_mul pe_int (pv 1))) pe_int) (pv 3)))
      (pss_cons (ps_set (i := 5) scFresh.nd rfl (.inl rfl) (pv 4))
      (pss_cons (ps_for PassesOwn.never rfl (pi_range1 rfl T.range (pa_cons pe_int pa_nil)) (pg_name (i := 6) scFresh.nd rfl (.inl rfl))
        (pss_cons (ps_set (i := 4) scFresh.nd rfl (.inl rfl) (pe_op op_mod (pe_op op_add (pe_op op_add (pe_op op_mul (pv 4) (pv 4)) (pe_op op_mul (pe_op op_mul pe_int (pe_op op_add (pv 6) pe_int)) (pe_op op_add (pv 1) pe_int))) (pv 2)) (pv 3)))
        (pss_one (ps_set (i := 5) scFresh.nd rfl (.inl rfl) (pe_op op_add (pe_op op_mul (pv 5) (pv 3)) (pv 4))))))
      (pss_one (ps_ret (pv 5))))))))))), ?_⟩
    -- position = pen[1]; pen[1] = position + 1; cell = 0
    refine ⟨.ref a, rfl, a, _, 1, .int pos, rfl, rfl, SqL.of ha, atI_nat (j := 1) rfl, ?_⟩
    refine ⟨_, rfl, _, _, rfl, rfl, .ref a, rfl, a, _, 1, 1, rfl, rfl, ha, rfl, ?_⟩
    have ha1 : upd H a (.lst [.ref l, .int (pos + 1), .int val]) a = some (.lst [.ref l, .int (pos + 1), .int val]) := upd_same
    have hl1 : upd H a (.lst [.ref l, .int (pos + 1), .int val]) l = some (.lst (cs.map V.int)) := by
      rw [upd_ne (Pen.ne ha hl)]
      exact hl
    have b1 : But a H (upd H a (.lst [.ref l, .int (pos + 1), .int val])) := But.put
    change (_ : Hp → Prop) (upd H a (.lst [.ref l, .int (pos + 1), .int val]))
    generalize upd H a (.lst [.ref l, .int (pos + 1), .int val]) = H1 at ha1 hl1 b1 ⊢
    -- if pen[0] != []
    have ec : cs = [] ∨ ∃ x r, cs = x :: r := by
      cases cs with
      | nil => exact .inl rfl
      | cons x r => exact .inr ⟨x, r, rfl⟩
    dsimp only
    refine on (put_c ?_)
    dsimp only
    refine on (if_tail (fun σ H' => ∃ cell : Int, σ = [some (V.ref a), some (V.int pos), some (V.int cell), none, none, none, none] ∧ Same H1 H') ?_ (fun t => ?_))
    rotate_left
    · refine ⟨.ref a, rfl, a, _, 0, .ref l, rfl, rfl, SqL.of ha1, atI_nat (j := 0) rfl, Nat.zero_le _, fun e0 ne0 => ?_⟩
      have s2 : Same H1 (upd H1 e0 (.lst [])) := Same.upd ne0
      have ha2 := s2 _ _ ha1
      have hl2 := s2 _ _ hl1
      have d0 : Dp K (upd H1 e0 (.lst [])) (.ref e0) (.list []) := .lst (SqL.of upd_same) .nil
      generalize upd H1 e0 (.lst []) = H2 at s2 ha2 hl2 d0 ⊢
      refine ⟨.list (cs.map PyData.int), .list [], .lst (SqL.of hl2) (dpInts cs), d0, PySem.W.ke_shaped_ints cs, rfl, _, rfl, ?_⟩
      rcases ec with rfl | ⟨x, r, rfl⟩
      · exact iteF (t _ _ ⟨0, rfl, s2⟩)
      · refine iteT ?_
        have hpos : pos % (((x :: r).length : Nat) : Int) < ((x :: r).length : Nat) ∧ 0 ≤ pos % (((x :: r).length : Nat) : Int) := by
          have : (0 : Int) < ((x :: r).length : Nat) := by rw [List.length_cons]; omega
          exact ⟨Int.emod_lt_of_pos _ this, Int.emod_nonneg _ (by omega)⟩
        obtain ⟨j, ej⟩ : ∃ j : Nat, pos % (((x :: r).length : Nat) : Int) = (j : Int) := ⟨(pos % (((x :: r).length : Nat) : Int)).toNat, by omega⟩
        have hj : j < (x :: r).length := by omega
        refine ⟨.ref a, rfl, a, _, 0, .ref l, rfl, rfl, SqL.of ha2, atI_nat (j := 0) rfl, .int pos, rfl, .ref a, rfl, a, _, 0, .ref l, rfl, rfl, SqL.of ha2, atI_nat (j := 0) rfl, l, _, rfl, .inl (SqL.of hl2), _, _, rfl, rfl, ?_, ?_⟩
        · show (0 : Int) < _
          rw [List.length_map, List.length_cons]
          omega
        · refine ⟨l, _, _, .int (x :: r)[j], rfl, rfl, SqL.of hl2, ?_, t _ _ ⟨_, rfl, s2⟩⟩
          rw [List.length_map, ej]
          exact atI_nat (by rw [List.getElem?_map, List.getElem?_eq_getElem hj]; rfl)
    · rintro σ H' ⟨cell, rfl, s2⟩
      have ha2 := s2 _ _ ha1
      have hl2 := s2 _ _ hl1
      have b2 : But a H H' := b1.trans (But.of s2)
      have p2 : Pen H' a l := ⟨cs, pos + 1, val, ha2, hl2, by omega⟩
      -- if position < len(pen[0]) and cell >= 10 ** 18: return cell - 10 ** 18
      dsimp only
      refine on (if_tail (fun σ H3 => σ = [some (V.ref a), some (V.int pos), some (V.int cell), none, none, none, none] ∧ H3 = H') ?_ (fun t => ?_))
      rotate_left
      · refine ⟨_, rfl, .ref a, rfl, a, _, 0, .ref l, rfl, rfl, SqL.of ha2, atI_nat (j := 0) rfl, l, _, rfl, .inl (SqL.of hl2), _, _, rfl, rfl, _, rfl, ite2 (fun _ => ?_) (fun _ => iteF (t _ _ ⟨rfl, rfl⟩))⟩
        refine ⟨_, rfl, _, _, rfl, rfl, ⟨by decide, by decide, by decide⟩, _, _, rfl, rfl, _, rfl, ite2 (fun _ => ?_) (fun _ => t _ _ ⟨rfl, rfl⟩)⟩
        exact ⟨_, rfl, _, _, rfl, rfl, ⟨by decide, by decide, by decide⟩, _, _, rfl, rfl, q _ _ b2 p2⟩
      · rintro σ H3 ⟨rfl, rfl⟩
        -- state, mixed, the six turns
        refine ⟨_, rfl, _, _, rfl, rfl, .inr ⟨by decide, by decide⟩, _, rfl, _, _, rfl, rfl, .inl ⟨by decide, by decide⟩, _, _, rfl, rfl, _, _, rfl, rfl, _, rfl, _, _, rfl, rfl, (by show (0 : Int) < 2305843009213693951; decide), _, rfl,
          6, rfl, by decide, by decide, for_range (lo := 0) (n := 6) (fun i σ H4 => ∃ (st mx : Int) (v : Option V), σ = [some (V.ref a), some (V.int pos), some (V.int cell), some (V.int 2305843009213693951), some (V.int st), some (V.int mx), v] ∧ H4 = H3 ∧ 0 ≤ st ∧ st < 2305843009213693951)
            ⟨_, _, none, rfl, rfl, Int.emod_nonneg _ (by decide), Int.emod_lt_of_pos _ (by decide)⟩ ?_ ?_⟩
        · rintro i σ H4 hi ⟨st, mx, v, rfl, rfl, h0, h1⟩
          refine ⟨_, rfl, _, rfl, _, _, rfl, rfl, .inl ⟨by omega, by omega⟩, _, rfl, _, _, rfl, rfl, _, _, rfl, rfl, .inl ⟨by decide, by decide⟩, _, rfl, _, _, rfl, rfl, _, _, rfl, rfl, .inl ⟨by show -(2 ^ 64) < (69621 : Int) * (0 + (i : Int) + 1); omega, by show (69621 : Int) * (0 + (i : Int) + 1) < 2 ^ 64; omega⟩, _, _, rfl, rfl,
            _, rfl, _, _, rfl, rfl, _, rfl, _, _, rfl, rfl, (by show (0 : Int) < 2305843009213693951; decide), _, rfl, _, rfl, _, _, rfl, rfl, .inr ⟨by decide, by decide⟩, _, rfl, _, _, rfl, rfl, ?_⟩
          exact ⟨_, _, _, rfl, rfl, Int.emod_nonneg _ (by decide), Int.emod_lt_of_pos _ (by decide)⟩
        · rintro σ H4 ⟨st, mx, v, rfl, rfl, h0, h1⟩
          exact ⟨_, rfl, q _ _ b2 p2⟩
/-! ### a number below a bound -/
def spDraw : Sp := fun vs H Q _ => ∃ (a l : Addr) (b : Int), vs = [.ref a, .int b] ∧ Pen H a l ∧ 0 < b ∧ b.natAbs.log2 < 9000 ∧ ∀ (d : Int) H', 0 ≤ d → d < b → But a H H' → Pen H' a l → Q (.int d) H'
theorem scDraw : FnScope ["pen", "many", "digit"] ["pen", "many"] (defScope sDraw) := ⟨rfl, rfl, rfl, by decide +kernel, rfl, by decide +kernel, by decide +kernel⟩
theorem ok_draw {f g : Addr} {fd gd : FuncData} (F : Fun K "_law_draw" "_law_draw" sDraw f fd) (GF : FnOk P w K mg base CX0 1 g gd ["pen"] spFresh) (mF : mg "_law_fresh" = some (.ref g)) (kF : PySem.W.keepIn K (.ref g) = true) (bF : Binds K gd ["pen"] []) :
    FnOk P w K mg base CX0 2 f fd ["pen", "many"] spDraw := by
  refine F.ok scDraw (fun vs H Q E h => ?_) (fun cdv A outer s H vs Q E hr h => ?_)
  · obtain ⟨a, l, b, rfl, _⟩ := h
    rfl
  · obtain ⟨a, l, b, rfl, pn, hb, hb2, q⟩ := h
    refine ⟨_, pss_cons (ps_if (pt_cmpR op_lt (pe_ix ix_list (pv 0) pe_int (fun _ _ => rfl)) (pv 1) (nomark _))
        (pss_one (ps_asg (pe_call GF hr (by rfl) mF kF bF .nil pass0 (pa_cons (pv 0) pa_nil)) (pg_sub (pv 0) pe_int set_list))) pss_nil)
      (pss_cons (ps_set (i := 2) scDraw.nd rfl (.inl rfl) (pe_op op_mod (pe_ix ix_list (pv 0) pe_int (fun _ _ => rfl)) (pv 1)))
      (pss_cons (ps_asg (pe_op op_fdivW (pe_ix ix_list (pv 0) pe_int (fun _ _ => rfl)) (pv 1)) (pg_sub (pv 0) pe_int set_list))
      (pss_one (ps_ret (pv 2))))), ?_⟩
    refine on (if_tail (fun σ H' => σ = [some (V.ref a), some (V.int b), none] ∧ Pen H' a l ∧ But a H H') ?_ (fun t => ?_))
    rotate_left
    · obtain ⟨cs, pos, val, ha, hl, hp⟩ := id pn
      refine ⟨.ref a, rfl, a, _, 2, .int val, rfl, rfl, SqL.of ha, atI_nat (j := 2) rfl, _, rfl, _, _, rfl, rfl, _, rfl, ite2 (fun _ => ?_) (fun _ => t _ _ ⟨rfl, pn, But.refl _ _⟩)⟩
      refine ⟨.ref a, rfl, a, l, rfl, pn, fun v H1 b1 p1 => ?_⟩
      obtain ⟨cs, pos, val, ha, hl, hp⟩ := p1
      exact ⟨.ref a, rfl, a, _, 2, 2, rfl, rfl, ha, rfl, t _ _ ⟨rfl, Pen.put ha hl hp, b1.trans But.put⟩⟩
    · rintro σ H1 ⟨rfl, ⟨cs, pos, val, ha, hl, hp⟩, b1⟩
      refine ⟨.ref a, rfl, a, _, 2, .int val, rfl, rfl, SqL.of ha, atI_nat (j := 2) rfl, _, rfl, _, _, rfl, rfl, hb, .ref a, rfl, a, _, 2, .int val, rfl, rfl, SqL.of ha, atI_nat (j := 2) rfl, _, rfl, _, _, rfl, rfl, ⟨hb, hb2⟩, .ref a, rfl, a, _, 2, 2, rfl, rfl, ha, rfl, _, rfl, ?_⟩
      exact q _ _ (Int.emod_nonneg _ (by omega)) (Int.emod_lt_of_pos _ hb) (b1.trans But.put) (Pen.put ha hl hp)
end
end Z

set_option Elab.async false
set_option linter.all false
set_option maxRecDepth 100000
set_option maxHeartbeats 4000000
namespace Z
open PySem PySem.Spec PyProof.Rows L2 GG
abbrev sEnds : Stmt := top 13
abbrev sMach : Stmt := top 14
abbrev sNumb : Stmt := top 15
/-! ### machines -/
inductive Pl where
  | toss (a b : Int)
  | fin (n : Int)
  | never
def Pl.row : Pl → List V
  | .toss a b => [.str "toss", .int a, .int b]
  | .fin n => [.str "end", .int n]
  | .never => [.str "never"]
def Pl.ok (m : Nat) : Pl → Prop
  | .toss a b => 0 ≤ a ∧ a < m ∧ 0 ≤ b ∧ b < m
  | .fin n => 0 ≤ n ∧ n < 100
  | .never => True
def Pl.still (p : Pl) : Prop := p = .never ∨ ∃ n, p = .fin n ∧ 0 ≤ n ∧ n < 100
theorem Pl.still.ok {p : Pl} (h : p.still) (m : Nat) : p.ok m := by
  rcases h with rfl | ⟨n, rfl, h1, h2⟩
  · trivial
  · exact ⟨h1, h2⟩
inductive Pls (H : Hp) : List V → List Pl → Prop where
  | nil : Pls H [] []
  | cons {t : Addr} {p : Pl} {rs : List V} {ps : List Pl} : H t = some (.tup p.row) → Pls H rs ps → Pls H (.ref t :: rs) (p :: ps)
theorem Pls.mono {H H' : Hp} (f : ∀ t xs, H t = some (.tup xs) → H' t = some (.tup xs)) {rs : List V} {ps : List Pl} (h : Pls H rs ps) : Pls H' rs ps := by
  induction h with
  | nil => exact .nil
  | cons e _ ih => exact .cons (f _ _ e) ih
theorem Pls.snoc {H : Hp} {rs : List V} {ps : List Pl} (h : Pls H rs ps) {t : Addr} {p : Pl} (e : H t = some (.tup p.row)) : Pls H (rs ++ [.ref t]) (ps ++ [p]) := by
  induction h with
  | nil => exact .cons e .nil
  | cons e' _ ih => exact .cons e' ih
theorem Pls.len {H : Hp} {rs : List V} {ps : List Pl} (h : Pls H rs ps) : rs.length = ps.length := by
  induction h with
  | nil => rfl
  | cons _ _ ih => simp [ih]
theorem Pls.get {H : Hp} {rs : List V} {ps : List Pl} (h : Pls H rs ps) : ∀ {i : Nat} {p : Pl}, ps[i]? = some p → ∃ t, rs[i]? = some (.ref t) ∧ H t = some (.tup p.row) := by
  induction h with
  | nil => intro i p e; simp at e
  | @cons t q rs ps e' _ ih =>
    intro i p e
    cases i with
    | zero =>
      have : q = p := by simpa using e
      subst this
      exact ⟨t, rfl, e'⟩
    | succ i => exact ih (by simpa using e)
def Mach (H : Hp) (m : Addr) (ps : List Pl) : Prop := ∃ rs, H m = some (.tup rs) ∧ Pls H rs ps
theorem Mach.mono {H H' : Hp} (f : ∀ t xs, H t = some (.tup xs) → H' t = some (.tup xs)) {m : Addr} {ps : List Pl} (h : Mach H m ps) : Mach H' m ps := by
  obtain ⟨rs, e, h⟩ := h
  exact ⟨rs, f _ _ e, h.mono f⟩
theorem Mach.same {H H' : Hp} (s : Same H H') {m : Addr} {ps : List Pl} (h : Mach H m ps) : Mach H' m ps := h.mono fun t xs e => s _ _ e
theorem Mach.but {H H' : Hp} {a l m : Addr} {ps : List Pl} (pn : Pen H a l) (b : But a H H') (h : Mach H m ps) : Mach H' m ps := h.mono fun t xs e => b.mem (pn.notTup e) e
structure WF (ps : List Pl) : Prop where
  ne : 0 < ps.length
  le : ps.length ≤ 30
  ok : ∀ p ∈ ps, p.ok ps.length
theorem WF.get {ps : List Pl} (w : WF ps) {a : Int} (h0 : 0 ≤ a) (h1 : a < ps.length) : ∃ p, ps[a.toNat]? = some p ∧ p.ok ps.length := by
  have lt : a.toNat < ps.length := by omega
  exact ⟨ps[a.toNat], List.getElem?_eq_getElem lt, w.ok _ (List.getElem_mem lt)⟩
theorem str_toss_end : (V.str "end" : V) ≠ V.str "toss" := by intro h; exact absurd (V.str.inj h) (by decide +kernel)
theorem str_toss_never : (V.str "never" : V) ≠ V.str "toss" := by intro h; exact absurd (V.str.inj h) (by decide +kernel)
theorem str_end_toss : (V.str "toss" : V) ≠ V.str "end" := by intro h; exact absurd (V.str.inj h) (by decide +kernel)
theorem str_end_never : (V.str "never" : V) ≠ V.str "end" := by intro h; exact absurd (V.str.inj h) (by decide +kernel)
theorem str_never_toss : (V.str "toss" : V) ≠ V.str "never" := by intro h; exact absurd (V.str.inj h) (by decide +kernel)
theorem str_never_end : (V.str "end" : V) ≠ V.str "never" := by intro h; exact absurd (V.str.inj h) (by decide +kernel)
section
variable {P : Program} {w : World} {K : PySem.W.Frag} {mg : Str → Option Value} {base : Heap}
def spEnds : Sp := fun vs H Q _ => ∃ (a l q : Addr) (ns : List Int), vs = [.ref a, .ref q] ∧ Pen H a l ∧ H q = some (.lst (ns.map V.int)) ∧ 0 < ns.length ∧ ns.length ≤ 60 ∧ (∀ n ∈ ns, 0 ≤ n ∧ n < 100) ∧
  ∀ (t : Addr) (p : Pl) H', But a H H' → H t = none → H' t = some (.tup p.row) → Pen H' a l → p.still → Q (.ref t) H'
theorem Pen.notInts {H : Hp} {a l q : Addr} {ns : List Int} (p : Pen H a l) (h : H q = some (.lst (ns.map V.int))) : q ≠ a := by
  obtain ⟨cs, pos, val, ha, hl, _⟩ := p
  rintro rfl
  rw [ha] at h
  cases ns with
  | nil => cases h
  | cons x r => cases h
theorem scEnds : FnScope ["pen", "answers"] ["pen", "answers"] (defScope sEnds) := ⟨rfl, rfl, rfl, by decide +kernel, rfl, by decide +kernel, by decide +kernel⟩
theorem ok_ends {f g : Addr} {fd gd : FuncData} (F : Fun K "_law_ends" "_law_ends" sEnds f fd) (T : Names mg) (GD : FnOk P w K mg base CX0 2 g gd ["pen", "many"] spDraw) (PD : Def K mg "_law_draw" g gd ["pen", "many"]) :
    FnOk P w K mg base CX0 3 f fd ["pen", "answers"] spEnds := by
  refine F.ok scEnds (fun vs H Q E h => ?_) (fun cdv A outer s H vs Q E hr h => ?_)
  · obtain ⟨a, l, q, ns, rfl, _⟩ := h
    rfl
  · obtain ⟨a, l, r, ns, rfl, pn, hr1, h0, h60, hns, q⟩ := h
    refine ⟨_, (pss_cons (ps_if (pt_cmpR op_eq (pe_call GD (hr.mono (by decide)) (by rfl) PD.is PD.kp PD.bi .nil pass0 (pa_cons (pv 0) (pa_cons pe_int pa_nil))) pe_int (nomark _)) (pss_one (ps_ret (pe_tup (pa_cons pe_str pa_nil)))) pss_nil)
      (pss_one (ps_ret (pe_tup (pa_cons pe_str (pa_cons (pe_ix ix_list (pv 1) (pe_call GD (hr.mono (by decide)) (by rfl) PD.is PD.kp PD.bi .nil pass0 (pa_cons (pv 0) (pa_cons (pe_callB call_len_seq (by rfl) T.len PySem.boot_len (pa_cons (pv 1) pa_nil)) pa_nil))) (fun _ _ => rfl)) pa_nil)))))), ?_⟩
    refine ⟨.ref a, rfl, a, l, 7, rfl, pn, by decide, by decide +kernel, fun d H1 u0 u1 b1 p1 => ⟨rfl, _, rfl, ite2 (fun _ => ?_) (fun _ => ?_)⟩⟩
    · refine ⟨by show 1 ≤ sizeLine; decide, fun t nt => ?_⟩
      exact q t .never _ (b1.trans (But.of (Same.upd nt))) (b1.free (p1.apart nt).1 nt) upd_same (p1.same (Same.upd nt)) (.inl rfl)
    · have hr2 := b1.mem (pn.notInts hr1) hr1
      refine ⟨.ref r, rfl, .ref a, rfl, .ref r, rfl, r, _, rfl, .inl (SqL.of hr2), a, l, _, rfl, p1, ?_, ?_, fun d2 H2 v0 v1 b2 p2 => ?_⟩
      · rw [List.length_map]
        omega
      · rw [List.length_map]
        refine log_le (Nat.lt_of_le_of_lt (show _ ≤ 60 by omega) (by decide))
      · rw [List.length_map] at v1
        obtain ⟨j, rfl⟩ : ∃ j : Nat, d2 = (j : Int) := ⟨d2.toNat, by omega⟩
        have hj : j < ns.length := by omega
        refine ⟨r, _, j, .int ns[j], rfl, rfl, SqL.of (b2.mem (p1.notInts hr2) hr2), atI_nat (by rw [List.getElem?_map, List.getElem?_eq_getElem hj]; rfl), by show 2 ≤ sizeLine; decide, fun t nt => ?_⟩
        have b3 := b1.trans b2
        exact q t (.fin ns[j]) _ (b3.trans (But.of (Same.upd nt))) (b3.free (p2.apart nt).1 nt) upd_same (p2.same (Same.upd nt)) (.inr ⟨_, rfl, hns _ (List.getElem_mem hj)⟩)
/-! ### the numbers of the places changed -/
structure Order (n : Nat) (os : List Int) : Prop where
  len : os.length = n
  all : ∀ k : Int, 0 ≤ k → k < n → k ∈ os
  ok : ∀ k ∈ os, 0 ≤ k ∧ k < n
def spNumb : Sp := fun vs H Q _ => ∃ (m o : Addr) (ps : List Pl) (os : List Int), vs = [.ref m, .ref o] ∧ Mach H m ps ∧ WF ps ∧ H o = some (.lst (os.map V.int)) ∧ Order ps.length os ∧
  ∀ (t : Addr) (qs : List Pl) H', Same H H' → H t = none → Mach H' t qs → WF qs → qs.length = ps.length → Q (.ref t) H'
theorem flat_ints : ∀ ns : List Int, (ns.map V.int).all flatV = true
  | [] => rfl
  | _ :: r => flat_ints r
theorem find_int {os : List Int} {k : Int} (h : k ∈ os) : ∃ j : Nat, j < os.length ∧ (os.map V.int)[j]? = some (V.int k) ∧ ∀ (m : Nat) (z : V), m < j → (os.map V.int)[m]? = some z → eqV z (V.int k) = false := by
  induction os with
  | nil => cases h
  | cons x r ih =>
    by_cases e : x = k
    · subst e
      exact ⟨0, by simp, rfl, fun m z hm => absurd hm (Nat.not_lt_zero m)⟩
    · have h' : k ∈ r := by
        rcases List.mem_cons.mp h with z | z
        · exact absurd z.symm e
        · exact z
      obtain ⟨j, h1, h2, h3⟩ := ih h'
      refine ⟨j + 1, by simpa using h1, h2, fun m z hm hz => ?_⟩
      cases m with
      | zero =>
        have : z = V.int x := by simpa using hz.symm
        subst this
        show (x == k) = false
        simpa using e
      | succ m => exact h3 m z (by omega) (by simpa using hz)
theorem scNumb : FnScope ["machine", "order", "found", "old", "place"] ["machine", "order"] (defScope sNumb) := ⟨rfl, rfl, rfl, by decide +kernel, rfl, by decide +kernel, by decide +kernel⟩
theorem ok_numb {f : Addr} {fd : FuncData} (F : Fun K "_law_numbered" "_law_numbered" sNumb f fd) (T : Names mg) : FnOk P w K mg base CX0 1 f fd ["machine", "order"] spNumb := by
  refine F.ok scNumb (fun vs H Q E h => ?_) (fun cdv A outer s H vs Q E hr h => ?_)
  · obtain ⟨m, o, ps, os, rfl, _⟩ := h
    rfl
  · obtain ⟨m, o, ps, os, rfl, hm, hw, ho, hos, q⟩ := h
    refine ⟨_, (pss_cons (ps_set (i := 2) scNumb.nd rfl (.inl rfl) (pe_lst pa_nil))
      (pss_cons (ps_for PassesOwn.never rfl (pi_list (pv 1)) (pg_name (i := 3) scNumb.nd rfl (.inl rfl)) (pss_cons (ps_set (i := 4) scNumb.nd rfl (.inl rfl) (pe_ix ix_tup (pv 0) (pv 3) (fun _ _ => rfl)))
      (pss_cons (ps_if (pt_cmpR op_eq (pe_ix ix_tup (pv 4) pe_int (fun _ _ => rfl)) pe_str (nomark _)) (pss_one (ps_set (i := 4) scNumb.nd rfl (.inl rfl) (pe_tup (pa_cons pe_str (pa_cons (pe_bm PySem.F.plainAttrs_list PySem.F.slot_list_index PySem.F.type_list_index mt_index (pv 1) (pa_cons (pe_ix ix_tup (pv 4) pe_int (fun _ _ => rfl)) pa_nil)) (pa_cons (pe_bm PySem.F.plainAttrs_list PySem.F.slot_list_index PySem.F.type_list_index mt_index (pv 1) (pa_cons (pe_ix ix_tup (pv 4) pe_int (fun _ _ => rfl)) pa_nil)) pa_nil)))))) pss_nil)
      (pss_one (ps_expr (pe_bm PySem.F.plainAttrs_list PySem.F.slot_list_append PySem.F.type_list_append mt_append (pv 2) (pa_cons (pv 4) pa_nil)))))))
      (pss_one (ps_ret (pe_callTy call_tuple_of (by rfl) T.tuple (by decide +kernel) (pa_cons (pv 2) pa_nil)))))), ?_⟩
    refine ⟨Nat.zero_le _, fun L nL => ?_⟩
    have s1 : Same H (upd H L (.lst [])) := Same.upd nL
    have eL : upd H L (.lst []) L = some (.lst []) := upd_same
    change (_ : Hp → Prop) (upd H L (.lst []))
    generalize upd H L (.lst []) = H1 at s1 eL ⊢
    refine ⟨.ref o, rfl, o, rfl, ⟨_, SqL.of (s1 _ _ ho)⟩, for_list (K := K) (a := o) (xs := os.map V.int) (fun i σ H' => ∃ (v3 v4 : Option V) (rs : List V) (qs : List Pl), σ = [some (V.ref m), some (V.ref o), some (V.ref L), v3, v4] ∧ Same H H' ∧ H' L = some (.lst rs) ∧ Pls H' rs qs ∧ qs.length = i ∧ ∀ p ∈ qs, p.ok ps.length)
      ⟨_, _, [], [], rfl, s1, eL, .nil, rfl, by simp⟩ (fun i σ H' _ ⟨_, _, _, _, _, s, _⟩ => SqL.of (s _ _ ho)) ?_ ?_⟩
    · rintro i x σ H2 hx ⟨v3, v4, rs, qs, rfl, s2, e2, pl, len, okq⟩
      have hi : i < os.length := by
        have := (List.getElem?_eq_some_iff.mp hx).1
        rwa [List.length_map] at this
      have ex : x = .int os[i] := by
        rw [List.getElem?_map, List.getElem?_eq_getElem hi] at hx
        exact (Option.some.inj hx).symm
      subst ex
      obtain ⟨k0, k1⟩ := hos.ok _ (List.getElem_mem hi)
      obtain ⟨p, hp, okp⟩ := hw.get k0 k1
      obtain ⟨rs0, em, pls0⟩ := hm.same s2
      obtain ⟨t, ht, et⟩ := pls0.get hp
      obtain ⟨j, ej⟩ : ∃ j : Nat, os[i] = (j : Int) := ⟨os[i].toNat, by omega⟩
      rw [ej, Int.toNat_natCast] at hp ht
      have hlen : rs.length < sizeLine := by
        have := pl.len
        have := hos.len
        have := hw.le
        have e : sizeLine = 16777216 := by decide
        omega
      refine ⟨.ref m, rfl, .int os[i], rfl, m, rs0, _, .ref t, rfl, rfl, SqT.of em, by rw [ej]; exact atI_nat ht, ?_⟩
      dsimp only
      refine on (if_tail (fun σ H3 => ∃ (t' : Addr) (p' : Pl), σ = [some (V.ref m), some (V.ref o), some (V.ref L), some (V.int os[i]), some (V.ref t')] ∧ Same H2 H3 ∧ H3 t' = some (.tup p'.row) ∧ p'.ok ps.length) ?_ (fun tl => ?_))
      rotate_left
      · cases p with
        | toss x y =>
          refine ⟨.ref t, rfl, t, _, 0, .str "toss", rfl, rfl, SqT.of et, atI_nat (j := 0) rfl, rfl, _, rfl, ?_⟩
          rw [decide_eq_true rfl]
          refine iteT ?_
          obtain ⟨x0, x1, y0, y1⟩ := okp
          obtain ⟨jx, jx1, jx2, jx3⟩ := find_int (hos.all x x0 x1)
          obtain ⟨jy, jy1, jy2, jy3⟩ := find_int (hos.all y y0 y1)
          have ho2 := s2 _ _ ho
          refine ⟨.ref o, rfl, .inl ⟨rfl, _, SqL.of ho2⟩, .ref t, rfl, t, _, 1, .int x, rfl, rfl, SqT.of et, atI_nat (j := 1) rfl, o, _, .int x, jx, .int x, rfl, rfl, SqL.of ho2, rfl, flat_ints os, jx2, by show (x == x) = true; simp, jx3, ?_⟩
          refine ⟨.ref o, rfl, .inl ⟨rfl, _, SqL.of ho2⟩, .ref t, rfl, t, _, 2, .int y, rfl, rfl, SqT.of et, atI_nat (j := 2) rfl, o, _, .int y, jy, .int y, rfl, rfl, SqL.of ho2, rfl, flat_ints os, jy2, by show (y == y) = true; simp, jy3, ?_⟩
          refine ⟨by show 3 ≤ sizeLine; decide, fun t' nt => tl _ _ ⟨t', .toss (jx : Nat) (jy : Nat), rfl, Same.upd nt, upd_same, ?_⟩⟩
          have := hos.len
          exact ⟨by omega, by omega, by omega, by omega⟩
        | fin n =>
          refine ⟨.ref t, rfl, t, _, 0, .str "end", rfl, rfl, SqT.of et, atI_nat (j := 0) rfl, rfl, _, rfl, ?_⟩
          rw [decide_eq_false str_toss_end]
          exact iteF (tl _ _ ⟨t, .fin n, rfl, Same.refl _, et, okp⟩)
        | never =>
          refine ⟨.ref t, rfl, t, _, 0, .str "never", rfl, rfl, SqT.of et, atI_nat (j := 0) rfl, rfl, _, rfl, ?_⟩
          rw [decide_eq_false str_toss_never]
          exact iteF (tl _ _ ⟨t, .never, rfl, Same.refl _, et, okp⟩)
      · rintro σ H3 ⟨t', p', rfl, s3, et', okp'⟩
        have e3 := s3 _ _ e2
        refine ⟨.ref L, rfl, .inl ⟨rfl, _, SqL.of e3⟩, .ref t', rfl, L, _, _, rfl, rfl, e3, hlen, ?_⟩
        have ntL : ∀ b xs, H3 b = some (.tup xs) → b ≠ L := by
          rintro b xs e rfl
          rw [e3] at e
          cases e
        refine ⟨_, _, rs ++ [.ref t'], qs ++ [p'], rfl, ?_, upd_same, ?_, by simp [len], ?_⟩
        · intro b u e
          rw [upd_ne (ne_of_none e nL)]
          exact s3 _ _ (s2 _ _ e)
        · exact ((pl.mono fun b xs e => s3 _ _ e).snoc et').mono fun b xs e => by rw [upd_ne (ntL _ _ e)]; exact e
        · intro x hx
          rcases List.mem_append.mp hx with hx | hx
          · exact okq x hx
          · rw [List.mem_singleton.mp hx]
            exact okp'
    · rintro σ H2 ⟨v3, v4, rs, qs, rfl, s2, e2, pl, len, okq⟩
      rw [List.length_map, hos.len] at len
      refine ⟨.ref L, rfl, L, _, rfl, .inl ⟨SqL.of e2, fun t nt => ?_⟩⟩
      have s3 := Same.upd (o := .tup rs) nt
      exact q t qs _ (s2.trans s3) (s2.free nt) ⟨rs, upd_same, pl.mono fun b xs e => s3 _ _ e⟩ ⟨by have := hw.ne; omega, by have := hw.le; omega, by rw [len]; exact okq⟩ len
/-! ### a machine that is drawn -/
theorem ixN_nat {n j : Nat} (h : j < n) : ixN n (j : Int) = some j := by
  unfold ixN
  rw [if_pos (by omega), if_pos (by omega)]
  simp
theorem order_swap {n z : Nat} (h : z < n) : Order n ((((List.range n).map fun i : Nat => (i : Int)).set 0 (z : Int)).set z 0) := by
  have len : ((List.range n).map fun i : Nat => (i : Int)).length = n := by simp
  refine ⟨by simp, fun k k0 k1 => ?_, fun k hk => ?_⟩
  · obtain ⟨j, rfl⟩ : ∃ j : Nat, k = (j : Int) := ⟨k.toNat, by omega⟩
    have hj : j < n := by omega
    refine List.mem_of_getElem? (i := if j = 0 then z else if j = z then 0 else j) ?_
    rw [List.getElem?_set, List.getElem?_set]
    by_cases e0 : j = 0
    · subst e0
      rw [if_pos rfl, if_pos rfl, List.length_set, len, if_pos h]
      rfl
    · rw [if_neg e0]
      by_cases ez : j = z
      · subst ez
        rw [if_pos rfl, if_neg e0, if_pos rfl, len, if_pos (by omega)]
      · rw [if_neg ez, if_neg (fun q => ez q.symm), if_neg (fun q => e0 q.symm), List.getElem?_map, List.getElem?_range hj]
        rfl
  · rcases List.mem_or_eq_of_mem_set hk with hk | rfl
    · rcases List.mem_or_eq_of_mem_set hk with hk | rfl
      · obtain ⟨i, hi, rfl⟩ := List.mem_map.mp hk
        have := List.mem_range.mp hi
        omega
      · omega
    · omega
theorem first_is {n : Nat} (h : 0 < n) {d : Int} (d0 : 0 ≤ d) (d1 : d < 6) : ∃ z : Nat, z < n ∧ atI [V.int ((n : Int) - 1), V.int 0, V.int 0, V.int 0, V.int 0, V.int 0] d = some (V.int (z : Nat)) := by
  rcases (show d = 0 ∨ d = 1 ∨ d = 2 ∨ d = 3 ∨ d = 4 ∨ d = 5 by omega) with rfl | rfl | rfl | rfl | rfl | rfl
  · refine ⟨n - 1, by omega, ?_⟩
    rw [show ((n - 1 : Nat) : Int) = (n : Int) - 1 by omega]
    rfl
  all_goals exact ⟨0, h, rfl⟩
theorem rg_is (n : Nat) : rgV 0 (n : Int) = ((List.range n).map fun i : Nat => (i : Int)).map V.int := by
  unfold rgV
  rw [List.map_map, show ((n : Int) - 0).toNat = n by omega]
  refine List.map_congr_left fun i _ => ?_
  show V.int (0 + (i : Int)) = V.int (i : Int)
  rw [Int.zero_add]
def spMach : Sp := fun vs H Q _ => ∃ (a l r : Addr) (m : Int) (ns : List Int), vs = [.ref a, .int m, .ref r] ∧ Pen H a l ∧ 0 ≤ m ∧ m ≤ 20 ∧ H r = some (.lst (ns.map V.int)) ∧ 0 < ns.length ∧ ns.length ≤ 60 ∧ (∀ n ∈ ns, 0 ≤ n ∧ n < 100) ∧
  ∀ (t : Addr) (ps : List Pl) H', But a H H' → H t = none → Mach H' t ps → WF ps → Pen H' a l → (ps.length : Int) ≤ m + 3 → Q (.ref t) H'
theorem scMach : FnScope ["pen", "most", "answers", "tosses", "others", "many", "first", "places", "at", "order"] ["pen", "most", "answers"] (defScope sMach) := ⟨rfl, rfl, rfl, by decide +kernel, rfl, by decide +kernel, by decide +kernel⟩
theorem ok_mach {f g e n : Addr} {fd gd ed nd : FuncData} (F : Fun K "_law_machine" "_law_machine" sMach f fd) (T : Names mg) (GD : FnOk P w K mg base CX0 2 g gd ["pen", "many"] spDraw) (PD : Def K mg "_law_draw" g gd ["pen", "many"])
    (GE : FnOk P w K mg base CX0 3 e ed ["pen", "answers"] spEnds) (PE_ : Def K mg "_law_ends" e ed ["pen", "answers"]) (GN : FnOk P w K mg base CX0 1 n nd ["machine", "order"] spNumb) (PN : Def K mg "_law_numbered" n nd ["machine", "order"]) :
    FnOk P w K mg base CX0 4 f fd ["pen", "most", "answers"] spMach := by
  refine F.ok scMach (fun vs H Q E h => ?_) (fun cdv A outer s H vs Q E hr h => ?_)
  · obtain ⟨a, l, r, m, ns, rfl, _⟩ := h
    rfl
  · obtain ⟨a, l, r, m, ns, rfl, pn, m0, m20, hr1, h0, h60, hns, q⟩ := h
    refine ⟨_, (pss_cons (ps_par (i := 3) (j := 4) (by rfl) scMach.nd rfl rfl (by decide) rfl rfl (pa_cons (pe_call GD (hr.mono (by decide)) (by rfl) PD.is PD.kp PD.bi .nil pass0 (pa_cons (pv 0) (pa_cons (pe_op op_add (pv 1) pe_int) pa_nil))) (pa_cons (pe_op op_add pe_int (pe_call GD (hr.mono (by decide)) (by rfl) PD.is PD.kp PD.bi .nil pass0 (pa_cons (pv 0) (pa_cons pe_int pa_nil)))) pa_nil)) (by rfl))
      (pss_cons (ps_set (i := 5) scMach.nd rfl (.inl rfl) (pe_op op_add (pv 3) (pv 4)))
      (pss_cons (ps_set (i := 6) scMach.nd rfl (.inl rfl) (pe_ifExp (pt_cmpR op_gt (pv 3) pe_int (nomark _)) (pe_ix ix_list (pe_lst (pa_cons (pe_op op_sub (pv 5) pe_int) (pa_cons pe_int (pa_cons pe_int (pa_cons pe_int (pa_cons pe_int (pa_cons pe_int pa_nil))))))) (pe_call GD (hr.mono (by decide)) (by rfl) PD.is PD.kp PD.bi .nil pass0 (pa_cons (pv 0) (pa_cons pe_int pa_nil))) (fun _ _ => rfl)) pe_int))
      (pss_cons (ps_set (i := 7) scMach.nd rfl (.inl rfl) (pe_lst pa_nil))
      (pss_cons (ps_for PassesOwn.never rfl (pi_range1 rfl T.range (pa_cons (pv 5) pa_nil)) (pg_name (i := 8) scMach.nd rfl (.inl rfl)) (pss_one (ps_if (pt_cmpR op_lt (pv 8) (pv 3) (nomark _)) (pss_one (ps_expr (pe_bm PySem.F.plainAttrs_list PySem.F.slot_list_append PySem.F.type_list_append mt_append (pv 7) (pa_cons (pe_tup (pa_cons pe_str (pa_cons (pe_call GD (hr.mono (by decide)) (by rfl) PD.is PD.kp PD.bi .nil pass0 (pa_cons (pv 0) (pa_cons (pv 5) pa_nil))) (pa_cons (pe_call GD (hr.mono (by decide)) (by rfl) PD.is PD.kp PD.bi .nil pass0 (pa_cons (pv 0) (pa_cons (pv 5) pa_nil))) pa_nil)))) pa_nil)))) (pss_one (ps_expr (pe_bm PySem.F.plainAttrs_list PySem.F.slot_list_append PySem.F.type_list_append mt_append (pv 7) (pa_cons (pe_call GE (hr.mono (by decide)) (by rfl) PE_.is PE_.kp PE_.bi .nil pass0 (pa_cons (pv 0) (pa_cons (pv 2) pa_nil))) pa_nil)))))))
      (pss_cons (ps_set (i := 9) scMach.nd rfl (.inl rfl) (pe_listRg rfl (by rfl) T.list (prg_1 (by rfl) T.range (pv 5))))
      (pss_cons (ps_asg (pe_tup (pa_cons (pe_ix ix_list (pv 9) (pv 6) (fun _ _ => rfl)) (pa_cons (pe_ix ix_list (pv 9) pe_int (fun _ _ => rfl)) pa_nil))) (pg_tup rfl (pgs_cons (pg_sub (pv 9) pe_int set_list) (pgs_cons (pg_sub (pv 9) (pv 6) set_list) pgs_nil))))
      (pss_one (ps_ret (pe_call GN (hr.mono (by decide)) (by rfl) PN.is PN.kp PN.bi .nil pass0 (pa_cons (pe_callTy call_tuple_of (by rfl) T.tuple (by decide +kernel) (pa_cons (pv 7) pa_nil)) (pa_cons (pv 9) pa_nil)))))))))))), ?_⟩
    refine ⟨.ref a, rfl, .int m, rfl, _, _, rfl, rfl, a, l, m + 1, rfl, pn, by omega, log_le (Nat.lt_of_le_of_lt (show _ ≤ 100 by omega) (by decide)), fun d H1 u0 u1 b1 p1 => ?_⟩
    refine ⟨.ref a, rfl, a, l, 3, rfl, p1, by decide, by decide +kernel, fun d2 H2 v0 v1 b2 p2 => ⟨_, _, rfl, rfl, _, _, rfl, ?_⟩⟩
    obtain ⟨n, hn⟩ : ∃ n : Nat, d + (1 + d2) = (n : Int) := ⟨(d + (1 + d2)).toNat, by omega⟩
    refine ⟨_, rfl, _, rfl, _, _, rfl, rfl, ?_⟩
    dsimp only
    rw [hn]
    have n0 : 0 < n := by omega
    have n30 : n ≤ 30 := by omega
    have b12 := b1.trans b2
    refine on (asg_tail (fun v H' => ∃ z : Nat, v = .int (z : Nat) ∧ z < n ∧ But a H H' ∧ Pen H' a l) ?_ (fun t => ?_))
    rotate_left
    · refine ⟨_, rfl, _, _, rfl, rfl, _, rfl, ite2 (fun _ => ?_) (fun _ => t _ _ ⟨0, rfl, n0, b12, p2⟩)⟩
      refine ⟨_, rfl, _, _, rfl, rfl, by show 6 ≤ sizeLine; decide, fun e ne => ?_⟩
      have s3 : Same H2 (upd H2 e (.lst [.int ((n : Int) - 1), .int 0, .int 0, .int 0, .int 0, .int 0])) := Same.upd ne
      have he : upd H2 e (.lst [.int ((n : Int) - 1), .int 0, .int 0, .int 0, .int 0, .int 0]) e = some (.lst [.int ((n : Int) - 1), .int 0, .int 0, .int 0, .int 0, .int 0]) := upd_same
      have p3 := p2.same s3
      have nea := (p2.apart ne).1
      generalize upd H2 e (.lst [.int ((n : Int) - 1), .int 0, .int 0, .int 0, .int 0, .int 0]) = H3 at s3 he p3 ⊢
      refine ⟨.ref a, rfl, a, l, 6, rfl, p3, by decide, by decide +kernel, fun d3 H4 w0 w1 b4 p4 => ?_⟩
      obtain ⟨z, hz, ez⟩ := first_is n0 w0 w1
      exact ⟨e, _, d3, .int (z : Nat), rfl, rfl, SqL.of (b4.mem nea he), ez, t _ _ ⟨z, rfl, hz, (b12.trans (But.of s3)).trans b4, p4⟩⟩
    · rintro v H3 ⟨z, rfl, hz, b3, p3⟩
      refine ⟨Nat.zero_le _, fun L nL => ?_⟩
      have aL := p3.apart nL
      have nLH : H L = none := b3.free aL.1 nL
      have b4 : But a H (upd H3 L (.lst [])) := b3.trans (But.of (Same.upd nL))
      have p4 : Pen (upd H3 L (.lst [])) a l := p3.same (Same.upd nL)
      have eL : upd H3 L (.lst []) L = some (.lst []) := upd_same
      change (_ : Hp → Prop) (upd H3 L (.lst []))
      generalize upd H3 L (.lst []) = H4 at b4 p4 eL ⊢
      clear nL
      refine ⟨_, rfl, _, rfl, by omega, by omega, for_range (lo := 0) (n := n) (fun i σ H' => ∃ (v8 : Option V) (rs : List V) (ps : List Pl), σ = [some (V.ref a), some (V.int m), some (V.ref r), some (V.int d), some (V.int (1 + d2)), some (V.int (n : Nat)), some (V.int (z : Nat)), some (V.ref L), v8, none] ∧ But a H H' ∧ Pen H' a l ∧ H' L = some (.lst rs) ∧ Pls H' rs ps ∧ ps.length = i ∧ ∀ p ∈ ps, p.ok n)
        ⟨_, [], [], rfl, b4, p4, eL, .nil, rfl, by simp⟩ ?_ ?_⟩
      · rintro i σ H5 hi ⟨v8, rs, ps, rfl, b5, p5, e5, pl, len, okp⟩
        have hlen : rs.length < sizeLine := by
          have := pl.len
          have e : sizeLine = 16777216 := by decide
          omega
        have fin : ∀ (t : Addr) (p : Pl) (H7 : Hp), But a H5 H7 → Pen H7 a l → H7 t = some (.tup p.row) → p.ok n → H7 L = some (.lst rs) ∧ ∃ (v8 : Option V) (rs' : List V) (ps' : List Pl), [some (V.ref a), some (V.int m), some (V.ref r), some (V.int d), some (V.int (1 + d2)), some (V.int (n : Nat)), some (V.int (z : Nat)), some (V.ref L), some (V.int (0 + (i : Nat))), none] = [some (V.ref a), some (V.int m), some (V.ref r), some (V.int d), some (V.int (1 + d2)), some (V.int (n : Nat)), some (V.int (z : Nat)), some (V.ref L), v8, none] ∧
            But a H (upd H7 L (.lst (rs ++ [V.ref t]))) ∧ Pen (upd H7 L (.lst (rs ++ [V.ref t]))) a l ∧ upd H7 L (.lst (rs ++ [V.ref t])) L = some (.lst rs') ∧ Pls (upd H7 L (.lst (rs ++ [V.ref t]))) rs' ps' ∧ ps'.length = i + 1 ∧ ∀ p ∈ ps', p.ok n := by
          intro t p H7 b7 p7 et okt
          have e7 := b7.mem aL.1 e5
          refine ⟨e7, _, rs ++ [V.ref t], ps ++ [p], rfl, ?_, ?_, upd_same, ?_, by simp [len], ?_⟩
          · intro b o e nb
            rw [upd_ne (ne_of_none e nLH)]
            exact b7 _ _ (b5 _ _ e nb) nb
          · obtain ⟨cs, pos, val, h1, h2, h3⟩ := p7
            exact ⟨cs, pos, val, by rw [upd_ne aL.1.symm]; exact h1, by rw [upd_ne aL.2.symm]; exact h2, h3⟩
          · have pl7 : Pls H7 rs ps := pl.mono fun b xs e => b7.mem (p5.notTup e) e
            refine (pl7.snoc et).mono fun b xs e => ?_
            rw [upd_ne (by rintro rfl; rw [e7] at e; cases e)]
            exact e
          · intro x hx
            rcases List.mem_append.mp hx with hx | hx
            · exact okp x hx
            · rw [List.mem_singleton.mp hx]
              exact okt
        have hb : (0 : Int) < (n : Nat) := by omega
        have hb2 : ((n : Nat) : Int).natAbs.log2 < 9000 := log_le (Nat.lt_of_le_of_lt (show _ ≤ 100 by omega) (by decide))
        refine ⟨_, rfl, _, rfl, _, _, rfl, rfl, _, rfl, ite2 (fun _ => ?_) (fun _ => ?_)⟩
        · refine ⟨.ref L, rfl, .inl ⟨rfl, _, SqL.of e5⟩, .ref a, rfl, _, rfl, a, l, _, rfl, p5, hb, hb2, fun x H6 x0 x1 b6 p6 => ?_⟩
          refine ⟨.ref a, rfl, _, rfl, a, l, _, rfl, p6, hb, hb2, fun y H7 y0 y1 b7 p7 => ⟨by show 3 ≤ sizeLine; decide, fun t nt => ?_⟩⟩
          obtain ⟨e8, go⟩ := fin t (.toss x y) _ ((b6.trans b7).trans (But.of (Same.upd nt))) (p7.same (Same.upd nt)) upd_same ⟨x0, x1, y0, y1⟩
          exact ⟨L, _, _, rfl, rfl, e8, hlen, go⟩
        · refine ⟨.ref L, rfl, .inl ⟨rfl, _, SqL.of e5⟩, .ref a, rfl, .ref r, rfl, a, l, r, ns, rfl, p5, b5.mem (pn.notInts hr1) hr1, h0, h60, hns, fun t p H6 b6 nt et p6 st => ?_⟩
          obtain ⟨e8, go⟩ := fin t p H6 b6 p6 et (st.ok n)
          exact ⟨L, _, _, rfl, rfl, e8, hlen, go⟩
      · rintro σ H5 ⟨v8, rs, ps, rfl, b5, p5, e5, pl, len, okp⟩
        refine ⟨_, rfl, _, rfl, RgOk.of_le (by decide) (by omega) (by decide) (by omega), fun O nO => ?_⟩
        rw [rg_is]
        have aO := p5.apart nO
        have nOH : H O = none := b5.free aO.1 nO
        have s6 := Same.upd (o := .lst (((List.range n).map fun i : Nat => (i : Int)).map V.int)) nO
        have e6 : upd H5 O (.lst (((List.range n).map fun i : Nat => (i : Int)).map V.int)) O = some (.lst (((List.range n).map fun i : Nat => (i : Int)).map V.int)) := upd_same
        generalize upd H5 O (.lst (((List.range n).map fun i : Nat => (i : Int)).map V.int)) = H6 at s6 e6 ⊢
        have gz : ∀ j : Nat, j < n → (((List.range n).map fun i : Nat => (i : Int)).map V.int)[j]? = some (V.int (j : Nat)) := fun j hj => by
          rw [List.getElem?_map, List.getElem?_map, List.getElem?_range hj]
          rfl
        refine ⟨.ref O, rfl, _, rfl, O, _, _, .int (z : Nat), rfl, rfl, SqL.of e6, atI_nat (gz z hz), .ref O, rfl, O, _, 0, .int 0, rfl, rfl, SqL.of e6, atI_nat (j := 0) (gz 0 n0), by show 2 ≤ sizeLine; decide, fun t nt => ?_⟩
        have s7 := Same.upd (o := .tup [.int (z : Nat), .int 0]) nt
        have e7 := s7 _ _ e6
        have et : upd H6 t (.tup [.int (z : Nat), .int 0]) t = some (.tup [.int (z : Nat), .int 0]) := upd_same
        generalize upd H6 t (.tup [.int (z : Nat), .int 0]) = H7 at s7 e7 et ⊢
        have ln : (((List.range n).map fun i : Nat => (i : Int)).map V.int).length = n := by simp
        refine ⟨t, _, rfl, SqT.of et, rfl, _, _, rfl, .ref O, rfl, O, _, 0, 0, rfl, rfl, e7, by rw [ln]; exact ixN_nat (j := 0) n0, ?_⟩
        refine ⟨_, _, rfl, .ref O, rfl, _, rfl, O, _, _, z, rfl, rfl, upd_same, by rw [List.length_set, ln]; exact ixN_nat hz, rfl, ?_⟩
        have nOO : ∀ b o, H5 b = some o → b ≠ O := fun b o e => ne_of_none e nO
        have s57 := s6.trans s7
        have up : ∀ (x y : HO) b o, H5 b = some o → upd (upd H7 O x) O y b = some o := fun x y b o e => by
          rw [upd_ne (nOO b o e), upd_ne (nOO b o e)]
          exact s57 _ _ e
        have e8 : upd (upd H7 O (.lst ((((List.range n).map fun i : Nat => (i : Int)).map V.int).set 0 (.int (z : Nat))))) O (.lst (((((List.range n).map fun i : Nat => (i : Int)).map V.int).set 0 (.int (z : Nat))).set z (.int 0))) O = some (.lst (((((List.range n).map fun i : Nat => (i : Int)).set 0 (z : Int)).set z 0).map V.int)) := by
          rw [upd_same, List.map_set, List.map_set]
        have up := up (.lst ((((List.range n).map fun i : Nat => (i : Int)).map V.int).set 0 (.int (z : Nat)))) (.lst (((((List.range n).map fun i : Nat => (i : Int)).map V.int).set 0 (.int (z : Nat))).set z (.int 0)))
        change (_ : Hp → Prop) (upd (upd H7 O (.lst ((((List.range n).map fun i : Nat => (i : Int)).map V.int).set 0 (.int (z : Nat))))) O (.lst (((((List.range n).map fun i : Nat => (i : Int)).map V.int).set 0 (.int (z : Nat))).set z (.int 0))))
        generalize upd (upd H7 O (.lst ((((List.range n).map fun i : Nat => (i : Int)).map V.int).set 0 (.int (z : Nat))))) O (.lst (((((List.range n).map fun i : Nat => (i : Int)).map V.int).set 0 (.int (z : Nat))).set z (.int 0))) = H8 at e8 up ⊢
        have s58 : Same H5 H8 := up
        refine ⟨.ref L, rfl, L, _, rfl, .inl ⟨SqL.of (up _ _ e5), fun p np => ?_⟩⟩
        have s9 := Same.upd (o := .tup rs) np
        have s59 := s58.trans s9
        refine ⟨.ref O, rfl, p, O, ps, _, rfl, ⟨rs, upd_same, pl.mono fun b xs e => s59 _ _ e⟩, ⟨by omega, by omega, by rw [len]; exact okp⟩, s9 _ _ e8, by rw [len]; exact order_swap hz, fun t qs H9 s10 nt hm hw hq => ?_⟩
        have s50 := s59.trans s10
        exact q t qs H9 (b5.trans (But.of s50)) (b5.free ((p5.same s59).apart nt).1 (s59.free nt)) hm hw (p5.same s50) (by rw [hq, len]; omega)
end
end Z

set_option Elab.async false
set_option maxRecDepth 100000
set_option maxHeartbeats 4000000
/-! enumerate(t), t a tuple -/
namespace EN
open PySem PySem.Spec PyProof.Rows L2
open Sem (wp)
theorem new_enum {v : Value} {o : Obj} {G : Heap → Prop} (B : Begins v o G) :
    Meets (Builtin.«enumerate.__new__» ⟨[.type "enumerate", v], []⟩) (fun _ R s => G s.heap ∧
      R (.ok (.ret (.ref (s.heap.push o).objs.size)))
        { s with heap := (s.heap.push o).push { cls := .type "enumerate", data := .fields #[.none, .bool false, .ref s.heap.objs.size, rawInt 0, .none, .none] } }) := by
  refine .of_wp fun prog w A R s h => ?_
  obtain ⟨hp, g, d, tk, os⟩ := s
  obtain ⟨hG, h⟩ := h
  have sub := sub_enumerate
  have begin_ : ∀ {A' : Around} {E : Value → Shared → Prop} {Q : Value → Shared → Prop}, Q (.ref hp.objs.size) ⟨hp.push o, g, d, tk, os⟩ →
      wpAny (model prog w) A' (pyIter v) Q E ⟨hp, g, d, tk, os⟩ := fun q => B.iter prog w _ _ ⟨hp, g, d, tk, os⟩ _ hG q
  wp_walk using begin_
  refine wpAny_stack_any fun st => wpAny_pure ?_
  split
  · rename_i c _ _ _ _ _
    cases (c == Value.type "enumerate")
    all_goals
      wp_walk using begin_
      exact ⟨_, rfl, h⟩
  · wp_walk using begin_
    exact ⟨_, rfl, h⟩
theorem call_enum {prog : Program} {w : World} {A : Around} {E : Value → Shared → Prop} {s : Shared} {v : Value} {o : Obj} {G : Heap → Prop} {Q : Value → Shared → Prop} (B : Begins v o G) (hG : G s.heap)
    (h : ∀ h', IsEnum h' (s.heap.objs.size + 1) s.heap.objs.size 0 .none → h'.get? s.heap.objs.size = some o →
      (∀ b u, s.heap.get? b = some u → h'.get? b = some u) → Q (.ref (s.heap.objs.size + 1)) { s with heap := h' }) :
    wpAny (model prog w) A (call (.type "enumerate") [v]) Q E s := by
  apply callType_new F.called_enumerate (by decide) (F.typeCall_enumerate_1 _) (F.newCall_enumerate_1 _) (fun obj => F.args_object_init_2 obj _) F.entry_enumerate_new (new_enum B)
  refine ⟨hG, ?_⟩
  have size : (s.heap.push o).objs.size = s.heap.objs.size + 1 := Heap.size_push ..
  show _ ∧ _
  rw [size]
  have made : IsEnum ((s.heap.push o).push { cls := .type "enumerate", data := .fields #[.none, .bool false, .ref s.heap.objs.size, rawInt 0, .none, .none] }) (s.heap.objs.size + 1) s.heap.objs.size 0 .none := by
    have e := Heap.get?_push_size (s.heap.push o) (o := { cls := .type "enumerate", data := .fields #[.none, .bool false, .ref s.heap.objs.size, rawInt 0, .none, .none] }) rfl
    rwa [size] at e
  refine ⟨⟨_, made, rfl⟩, h _ made ?_ ?_⟩
  · exact Heap.get?_push_of_some _ (Heap.get?_push_size _ B.free)
  · intro b u e
    exact Heap.get?_push_of_some _ (Heap.get?_push_of_some _ e)

/-- the tuple at a, each item in a new pair with its place -/
def Pairs (K : PySem.W.Frag) (a : Addr) : It where
  go := fun i H => ∃ (xs : List V) (x : V), SqT K H a xs ∧ xs[i]? = some x
  yld := fun i H v H' => ∃ T x, v = .ref T ∧ H T = none ∧ H' = upd H T (.tup [.int (i : Nat), x]) ∧ ∀ xs, SqT K H a xs → xs[i]? = some x
  stop := fun i H => ∃ xs : List V, SqT K H a xs ∧ xs.length ≤ i
theorem turn_pairs {P : Program} {w : World} {K : PySem.W.Frag} {elts : List Expr} {kk : Nat} {tpos : Pos} (a e it : Addr) :
    Turn P w K (.Tuple elts kk tpos) (Pairs K a) [e, it] e (fun i h => (∃ old, IsEnum h e it ((i : Nat) : Int) old) ∧ h.IsTupleIter it a i ∧ e ≠ it) where
  mem := List.mem_cons_self ..
  obj := by
    rintro i h ⟨⟨old, he⟩, ⟨o, ho, hc, hd⟩, _⟩ b hb
    simp only [List.mem_cons, List.not_mem_nil, or_false] at hb
    rcases hb with rfl | rfl
    · exact ⟨_, he, fun v q => nomatch q⟩
    · exact ⟨o, ho, fun v q => by rw [hd] at q; cases q⟩
  keep := by
    rintro i h h' ⟨⟨old, he⟩, hi, hne⟩ k
    exact ⟨⟨old, k e (by simp) _ he⟩, hi.at fun o q => k it (by simp) o q, hne⟩
  item := by
    intro X hP hw hK calm i pins s σ H E I hf st hg
    subst hP hw hK
    obtain ⟨⟨old, he⟩, hit, hne⟩ := st
    obtain ⟨xs, x, hq, hx⟩ := hg
    obtain ⟨its, rv, p, hz⟩ := I.tuple hq
    obtain ⟨u, hu, ru⟩ := rv.get hx
    have le : e < s.heap.objs.size := Heap.lt_size he
    have li : it < s.heap.objs.size := by obtain ⟨_, q, _⟩ := hit; exact Heap.lt_size q
    have tup : s.heap.IsTuple a its.toArray := p
    have nai : a ≠ it := by
      rintro rfl
      obtain ⟨o1, q1, c1, _⟩ := tup
      obtain ⟨o2, q2, c2, _⟩ := hit
      rw [q1] at q2
      cases q2
      rw [c1] at c2
      injection c2 with c3
      exact absurd c3 (by decide)
    have nae : a ≠ e := by
      rintro rfl
      obtain ⟨o1, q1, c1, _⟩ := tup
      have q2 : s.heap.get? a = _ := he
      rw [q1] at q2
      cases q2
      injection c1 with c3
      exact absurd c3 (by decide)
    have lt : i < its.toArray.size := by
      have := (List.getElem?_eq_some_iff.mp hu).1
      simpa using this
    refine wpAny_pyNext_enum_itemD (Draws.tuple (A := X.A.in1) (by exact I.ok.hd calm) it a nai its.toArray) he ⟨hit, tup⟩ lt hne (by simp [hne, Ne.symm nae]) fun y h' tk hy ho st' hT hsz hk => ?_
    have ey : y = u := by
      have : its.toArray[i]? = some u := by simpa using hu
      exact Option.some.inj (hy.symm.trans this)
    subst ey
    refine ⟨_, rfl, wpAny_letOwnedTupleGo_enum (s := { s with heap := h', toks := tk + 1 }) ho fun h2 he2 sb => ?_⟩
    have sb' : Heap.SameBut e h' h2 := sb
    have hT2 : h2.get? s.heap.objs.size = some { cls := .type "tuple", data := .seq #[.int i tk, y] } := (sb'.2 _ (Nat.ne_of_gt le)).trans hT
    have new : ObjOk X.prog X.w (upd H s.heap.objs.size (.tup [.int (i : Nat), x])) h2 s.heap.objs.size (.tup [.int (i : Nat), x]) :=
      ⟨by show 2 ≤ sizeLine; decide, [.int i tk, y], .cons ⟨_, rfl⟩ (.cons ru .nil), ⟨_, hT2, rfl, _, rfl⟩⟩
    have I2 : Inv X pins σ (upd H s.heap.objs.size (.tup [.int (i : Nat), x])) { s with heap := h2, toks := tk + 1 } := by
      refine I.turnedNew (ch := [e, it]) (fun b ob hb q => ?_) hf (Nat.le_refl _) new
      have ne : b ≠ e := fun z => hb (by simp [z])
      have ni : b ≠ it := fun z => hb (by simp [z])
      exact (sb'.2 b ne).trans (hk b ob ne ni q)
    refine ⟨.ref s.heap.objs.size, _, I2, rfl, ⟨_, x, rfl, I.hok.fresh (Nat.le_refl _), rfl, fun ys hy => by rw [I.tuple_inj hy hq]; exact hx⟩, ⟨⟨y, ?_⟩, st'.1.at fun o q => (sb'.2 it (Ne.symm hne)).trans q, hne⟩, fun b hb => ?_⟩
    · have e1 : ((i + 1 : Nat) : Int) = (i : Int) + 1 := by omega
      rw [e1]
      exact he2
    · have lb : b < s.heap.objs.size := by
        simp only [List.mem_cons, List.not_mem_nil, or_false] at hb
        rcases hb with rfl | rfl
        · exact le
        · exact li
      rw [upd_ne (Nat.ne_of_lt lb)]
      exact (hf b hb).1
  done := by
    intro X hP hw hK calm i pins s σ H E I hf st hg
    subst hP hw hK
    obtain ⟨⟨old, he⟩, hit, hne⟩ := st
    obtain ⟨xs, hq, hx⟩ := hg
    obtain ⟨its, rv, p, hz⟩ := I.tuple hq
    have tup : s.heap.IsTuple a its.toArray := p
    have nai : a ≠ it := by
      rintro rfl
      obtain ⟨o1, q1, c1, _⟩ := tup
      obtain ⟨o2, q2, c2, _⟩ := hit
      rw [q1] at q2
      cases q2
      rw [c1] at c2
      injection c2 with c3
      exact absurd c3 (by decide)
    obtain ⟨f0, f1, f2, f3, f4, f5⟩ := hf it (by simp)
    have hl := rv.length
    have none_ : its.toArray[i]? = none := by simp; omega
    have hT : s.TypeIs (.ref e) "enumerate" := ⟨_, he, rfl⟩
    unfold pyNext
    refine wpAny_bind (wpAny_attempt (wpAny_callSpecial?_slot (name := Str.ofString "__next__") hT F.slot_enumerate_next
      (wpAny_call_entry F.slot_enumerate_next hT F.entry_enumerate_next ?_ (F.args_enumerate_next_1 _))))
    show wpAny _ _ (field (.ref e) 2 >>= _) _ _ _
    refine wpAny_bind (wpAny_field he rfl (x := .ref it) rfl ?_)
    refine wpAny_bind (wpAny_nextOf_tuple_end (I.ok.hd calm) hit tup none_ fun h' x he' hx' => ?_)
    obtain ⟨o, ho, hc⟩ := hx'
    refine wpAny_bind (wpAny_isInstance (T := "StopIteration") (b := true) ⟨o, ho, hc⟩ isSubtype_stop ?_)
    refine wpAny_pure ⟨rfl, ?_⟩
    exact I.turned (t' := s.toks) (fun b o hb q => he' b o hb q) f0 f1 f3 f4 f5
  self := by
    rintro A i s Q E ⟨⟨old, he⟩, _⟩ h
    exact wpAny_pyIter_enum he h
section
variable {X : Cx}
def tPairs (K : PySem.W.Frag) (ta : TA) : TI := fun σ H R => ta σ H fun vs H1 => ∃ a xs, vs = [.ref a] ∧ SqT K H1 a xs ∧ R (Pairs K a) H1
theorem pi_pairs {e : Expr} {ta : TA} {p pos tpos : Pos} {elts : List Expr} {kk : Nat} (glob : Gl X "enumerate") (none_ : X.mg "enumerate" = none) (args : PA X [e] ta)
    (star : starEach [e] X.env = [(false, eval e X.env)] := by rfl) : PI X (.Tuple elts kk tpos) (.Call (.Name "enumerate" p) [e] [] pos) (tPairs X.K ta) := by
  constructor
  intro pins s σ H R I h
  refine Call_ (ld_blt I glob none_ boot_enumerate ?_)
  refine PyProof.Rows.callWith_type1 (thn (args.run pos pins s σ H _ I h) fun us s1 got => ?_) star rfl
  obtain ⟨vs, H1, I1, r1, a, xs, ex, hq, q⟩ := got
  subst ex
  obtain ⟨u, eu, ru⟩ := vals1 r1
  subst eu
  have eu : u = Value.ref a := ru
  subst eu
  obtain ⟨its, rv, p', hz⟩ := I1.tuple hq
  refine call_enum (begins_tuple a its.toArray) p' fun h' he hit hk => wpAny_pyIter_enum he ?_
  have I2 : Inv X pins σ H1 { s1 with heap := h' } := I1.kept (t' := s1.toks) hk
  refine ⟨s1.heap.objs.size + 1, [s1.heap.objs.size + 1, s1.heap.objs.size], _, _, H1, rfl, I2, turn_pairs a (s1.heap.objs.size + 1) s1.heap.objs.size, ⟨⟨.none, he⟩, ⟨_, hit, rfl, rfl⟩, Nat.succ_ne_self _⟩, fun b hb => ?_, q⟩
  have above : s1.heap.objs.size ≤ b := by
    simp only [List.mem_cons, List.not_mem_nil, or_false] at hb
    rcases hb with rfl | rfl
    · exact Nat.le_add_right _ _
    · exact Nat.le_refl _
  exact I1.fpOk above (I1.hok.fresh above)
/-- the loop over the pairs -/
theorem for_pairs {K : PySem.W.Frag} {a : Addr} {xs : List V} {g : TG} {tb : TS} {D : Ends} {σ : L2.St} {H : Hp} (Pv : Nat → L2.St → Hp → Prop) (h0 : Pv 0 σ H) (hl : ∀ i σ H, i ≤ xs.length → Pv i σ H → SqT K H a xs)
    (turn : ∀ i x σ H T, xs[i]? = some x → Pv i σ H → H T = none → g (.ref T) σ (upd H T (.tup [.int (i : Nat), x])) fun σ2 H2 => tb { D with nx := Pv (i + 1), ct := Pv (i + 1), bk := D.nx } σ2 H2) (done : ∀ σ H, Pv xs.length σ H → D.nx σ H) :
    ∃ W : Nat → Nat → L2.St → Hp → Prop, (∃ m, W 0 m σ H) ∧ ∀ i m σ H, W i m σ H →
      ((Pairs K a).stop i H ∧ D.nx σ H) ∨ ((Pairs K a).go i H ∧ ∃ N : L2.St → Hp → Prop, (∀ σ' H', N σ' H' → ∃ m', m' < m ∧ W (i + 1) m' σ' H') ∧ ∀ x H', (Pairs K a).yld i H x H' → g x σ H' fun σ2 H2 => tb { D with nx := N, ct := N, bk := D.nx } σ2 H2) := by
  refine ⟨fun i m σ H => m = xs.length - i ∧ i ≤ xs.length ∧ Pv i σ H, ⟨xs.length, by simp, Nat.zero_le _, h0⟩, ?_⟩
  rintro i m σ H ⟨rfl, le, pv⟩
  have here := hl i σ H le pv
  rcases Nat.lt_or_ge i xs.length with lt | ge
  · refine .inr ⟨⟨xs, xs[i], here, List.getElem?_eq_getElem lt⟩, Pv (i + 1), fun σ' H' n => ⟨xs.length - (i + 1), by omega, rfl, lt, n⟩, ?_⟩
    rintro v H' ⟨T, x, rfl, nT, rfl, hx⟩
    exact turn i x σ H T (hx xs here) pv nT
  · have e : i = xs.length := by omega
    subst e
    exact .inl ⟨⟨xs, here, Nat.le_refl _⟩, done σ H pv⟩
end
end EN

set_option Elab.async false
set_option linter.all false
set_option maxRecDepth 100000
set_option maxHeartbeats 4000000
/-! enumerate(z), z a text -/
namespace EN
open PySem PySem.Spec PyProof.Rows L2
open Sem (wp)
def Signs (z : Str) : It where
  go := fun i _ => i < z.cps.size
  yld := fun i H v H' => ∃ T c, v = .ref T ∧ H T = none ∧ H' = upd H T (.tup [.int (i : Nat), .str ⟨#[c]⟩]) ∧ z.cps[i]? = some c
  stop := fun i _ => z.cps.size ≤ i
theorem turn_signs {P : Program} {w : World} {K : PySem.W.Frag} {elts : List Expr} {kk : Nat} {tpos : Pos} (z : Str) (t : Tok) (e it : Addr) :
    Turn P w K (.Tuple elts kk tpos) (Signs z) [e, it] e (fun i h => i ≤ z.cps.size ∧ (∃ old, IsEnum h e it ((i : Nat) : Int) old) ∧ h.IsStrIter it (strIterType z) z t i ∧ e ≠ it) where
  mem := List.mem_cons_self ..
  obj := by
    rintro i h ⟨_, ⟨old, he⟩, ⟨o, ho, hc, hd⟩, _⟩ b hb
    simp only [List.mem_cons, List.not_mem_nil, or_false] at hb
    rcases hb with rfl | rfl
    · exact ⟨_, he, fun v q => nomatch q⟩
    · exact ⟨o, ho, fun v q => by rw [hd] at q; cases q⟩
  keep := by
    rintro i h h' ⟨le, ⟨old, he⟩, hi, hne⟩ k
    obtain ⟨o, ho, r⟩ := hi
    exact ⟨le, ⟨old, k e (by simp) _ he⟩, ⟨o, k it (by simp) o ho, r⟩, hne⟩
  item := by
    intro X hP hw hK calm i pins s σ H E I hf st hg
    subst hP hw hK
    obtain ⟨_, ⟨old, he⟩, hit, hne⟩ := st
    have lt : i < z.cps.size := hg
    have le : e < s.heap.objs.size := Heap.lt_size he
    have li : it < s.heap.objs.size := by obtain ⟨_, q, _⟩ := hit; exact Heap.lt_size q
    refine wpAny_pyNext_enum_itemD (Draws.text (A := X.A.in1) (by exact I.ok.hd calm) it z t) he hit lt hne (by simp [hne]) fun y h' tk hy ho st' hT hsz hk => ?_
    obtain ⟨c, u, hc, rfl⟩ := hy
    refine ⟨_, rfl, wpAny_letOwnedTupleGo_enum (s := { s with heap := h', toks := tk + 1 }) ho fun h2 he2 sb => ?_⟩
    have sb' : Heap.SameBut e h' h2 := sb
    have hT2 : h2.get? s.heap.objs.size = some { cls := .type "tuple", data := .seq #[.int i tk, .str ⟨#[c]⟩ u] } := (sb'.2 _ (Nat.ne_of_gt le)).trans hT
    have new : ObjOk X.prog X.w (upd H s.heap.objs.size (.tup [.int (i : Nat), .str ⟨#[c]⟩])) h2 s.heap.objs.size (.tup [.int (i : Nat), .str ⟨#[c]⟩]) :=
      ⟨by show 2 ≤ sizeLine; decide, [.int i tk, .str ⟨#[c]⟩ u], .cons ⟨_, rfl⟩ (.cons ⟨_, rfl⟩ .nil), ⟨_, hT2, rfl, _, rfl⟩⟩
    have I2 : Inv X pins σ (upd H s.heap.objs.size (.tup [.int (i : Nat), .str ⟨#[c]⟩])) { s with heap := h2, toks := tk + 1 } := by
      refine I.turnedNew (ch := [e, it]) (fun b ob hb q => ?_) hf (Nat.le_refl _) new
      have ne : b ≠ e := fun z => hb (by simp [z])
      have ni : b ≠ it := fun z => hb (by simp [z])
      exact (sb'.2 b ne).trans (hk b ob ne ni q)
    refine ⟨.ref s.heap.objs.size, _, I2, rfl, ⟨_, c, rfl, I.hok.fresh (Nat.le_refl _), rfl, hc⟩, ⟨lt, ⟨.str ⟨#[c]⟩ u, ?_⟩, ?_, hne⟩, fun b hb => ?_⟩
    · have e1 : ((i + 1 : Nat) : Int) = (i : Int) + 1 := by omega
      rw [e1]
      exact he2
    · obtain ⟨o, q, r⟩ := st'
      exact ⟨o, (sb'.2 it (Ne.symm hne)).trans q, r⟩
    · have lb : b < s.heap.objs.size := by
        simp only [List.mem_cons, List.not_mem_nil, or_false] at hb
        rcases hb with rfl | rfl
        · exact le
        · exact li
      rw [upd_ne (Nat.ne_of_lt lb)]
      exact (hf b hb).1
  done := by
    intro X hP hw hK calm i pins s σ H E I hf st hg
    subst hP hw hK
    obtain ⟨le, ⟨old, he⟩, hit, hne⟩ := st
    have ge : z.cps.size ≤ i := hg
    obtain rfl : i = z.cps.size := by omega
    obtain ⟨f0, f1, f2, f3, f4, f5⟩ := hf it (by simp)
    have hT : s.TypeIs (.ref e) "enumerate" := ⟨_, he, rfl⟩
    unfold pyNext
    refine wpAny_bind (wpAny_attempt (wpAny_callSpecial?_slot (name := Str.ofString "__next__") hT F.slot_enumerate_next
      (wpAny_call_entry F.slot_enumerate_next hT F.entry_enumerate_next ?_ (F.args_enumerate_next_1 _))))
    show wpAny _ _ (field (.ref e) 2 >>= _) _ _ _
    refine wpAny_bind (wpAny_field he rfl (x := .ref it) rfl ?_)
    refine wpAny_bind ((Draws.text (prog := X.prog) (w := X.w) (A := X.A.in1) (by exact I.ok.hd calm) it z t).done s _ _ hit fun h' x he' hx' => ?_)
    obtain ⟨o, ho, hc⟩ := hx'
    refine wpAny_bind (wpAny_isInstance (T := "StopIteration") (b := true) ⟨o, ho, hc⟩ isSubtype_stop ?_)
    refine wpAny_pure ⟨rfl, ?_⟩
    exact I.turned (t' := s.toks) (fun b o hb q => he' b o hb q) f0 f1 f3 f4 f5
  self := by
    rintro A i s Q E ⟨_, ⟨old, he⟩, _⟩ h
    exact wpAny_pyIter_enum he h
section
variable {X : Cx}
def tSigns (ta : TA) : TI := fun σ H R => ta σ H fun vs H1 => ∃ z : Str, vs = [.str z] ∧ R (Signs z) H1
theorem pi_signs {e : Expr} {ta : TA} {p pos tpos : Pos} {elts : List Expr} {kk : Nat} (glob : Gl X "enumerate") (none_ : X.mg "enumerate" = none) (args : PA X [e] ta)
    (star : starEach [e] X.env = [(false, eval e X.env)] := by rfl) : PI X (.Tuple elts kk tpos) (.Call (.Name "enumerate" p) [e] [] pos) (tSigns ta) := by
  constructor
  intro pins s σ H R I h
  refine Call_ (ld_blt I glob none_ boot_enumerate ?_)
  refine PyProof.Rows.callWith_type1 (thn (args.run pos pins s σ H _ I h) fun us s1 got => ?_) star rfl
  obtain ⟨vs, H1, I1, r1, z, ex, q⟩ := got
  subst ex
  obtain ⟨u, eu, ru⟩ := vals1 r1
  subst eu
  obtain ⟨t, eu⟩ : ∃ t, u = Value.str z t := ru
  subst eu
  refine call_enum (begins_text z t) trivial fun h' he hit hk => wpAny_pyIter_enum he ?_
  have I2 : Inv X pins σ H1 { s1 with heap := h' } := I1.kept (t' := s1.toks) hk
  refine ⟨s1.heap.objs.size + 1, [s1.heap.objs.size + 1, s1.heap.objs.size], _, _, H1, rfl, I2, turn_signs z t (s1.heap.objs.size + 1) s1.heap.objs.size, ⟨Nat.zero_le _, ⟨.none, he⟩, ⟨_, hit, rfl, rfl⟩, Nat.succ_ne_self _⟩, fun b hb => ?_, q⟩
  have above : s1.heap.objs.size ≤ b := by
    simp only [List.mem_cons, List.not_mem_nil, or_false] at hb
    rcases hb with rfl | rfl
    · exact Nat.le_add_right _ _
    · exact Nat.le_refl _
  exact I1.fpOk above (I1.hok.fresh above)
/-- the loop over the signs -/
theorem for_signs {z : Str} {g : TG} {tb : TS} {D : Ends} {σ : L2.St} {H : Hp} (Pv : Nat → L2.St → Hp → Prop) (h0 : Pv 0 σ H)
    (turn : ∀ i c σ H T, z.cps[i]? = some c → Pv i σ H → H T = none → g (.ref T) σ (upd H T (.tup [.int (i : Nat), .str ⟨#[c]⟩])) fun σ2 H2 => tb { D with nx := Pv (i + 1), ct := Pv (i + 1), bk := D.nx } σ2 H2) (done : ∀ σ H, Pv z.cps.size σ H → D.nx σ H) :
    ∃ W : Nat → Nat → L2.St → Hp → Prop, (∃ m, W 0 m σ H) ∧ ∀ i m σ H, W i m σ H →
      ((Signs z).stop i H ∧ D.nx σ H) ∨ ((Signs z).go i H ∧ ∃ N : L2.St → Hp → Prop, (∀ σ' H', N σ' H' → ∃ m', m' < m ∧ W (i + 1) m' σ' H') ∧ ∀ x H', (Signs z).yld i H x H' → g x σ H' fun σ2 H2 => tb { D with nx := N, ct := N, bk := D.nx } σ2 H2) := by
  refine ⟨fun i m σ H => m = z.cps.size - i ∧ i ≤ z.cps.size ∧ Pv i σ H, ⟨z.cps.size, by simp, Nat.zero_le _, h0⟩, ?_⟩
  rintro i m σ H ⟨rfl, le, pv⟩
  rcases Nat.lt_or_ge i z.cps.size with lt | ge
  · refine .inr ⟨lt, Pv (i + 1), fun σ' H' n => ⟨z.cps.size - (i + 1), by omega, rfl, lt, n⟩, ?_⟩
    rintro v H' ⟨T, c, rfl, nT, rfl, hc⟩
    exact turn i c σ H T hc pv nT
  · have e : i = z.cps.size := by omega
    subst e
    exact .inl ⟨Nat.le_refl _, done σ H pv⟩
end
end EN

set_option Elab.async false
set_option linter.all false
set_option maxRecDepth 100000
set_option maxHeartbeats 4000000
/-! z.count(one sign); tapes as texts -/
namespace CO
open PySem PySem.StrLaws PySem.Builtin PySem.Builtin.Str
theorem walk (x : Str) (c : Nat) : ∀ (n a : Nat) (st : Array Nat × Nat), st.fst.size ≤ a → st.snd ≤ a → a + n ≤ x.length + 1 →
    ((forIn (List.range' a n) st (occBody x ⟨#[c]⟩ x.length (x.length + 1))).run.fst).size = st.fst.size + ((x.cps.toList.drop a).take n).count c
  | 0, a, st, _, _, _ => by simp
  | n + 1, a, st, h1, h2, h3 => by
    rw [List.range'_succ, List.forIn_cons]
    have one := subAt_one x c a
    have len : (⟨#[c]⟩ : Str).length = 1 := rfl
    have step : ((x.cps.toList.drop a).take (n + 1)).count c = (if x.cps.toList[a]? = some c then 1 else 0) + ((x.cps.toList.drop (a + 1)).take n).count c := by
      cases e : x.cps.toList[a]? with
      | none =>
        have ge : x.cps.toList.length ≤ a := by simpa using e
        rw [List.drop_eq_nil_of_le ge, List.drop_eq_nil_of_le (by omega)]
        simp
      | some d =>
        obtain ⟨lt, ed⟩ := List.getElem?_eq_some_iff.mp e
        rw [List.drop_eq_getElem_cons lt, List.take_succ_cons, List.count_cons, ed]
        by_cases hd : d = c
        · subst hd
          simp
          omega
        · simp [hd]
    rw [step]
    unfold occBody
    by_cases hc : x.cps.toList[a]? = some c
    · obtain ⟨q1, q2⟩ := one.mpr hc
      rw [if_pos ⟨⟨⟨by omega, h2⟩, q1⟩, q2⟩, if_pos hc]
      show ((forIn (List.range' (a + 1) n) (st.fst.push a, a + (⟨#[c]⟩ : Str).length) (occBody x ⟨#[c]⟩ x.length (x.length + 1))).run.fst).size = _
      rw [walk x c n (a + 1) _ (by show (st.fst.push a).size ≤ _; rw [Array.size_push]; omega) (by show a + 1 ≤ a + 1; exact Nat.le_refl _) (by omega)]
      show (st.fst.push a).size + _ = _
      rw [Array.size_push]
      omega
    · rw [if_neg (fun z => hc (one.mp ⟨z.1.2, z.2⟩)), if_neg hc]
      show ((forIn (List.range' (a + 1) n) (st.fst, st.snd) (occBody x ⟨#[c]⟩ x.length (x.length + 1))).run.fst).size = _
      rw [walk x c n (a + 1) _ (by show st.fst.size ≤ _; omega) (by show st.snd ≤ _; omega) (by omega)]
      show st.fst.size + _ = _
      simp only [if_neg hc, Nat.zero_add]
theorem count_one (x : Str) (c : Nat) : Txt.count x ⟨#[c]⟩ = (x.cps.toList.count c : Nat) := by
  unfold Txt.count
  rw [occ_eq]
  have h := walk x c (x.length + 1 - 0) 0 (#[], 0) (Nat.le_refl _) (Nat.le_refl _) (by omega)
  have e : (x.cps.toList.drop 0).take (x.length + 1 - 0) = x.cps.toList := by
    rw [List.drop_zero]
    exact List.take_of_length_le (by rw [Array.length_toList]; show x.length ≤ _; omega)
  rw [e] at h
  rw [Array.length_toList, h]
  simp
end CO

set_option Elab.async false
set_option linter.all false
set_option maxRecDepth 100000
set_option maxHeartbeats 4000000
/-! a comprehension over zip of two lists; binomials -/
namespace ZC
open PySem PySem.Spec PyProof.Rows L2 GG
theorem lc_zL {K : PySem.W.Frag} {a b : Addr} {xs ys : List V} {g : TG} {tt : TT} {te : TE} {vs : List Nat} {σ : L2.St} {H1 : Hp} {D : Addr} {Qd : Hp → Prop} (len : xs.length = ys.length) (Pv : Nat → Hp → Prop) (h0 : Pv 0 (upd H1 D (.lst []))) (hl : ∀ i H, Pv i H → SqL K H a xs ∧ SqL K H b ys)
    (turn : ∀ i x y H T, xs[i]? = some x → ys[i]? = some y → Pv i H → H T = none → g (.ref T) (wipe σ vs) (upd H T (.tup [x, y])) fun σ2 H2 => wipe σ2 vs = wipe σ vs ∧ tt σ2 H2 fun c H3 =>
      if c = true then te σ2 H3 fun y H4 => ∃ acc, H4 D = some (.lst acc) ∧ acc.length < sizeLine ∧ Pv (i + 1) (upd H4 D (.lst (acc ++ [y]))) else Pv (i + 1) H3) (done : ∀ H, Pv xs.length H → Qd H) :
    ∃ W : Nat → Nat → Hp → Prop, (∃ m, W 0 m (upd H1 D (.lst []))) ∧ ∀ i m H, W i m H →
      ((Itz K a b).stop i H ∧ Qd H) ∨ ((Itz K a b).go i H ∧ ∃ Nx : Hp → Prop, (∀ H', Nx H' → ∃ m', m' < m ∧ W (i + 1) m' H') ∧
        ∀ x H', (Itz K a b).yld i H x H' → g x (wipe σ vs) H' fun σ2 H2 => wipe σ2 vs = wipe σ vs ∧ tt σ2 H2 fun c H3 =>
          if c = true then te σ2 H3 fun y H4 => ∃ acc, H4 D = some (.lst acc) ∧ acc.length < sizeLine ∧ Nx (upd H4 D (.lst (acc ++ [y]))) else Nx H3) := by
  refine ⟨fun i m H => m = xs.length - i ∧ i ≤ xs.length ∧ Pv i H, ⟨_, rfl, Nat.zero_le _, h0⟩, ?_⟩
  rintro i m H ⟨rfl, le, pv⟩
  obtain ⟨qx, qy⟩ := hl i H pv
  rcases Nat.lt_or_ge i xs.length with lt | ge
  · have hx : xs[i]? = some xs[i] := List.getElem?_eq_getElem lt
    have lt2 : i < ys.length := by omega
    have hy : ys[i]? = some ys[i] := List.getElem?_eq_getElem lt2
    refine .inr ⟨⟨xs, ys, _, _, qx, qy, hx, hy⟩, Pv (i + 1), fun H' n => ⟨xs.length - (i + 1), by omega, rfl, lt, n⟩, ?_⟩
    rintro v H' ⟨T, x, y, rfl, nT, rfl, f1, f2⟩
    exact turn i x y H T (f1 xs qx) (f2 ys qy) pv nT
  · have e : i = xs.length := by omega
    subst e
    exact .inl ⟨⟨xs, ys, qx, qy, .inl (Nat.le_refl _)⟩, done H pv⟩

/-- the binomial number -/
def ch : Nat → Nat → Nat
  | _, 0 => 1
  | 0, _ + 1 => 0
  | n + 1, k + 1 => ch n k + ch n (k + 1)
theorem ch_over : ∀ (n k : Nat), n < k → ch n k = 0
  | 0, k + 1, _ => rfl
  | n + 1, k + 1, h => by
    show ch n k + ch n (k + 1) = 0
    rw [ch_over n k (by omega), ch_over n (k + 1) (by omega)]
theorem ch_zero (n : Nat) : ch n 0 = 1 := by cases n <;> rfl
theorem ch_le : ∀ (n k : Nat), ch n k ≤ 2 ^ n
  | n, 0 => by
    rw [ch_zero]
    exact Nat.one_le_two_pow
  | 0, k + 1 => Nat.zero_le _
  | n + 1, k + 1 => by
    show ch n k + ch n (k + 1) ≤ 2 ^ (n + 1)
    have := ch_le n k
    have := ch_le n (k + 1)
    rw [Nat.pow_succ]
    omega
def bin (n : Nat) : List Int := (List.range (n + 1)).map fun k => (ch n k : Int)
theorem bin_len (n : Nat) : (bin n).length = n + 1 := by simp [bin]
theorem bin_get {n k : Nat} (h : k ≤ n) : (bin n)[k]? = some (ch n k : Int) := by
  unfold bin
  rw [List.getElem?_map, List.getElem?_range (by omega)]
  rfl
/-- the two summands at a place -/
theorem bin_left {n k : Nat} (h : k ≤ n + 1) : (bin n ++ [0])[k]? = some (ch n k : Int) := by
  rcases Nat.lt_or_ge k (n + 1) with lt | ge
  · rw [List.getElem?_append_left (by rw [bin_len]; exact lt), bin_get (by omega)]
  · have e : k = n + 1 := by omega
    subst e
    rw [List.getElem?_append_right (by rw [bin_len]; exact Nat.le_refl _), bin_len, Nat.sub_self, ch_over n (n + 1) (by omega)]
    rfl
def low (n : Nat) : Nat → Int
  | 0 => 0
  | j + 1 => (ch n j : Int)
theorem bin_right {n k : Nat} (h : k ≤ n + 1) : ((0 : Int) :: bin n)[k]? = some (low n k) := by
  cases k with
  | zero => rfl
  | succ j =>
    rw [List.getElem?_cons_succ, bin_get (by omega)]
    rfl
theorem bin_step (n k : Nat) : (ch (n + 1) k : Int) = (ch n k : Int) + low n k := by
  cases k with
  | zero => simp [ch_zero, low]
  | succ j =>
    show ((ch n j + ch n (j + 1) : Nat) : Int) = _
    rw [Int.natCast_add]
    exact Int.add_comm _ _
end ZC

set_option Elab.async false
set_option linter.all false
set_option maxRecDepth 100000
set_option maxHeartbeats 4000000
/-! tapes as lists of tosses -/
namespace Z
open PySem PySem.Spec PyProof.Rows L2 ZC
def sg (b : Bool) : Str := if b then "H" else "T"
def word (t : List Bool) : Str := ⟨(t.map fun b => if b then 72 else 84).toArray⟩
theorem sg_len (b : Bool) : (sg b).length = 1 := by cases b <;> decide +kernel
theorem sg_cps (b : Bool) : (sg b).cps.toList = [if b then 72 else 84] := by cases b <;> decide +kernel
theorem sg_one (b : Bool) : sg b = ⟨#[if b then 72 else 84]⟩ := by cases b <;> decide +kernel
theorem sg_inj {b c : Bool} (h : sg b = sg c) : b = c := by
  cases b <;> cases c
  · rfl
  · exact absurd h (by decide +kernel)
  · exact absurd h (by decide +kernel)
  · rfl
theorem word_list (t : List Bool) : (word t).cps.toList = t.map fun b => if b then 72 else 84 := by
  unfold word
  rw [List.toList_toArray]
theorem word_len (t : List Bool) : (word t).length = t.length := by
  show (word t).cps.size = _
  rw [← Array.length_toList, word_list, List.length_map]
theorem word_at {t : List Bool} {i c : Nat} (h : (word t).cps[i]? = some c) : ∃ b, t[i]? = some b ∧ (⟨#[c]⟩ : Str) = sg b := by
  have h' : (word t).cps.toList[i]? = some c := by rw [Array.getElem?_toList]; exact h
  rw [word_list, List.getElem?_map] at h'
  cases e : t[i]? with
  | none => rw [e] at h'; cases h'
  | some b =>
    rw [e] at h'
    refine ⟨b, rfl, ?_⟩
    have ec : (if b then 72 else 84) = c := Option.some.inj h'
    rw [← ec, ← sg_one]
theorem str_ext {x y : Str} (e : x.cps.toList = y.cps.toList) : x = y := by
  obtain ⟨x⟩ := x
  obtain ⟨y⟩ := y
  exact congrArg Str.mk (Array.toList_inj.mp e)
theorem word_app (t u : List Bool) : word t ++ word u = word (t ++ u) := by
  refine str_ext ?_
  show ((word t).cps ++ (word u).cps).toList = _
  rw [Array.toList_append, word_list, word_list, word_list, List.map_append]
theorem word_one (b : Bool) : word [b] = sg b := str_ext (by rw [word_list, sg_cps]; rfl)
theorem word_snoc (t : List Bool) (b : Bool) : word t ++ sg b = word (t ++ [b]) := by rw [← word_one, word_app]
theorem word_cons (t : List Bool) (b : Bool) : sg b ++ word t = word (b :: t) := by rw [← word_one, word_app]; rfl
theorem cut_word {t : List Bool} {j k : Nat} (h : j ≤ k) (h' : k ≤ t.length) : cutS (word t) (some (j : Int)) (some (k : Int)) = word ((t.drop j).take (k - j)) := by
  have e1 : HT.sIx (word t).length 0 (some (j : Int)) = j := by
    rw [HT.sIx_nat, word_len]
    omega
  have e2 : HT.sIx (word t).length (word t).length (some (k : Int)) = k := by
    rw [HT.sIx_nat, word_len]
    omega
  refine str_ext ?_
  unfold cutS
  rw [e1, e2, List.toList_toArray, word_list, word_list, List.map_take, List.map_drop]
def hd (t : List Bool) : Nat := t.count true
theorem count_H (t : List Bool) : Txt.count (word t) "H" = (hd t : Int) := by
  have e : (("H" : String) : Str) = ⟨#[72]⟩ := by decide +kernel
  rw [e, CO.count_one, word_list]
  unfold hd
  congr 1
  induction t with
  | nil => rfl
  | cons b t ih =>
    rw [List.map_cons, List.count_cons, List.count_cons, ih]
    cases b <;> rfl
theorem hd_le (t : List Bool) : hd t ≤ t.length := List.count_le_length
/-- the rank of a tape among those with as many heads -/
def rk : List Bool → Nat
  | [] => 0
  | true :: t => rk t
  | false :: t => (if 0 < hd t then ch t.length (hd t - 1) else 0) + rk t
end Z

set_option Elab.async false
set_option linter.all false
set_option maxRecDepth 100000
set_option maxHeartbeats 4000000
namespace Z
open PySem PySem.Spec PyProof.Rows L2 GG
/-! ways through a machine -/
def place (ps : List Pl) (a : Int) : Pl := ps.getD a.toNat .never
theorem place_get {ps : List Pl} {a : Int} {p : Pl} (h : ps[a.toNat]? = some p) : place ps a = p := by
  unfold place
  rw [List.getD_eq_getElem?_getD, h]
  rfl
theorem Mach.at {H : Hp} {m : Addr} {ps : List Pl} (hm : Mach H m ps) (hw : WF ps) {a : Int} (h0 : 0 ≤ a) (h1 : a < ps.length) : ∃ (rs : List V) (t : Addr), H m = some (.tup rs) ∧ atI rs a = some (.ref t) ∧ H t = some (.tup (place ps a).row) := by
  obtain ⟨rs, em, pl⟩ := hm
  obtain ⟨p, hp, _⟩ := hw.get h0 h1
  obtain ⟨t, ht, et⟩ := pl.get hp
  rw [place_get hp]
  obtain ⟨j, rfl⟩ : ∃ j : Nat, a = (j : Int) := ⟨a.toNat, by omega⟩
  exact ⟨rs, t, em, atI_nat (by rw [Int.toNat_natCast] at ht; exact ht), et⟩
def In (ps : List Pl) (a : Int) : Prop := 0 ≤ a ∧ a < ps.length
theorem wf_succ {ps : List Pl} (hw : WF ps) {a x y : Int} (h : In ps a) (e : place ps a = .toss x y) : In ps x ∧ In ps y := by
  obtain ⟨p, hp, okp⟩ := hw.get h.1 h.2
  rw [place_get hp] at e
  subst e
  obtain ⟨a1, a2, a3, a4⟩ := okp
  exact ⟨⟨a1, a2⟩, a3, a4⟩
inductive Rch (ps : List Pl) (s : Int) : Int → Prop
  | here : Rch ps s s
  | heads {k x y : Int} : Rch ps s k → place ps k = .toss x y → Rch ps s x
  | tails {k x y : Int} : Rch ps s k → place ps k = .toss x y → Rch ps s y
theorem Rch.inn {ps : List Pl} (hw : WF ps) {s k : Int} (hs : In ps s) (h : Rch ps s k) : In ps k := by
  induction h with
  | here => exact hs
  | heads _ e ih => exact (wf_succ hw ih e).1
  | tails _ e ih => exact (wf_succ hw ih e).2
theorem Rch.trans {ps : List Pl} {a b c : Int} (h : Rch ps a b) (g : Rch ps b c) : Rch ps a c := by
  induction g with
  | here => exact h
  | heads _ e ih => exact ih.heads e
  | tails _ e ih => exact ih.tails e
/-- what holds at the start and is handed on holds at all that is reached -/
theorem Rch.all {ps : List Pl} {s : Int} {S : Int → Prop} (h0 : S s) (h : ∀ k x y, S k → place ps k = .toss x y → S x ∧ S y) {k : Int} (r : Rch ps s k) : S k := by
  induction r with
  | here => exact h0
  | heads _ e ih => exact (h _ _ _ ih e).1
  | tails _ e ih => exact (h _ _ _ ih e).2
/-! lists of places -/
theorem nodup_len : ∀ (n : Nat) (l : List Int), l.Nodup → (∀ x ∈ l, 0 ≤ x ∧ x < n) → l.length ≤ n
  | 0, l, _, h => by
    cases l with
    | nil => exact Nat.le_refl _
    | cons x r =>
      have := h x List.mem_cons_self
      omega
  | n + 1, l, nd, h => by
    have h2 := nodup_len n (l.filter (· ≠ (n : Int))) (nd.filter _) fun x hx => by
      rw [List.mem_filter] at hx
      have := h x hx.1
      have e : x ≠ n := by simpa using hx.2
      omega
    have h3 : ∀ l : List Int, l.Nodup → l.length ≤ (l.filter (· ≠ (n : Int))).length + 1 := fun l => by
      induction l with
      | nil => intro _; exact Nat.zero_le _
      | cons x r ih =>
        intro nd
        have nd' := List.nodup_cons.mp nd
        by_cases e : x = n
        · subst e
          rw [List.filter_cons_of_neg (by simp)]
          have : r.filter (· ≠ (n : Int)) = r := by
            rw [List.filter_eq_self]
            intro y hy
            have : y ≠ n := fun z => nd'.1 (z ▸ hy)
            simpa using this
          rw [this, List.length_cons]
          exact Nat.le_refl _
        · rw [List.filter_cons_of_pos (by simpa using e), List.length_cons, List.length_cons]
          have := ih nd'.2
          omega
    have := h3 l nd
    omega
theorem lt_unique : ∀ {xs ys : List Int}, xs.Pairwise (· < ·) → ys.Pairwise (· < ·) → (∀ k, k ∈ xs ↔ k ∈ ys) → xs = ys
  | [], [], _, _, _ => rfl
  | [], y :: ys, _, _, h => absurd ((h y).mpr List.mem_cons_self) List.not_mem_nil
  | x :: xs, [], _, _, h => absurd ((h x).mp List.mem_cons_self) List.not_mem_nil
  | x :: xs, y :: ys, hx, hy, h => by
    have hx' := List.pairwise_cons.mp hx
    have hy' := List.pairwise_cons.mp hy
    have e : x = y := by
      rcases List.mem_cons.mp ((h x).mp List.mem_cons_self) with e | m
      · exact e
      · rcases List.mem_cons.mp ((h y).mpr List.mem_cons_self) with e | m2
        · exact e.symm
        · have := hx'.1 y m2
          have := hy'.1 x m
          omega
    subst e
    congr 1
    refine lt_unique hx'.2 hy'.2 fun k => ⟨fun m => ?_, fun m => ?_⟩
    · rcases List.mem_cons.mp ((h k).mp (List.mem_cons_of_mem _ m)) with e | m2
      · have := hx'.1 k m
        omega
      · exact m2
    · rcases List.mem_cons.mp ((h k).mpr (List.mem_cons_of_mem _ m)) with e | m2
      · have := hy'.1 k m
        omega
      · exact m2
theorem le_lt : ∀ {xs : List Int}, xs.Pairwise (· ≤ ·) → xs.Nodup → xs.Pairwise (· < ·)
  | [], _, _ => .nil
  | x :: xs, h, nd => by
    have h' := List.pairwise_cons.mp h
    have nd' := List.nodup_cons.mp nd
    refine List.pairwise_cons.mpr ⟨fun y hy => ?_, le_lt h'.2 nd'.2⟩
    have := h'.1 y hy
    have : x ≠ y := fun e => nd'.1 (e ▸ hy)
    omega
/-- the places that are reached, in order -/
def Places (ps : List Pl) (s : Int) (ks : List Int) : Prop := ks.Pairwise (· < ·) ∧ ∀ k, k ∈ ks ↔ Rch ps s k
theorem Places.eq {ps : List Pl} {s : Int} {xs ys : List Int} (h : Places ps s xs) (g : Places ps s ys) : xs = ys := lt_unique h.1 g.1 fun k => (h.2 k).trans (g.2 k).symm
theorem lt_nodup : ∀ {xs : List Int}, xs.Pairwise (· < ·) → xs.Nodup
  | [], _ => .nil
  | x :: xs, h => by
    have h' := List.pairwise_cons.mp h
    refine List.nodup_cons.mpr ⟨fun m => ?_, lt_nodup h'.2⟩
    have := h'.1 x m
    omega
theorem Places.len {ps : List Pl} (hw : WF ps) {s : Int} (hs : In ps s) {ks : List Int} (h : Places ps s ks) : ks.length ≤ ps.length := nodup_len _ _ (lt_nodup h.1) fun k hk => ((h.2 k).mp hk).inn hw hs
theorem places_of {ps : List Pl} {s : Int} {ks ls : List Int} (nd : ks.Nodup) (hk : ∀ k, k ∈ ks ↔ Rch ps s k) (pm : ls.Perm ks) (pw : ls.Pairwise (· ≤ ·)) : Places ps s ls :=
  ⟨le_lt pw (pm.nodup_iff.mpr nd), fun k => (pm.mem_iff).trans (hk k)⟩
/-! ends within so many tosses -/
def eB (ps : List Pl) : Nat → Int → Bool
  | 0, k => match place ps k with
    | .fin _ => true
    | _ => false
  | j + 1, k => eB ps j k || match place ps k with
    | .toss x y => eB ps j x || eB ps j y
    | _ => false
def lvl (ps : List Pl) (d : Nat) (k : Int) : Option Nat := (List.range (d + 1)).find? fun j => eB ps j k
theorem eB_up {ps : List Pl} {j : Nat} {k : Int} (h : eB ps j k = true) : eB ps (j + 1) k = true := by
  show (eB ps j k || _) = true
  rw [h, Bool.true_or]
theorem eB_le {ps : List Pl} {i j : Nat} {k : Int} (l : i ≤ j) (h : eB ps i k = true) : eB ps j k = true := by
  induction l with
  | refl => exact h
  | step _ ih => exact eB_up ih
theorem lvl_none {ps : List Pl} {d : Nat} {k : Int} : lvl ps d k = none ↔ eB ps d k = false := by
  unfold lvl
  rw [List.find?_eq_none]
  constructor
  · intro h
    have := h d (List.mem_range.mpr (Nat.lt_succ_self d))
    simpa using this
  · intro h j hj e
    have := eB_le (Nat.le_of_lt_succ (List.mem_range.mp hj)) e
    rw [h] at this
    cases this
theorem lvl_succ (ps : List Pl) (d : Nat) (k : Int) : lvl ps (d + 1) k = (match lvl ps d k with | some j => some j | none => if eB ps (d + 1) k then some (d + 1) else none) := by
  unfold lvl
  rw [List.range_succ, List.find?_append]
  cases h : (List.range (d + 1)).find? fun j => eB ps j k with
  | some j => rfl
  | none =>
    rw [Option.none_or, List.find?_cons]
    cases eB ps (d + 1) k <;> rfl
theorem lvl_some {ps : List Pl} {d j : Nat} {k : Int} (h : lvl ps d k = some j) : j ≤ d ∧ eB ps j k = true ∧ ∀ i, i < j → eB ps i k = false := by
  unfold lvl at h
  obtain ⟨h1, i, h2, h3, h4⟩ := List.find?_eq_some_iff_getElem.mp h
  rw [List.getElem_range] at h3
  subst h3
  rw [List.length_range] at h2
  refine ⟨by omega, h1, fun m hm => ?_⟩
  have := h4 m hm
  rw [List.getElem_range] at this
  simpa using this
theorem lvl_at {ps : List Pl} {d j : Nat} {k : Int} (l : j ≤ d) (e : eB ps j k = true) (m : ∀ i, i < j → eB ps i k = false) : lvl ps d k = some j := by
  cases h : lvl ps d k with
  | none =>
    have := lvl_none.mp h
    rw [eB_le l e] at this
    cases this
  | some i =>
    obtain ⟨_, h2, h3⟩ := lvl_some h
    rcases Nat.lt_trichotomy i j with a | a | a
    · rw [m i a] at h2
      cases h2
    · rw [a]
    · rw [h3 j a] at e
      cases e
/-- no end within d tosses, one within d + 1: a side has it just at d -/
theorem lvl_turn {ps : List Pl} {d : Nat} {k x y : Int} (e : place ps k = .toss x y) (no : lvl ps d k = none) : eB ps (d + 1) k = (decide (lvl ps d x = some d) || decide (lvl ps d y = some d)) := by
  have nk := lvl_none.mp no
  have one : ∀ z, (z = x ∨ z = y) → eB ps d z = decide (lvl ps d z = some d) := fun z hz => by
    cases h : eB ps d z with
    | true =>
      refine (decide_eq_true (lvl_at (Nat.le_refl _) h fun i hi => ?_)).symm
      cases g : eB ps i z with
      | false => rfl
      | true =>
        have : eB ps (i + 1) k = true := by
          show (eB ps i k || _) = true
          rw [e]
          rcases hz with rfl | rfl <;> simp [g]
        have := eB_le (show i + 1 ≤ d by omega) this
        rw [nk] at this
        cases this
    | false =>
      refine (decide_eq_false fun z => ?_).symm
      have := (lvl_some z).2.1
      rw [h] at this
      cases this
  show (eB ps d k || _) = _
  rw [nk, e, Bool.false_or]
  show (eB ps d x || eB ps d y) = _
  rw [one x (.inl rfl), one y (.inr rfl)]
/-- a place from which an end is reached -/
def Op (ps : List Pl) (k : Int) : Prop := ∃ e n, Rch ps k e ∧ place ps e = .fin n
theorem op_of_eB {ps : List Pl} : ∀ {j : Nat} {k : Int}, eB ps j k = true → Op ps k
  | 0, k, h => by
    cases e : place ps k with
    | fin n => exact ⟨k, n, .here, e⟩
    | toss x y => rw [eB, e] at h; cases h
    | never => rw [eB, e] at h; cases h
  | j + 1, k, h => by
    have h : (eB ps j k || match place ps k with | .toss x y => eB ps j x || eB ps j y | _ => false) = true := h
    rw [Bool.or_eq_true] at h
    rcases h with h | h
    · exact op_of_eB h
    · cases e : place ps k with
      | fin n => exact ⟨k, n, .here, e⟩
      | toss x y =>
        rw [e] at h
        have h : (eB ps j x || eB ps j y) = true := h
        rw [Bool.or_eq_true] at h
        rcases h with h | h
        · obtain ⟨z, n, r, f⟩ := op_of_eB h
          exact ⟨z, n, (Rch.here.heads e).trans r, f⟩
        · obtain ⟨z, n, r, f⟩ := op_of_eB h
          exact ⟨z, n, (Rch.here.tails e).trans r, f⟩
      | never => rw [e] at h; cases h
theorem eB_of_op {ps : List Pl} {k : Int} (h : Op ps k) : ∃ j, eB ps j k = true := by
  obtain ⟨e, n, r, f⟩ := h
  have : ∀ {a : Int}, Rch ps k a → ∀ j, eB ps j a = true → ∃ i, eB ps i k = true := fun {a} r => by
    induction r with
    | here => exact fun j h => ⟨j, h⟩
    | @heads b x y _ eb ih =>
      intro j hj
      refine ih (j + 1) ?_
      show (eB ps j b || _) = true
      rw [eb]
      simp [hj]
    | @tails b x y _ eb ih =>
      intro j hj
      refine ih (j + 1) ?_
      show (eB ps j b || _) = true
      rw [eb]
      simp [hj]
  exact this r 0 (by rw [eB, f])
/-- as many levels as places -/
theorem levels {ps : List Pl} (hw : WF ps) : ∀ (j : Nat) {k : Int}, In ps k → eB ps j k = true → (∀ i, i < j → eB ps i k = false) → ∃ l : List Int, l.length = j + 1 ∧ l.Nodup ∧ (∀ x ∈ l, In ps x) ∧ ∀ x ∈ l, ∃ i, i ≤ j ∧ eB ps i x = true ∧ ∀ h, h < i → eB ps h x = false
  | 0, k, hk, h, m => ⟨[k], rfl, by simp, fun x hx => by rw [List.mem_singleton.mp hx]; exact hk, fun x hx => by rw [List.mem_singleton.mp hx]; exact ⟨0, Nat.le_refl _, h, m⟩⟩
  | j + 1, k, hk, h, m => by
    have nk := m j (Nat.lt_succ_self j)
    have h' : (eB ps j k || match place ps k with | .toss x y => eB ps j x || eB ps j y | _ => false) = true := h
    rw [nk, Bool.false_or] at h'
    cases e : place ps k with
    | fin n => rw [e] at h'; cases h'
    | never => rw [e] at h'; cases h'
    | toss x y =>
      rw [e] at h'
      have go : ∀ z, (z = x ∨ z = y) → eB ps j z = true → ∃ l : List Int, l.length = j + 1 + 1 ∧ l.Nodup ∧ (∀ x ∈ l, In ps x) ∧ ∀ x ∈ l, ∃ i, i ≤ j + 1 ∧ eB ps i x = true ∧ ∀ h, h < i → eB ps h x = false := fun z hz hj => by
        have inz : In ps z := by
          have := wf_succ hw hk e
          rcases hz with rfl | rfl
          · exact this.1
          · exact this.2
        have mz : ∀ i, i < j → eB ps i z = false := fun i hi => by
          cases g : eB ps i z with
          | false => rfl
          | true =>
            have : eB ps (i + 1) k = true := by
              show (eB ps i k || _) = true
              rw [e]
              rcases hz with rfl | rfl <;> simp [g]
            rw [m (i + 1) (by omega)] at this
            cases this
        obtain ⟨l, l1, l2, l3, l4⟩ := levels hw j inz hj mz
        refine ⟨k :: l, by simp [l1], List.nodup_cons.mpr ⟨fun hm => ?_, l2⟩, fun x hx => ?_, fun x hx => ?_⟩
        · obtain ⟨i, hi, h1, h2⟩ := l4 k hm
          rw [m i (by omega)] at h1
          cases h1
        · rcases List.mem_cons.mp hx with rfl | hx
          · exact hk
          · exact l3 x hx
        · rcases List.mem_cons.mp hx with rfl | hx
          · exact ⟨j + 1, Nat.le_refl _, h, m⟩
          · obtain ⟨i, hi, h1⟩ := l4 x hx
            exact ⟨i, by omega, h1⟩
      have h' : (eB ps j x || eB ps j y) = true := h'
      rw [Bool.or_eq_true] at h'
      rcases h' with h' | h'
      · exact go x (.inl rfl) h'
      · exact go y (.inr rfl) h'
theorem lvl_op {ps : List Pl} (hw : WF ps) {k : Int} (hk : In ps k) : lvl ps (ps.length - 1) k = none ↔ ¬ Op ps k := by
  rw [lvl_none]
  constructor
  · intro h o
    obtain ⟨j, hj⟩ := eB_of_op o
    obtain ⟨i, hi, mi⟩ : ∃ i, eB ps i k = true ∧ ∀ h, h < i → eB ps h k = false := by
      have : ∀ j, eB ps j k = true → ∃ i, eB ps i k = true ∧ ∀ h, h < i → eB ps h k = false := fun j => by
        induction j using Nat.strongRecOn with
        | _ j ih =>
          intro hj
          by_cases q : ∃ i, i < j ∧ eB ps i k = true
          · obtain ⟨i, l, hi⟩ := q
            exact ih i l hi
          · exact ⟨j, hj, fun i l => by
              cases g : eB ps i k with
              | false => rfl
              | true => exact absurd ⟨i, l, g⟩ q⟩
      exact this j hj
    obtain ⟨l, l1, l2, l3, _⟩ := levels hw i hk hi mi
    have := nodup_len _ _ l2 l3
    have := eB_le (show i ≤ ps.length - 1 by omega) hi
    rw [h] at this
    cases this
  · intro o
    cases g : eB ps (ps.length - 1) k with
    | false => rfl
    | true => exact absurd (op_of_eB g) o
end Z

set_option Elab.async false
set_option maxRecDepth 100000
set_option maxHeartbeats 4000000
/-! a text times a number; the texts of data with words -/
namespace STR
open PySem PySem.Spec PyProof.Rows L2
theorem cps_foldl (x : Array Nat) : ∀ (n : Nat) (acc : Array Nat), ((List.replicate n x).foldl (· ++ ·) acc).toList = acc.toList ++ (List.replicate n x.toList).flatten
  | 0, acc => by simp
  | n + 1, acc => by
    rw [List.replicate_succ, List.foldl_cons, cps_foldl x n, List.replicate_succ, List.flatten_cons, Array.toList_append, List.append_assoc]
def rRepS : R2 := fun x y H Q => ∃ (z : Str) (k : Nat), x = .str z ∧ y = .int (k : Int) ∧ k < 2 ^ 40 ∧ z.length * k ≤ sizeLine ∧ ∀ r : Str, r.cps.toList = (List.replicate k z.cps.toList).flatten → Q (.str r) H
section
variable {X : Cx}
theorem op_repS : OpR X (binaryOp .Mult) rRepS := by
  intro pins s σ H x y v u Q I rx ry h
  obtain ⟨z, k, rfl, rfl, hk, hz, q⟩ := h
  obtain ⟨t, rfl⟩ := rx
  obtain ⟨t', rfl⟩ := ry
  refine PySem.P.mul_str ?_ (fun h1 h2 => ?_) (fun _ _ => ?_) ?_
  · have h1 : ¬ ((k : Nat) : Int) < -(2 ^ 63 : Int) := by omega
    have h2 : ¬ ((k : Nat) : Int) ≥ 2 ^ 63 := by omega
    rw [decide_eq_false h1, decide_eq_false h2]
    rfl
  · have hn : ¬ ((k : Nat) : Int) < 1 := h1
    have zl : z.length ≤ sizeLine := by
      have : z.length * 1 ≤ z.length * k := Nat.mul_le_mul_left _ (by omega)
      omega
    have hs : sizeLine = 16777216 := by decide
    have : (2 ^ 40 : Int) ≤ (2 ^ 63 - 1) / ((k : Nat) : Int) ∨ ((k : Nat) : Int) > 2 ^ 22 := by
      by_cases e : ((k : Nat) : Int) ≤ 2 ^ 22
      · left
        refine (Int.le_ediv_iff_mul_le (by omega)).mpr ?_
        omega
      · right; omega
    rcases this with h | h
    · omega
    · have e2 : (2 ^ 23 : Int) ≤ (2 ^ 63 - 1) / ((k : Nat) : Int) := by
        refine (Int.le_ediv_iff_mul_le (by omega)).mpr ?_
        omega
      have : z.length * 4194304 ≤ z.length * k := Nat.mul_le_mul_left _ (by omega)
      omega
  · show Builtin.Str.tooLong (z.length * ((k : Nat) : Int).toNat) = false
    rw [Int.toNat_natCast]
    unfold Builtin.Str.tooLong
    exact decide_eq_false (by omega)
  · split
    · have e0 : k = 0 := by omega
      subst e0
      exact ⟨by decide, .str _, H, I.tok _, ⟨_, rfl⟩, q _ rfl⟩
    · split
      · rename_i h2 h3
        refine ⟨.str z, H, I, ⟨_, rfl⟩, q _ ?_⟩
        rcases Bool.or_eq_true _ _ ▸ h3 with h4 | h4
        · have e1 : k = 1 := by
            have : ((k : Nat) : Int) = 1 := by simpa using h4
            omega
          subst e1
          simp
        · have e1 : z.cps = #[] := by
            have : z.cps.size = 0 := by simpa [Str.length] using h4
            exact Array.size_eq_zero_iff.mp this
          rw [e1]
          simp
      · have e : (⟨(List.replicate ((k : Nat) : Int).toNat z.cps).foldl (· ++ ·) #[]⟩ : Str).cps.toList = (List.replicate k z.cps.toList).flatten := by
          rw [Int.toNat_natCast]
          have := cps_foldl z.cps k #[]
          simpa using this
        refine ⟨?_, .str _, H, I.tok _, ⟨_, rfl⟩, q _ e⟩
        have e3 : ((⟨(List.replicate ((k : Nat) : Int).toNat z.cps).foldl (· ++ ·) #[]⟩ : Str).length) = z.length * k := by
          show Array.size _ = _
          rw [← Array.length_toList, e, List.length_flatten, List.map_replicate, List.sum_replicate_nat, Nat.mul_comm]
          rfl
        rw [e3]
        exact hz
end
end STR

set_option Elab.async false
set_option linter.all false
set_option maxRecDepth 100000
set_option maxHeartbeats 4000000
namespace Z
open PySem PySem.Spec PyProof.Rows L2 GG
abbrev sToss : Stmt := top 1
abbrev sFind : Stmt := top 3
def Pl.tosses : Pl → Bool
  | .toss _ _ => true
  | _ => false
section
variable {P : Program} {w : World} {K : PySem.W.Frag} {mg : Str → Option Value} {base : Heap}
def spToss : Sp := fun vs H Q _ => ∃ (t : Addr) (p : Pl), vs = [.ref t] ∧ H t = some (.tup p.row) ∧ Q (.bl p.tosses) H
theorem scToss : FnScope ["state"] ["state"] (defScope sToss) := ⟨rfl, rfl, rfl, by decide +kernel, rfl, by decide +kernel, by decide +kernel⟩
theorem ok_toss {f : Addr} {fd : FuncData} (F : Fun K "is_toss" "is_toss" sToss f fd) : FnOk P w K mg base CX0 1 f fd ["state"] spToss := by
  refine F.ok scToss (fun vs H Q E h => ?_) (fun cdv A outer s H vs Q E hr h => ?_)
  · obtain ⟨t, p, rfl, _⟩ := h
    rfl
  · obtain ⟨t, p, rfl, et, q⟩ := h
    refine ⟨_, (pss_one (ps_ret (pe_cmpR op_eq (pe_ix ix_tup (pv 0) pe_int (fun _ _ => rfl)) pe_str (nomark _)))), ?_⟩
    cases p with
    | toss x y =>
      refine ⟨.ref t, rfl, t, _, 0, .str "toss", rfl, rfl, SqT.of et, atI_nat (j := 0) rfl, rfl, ?_⟩
      rw [decide_eq_true rfl]
      exact q
    | fin n =>
      refine ⟨.ref t, rfl, t, _, 0, .str "end", rfl, rfl, SqT.of et, atI_nat (j := 0) rfl, rfl, ?_⟩
      rw [decide_eq_false str_toss_end]
      exact q
    | never =>
      refine ⟨.ref t, rfl, t, _, 0, .str "never", rfl, rfl, SqT.of et, atI_nat (j := 0) rfl, rfl, ?_⟩
      rw [decide_eq_false str_toss_never]
      exact q
/-! ### tapes to all places that are reached -/
inductive Goes (ps : List Pl) (s : Int) : List Bool → Int → Prop
  | nil : Goes ps s [] s
  | heads {t : List Bool} {k x y : Int} : Goes ps s t k → place ps k = .toss x y → Goes ps s (t ++ [true]) x
  | tails {t : List Bool} {k x y : Int} : Goes ps s t k → place ps k = .toss x y → Goes ps s (t ++ [false]) y
theorem Goes.rch {ps : List Pl} {s k : Int} {t : List Bool} (h : Goes ps s t k) : Rch ps s k := by
  induction h with
  | nil => exact .here
  | heads _ e ih => exact ih.heads e
  | tails _ e ih => exact ih.tails e
def tent (e : Int × List Bool) : Key × V := (.inl e.1, .str (word e.2))
/-- what is found -/
structure Fd (ps : List Pl) (s : Int) (es : List (Int × List Bool)) : Prop where
  nd : (es.map (·.1)).Nodup
  go : ∀ e ∈ es, Goes ps s e.2 e.1
  ln : ∀ e ∈ es, e.2.length ≤ es.length
  hd : s ∈ es.map (·.1)
theorem Fd.len {ps : List Pl} (hw : WF ps) {s : Int} (hs : In ps s) {es : List (Int × List Bool)} (h : Fd ps s es) : es.length ≤ ps.length := by
  have := nodup_len ps.length (es.map (·.1)) h.nd fun x hx => by
    obtain ⟨e, he, rfl⟩ := List.mem_map.mp hx
    exact (h.go e he).rch.inn hw hs
  rwa [List.length_map] at this
theorem val_tents (k : Int) : ∀ es : List (Int × List Bool), valV (es.map tent) (.inl k) = (es.find? fun e => decide (e.1 = k)).map fun e => V.str (word e.2)
  | [] => rfl
  | e :: es => by
    by_cases h : e.1 = k
    · show valV (tent e :: es.map tent) _ = _
      rw [valV_pos (p := tent e) (show (tent e).1 = _ by rw [← h]; rfl), List.find?_cons_of_pos (by simpa using h)]
      rfl
    · show valV (tent e :: es.map tent) _ = _
      rw [valV_neg (p := tent e) (fun z => h (Sum.inl.inj z)), List.find?_cons_of_neg (by simpa using h)]
      exact val_tents k es
theorem val_mem {es : List (Int × List Bool)} (nd : (es.map (·.1)).Nodup) {e : Int × List Bool} (h : e ∈ es) : valV (es.map tent) (.inl e.1) = some (.str (word e.2)) := by
  rw [val_tents]
  induction es with
  | nil => cases h
  | cons f es ih =>
    rw [List.map_cons] at nd
    have nd' := List.nodup_cons.mp nd
    rcases List.mem_cons.mp h with rfl | h
    · rw [List.find?_cons_of_pos (by simp)]
      rfl
    · rw [List.find?_cons_of_neg]
      · exact ih nd'.2 h
      · intro z
        have z : f.1 = e.1 := by simpa using z
        exact nd'.1 (z ▸ List.mem_map_of_mem h)
theorem val_no {es : List (Int × List Bool)} {k : Int} : valV (es.map tent) (.inl k) = none ↔ k ∉ es.map (·.1) := by
  rw [val_tents, Option.map_eq_none_iff, List.find?_eq_none]
  constructor
  · intro h m
    obtain ⟨e, he, rfl⟩ := List.mem_map.mp m
    exact h e he (by simp)
  · intro h e he z
    have z : e.1 = k := by simpa using z
    exact h (z ▸ List.mem_map_of_mem he)
theorem put_new {es : List (Int × List Bool)} {k : Int} {t : List Bool} (h : k ∉ es.map (·.1)) : putK (es.map tent) (.inl k) (.str (word t)) = (es ++ [(k, t)]).map tent := by
  unfold putK
  rw [if_neg, List.map_append]
  · rfl
  · rw [valV_any, val_no.mpr h]
    simp
/-- one more place -/
theorem Fd.more {ps : List Pl} {s : Int} {es : List (Int × List Bool)} (h : Fd ps s es) {k z : Int} {t : List Bool} (b : Bool) (hk : (k, t) ∈ es) (g : Goes ps s (t ++ [b]) z) (nz : z ∉ es.map (·.1)) : Fd ps s (es ++ [(z, t ++ [b])]) where
  nd := by
    rw [List.map_append, List.nodup_append]
    refine ⟨h.nd, by simp, fun a ha c hc => ?_⟩
    rw [List.mem_singleton.mp hc]
    intro e
    subst e
    exact nz ha
  go := fun e he => by
    rcases List.mem_append.mp he with he | he
    · exact h.go e he
    · rw [List.mem_singleton.mp he]
      exact g
  ln := fun e he => by
    rw [List.length_append]
    rcases List.mem_append.mp he with he | he
    · exact Nat.le_trans (h.ln e he) (Nat.le_add_right _ _)
    · rw [List.mem_singleton.mp he]
      show (t ++ [b]).length ≤ _
      rw [List.length_append]
      exact Nat.add_le_add_right (h.ln _ hk) 1
  hd := by
    rw [List.map_append]
    exact List.mem_append_left _ h.hd
def spFind : Sp := fun vs H Q _ => ∃ (m : Addr) (s : Int) (ps : List Pl), vs = [.ref m, .int s] ∧ Mach H m ps ∧ WF ps ∧ In ps s ∧
  ∀ (D : Addr) (es : List (Int × List Bool)) H', Same H H' → H D = none → H' D = some (.dK (es.map tent)) → Fd ps s es → (∀ k, k ∈ es.map (·.1) ↔ Rch ps s k) → Q (.ref D) H'
theorem scFind : FnScope ["machine", "start", "tapes", "waiting", "at", "index", "side", "successor"] ["machine", "start"] (defScope sFind) := ⟨rfl, rfl, rfl, by decide +kernel, rfl, by decide +kernel, by decide +kernel⟩
theorem ok_find {f g : Addr} {fd gd : FuncData} (F : Fun K "find_tapes" "find_tapes" sFind f fd) (T : Names mg) (GT : FnOk P w K mg base CX0 1 g gd ["state"] spToss) (PT_ : Def K mg "is_toss" g gd ["state"]) : FnOk P w K mg base CX0 2 f fd ["machine", "start"] spFind := by
  refine F.ok scFind (fun vs H Q E h => ?_) (fun cdv A outer s H vs Q E hr h => ?_)
  · obtain ⟨m, st, ps, rfl, _⟩ := h
    rfl
  · obtain ⟨m, st, ps, rfl, hm, hw, hs, q⟩ := h
    have hu64 : A.units + 3 + 64 < cLine := hr.units
    have hu : A.units + 3 + 1 < cLine := by omega
    refine ⟨_, (pss_cons (ps_set (i := 2) scFind.nd rfl (.inl rfl) (pe_disp (pps_cons (pv 1) pe_str pps_nil) (by rfl) (by rfl) (fun z => by cases z) (by decide)))
      (pss_cons (ps_set (i := 3) scFind.nd rfl (.inl rfl) (pe_lst (pa_cons (pv 1) pa_nil)))
      (pss_cons (ps_set (i := 4) scFind.nd rfl (.inl rfl) pe_int)
      (pss_cons (ps_while PassesOwn.never (pt_cmpR op_lt (pv 4) (pe_callB call_len_seq (by rfl) T.len PySem.boot_len (pa_cons (pv 3) pa_nil)) (nomark _)) (pss_cons (ps_set (i := 5) scFind.nd rfl (.inl rfl) (pe_ix ix_list (pv 3) (pv 4) (fun _ _ => rfl)))
      (pss_cons (ps_aug (i := 4) scFind.nd rfl (.inl rfl) pe_int ip_add)
      (pss_one (ps_if (pt_val (pe_call GT (hr.mono (by decide)) (by rfl) PT_.is PT_.kp PT_.bi .nil pass0 (pa_cons (pe_ix ix_tup (pv 0) (pv 5) (fun _ _ => rfl)) pa_nil))) (pss_one (ps_for PassesOwn.never rfl (pi_tup (pe_tup (pa_cons (pe_tup (pa_cons pe_str (pa_cons (pe_ix ix_tup (pe_ix ix_tup (pv 0) (pv 5) (fun _ _ => rfl)) pe_int (fun _ _ => rfl)) pa_nil))) (pa_cons (pe_tup (pa_cons pe_str (pa_cons (pe_ix ix_tup (pe_ix ix_tup (pv 0) (pv 5) (fun _ _ => rfl)) pe_int (fun _ _ => rfl)) pa_nil))) pa_nil)))) (pg_tup rfl (pgs_cons (pg_name (i := 6) scFind.nd rfl (.inl rfl)) (pgs_cons (pg_name (i := 7) scFind.nd rfl (.inl rfl)) pgs_nil))) (pss_one (ps_if (pt_cmp (pc_dnotin hu (pv 7) (pv 2))) (pss_cons (ps_dput hu (pv 2) (pv 7) (pe_op op_add_str (pe_dget hu (pv 2) (pv 5) (fun _ _ => rfl)) (pv 6)) rfl)
      (pss_one (ps_expr (pe_bm PySem.F.plainAttrs_list PySem.F.slot_list_append PySem.F.type_list_append mt_append (pv 3) (pa_cons (pv 7) pa_nil))))) pss_nil)))) pss_nil)))))
      (pss_one (ps_ret (pv 2))))))), ?_⟩
    have line : sizeLine = 16777216 := by decide
    have hl := hw.le
    refine fun D nD => ⟨_, rfl, upd_same, [(.inl st, .str "")], rfl, by show 1 ≤ 15; decide, ?_⟩
    have eE : PySem.Str.ofString "" = word [] := str_ext (by rw [word_list]; decide +kernel)
    have s1 : Same H (upd (upd H D (.dK [])) D (.dK (mergeK [] [(.inl st, .str "")]))) := fun b o e => by
      rw [upd_ne (ne_of_none e nD), upd_ne (ne_of_none e nD)]
      exact e
    have eD : upd (upd H D (.dK [])) D (.dK (mergeK [] [(.inl st, .str "")])) D = some (.dK ([(st, ([] : List Bool))].map tent)) := by
      rw [upd_same]
      show some (HO.dK [((.inl st : Key), V.str (PySem.Str.ofString ""))]) = _
      rw [eE]
      rfl
    change (_ : Hp → Prop) (upd (upd H D (.dK [])) D (.dK (mergeK [] [(.inl st, .str "")])))
    generalize upd (upd H D (.dK [])) D (.dK (mergeK [] [(.inl st, .str "")])) = H1 at s1 eD ⊢
    refine ⟨_, rfl, by show 1 ≤ sizeLine; decide, fun W nW => ?_⟩
    have DW : D ≠ W := ne_of_none eD nW
    have s2 := s1.trans (Same.upd (o := .lst [V.int st]) nW)
    have eD2 := (Same.upd (o := .lst [V.int st]) nW) _ _ eD
    have eW : upd H1 W (.lst [V.int st]) W = some (.lst (([(st, ([] : List Bool))].map (·.1)).map V.int)) := upd_same
    have nW0 : H W = none := s1.free nW
    change (_ : Hp → Prop) (upd H1 W (.lst [V.int st]))
    generalize upd H1 W (.lst [V.int st]) = H2 at s2 eD2 eW ⊢
    have fd0 : Fd ps st [(st, [])] := ⟨by simp, fun e he => by rw [List.mem_singleton.mp he]; exact .nil, fun e he => by rw [List.mem_singleton.mp he]; exact Nat.zero_le _, by simp⟩
    refine ⟨fun n σ H' => ∃ (i : Nat) (es : List (Int × List Bool)) (v5 v6 v7 : Option V), n = ps.length - i ∧ i ≤ es.length ∧ σ = [some (V.ref m), some (V.int st), some (V.ref D), some (V.ref W), some (V.int (i : Nat)), v5, v6, v7] ∧ Same H H' ∧ H' D = some (.dK (es.map tent)) ∧ H' W = some (.lst ((es.map (·.1)).map V.int)) ∧ Fd ps st es ∧ ∀ j k x y, j < i → (es.map (·.1))[j]? = some k → place ps k = .toss x y → x ∈ es.map (·.1) ∧ y ∈ es.map (·.1),
      ⟨ps.length, 0, [(st, [])], none, none, none, rfl, Nat.zero_le _, rfl, s2, eD2, eW, fd0, fun j k x y hj => absurd hj (Nat.not_lt_zero _)⟩, ?_⟩
    rintro n σ H3 ⟨i, es, v5, v6, v7, rfl, hi, rfl, s3, e3, w3, fd, cl⟩
    have hel := fd.len hw hs
    refine ⟨_, rfl, _, rfl, W, _, rfl, .inl (SqL.of w3), _, _, rfl, rfl, _, rfl, ?_⟩
    rw [List.length_map, List.length_map]
    by_cases lt : i < es.length
    · rw [decide_eq_true (show (i : Int) < (es.length : Nat) by omega)]
      refine iteT ?_
      obtain ⟨⟨k, t⟩, hk⟩ : ∃ e, es[i]? = some e := ⟨es[i], List.getElem?_eq_getElem lt⟩
      have hmem : (k, t) ∈ es := List.mem_of_getElem? hk
      have hgo := fd.go _ hmem
      have hink : In ps k := hgo.rch.inn hw hs
      have hki : (es.map (·.1))[i]? = some k := by rw [List.getElem?_map, hk]; rfl
      obtain ⟨rs, tt, em, ea, et⟩ := (hm.same s3).at hw hink.1 hink.2
      refine ⟨fun σ H' => ∃ (es' : List (Int × List Bool)) (v5 v6 v7 : Option V), i + 1 ≤ es'.length ∧ σ = [some (V.ref m), some (V.int st), some (V.ref D), some (V.ref W), some (V.int ((i + 1 : Nat) : Int)), v5, v6, v7] ∧ Same H H' ∧ H' D = some (.dK (es'.map tent)) ∧ H' W = some (.lst ((es'.map (·.1)).map V.int)) ∧ Fd ps st es' ∧ ∀ j k x y, j < i + 1 → (es'.map (·.1))[j]? = some k → place ps k = .toss x y → x ∈ es'.map (·.1) ∧ y ∈ es'.map (·.1), ?_, ?_⟩
      · rintro σ' H' ⟨es', v5, v6, v7, h1, h2, h3, h4, h5, h6, h7⟩
        exact ⟨ps.length - (i + 1), by omega, i + 1, es', v5, v6, v7, rfl, h1, h2, h3, h4, h5, h6, h7⟩
      · refine ⟨_, rfl, _, rfl, W, _, _, .int k, rfl, rfl, SqL.of w3, atI_nat (by rw [List.getElem?_map, hki]; rfl), _, rfl, _, _, rfl, rfl, ?_⟩
        refine ⟨_, rfl, _, rfl, m, rs, k, .ref tt, rfl, rfl, SqT.of em, ea, tt, _, rfl, et, _, rfl, ?_⟩
        cases e : place ps k with
        | fin n =>
          refine iteF ⟨es, some (.int k), v6, v7, lt, rfl, s3, e3, w3, fd, fun j k' x y hj hk' hp => ?_⟩
          rcases Nat.lt_or_ge j i with l | l
          · exact cl j k' x y l hk' hp
          · have ej : j = i := by omega
            rw [ej, hki] at hk'
            cases hk'
            rw [e] at hp
            cases hp
        | never =>
          refine iteF ⟨es, some (.int k), v6, v7, lt, rfl, s3, e3, w3, fd, fun j k' x y hj hk' hp => ?_⟩
          rcases Nat.lt_or_ge j i with l | l
          · exact cl j k' x y l hk' hp
          · have ej : j = i := by omega
            rw [ej, hki] at hk'
            cases hk'
            rw [e] at hp
            cases hp
        | toss x y =>
          rw [e] at et
          refine iteT ⟨_, rfl, _, rfl, m, rs, k, .ref tt, rfl, rfl, SqT.of em, ea, tt, _, 1, .int x, rfl, rfl, SqT.of et, atI_nat (j := 1) rfl, by show 2 ≤ sizeLine; decide, fun T1 n1 => ?_⟩
          have q1 := Same.upd (o := .tup [V.str (PySem.Str.ofString "H"), .int x]) n1
          have f1 : upd H3 T1 (.tup [V.str (PySem.Str.ofString "H"), .int x]) T1 = some (.tup [V.str (sg true), .int x]) := upd_same
          change (_ : Hp → Prop) (upd H3 T1 (.tup [V.str (PySem.Str.ofString "H"), .int x]))
          generalize upd H3 T1 (.tup [V.str (PySem.Str.ofString "H"), .int x]) = H4 at q1 f1 ⊢
          refine ⟨_, rfl, _, rfl, m, rs, k, .ref tt, rfl, rfl, SqT.of (q1 _ _ em), ea, tt, _, 2, .int y, rfl, rfl, SqT.of (q1 _ _ et), atI_nat (j := 2) rfl, by show 2 ≤ sizeLine; decide, fun T2 n2 => ?_⟩
          have q2 := Same.upd (o := .tup [V.str (PySem.Str.ofString "T"), .int y]) n2
          have f2 : upd H4 T2 (.tup [V.str (PySem.Str.ofString "T"), .int y]) T2 = some (.tup [V.str (sg false), .int y]) := upd_same
          change (_ : Hp → Prop) (upd H4 T2 (.tup [V.str (PySem.Str.ofString "T"), .int y]))
          generalize upd H4 T2 (.tup [V.str (PySem.Str.ofString "T"), .int y]) = H5 at q2 f2 ⊢
          refine ⟨by show 2 ≤ sizeLine; decide, fun T0 n0 => ?_⟩
          have q0 := Same.upd (o := .tup [V.ref T1, .ref T2]) n0
          have f0 : upd H5 T0 (.tup [V.ref T1, .ref T2]) T0 = some (.tup [V.ref T1, .ref T2]) := upd_same
          change (_ : Hp → Prop) (upd H5 T0 (.tup [V.ref T1, .ref T2]))
          have q123 := (q1.trans q2).trans q0
          replace f1 := q0 _ _ (q2 _ _ f1)
          replace f2 := q0 _ _ f2
          generalize upd H5 T0 (.tup [V.ref T1, .ref T2]) = H6 at q123 f0 f1 f2 ⊢
          have q3 := s3.trans q123
          replace e3 := q123 _ _ e3
          replace w3 := q123 _ _ w3
          refine ⟨T0, rfl, ⟨_, SqT.of f0⟩, for_tup (K := K) (a := T0) (xs := [V.ref T1, .ref T2]) (fun j σ H' => ∃ (es' : List (Int × List Bool)) (v6 v7 : Option V), σ = [some (V.ref m), some (V.int st), some (V.ref D), some (V.ref W), some (V.int ((i + 1 : Nat) : Int)), some (V.int k), v6, v7] ∧ Same H H' ∧ H' D = some (.dK (es'.map tent)) ∧ H' W = some (.lst ((es'.map (·.1)).map V.int)) ∧ H' T0 = some (.tup [V.ref T1, .ref T2]) ∧ H' T1 = some (.tup [V.str (sg true), .int x]) ∧ H' T2 = some (.tup [V.str (sg false), .int y]) ∧ Fd ps st es' ∧ (∃ ex, es' = es ++ ex) ∧ (1 ≤ j → x ∈ es'.map (·.1)) ∧ (2 ≤ j → y ∈ es'.map (·.1))) ⟨es, v6, v7, rfl, q3, e3, w3, f0, f1, f2, fd, ⟨[], by simp⟩, fun h => absurd h (by decide), fun h => absurd h (by decide)⟩ (fun j σ H' _ ⟨_, _, _, _, _, _, _, h, _⟩ => SqT.of h) ?_ ?_⟩
          · rintro j v σ H7 hj ⟨es', v6, v7, rfl, s7, e7, w7, g0, g1, g2, fd7, ⟨ex, hex⟩, c1, c2⟩
            have hmem7 : (k, t) ∈ es' := by rw [hex]; exact List.mem_append_left _ hmem
            obtain ⟨Tj, b, z, rfl, gj, goz, nx1, nx2⟩ : ∃ (Tj : Addr) (b : Bool) (z : Int), v = .ref Tj ∧ H7 Tj = some (.tup [V.str (sg b), .int z]) ∧ Goes ps st (t ++ [b]) z ∧ (1 ≤ j + 1 → x = z ∨ x ∈ es'.map (·.1)) ∧ (2 ≤ j + 1 → y = z ∨ y ∈ es'.map (·.1)) := by
              match j, hj with
              | 0, hj =>
                cases hj
                exact ⟨T1, true, x, rfl, g1, hgo.heads e, fun _ => .inl rfl, fun h => absurd h (by decide)⟩
              | 1, hj =>
                cases hj
                exact ⟨T2, false, y, rfl, g2, hgo.tails e, fun _ => .inr (c1 (by decide)), fun _ => .inl rfl⟩
              | j + 2, hj => cases hj
            have hsz : es'.length < sizeLine := by
              have := fd7.len hw hs
              omega
            refine ⟨Tj, _, rfl, SqT.of gj, rfl, _, _, rfl, _, _, rfl, rfl, _, rfl, _, rfl, D, _, rfl, DGet.k (k := .inl z) e7, _, rfl, ?_⟩
            by_cases hz : z ∈ es'.map (·.1)
            · have : valV (es'.map tent) (.inl z) ≠ none := fun h => val_no.mp h hz
              obtain ⟨u, hu'⟩ := Option.ne_none_iff_exists'.mp this
              rw [hu']
              refine iteF ⟨es', _, _, rfl, s7, e7, w7, g0, g1, g2, fd7, ⟨ex, hex⟩, fun h => ?_, fun h => ?_⟩
              · rcases nx1 h with rfl | h
                · exact hz
                · exact h
              · rcases nx2 h with rfl | h
                · exact hz
                · exact h
            · rw [val_no.mpr hz]
              have vk : valV (es'.map tent) (.inl k) = some (.str (word t)) := val_mem fd7.nd hmem7
              have tl : t.length ≤ 30 := by
                have := fd7.ln _ hmem7
                have := fd7.len hw hs
                have h3 : (k, t).2.length = t.length := rfl
                omega
              refine iteT ⟨_, rfl, _, rfl, D, .str (word t), rfl, by rw [← vk]; exact DGet.k (k := .inl k) e7, _, rfl, _, _, rfl, rfl, by rw [word_len, sg_len]; omega, ?_⟩
              rw [word_snoc]
              have w8 : upd H7 D (.dK (putK (es'.map tent) (.inl z) (.str (word (t ++ [b]))))) W = some (.lst ((es'.map (·.1)).map V.int)) := by
                rw [upd_ne DW.symm]
                exact w7
              have nT : ∀ {q : Addr} {xs : List V}, H7 q = some (.tup xs) → q ≠ D ∧ q ≠ W := fun h => ⟨ne_of h e7 (by intro z; cases z), ne_of h w7 (by intro z; cases z)⟩
              refine ⟨_, rfl, _, rfl, D, _, rfl, DPut.k (k := .inl z) e7 (by rw [List.length_map]; exact hsz), _, rfl, .inl ⟨rfl, _, SqL.of w8⟩, _, rfl, W, _, _, rfl, rfl, w8, by rw [List.length_map, List.length_map]; exact hsz, ?_⟩
              refine ⟨es' ++ [(z, t ++ [b])], some (.str (sg b)), some (.int z), rfl, ?_, ?_, ?_, ?_, ?_, ?_, fd7.more b hmem7 goz hz, ⟨ex ++ [(z, t ++ [b])], by rw [hex, List.append_assoc]⟩, fun h => ?_, fun h => ?_⟩
              · intro c o h
                rw [upd_ne (ne_of_none h nW0), upd_ne (ne_of_none h nD)]
                exact s7 _ _ h
              · rw [upd_ne DW, upd_same, put_new hz]
              · rw [upd_same, List.map_append, List.map_append]
                rfl
              · rw [upd_ne (nT g0).2, upd_ne (nT g0).1]
                exact g0
              · rw [upd_ne (nT g1).2, upd_ne (nT g1).1]
                exact g1
              · rw [upd_ne (nT g2).2, upd_ne (nT g2).1]
                exact g2
              · rw [List.map_append]
                rcases nx1 h with rfl | h
                · exact List.mem_append_right _ List.mem_cons_self
                · exact List.mem_append_left _ h
              · rw [List.map_append]
                rcases nx2 h with rfl | h
                · exact List.mem_append_right _ List.mem_cons_self
                · exact List.mem_append_left _ h
          · rintro σ H7 ⟨es', v6, v7, rfl, s7, e7, w7, g0, g1, g2, fd7, ⟨ex, hex⟩, c1, c2⟩
            refine ⟨es', some (.int k), v6, v7, ?_, rfl, s7, e7, w7, fd7, fun j k' a b hj hk' hp => ?_⟩
            · rw [hex, List.length_append]
              omega
            · rcases Nat.lt_or_ge j i with l | l
              · rw [hex, List.map_append, List.getElem?_append_left (by rw [List.length_map]; omega)] at hk'
                obtain ⟨ca, cb⟩ := cl j k' a b l hk' hp
                rw [hex, List.map_append]
                exact ⟨List.mem_append_left _ ca, List.mem_append_left _ cb⟩
              · have ej : j = i := by omega
                rw [ej, hex, List.map_append, List.getElem?_append_left (by rw [List.length_map]; omega), hki] at hk'
                cases hk'
                rw [e] at hp
                cases hp
                exact ⟨c1 (by show 1 ≤ 2; decide), c2 (by show 2 ≤ 2; decide)⟩
    · rw [decide_eq_false (show ¬ (i : Int) < (es.length : Nat) by omega)]
      refine iteF ⟨_, rfl, q D es H3 s3 nD e3 fd fun k => ⟨fun hk => ?_, fun hk => ?_⟩⟩
      · obtain ⟨e, he, rfl⟩ := List.mem_map.mp hk
        exact (fd.go e he).rch
      · refine hk.all (S := fun k => k ∈ es.map (·.1)) fd.hd fun a x y ha hp => ?_
        obtain ⟨j, hj, ej⟩ := List.getElem_of_mem ha
        rw [List.length_map] at hj
        exact cl j a x y (by omega) (by rw [List.getElem?_eq_getElem (by rw [List.length_map]; exact hj), ej]) hp
end
end Z

set_option Elab.async false
set_option linter.all false
set_option maxRecDepth 100000
set_option maxHeartbeats 4000000
/-! rules with the written part named, for use within comprehensions -/
namespace KX
open PySem PySem.Spec PyProof.Rows L2 GG
theorem ix_tupK {X : Cx} {K : PySem.W.Frag} (hK : X.K = K) : IxR X (rIxT K) := by
  subst hK
  exact ix_tup
theorem ix_listK {X : Cx} {K : PySem.W.Frag} (hK : X.K = K) : IxR X (rIxL K) := by
  subst hK
  exact ix_list
theorem call_tupK {X : Cx} {K : PySem.W.Frag} (hK : X.K = K) : CallR X (.type "tuple") (fun vs H Q => ∃ p ys, vs = [.ref p] ∧ ((SqL K H p ys ∧ ∀ l, H l = none → Q (.ref l) (upd H l (.tup ys))) ∨ (SqT K H p ys ∧ Q (.ref p) H))) := by
  subst hK
  exact call_tuple_of
theorem call_listK {X : Cx} {K : PySem.W.Frag} (hK : X.K = K) : CallR X (.type "list") (fun xs H Q => ∃ p ys, xs = [.ref p] ∧ (SqL K H p ys ∨ SqT K H p ys) ∧ ∀ l, H l = none → Q (.ref l) (upd H l (.lst ys))) := by
  subst hK
  exact call_list_of
theorem op_inK {X : Cx} {K : PySem.W.Frag} (hK : X.K = K) : OpR X (compareOp .In) (rIn K false) := by
  subst hK
  exact op_in_seq
theorem op_notInK {X : Cx} {K : PySem.W.Frag} (hK : X.K = K) : OpR X (compareOp .NotIn) (rIn K true) := by
  subst hK
  exact op_notIn_seq
end KX

set_option Elab.async false
set_option linter.all false
set_option maxRecDepth 100000
set_option maxHeartbeats 4000000
namespace Z
open PySem PySem.Spec PyProof.Rows L2 GG
abbrev sReach : Stmt := top 2
abbrev sDist : Stmt := top 4
section
variable {P : Program} {w : World} {K : PySem.W.Frag} {mg : Str → Option Value} {base : Heap}
structure NamesG (mg : Str → Option Value) : Prop extends Names mg where
  sorted : mg "sorted" = none
  enumerate : mg "enumerate" = none
def spReach : Sp := fun vs H Q _ => ∃ (m : Addr) (ps : List Pl), vs = [.ref m] ∧ Mach H m ps ∧ WF ps ∧ ∀ (t : Addr) (ks : List Int) H', Same H H' → H t = none → H' t = some (.tup (ks.map V.int)) → Places ps 0 ks → Q (.ref t) H'
theorem scReach : FnScope ["machine"] ["machine"] (defScope sReach) := ⟨rfl, rfl, rfl, by decide +kernel, rfl, by decide +kernel, by decide +kernel⟩
theorem in_zero {ps : List Pl} (hw : WF ps) : In ps 0 := ⟨by decide, by have := hw.ne; omega⟩
theorem ok_reach {f g : Addr} {fd gd : FuncData} (F : Fun K "reachable_states" "reachable_states" sReach f fd) (T : NamesG mg) (GF : FnOk P w K mg base CX0 2 g gd ["machine", "start"] spFind) (PF_ : Def K mg "find_tapes" g gd ["machine", "start"]) : FnOk P w K mg base CX0 3 f fd ["machine"] spReach := by
  refine F.ok scReach (fun vs H Q E h => ?_) (fun cdv A outer s H vs Q E hr h => ?_)
  · obtain ⟨m, ps, rfl, _⟩ := h
    rfl
  · obtain ⟨m, ps, rfl, hm, hw, q⟩ := h
    refine ⟨_, (pss_one (ps_ret (pe_callTy call_tuple_of (by rfl) T.tuple (by decide +kernel) (pa_cons (pe_callB (call_sortedDI rfl) (by rfl) T.sorted (by decide +kernel) (pa_cons (pe_call GF (hr.mono (by decide)) (by rfl) PF_.is PF_.kp PF_.bi .nil pass0 (pa_cons (pv 0) (pa_cons pe_int pa_nil))) pa_nil)) pa_nil)))), ?_⟩
    refine ⟨_, rfl, m, 0, ps, rfl, hm, hw, in_zero hw, fun D es H1 s1 nD eD fd hr => ?_⟩
    have hl := fd.len hw (in_zero hw)
    have h30 := hw.le
    refine ⟨D, _, es.map (·.1), rfl, .inl eD, by rw [List.map_map, List.map_map]; rfl, by rw [List.length_map]; omega, fun ys p pm pw np => ?_⟩
    refine ⟨p, _, rfl, .inl ⟨SqL.of upd_same, fun t nt => ?_⟩⟩
    have s2 := Same.upd (o := .lst (ys.map V.int)) np
    have s3 := Same.upd (o := .tup (ys.map V.int)) nt
    exact q t ys _ ((s1.trans s2).trans s3) ((s1.trans s2).free nt) upd_same (places_of fd.nd hr pm pw)
/-! distances -/
def dV : Option Nat → V
  | some j => .int (j : Nat)
  | none => .non
def dl (ps : List Pl) (n d i : Nat) : List V := (List.range n).map fun k => dV (lvl ps (if k < i then d + 1 else d) ((k : Nat) : Int))
theorem dl_len (ps : List Pl) (n d i : Nat) : (dl ps n d i).length = n := by simp [dl]
theorem dl_get {ps : List Pl} {n d i k : Nat} (h : k < n) : (dl ps n d i)[k]? = some (dV (lvl ps (if k < i then d + 1 else d) ((k : Nat) : Int))) := by
  unfold dl
  rw [List.getElem?_map, List.getElem?_range h]
  rfl
theorem dl_skip {ps : List Pl} {n d i : Nat} (e : lvl ps (d + 1) ((i : Nat) : Int) = lvl ps d ((i : Nat) : Int)) : dl ps n d i = dl ps n d (i + 1) := by
  unfold dl
  refine List.map_congr_left fun k _ => ?_
  rcases Nat.lt_trichotomy k i with a | a | a
  · rw [if_pos a, if_pos (by omega)]
  · subst a
    rw [if_neg (Nat.lt_irrefl _), if_pos (Nat.lt_succ_self _), e]
  · rw [if_neg (by omega), if_neg (by omega)]
theorem dl_set {ps : List Pl} {n d i : Nat} : (dl ps n d i).set i (dV (lvl ps (d + 1) ((i : Nat) : Int))) = dl ps n d (i + 1) := by
  refine List.ext_getElem? fun k => ?_
  rw [List.getElem?_set]
  rcases Nat.lt_or_ge k n with l | l
  · rcases Nat.lt_trichotomy k i with a | a | a
    · rw [if_neg (by omega), dl_get l, dl_get l, if_pos a, if_pos (by omega)]
    · subst a
      rw [if_pos rfl, dl_len, if_pos l, dl_get l, if_pos (Nat.lt_succ_self _)]
    · rw [if_neg (by omega), dl_get l, dl_get l, if_neg (by omega), if_neg (by omega)]
  · have h1 : (dl ps n d i)[k]? = none := List.getElem?_eq_none (by rw [dl_len]; exact l)
    have h2 : (dl ps n d (i + 1))[k]? = none := List.getElem?_eq_none (by rw [dl_len]; exact l)
    rw [h1, h2, dl_len]
    by_cases a : i = k
    · rw [if_pos a, if_neg (by omega)]
    · rw [if_neg a]
theorem dl_end (ps : List Pl) (n d : Nat) : dl ps n d n = dl ps n (d + 1) 0 := by
  unfold dl
  refine List.map_congr_left fun k hk => ?_
  rw [if_pos (List.mem_range.mp hk), if_neg (Nat.not_lt_zero _)]
theorem dl_flat (ps : List Pl) (n d i : Nat) : (dl ps n d i).all flatV = true := by
  unfold dl
  rw [List.all_map, List.all_eq_true]
  intro k _
  show flatV (dV _) = true
  cases lvl ps (if k < i then d + 1 else d) ((k : Nat) : Int) <;> rfl
theorem pl_at {H : Hp} {rs : List V} {ps : List Pl} (pl : Pls H rs ps) {i : Nat} {x : V} (hx : rs[i]? = some x) : i < ps.length ∧ ∃ t, x = .ref t ∧ H t = some (.tup (place ps ((i : Nat) : Int)).row) := by
  have hi : i < ps.length := by
    have := (List.getElem?_eq_some_iff.mp hx).1
    rwa [pl.len] at this
  have hp : ps[i]? = some ps[i] := List.getElem?_eq_getElem hi
  obtain ⟨t, ht, et⟩ := pl.get hp
  rw [hx] at ht
  refine ⟨hi, t, Option.some.inj ht, ?_⟩
  rw [place_get (p := ps[i]) (by rw [Int.toNat_natCast]; exact hp)]
  exact et
theorem eq_dV (d : Nat) (o : Option Nat) : eqV (dV o) (.int (d : Nat)) = decide (o = some d) := by
  cases o with
  | none => rfl
  | some j =>
    show ((j : Int) == (d : Int)) = _
    by_cases e : j = d
    · subst e
      simp
    · rw [decide_eq_false (by intro z; exact e (Option.some.inj z))]
      have e2 : ((j : Int) == (d : Int)) = false := by
        rw [beq_eq_false_iff_ne]
        omega
      exact e2
theorem in_two (d : Nat) (o u : Option Nat) : inV (.int (d : Nat)) [dV o, dV u] = (decide (o = some d) || decide (u = some d)) := by
  show (eqV _ _ || (eqV _ _ || false)) = _
  rw [eq_dV, eq_dV, Bool.or_false]
theorem place_in {ps : List Pl} {i : Nat} (hi : i < ps.length) : In ps ((i : Nat) : Int) := ⟨by omega, by omega⟩
theorem lvl_same {ps : List Pl} {d : Nat} {k : Int} {j : Nat} (h : lvl ps d k = some j) : lvl ps (d + 1) k = lvl ps d k := by
  rw [lvl_succ, h]
theorem lvl_still {ps : List Pl} {d : Nat} {k : Int} (h : lvl ps d k = none) (e : eB ps (d + 1) k = false) : lvl ps (d + 1) k = lvl ps d k := by
  rw [lvl_succ, h, e]
  rfl
def spDist : Sp := fun vs H Q _ => ∃ (m : Addr) (ps : List Pl), vs = [.ref m] ∧ Mach H m ps ∧ WF ps ∧ ∀ (t : Addr) H', Same H H' → H t = none → H' t = some (.tup (dl ps ps.length (ps.length - 1) 0)) → Q (.ref t) H'
theorem scDist : FnScope ["machine", "distances", "distance", "index", "state"] ["machine"] (defScope sDist) := ⟨rfl, rfl, rfl, by decide +kernel, rfl, by decide +kernel, by decide +kernel⟩
theorem ok_dist {f g : Addr} {fd gd : FuncData} (F : Fun K "end_distances" "end_distances" sDist f fd) (T : NamesG mg) (GT : FnOk P w K mg base CX0 1 g gd ["state"] spToss) (PT_ : Def K mg "is_toss" g gd ["state"]) : FnOk P w K mg base CX0 2 f fd ["machine"] spDist := by
  refine F.ok scDist (fun vs H Q E h => ?_) (fun cdv A outer s H vs Q E hr h => ?_)
  · obtain ⟨m, ps, rfl, _⟩ := h
    rfl
  · obtain ⟨m, ps, rfl, hm, hw, q⟩ := h
    refine ⟨_, (pss_cons (ps_setLc (i := 1) (own := [("state", 4)]) (g := gName 4) (tt := tYes) rfl scDist.nd rfl rfl (sw_true rfl rfl rfl (by decide +kernel)) (pi_tup (pv 0)) (blkOk_by (N := ["machine", "distances", "distance", "index", "state"]) (sc := defScope sDist) (own := [("state", 4)]) (by decide +kernel)) (fun _ _ _ _ _ => (pg_name (i := 4) scDist.nd rfl (.inl rfl))) (fun _ _ _ _ _ => pts_nil) (fun _ _ _ _ _ => (pe_ifExp (pt_cmpR op_eq (pe_ix (KX.ix_tupK (K := K) rfl) (pv 4) pe_int (fun _ _ => rfl)) pe_str (nomark _)) pe_int pe_non)))
      (pss_cons (ps_for PassesOwn.never rfl (pi_range2 rfl T.range (pa_cons pe_int (pa_cons (pe_callB call_len_seq (by rfl) T.len PySem.boot_len (pa_cons (pv 0) pa_nil)) pa_nil))) (pg_name (i := 2) scDist.nd rfl (.inl rfl)) (pss_one (ps_for PassesOwn.never rfl (EN.pi_pairs (by rfl) T.enumerate (pa_cons (pv 0) pa_nil)) (pg_tup rfl (pgs_cons (pg_name (i := 3) scDist.nd rfl (.inl rfl)) (pgs_cons (pg_name (i := 4) scDist.nd rfl (.inl rfl)) pgs_nil))) (pss_one (ps_if (PW.pt (pw_and (pt_cmpR op_isN (pe_ix ix_list (pv 1) (pv 3) (fun _ _ => rfl)) pe_non (nomark _)) (pw_and1 (pt_val (pe_call GT (hr.mono (by decide)) (by rfl) PT_.is PT_.kp PT_.bi .nil pass0 (pa_cons (pv 4) pa_nil)))))) (pss_one (ps_if (pt_cmpR op_in_seq (pe_op op_sub (pv 2) pe_int) (pe_tup (pa_cons (pe_ix ix_list (pv 1) (pe_ix ix_tup (pv 4) pe_int (fun _ _ => rfl)) (fun _ _ => rfl)) (pa_cons (pe_ix ix_list (pv 1) (pe_ix ix_tup (pv 4) pe_int (fun _ _ => rfl)) (fun _ _ => rfl)) pa_nil))) (by rfl)) (pss_one (ps_asg (pv 2) (pg_sub (pv 1) (pv 3) set_list))) pss_nil)) pss_nil)))))
      (pss_one (ps_ret (pe_callTy call_tuple_of (by rfl) T.tuple (by decide +kernel) (pa_cons (pv 1) pa_nil)))))), ?_⟩
    have line : sizeLine = 16777216 := by decide
    have hl := hw.le
    obtain ⟨rs, em, pl⟩ := id hm
    have rl := pl.len
    refine ⟨_, rfl, m, rfl, ⟨_, SqT.of em⟩, fun D nD => ?_⟩
    refine lc_tup (K := K) (a := m) (xs := rs) (fun i Hx => Same H Hx ∧ Hx D = some (.lst ((dl ps ps.length 0 0).take i))) ⟨Same.upd nD, upd_same⟩ (fun i Hx _ h => SqT.of (h.1 _ _ em)) ?_ ?_
    · rintro i x H1 hx ⟨s1, e1⟩
      obtain ⟨hi, t, rfl, et⟩ := pl_at pl hx
      refine ⟨rfl, ?_⟩
      dsimp only [tYes]
      refine iteT ?_
      have go : ∀ z : V, z = dV (lvl ps 0 ((i : Nat) : Int)) → ∃ acc, H1 D = some (.lst acc) ∧ acc.length < sizeLine ∧ (Same H (upd H1 D (.lst (acc ++ [z]))) ∧ upd H1 D (.lst (acc ++ [z])) D = some (.lst ((dl ps ps.length 0 0).take (i + 1)))) := fun z hz => by
        refine ⟨_, e1, by rw [List.length_take]; omega, fun b o e => by rw [upd_ne (ne_of_none e nD)]; exact s1 _ _ e, ?_⟩
        rw [upd_same, List.take_succ, dl_get hi, if_neg (Nat.not_lt_zero _), hz]
        rfl
      have l0 : lvl ps 0 ((i : Nat) : Int) = if eB ps 0 ((i : Nat) : Int) then some 0 else none := by
        show List.find? _ [0] = _
        rw [List.find?_cons]
        cases eB ps 0 ((i : Nat) : Int) <;> rfl
      cases e : place ps ((i : Nat) : Int) with
      | fin n =>
        rw [e] at et
        refine ⟨.ref t, rfl, t, _, 0, .str "end", rfl, rfl, SqT.of (s1 _ _ et), atI_nat (j := 0) rfl, rfl, _, rfl, ?_⟩
        rw [decide_eq_true rfl]
        exact iteT (go _ (by rw [l0, eB, e]; rfl))
      | toss x y =>
        rw [e] at et
        refine ⟨.ref t, rfl, t, _, 0, .str "toss", rfl, rfl, SqT.of (s1 _ _ et), atI_nat (j := 0) rfl, rfl, _, rfl, ?_⟩
        rw [decide_eq_false str_end_toss]
        exact iteF (go _ (by rw [l0, eB, e]; rfl))
      | never =>
        rw [e] at et
        refine ⟨.ref t, rfl, t, _, 0, .str "never", rfl, rfl, SqT.of (s1 _ _ et), atI_nat (j := 0) rfl, rfl, _, rfl, ?_⟩
        rw [decide_eq_false str_end_never]
        exact iteF (go _ (by rw [l0, eB, e]; rfl))
    · rintro H1 ⟨s1, e1⟩
      rw [rl, List.take_of_length_le (by rw [dl_len]; exact Nat.le_refl _)] at e1
      have n1 := hw.ne
      refine ⟨_, rfl, m, _, rfl, .inr (SqT.of (s1 _ _ em)), 1, ((ps.length : Nat) : Int), by rw [rl], ⟨by decide, by decide, by omega, by omega⟩, ?_⟩
      rw [show (((ps.length : Nat) : Int) - 1).toNat = ps.length - 1 by omega]
      refine for_range (lo := 1) (n := ps.length - 1) (fun d σ H' => ∃ v2 v3 v4 : Option V, σ = [some (V.ref m), some (V.ref D), v2, v3, v4] ∧ Same H H' ∧ H' D = some (.lst (dl ps ps.length d 0))) ⟨_, _, _, rfl, s1, e1⟩ ?_ ?_
      · rintro d σ H2 hd ⟨v2, v3, v4, rfl, s2, e2⟩
        refine ⟨_, rfl, m, rs, rfl, SqT.of (s2 _ _ em), EN.for_pairs (xs := rs) (fun i σ H' => ∃ v3 v4 : Option V, σ = [some (V.ref m), some (V.ref D), some (V.int (1 + (d : Nat))), v3, v4] ∧ Same H H' ∧ H' D = some (.lst (dl ps ps.length d i))) ⟨_, _, rfl, s2, e2⟩ (fun i σ H' _ ⟨_, _, _, s, _⟩ => SqT.of (s _ _ em)) ?_ ?_⟩
        · rintro i x σ H3 T0 hx ⟨v3, v4, rfl, s3, e3⟩ nT0
          obtain ⟨hi, t, rfl, et⟩ := pl_at pl hx
          refine ⟨T0, _, rfl, SqT.of upd_same, rfl, _, _, rfl, _, _, rfl, rfl, ?_⟩
          have q4 := Same.upd (o := .tup [.int (i : Nat), .ref t]) nT0
          have s4 := s3.trans q4
          have e4 := q4 _ _ e3
          generalize upd H3 T0 (.tup [.int (i : Nat), .ref t]) = H4 at s4 e4 ⊢
          have et4 := s4 _ _ et
          refine ⟨_, rfl, _, rfl, D, _, _, dV (lvl ps d ((i : Nat) : Int)), rfl, rfl, SqL.of e4, atI_nat (by rw [dl_get hi, if_neg (Nat.lt_irrefl _)]), rfl, _, rfl, ?_⟩
          cases hlv : lvl ps d ((i : Nat) : Int) with
          | some j =>
            rw [decide_eq_false (show ¬ dV (some j) = V.non by intro z; cases z)]
            exact iteF (iteF ⟨_, _, rfl, s4, by rw [← dl_skip (lvl_same hlv)]; exact e4⟩)
          | none =>
            rw [decide_eq_true (show dV none = V.non from rfl)]
            refine iteT ⟨_, rfl, t, _, rfl, et4, _, rfl, ?_⟩
            cases e : place ps ((i : Nat) : Int) with
            | fin n =>
              have : eB ps d ((i : Nat) : Int) = true := eB_le (Nat.zero_le d) (by rw [eB, e])
              rw [lvl_none.mp hlv] at this
              cases this
            | never =>
              have : eB ps (d + 1) ((i : Nat) : Int) = false := by
                show (eB ps d ((i : Nat) : Int) || _) = false
                rw [lvl_none.mp hlv, e]
                rfl
              exact iteF ⟨_, _, rfl, s4, by rw [← dl_skip (lvl_still hlv this)]; exact e4⟩
            | toss x y =>
              rw [e] at et4
              have two := lvl_turn e hlv
              obtain ⟨ix, iy⟩ := wf_succ hw (place_in hi) e
              obtain ⟨jx, rfl⟩ : ∃ j : Nat, x = (j : Int) := ⟨x.toNat, by have := ix.1; omega⟩
              obtain ⟨jy, rfl⟩ : ∃ j : Nat, y = (j : Int) := ⟨y.toNat, by have := iy.1; omega⟩
              have hjx : jx < ps.length := by have := ix.2; omega
              have hjy : jy < ps.length := by have := iy.2; omega
              -- what stands at a side, new or old, is d just when it was
              have same : ∀ z : Nat, decide (lvl ps (if z < i then d + 1 else d) ((z : Nat) : Int) = some d) = decide (lvl ps d ((z : Nat) : Int) = some d) := fun z => by
                by_cases l : z < i
                · rw [if_pos l, lvl_succ]
                  cases h : lvl ps d ((z : Nat) : Int) with
                  | some j => rfl
                  | none =>
                    cases eB ps (d + 1) ((z : Nat) : Int)
                    · rfl
                    · rw [decide_eq_false (by intro h; have := Option.some.inj h; omega), decide_eq_false (by intro h; cases h)]
                · rw [if_neg l]
              refine iteT ⟨_, rfl, _, _, rfl, rfl, _, rfl, _, rfl, t, _, 1, .int (jx : Nat), rfl, rfl, SqT.of et4, atI_nat (j := 1) rfl, D, _, _, _, rfl, rfl, SqL.of e4, atI_nat (dl_get hjx), _, rfl, _, rfl, t, _, 2, .int (jy : Nat), rfl, rfl, SqT.of et4, atI_nat (j := 2) rfl, D, _, _, _, rfl, rfl, SqL.of e4, atI_nat (dl_get hjy), by show 2 ≤ sizeLine; decide, fun T2 nT2 => ?_⟩
              have q5 := Same.upd (o := .tup [dV (lvl ps (if jx < i then d + 1 else d) ((jx : Nat) : Int)), dV (lvl ps (if jy < i then d + 1 else d) ((jy : Nat) : Int))]) nT2
              have e5 := q5 _ _ e4
              refine ⟨T2, _, rfl, .inr (SqT.of upd_same), rfl, ?_, _, rfl, ?_⟩
              · show (flatV (dV _) && (flatV (dV _) && true)) = true
                cases lvl ps (if jx < i then d + 1 else d) ((jx : Nat) : Int) <;> cases lvl ps (if jy < i then d + 1 else d) ((jy : Nat) : Int) <;> rfl
              · change (if (inV (V.int ((1 : Int) + (d : Nat) - 1)) _) = true then _ else _ : Prop)
                rw [show (1 : Int) + (d : Nat) - 1 = (d : Nat) by omega, in_two, same jx, same jy, ← two]
                cases he : eB ps (d + 1) ((i : Nat) : Int) with
                | true =>
                  refine iteT ⟨_, rfl, _, rfl, _, rfl, D, _, ((i : Nat) : Int), i, rfl, rfl, e5, ixN_nat (by rw [dl_len]; exact hi), ?_⟩
                  have hD : H D = none := nD
                  refine ⟨some (.int (i : Nat)), some (.ref t), rfl, fun b o h => by rw [upd_ne (ne_of_none h hD)]; exact q5 _ _ (s4 _ _ h), ?_⟩
                  rw [upd_same, ← dl_set, lvl_succ, hlv, he]
                  show _ = some (HO.lst (List.set _ i (V.int ((d + 1 : Nat) : Int))))
                  rw [show ((d + 1 : Nat) : Int) = 1 + (d : Nat) by omega]
                | false => exact iteF ⟨_, _, rfl, s4.trans q5, by rw [← dl_skip (lvl_still hlv he)]; exact e5⟩
        · rintro σ H3 ⟨v3, v4, rfl, s3, e3⟩
          rw [rl, dl_end] at e3
          exact ⟨_, _, _, rfl, s3, e3⟩
      · rintro σ H2 ⟨v2, v3, v4, rfl, s2, e2⟩
        refine ⟨_, rfl, D, _, rfl, .inl ⟨SqL.of e2, fun t nt => ?_⟩⟩
        exact q t _ (s2.trans (Same.upd nt)) (s2.free nt) upd_same
end
end Z

set_option Elab.async false
set_option linter.all false
set_option maxRecDepth 100000
set_option maxHeartbeats 4000000
/-! a comprehension over enumerate of a tuple -/
namespace EN
open PySem PySem.Spec PyProof.Rows L2
theorem lc_pairs {K : PySem.W.Frag} {a : Addr} {xs : List V} {g : TG} {tt : TT} {te : TE} {vs : List Nat} {σ : L2.St} {H1 : Hp} {D : Addr} {Qd : Hp → Prop} (Pv : Nat → Hp → Prop) (h0 : Pv 0 (upd H1 D (.lst []))) (hl : ∀ i H, i ≤ xs.length → Pv i H → SqT K H a xs)
    (turn : ∀ i x H T, xs[i]? = some x → Pv i H → H T = none → g (.ref T) (wipe σ vs) (upd H T (.tup [.int (i : Nat), x])) fun σ2 H2 => wipe σ2 vs = wipe σ vs ∧ tt σ2 H2 fun c H3 =>
      if c = true then te σ2 H3 fun y H4 => ∃ acc, H4 D = some (.lst acc) ∧ acc.length < sizeLine ∧ Pv (i + 1) (upd H4 D (.lst (acc ++ [y]))) else Pv (i + 1) H3) (done : ∀ H, Pv xs.length H → Qd H) :
    ∃ W : Nat → Nat → Hp → Prop, (∃ m, W 0 m (upd H1 D (.lst []))) ∧ ∀ i m H, W i m H →
      ((Pairs K a).stop i H ∧ Qd H) ∨ ((Pairs K a).go i H ∧ ∃ Nx : Hp → Prop, (∀ H', Nx H' → ∃ m', m' < m ∧ W (i + 1) m' H') ∧
        ∀ x H', (Pairs K a).yld i H x H' → g x (wipe σ vs) H' fun σ2 H2 => wipe σ2 vs = wipe σ vs ∧ tt σ2 H2 fun c H3 =>
          if c = true then te σ2 H3 fun y H4 => ∃ acc, H4 D = some (.lst acc) ∧ acc.length < sizeLine ∧ Nx (upd H4 D (.lst (acc ++ [y]))) else Nx H3) := by
  refine ⟨fun i m H => m = xs.length - i ∧ i ≤ xs.length ∧ Pv i H, ⟨_, rfl, Nat.zero_le _, h0⟩, ?_⟩
  rintro i m H ⟨rfl, le, pv⟩
  have qx := hl i H le pv
  rcases Nat.lt_or_ge i xs.length with lt | ge
  · have hx : xs[i]? = some xs[i] := List.getElem?_eq_getElem lt
    refine .inr ⟨⟨xs, _, qx, hx⟩, Pv (i + 1), fun H' n => ⟨xs.length - (i + 1), by omega, rfl, lt, n⟩, ?_⟩
    rintro v H' ⟨T, x, rfl, nT, rfl, f1⟩
    exact turn i x H T (f1 xs qx) pv nT
  · have e : i = xs.length := by omega
    subst e
    exact .inl ⟨⟨xs, qx, Nat.le_refl _⟩, done H pv⟩
end EN

set_option Elab.async false
set_option linter.all false
set_option maxRecDepth 100000
set_option maxHeartbeats 4000000
/-! a loop over a locked dict's keys -/
namespace FS
open PySem PySem.Spec PyProof.Rows L2 GG
theorem for_keys {d : Addr} {o : Obj} {kvs : List (Key × V)} {g : TG} {tb : TS} {D : Ends} {σ : L2.St} {H : Hp} (Pv : Nat → L2.St → Hp → Prop) (h0 : Pv 0 σ H) (hl : ∀ i σ H, Pv i σ H → H d = some (.frz o (.dK kvs)))
    (turn : ∀ i k v σ H, kvs[i]? = some (k, v) → Pv i σ H → g (kV k) σ H fun σ2 H2 => tb { D with nx := Pv (i + 1), ct := Pv (i + 1), bk := D.nx } σ2 H2) (done : ∀ σ H, Pv kvs.length σ H → D.nx σ H) :
    ∃ W : Nat → Nat → L2.St → Hp → Prop, (∃ m, W 0 m σ H) ∧ ∀ i m σ H, W i m σ H →
      ((Itk d o kvs).stop i H ∧ D.nx σ H) ∨ ((Itk d o kvs).go i H ∧ ∃ N : L2.St → Hp → Prop, (∀ σ' H', N σ' H' → ∃ m', m' < m ∧ W (i + 1) m' σ' H') ∧ ∀ x H', (Itk d o kvs).yld i H x H' → g x σ H' fun σ2 H2 => tb { D with nx := N, ct := N, bk := D.nx } σ2 H2) := by
  refine ⟨fun i m σ H => m = kvs.length - i ∧ i ≤ kvs.length ∧ Pv i σ H, ⟨kvs.length, by simp, Nat.zero_le _, h0⟩, ?_⟩
  rintro i m σ H ⟨rfl, le, pv⟩
  have hd := hl i σ H pv
  rcases Nat.lt_or_ge i kvs.length with lt | ge
  · refine .inr ⟨⟨hd, lt⟩, Pv (i + 1), fun σ' H' n => ⟨kvs.length - (i + 1), by omega, rfl, lt, n⟩, ?_⟩
    rintro v H' ⟨rfl, k, u, hk, rfl⟩
    exact turn i k u σ _ hk pv
  · have e : i = kvs.length := by omega
    subst e
    exact .inl ⟨⟨hd, Nat.le_refl _⟩, done σ H pv⟩
end FS

set_option Elab.async false
set_option linter.all false
set_option maxRecDepth 100000
set_option maxHeartbeats 4000000
namespace Z
open PySem PySem.Spec PyProof.Rows L2 GG
abbrev sCheck : Stmt := top 5
section
variable {P : Program} {w : World} {K : PySem.W.Frag} {mg : Str → Option Value} {base : Heap}
/-- what is told of a machine that may run on, and of one that ends -/
def Trap (ps : List Pl) (H : Hp) (t : Addr) : Prop := ∃ (z : List Bool) (k : Int) (a : Addr) (ks : List Int), H t = some (.tup [.str "trap", .str (word z), .ref a]) ∧ Goes ps 0 z k ∧ ¬ Op ps k ∧ H a = some (.tup (ks.map V.int)) ∧ Places ps k ks
def rankV (ps : List Pl) (ks : List Int) : List V := (List.range ps.length).map fun k => if ks.contains ((k : Nat) : Int) then dV (lvl ps (ps.length - 1) ((k : Nat) : Int)) else .non
def EndsT (ps : List Pl) (H : Hp) (t : Addr) : Prop := ∃ (a : Addr) (ks : List Int), H t = some (.tup [.str "ends", .ref a]) ∧ (∀ k, Rch ps 0 k → Op ps k) ∧ (∀ k, k ∈ ks ↔ Rch ps 0 k) ∧ H a = some (.tup (rankV ps ks))
def spCheck : Sp := fun vs H Q _ => ∃ (m : Addr) (ps : List Pl), vs = [.ref m] ∧ Mach H m ps ∧ WF ps ∧ ∀ (t : Addr) H', Same H H' → H t = none → (Trap ps H' t ∨ EndsT ps H' t) → Q (.ref t) H'
theorem scCheck : FnScope ["machine", "tapes", "distances", "index", "k", "found"] ["machine"] (defScope sCheck) := ⟨rfl, rfl, rfl, by decide +kernel, rfl, by decide +kernel, by decide +kernel⟩
theorem ok_check {f g d : Addr} {fd gd dd : FuncData} (F : Fun K "check_termination" "check_termination" sCheck f fd) (T : NamesG mg) (GF : FnOk P w K mg base CX0 2 g gd ["machine", "start"] spFind) (PF_ : Def K mg "find_tapes" g gd ["machine", "start"])
    (GD_ : FnOk P w K mg base CX0 2 d dd ["machine"] spDist) (PD_ : Def K mg "end_distances" d dd ["machine"]) : FnOk P w K mg base CX0 3 f fd ["machine"] spCheck := by
  refine F.ok scCheck (fun vs H Q E h => ?_) (fun cdv A outer s H vs Q E hr h => ?_)
  · obtain ⟨m, ps, rfl, _⟩ := h
    rfl
  · obtain ⟨m, ps, rfl, hm, hw, q⟩ := h
    have hu64 : A.units + 3 + 64 < cLine := hr.units
    have hu : A.units + 3 + 1 < cLine := by omega
    refine ⟨_, (pss_cons (ps_set (i := 1) scCheck.nd rfl (.inr rfl) (pe_call GF (hr.mono (by decide)) (by rfl) PF_.is PF_.kp PF_.bi .nil pass0 (pa_cons (pv 0) (pa_cons pe_int pa_nil))))
      (pss_cons (ps_set (i := 2) scCheck.nd rfl (.inl rfl) (pe_call GD_ (hr.mono (by decide)) (by rfl) PD_.is PD_.kp PD_.bi .nil pass0 (pa_cons (pv 0) pa_nil)))
      (pss_cons (ps_lock (ps_for PassesOwn.never rfl (pi_keys (pv 1)) (pg_name (i := 3) scCheck.nd rfl (.inl rfl)) (pss_one (ps_if (pt_cmpR op_isN (pe_ix ix_tup (pv 2) (pv 3) (fun _ _ => rfl)) pe_non (nomark _)) (pss_one (ps_ret (pe_tup (pa_cons pe_str (pa_cons (pe_dget hu (pv 1) (pv 3) (fun _ _ => rfl)) (pa_cons (pe_callTy call_tuple_of (by rfl) T.tuple (by decide +kernel) (pa_cons (pe_callB (call_sortedDI rfl) (by rfl) T.sorted (by decide +kernel) (pa_cons (pe_call GF (hr.mono (by decide)) (by rfl) PF_.is PF_.kp PF_.bi .nil pass0 (pa_cons (pv 0) (pa_cons (pv 3) pa_nil))) pa_nil)) pa_nil)) pa_nil)))))) pss_nil))))
      (pss_one (ps_ret (pe_tup (pa_cons pe_str (pa_cons (pe_callTy call_tuple_of (by rfl) T.tuple (by decide +kernel) (pa_cons (pe_lc (own := [("k", 4), ("found", 5)]) (g := gTup K 2 (gCons (gName 4) (gCons (gName 5) gNil))) (tt := tYes) rfl scCheck.nd (EN.pi_pairs (by rfl) T.enumerate (pa_cons (pv 2) pa_nil)) (blkOk_by (N := ["machine", "tapes", "distances", "index", "k", "found"]) (sc := defScope sCheck) (own := [("k", 4), ("found", 5)]) (by decide +kernel)) (fun _ _ _ _ _ => (pg_tup rfl (pgs_cons (pg_name (i := 4) scCheck.nd rfl (.inl rfl) (Or.inr rfl)) (pgs_cons (pg_name (i := 5) scCheck.nd rfl (.inl rfl) (Or.inr rfl)) pgs_nil)))) (fun _ _ _ _ _ => pts_nil) (fun _ _ _ _ _ => (pe_ifExp (pt_cmp (pc_din hu (pv 4) (pv 1))) (pv 5) pe_non))) pa_nil)) pa_nil)))))))), ?_⟩
    have line : sizeLine = 16777216 := by decide
    have hl := hw.le
    refine ⟨_, rfl, m, 0, ps, rfl, hm, hw, in_zero hw, fun D es H1 s1 nD eD fd hrc => ?_⟩
    refine ⟨_, rfl, m, ps, rfl, hm.same s1, hw, fun L H2 s2 nL eL => ?_⟩
    have hl2 := fd.len hw (in_zero hw)
    have eD2 := s2 _ _ eD
    have s02 := s1.trans s2
    have LD : L ≠ D := ne_of eL eD2 (by intro z; cases z)
    refine ⟨D, _, eD2, trivial, fun od => ?_⟩
    have eF : upd H2 D (.frz od (.dK (es.map tent))) D = some (.frz od (.dK (es.map tent))) := upd_same
    have sF : Same H (upd H2 D (.frz od (.dK (es.map tent)))) := fun b o e => by
      rw [upd_ne (ne_of_none e nD)]
      exact s02 _ _ e
    have eLF : upd H2 D (.frz od (.dK (es.map tent))) L = some (.tup (dl ps ps.length (ps.length - 1) 0)) := by
      rw [upd_ne LD]
      exact eL
    have back : upd (upd H2 D (.frz od (.dK (es.map tent)))) D (.dK (es.map tent)) = H2 := by
      funext b
      by_cases e : b = D
      · subst e
        rw [upd_same, eD2]
      · rw [upd_ne e, upd_ne e]
    have dist : ∀ {k : Int}, In ps k → atI (dl ps ps.length (ps.length - 1) 0) k = some (dV (lvl ps (ps.length - 1) k)) := fun {k} hk => by
      obtain ⟨j, rfl⟩ : ∃ j : Nat, k = (j : Int) := ⟨k.toNat, by have := hk.1; omega⟩
      exact atI_nat (dl_get (by have := hk.2; omega))
    refine ⟨_, rfl, D, od, rfl, .inl ⟨_, eF, FS.for_keys (fun i σ H' => ∃ v3 : Option V, σ = [some (V.ref m), some (V.ref D), some (V.ref L), v3, none, none] ∧ H' = upd H2 D (.frz od (.dK (es.map tent))) ∧ ∀ j k, j < i → (es.map (·.1))[j]? = some k → Op ps k) ⟨_, rfl, rfl, fun j k hj => absurd hj (Nat.not_lt_zero _)⟩ (fun i σ H' h => by obtain ⟨_, _, rfl, _⟩ := h; exact eF) ?_ ?_⟩⟩
    · rintro i k v σ H' hk ⟨v3, rfl, rfl, hop⟩
      obtain ⟨⟨k0, t⟩, he, hkv⟩ : ∃ e, es[i]? = some e ∧ tent e = (k, v) := by
        rw [List.getElem?_map] at hk
        cases e : es[i]? with
        | none => rw [e] at hk; cases hk
        | some e' => rw [e] at hk; exact ⟨e', rfl, Option.some.inj hk⟩
      have ek : k = .inl k0 := congrArg Prod.fst hkv.symm
      have ev : v = .str (word t) := congrArg Prod.snd hkv.symm
      subst ek ev
      have hmem := List.mem_of_getElem? he
      have hki : (es.map (·.1))[i]? = some k0 := by rw [List.getElem?_map, he]; rfl
      have hgo := fd.go _ hmem
      have hin : In ps k0 := hgo.rch.inn hw (in_zero hw)
      refine ⟨_, rfl, _, rfl, L, _, _, dV (lvl ps (ps.length - 1) k0), rfl, rfl, SqT.of eLF, dist hin, rfl, _, rfl, ?_⟩
      cases hlv : lvl ps (ps.length - 1) k0 with
      | some j =>
        rw [decide_eq_false (show ¬ dV (some j) = V.non by intro z; cases z)]
        refine iteF ⟨_, rfl, rfl, fun j' k' hj' hk' => ?_⟩
        rcases Nat.lt_or_ge j' i with l | l
        · exact hop j' k' l hk'
        · have e : j' = i := by omega
          rw [e, hki] at hk'
          cases hk'
          exact Classical.byContradiction fun no => by
            have := (lvl_op hw hin).mpr no
            rw [hlv] at this
            cases this
      | none =>
        have no := (lvl_op hw hin).mp hlv
        rw [decide_eq_true (show dV none = V.non from rfl)]
        have vk : valV (es.map tent) (.inl k0) = some (.str (word t)) := val_mem fd.nd hmem
        refine iteT ⟨_, rfl, _, rfl, D, .str (word t), rfl, .inl ⟨_, .inl k0, .inr ⟨od, eF⟩, rfl, vk.symm⟩, ?_⟩
        refine ⟨_, rfl, _, rfl, m, k0, ps, rfl, hm.same sF, hw, hin, fun D2 es2 H3 s3 nD2 eD3 fd2 hrc2 => ?_⟩
        have hl3 := fd2.len hw hin
        refine ⟨D2, _, es2.map (·.1), rfl, .inl eD3, by rw [List.map_map, List.map_map]; rfl, by rw [List.length_map]; omega, fun ys p pm pw np => ?_⟩
        refine ⟨p, _, rfl, .inl ⟨SqL.of upd_same, fun u nu => ?_⟩⟩
        have s4 := s3.trans (Same.upd (o := .lst (ys.map V.int)) np)
        have s5 := s4.trans (Same.upd (o := .tup (ys.map V.int)) nu)
        have eu : upd (upd H3 p (.lst (ys.map V.int))) u (.tup (ys.map V.int)) u = some (.tup (ys.map V.int)) := upd_same
        change (_ : Hp → Prop) (upd (upd H3 p (.lst (ys.map V.int))) u (.tup (ys.map V.int)))
        generalize upd (upd H3 p (.lst (ys.map V.int))) u (.tup (ys.map V.int)) = H5 at s5 eu ⊢
        refine ⟨by show 3 ≤ sizeLine; decide, fun r nr => ?_⟩
        have s6 := s5.trans (Same.upd (o := .tup [V.str (PySem.Str.ofString "trap"), .str (word t), .ref u]) nr)
        have e6 := s6 _ _ eF
        refine ⟨e6, ?_⟩
        have uD : u ≠ D := ne_of eu (s5 _ _ eF) (by intro z; cases z)
        have rD : r ≠ D := (ne_of_none (s5 _ _ eF) nr).symm
        refine q r _ ?_ ((sF.trans s5).free nr) (.inl ⟨t, k0, u, ys, ?_, hgo, no, ?_, places_of fd2.nd hrc2 pm pw⟩)
        · intro b o e
          rw [upd_ne (ne_of_none e nD)]
          exact s6 _ _ (sF _ _ e)
        · rw [upd_ne rD, upd_same]
        · rw [upd_ne uD, upd_ne (ne_of_none eu nr)]
          exact eu
    · rintro σ H' ⟨v3, rfl, rfl, hop⟩
      refine ⟨eF, ?_⟩
      rw [back]
      have allop : ∀ k, Rch ps 0 k → Op ps k := fun k hk => by
        obtain ⟨j, hj, ej⟩ := List.getElem_of_mem ((hrc k).mpr hk)
        exact hop j k (by rw [List.length_map] at hj ⊢; exact hj) (by rw [List.getElem?_eq_getElem hj, ej])
      refine ⟨_, rfl, L, _, rfl, SqT.of eL, fun E nE => ?_⟩
      refine EN.lc_pairs (K := K) (a := L) (xs := dl ps ps.length (ps.length - 1) 0) (fun i Hx => Same H2 Hx ∧ Hx E = some (.lst ((rankV ps (es.map (·.1))).take i))) ⟨Same.upd nE, upd_same⟩ (fun i Hx _ h => SqT.of (h.1 _ _ eL)) ?_ ?_
      · rintro i x Hx T0 hx ⟨sx, ex⟩ nT0
        have hi : i < ps.length := by
          have := (List.getElem?_eq_some_iff.mp hx).1
          rwa [dl_len] at this
        rw [dl_get hi, if_neg (Nat.not_lt_zero _)] at hx
        cases hx
        refine ⟨T0, _, rfl, SqT.of upd_same, rfl, _, _, rfl, _, _, rfl, rfl, rfl, ?_⟩
        dsimp only [tYes]
        have q4 := Same.upd (o := .tup [.int (i : Nat), dV (lvl ps (ps.length - 1) ((i : Nat) : Int))]) nT0
        have s4 := sx.trans q4
        have e4 := q4 _ _ ex
        generalize upd Hx T0 (.tup [.int (i : Nat), dV (lvl ps (ps.length - 1) ((i : Nat) : Int))]) = H4 at s4 e4 ⊢
        have go : ∀ z : V, z = (if (es.map (·.1)).contains ((i : Nat) : Int) then dV (lvl ps (ps.length - 1) ((i : Nat) : Int)) else .non) → ∃ acc, H4 E = some (.lst acc) ∧ acc.length < sizeLine ∧ (Same H2 (upd H4 E (.lst (acc ++ [z]))) ∧ upd H4 E (.lst (acc ++ [z])) E = some (.lst ((rankV ps (es.map (·.1))).take (i + 1)))) := fun z hz => by
          refine ⟨_, e4, by rw [List.length_take]; omega, fun b o e => by rw [upd_ne (ne_of_none e nE)]; exact s4 _ _ e, ?_⟩
          rw [upd_same, List.take_succ]
          unfold rankV
          rw [List.getElem?_map, List.getElem?_range hi, hz]
          rfl
        refine iteT ⟨_, rfl, _, rfl, D, _, rfl, DGet.k (k := .inl ((i : Nat) : Int)) (s4 _ _ eD2), _, rfl, ?_⟩
        by_cases hz : ((i : Nat) : Int) ∈ es.map (·.1)
        · have : valV (es.map tent) (.inl ((i : Nat) : Int)) ≠ none := fun h => val_no.mp h hz
          obtain ⟨u, hu'⟩ := Option.ne_none_iff_exists'.mp this
          rw [hu']
          exact iteT ⟨_, rfl, go _ (by rw [List.contains_iff_mem.mpr hz]; rfl)⟩
        · rw [val_no.mpr hz]
          exact iteF (go _ (by rw [show (es.map (·.1)).contains ((i : Nat) : Int) = false by simpa using hz]; rfl))
      · rintro Hx ⟨sx, ex⟩
        rw [dl_len, List.take_of_length_le (by simp [rankV])] at ex
        refine ⟨E, _, rfl, .inl ⟨SqL.of ex, fun a na => ?_⟩⟩
        have s4 := sx.trans (Same.upd (o := .tup (rankV ps (es.map (·.1)))) na)
        have ea : upd Hx a (.tup (rankV ps (es.map (·.1)))) a = some (.tup (rankV ps (es.map (·.1)))) := upd_same
        change (_ : Hp → Prop) (upd Hx a (.tup (rankV ps (es.map (·.1)))))
        generalize upd Hx a (.tup (rankV ps (es.map (·.1)))) = H4 at s4 ea ⊢
        refine ⟨by show 2 ≤ sizeLine; decide, fun r nr => ?_⟩
        have s5 := Same.upd (o := .tup [V.str (PySem.Str.ofString "ends"), .ref a]) nr
        exact q r _ ((s02.trans s4).trans s5) ((s02.trans s4).free nr) (.inr ⟨a, es.map (·.1), upd_same, allop, hrc, s5 _ _ ea⟩)
end
end Z

set_option Elab.async false
set_option linter.all false
set_option maxRecDepth 100000
set_option maxHeartbeats 4000000
namespace Z
open PySem PySem.Spec PyProof.Rows L2 GG
abbrev sLR : Stmt := top 16
/-- what follows a value, once for all ways to it -/
theorem at_name {i : Nat} {x : V} {σ : L2.St} {H : Hp} {nx : L2.St → Hp → Prop} (h : nx (σ.set i (some x)) H) : gName i x σ H nx := h
theorem for_tail {K : PySem.W.Frag} {te : TE} {g : TG} {tb : TS} {D : Ends} {σ : L2.St} {H : Hp} (W : V → Hp → Prop) (tail : ∀ v H', W v H' → tFor (iTup K fun _ H Q => Q v H) g tb D σ H')
    (go : (∀ v H', W v H' → tFor (iTup K fun _ H Q => Q v H) g tb D σ H') → tFor (iTup K te) g tb D σ H) : tFor (iTup K te) g tb D σ H := go tail
def sides : Pl → List Int
  | .toss x y => [x, y]
  | _ => []
theorem side_at {ps : List Pl} {k z : Int} (h : z ∈ sides (place ps k)) : ∃ x y, place ps k = .toss x y ∧ (z = x ∨ z = y) := by
  cases e : place ps k with
  | toss x y =>
    rw [e] at h
    refine ⟨x, y, rfl, ?_⟩
    simpa [sides] using h
  | fin n => rw [e] at h; cases h
  | never => rw [e] at h; cases h
theorem rch_side {ps : List Pl} {s k z : Int} (r : Rch ps s k) (h : z ∈ sides (place ps k)) : Rch ps s z := by
  obtain ⟨x, y, e, rfl | rfl⟩ := side_at h
  · exact r.heads e
  · exact r.tails e
theorem notIn_ints (z : Int) (fs : List Int) : inV (.int z) (fs.map V.int) = decide (z ∈ fs) := by
  induction fs with
  | nil => rfl
  | cons f fs ih =>
    show (eqV _ _ || inV _ _) = _
    rw [ih]
    show ((f == z) || _) = _
    by_cases e : f = z
    · subst e
      simp
    · have e2 : (f == z) = false := by simpa using e
      rw [e2, Bool.false_or]
      by_cases h : z ∈ fs
      · rw [decide_eq_true h, decide_eq_true (List.mem_cons_of_mem _ h)]
      · rw [decide_eq_false h, decide_eq_false (fun q => by
          rcases List.mem_cons.mp q with q | q
          · exact e q.symm
          · exact h q)]
section
variable {P : Program} {w : World} {K : PySem.W.Frag} {mg : Str → Option Value} {base : Heap}
def spLR : Sp := fun vs H Q _ => ∃ (m : Addr) (s : Int) (ps : List Pl), vs = [.ref m, .int s] ∧ Mach H m ps ∧ WF ps ∧ In ps s ∧ ∀ (p : Addr) (ks : List Int) H', Same H H' → H p = none → H' p = some (.lst (ks.map V.int)) → Places ps s ks → Q (.ref p) H'
theorem scLR : FnScope ["machine", "start", "found", "waiting", "place", "side"] ["machine", "start"] (defScope sLR) := ⟨rfl, rfl, rfl, by decide +kernel, rfl, by decide +kernel, by decide +kernel⟩
theorem ok_lr {f : Addr} {fd : FuncData} (F : Fun K "_law_reached" "_law_reached" sLR f fd) (mS : mg "sorted" = none) : FnOk P w K mg base CX0 1 f fd ["machine", "start"] spLR := by
  refine F.ok scLR (fun vs H Q E h => ?_) (fun cdv A outer s H vs Q E hr h => ?_)
  · obtain ⟨m, s, ps, rfl, _⟩ := h
    rfl
  · obtain ⟨m, st, ps, rfl, hm, hw, hs, q⟩ := h
    have hu : A.units + 3 + 64 < cLine := hr.units
    refine ⟨_, (pss_cons (ps_par (i := 2) (j := 3) (by rfl) scLR.nd rfl rfl (by decide) rfl rfl (pa_cons (pe_lst (pa_cons (pv 1) pa_nil)) (pa_cons (pe_lst (pa_cons (pv 1) pa_nil)) pa_nil)) (by rfl))
      (pss_cons (ps_while PassesOwn.never (pt_cmpR (op_neD hu) (pv 3) (pe_lst pa_nil) (nomark _)) (pss_cons (ps_set (i := 4) scLR.nd rfl (.inl rfl) (pe_ix ix_tup (pv 0) (pe_bm0 PySem.F.plainAttrs_list PySem.F.slot_list_pop PySem.F.type_list_pop mt_pop (pv 3)) (fun _ _ => rfl)))
      (pss_one (ps_for PassesOwn.never rfl (pi_tup (pe_ifExp (pt_cmpR op_eq (pe_ix ix_tup (pv 4) pe_int (fun _ _ => rfl)) pe_str (nomark _)) (pe_slice sl_tup (pv 4) (po_some pe_int) po_none) (pe_tup pa_nil))) (pg_name (i := 5) scLR.nd rfl (.inl rfl)) (pss_one (ps_if (pt_cmpR op_notIn_seq (pv 5) (pv 2) (by rfl)) (pss_cons (ps_expr (pe_bm PySem.F.plainAttrs_list PySem.F.slot_list_append PySem.F.type_list_append mt_append (pv 2) (pa_cons (pv 5) pa_nil)))
      (pss_one (ps_expr (pe_bm PySem.F.plainAttrs_list PySem.F.slot_list_append PySem.F.type_list_append mt_append (pv 3) (pa_cons (pv 5) pa_nil))))) pss_nil))))))
      (pss_one (ps_ret (pe_callB cr_sorted (by rfl) mS (by decide +kernel) (pa_cons (pv 2) pa_nil)))))), ?_⟩
    have line : sizeLine = 16777216 := by decide
    have hl := hw.le
    refine ⟨_, rfl, by show 1 ≤ sizeLine; decide, fun F0 nF => ?_⟩
    have s1 := Same.upd (o := .lst [V.int st]) nF
    have eF : upd H F0 (.lst [V.int st]) F0 = some (.lst (([st] : List Int).map V.int)) := upd_same
    change (_ : Hp → Prop) (upd H F0 (.lst [V.int st]))
    generalize upd H F0 (.lst [V.int st]) = H1 at s1 eF ⊢
    refine ⟨_, rfl, by show 1 ≤ sizeLine; decide, fun W0 nW => ⟨_, _, rfl, ?_⟩⟩
    have FW : F0 ≠ W0 := ne_of_none eF nW
    have nW0 : H W0 = none := s1.free nW
    have s2 := s1.trans (Same.upd (o := .lst [V.int st]) nW)
    have eF2 := (Same.upd (o := .lst [V.int st]) nW) _ _ eF
    have eW : upd H1 W0 (.lst [V.int st]) W0 = some (.lst (([st] : List Int).map V.int)) := upd_same
    change (_ : Hp → Prop) (upd H1 W0 (.lst [V.int st]))
    generalize upd H1 W0 (.lst [V.int st]) = H2 at s2 eF2 eW ⊢
    refine ⟨fun n σ H' => ∃ (fs ws : List Int) (v4 v5 : Option V), n = 2 * (ps.length - fs.length) + ws.length ∧ n ≤ 100 ∧ σ = [some (V.ref m), some (V.int st), some (V.ref F0), some (V.ref W0), v4, v5] ∧ Same H H' ∧ H' F0 = some (.lst (fs.map V.int)) ∧ H' W0 = some (.lst (ws.map V.int)) ∧ fs.Nodup ∧ (∀ k ∈ fs, Rch ps st k) ∧ st ∈ fs ∧ (∀ k ∈ ws, k ∈ fs) ∧ ∀ k ∈ fs, k ∈ ws ∨ ∀ z ∈ sides (place ps k), z ∈ fs,
      ⟨_, [st], [st], none, none, rfl, by show 2 * (ps.length - 1) + 1 ≤ 100; omega, rfl, s2, eF2, eW, by simp, fun k hk => by rw [List.mem_singleton.mp hk]; exact .here, by simp, fun k hk => hk, fun k hk => .inl hk⟩, ?_⟩
    rintro n σ H3 ⟨fs, ws, v4, v5, rfl, h100, rfl, s3, f3, w3, nd, hrch, hst, hsub, hcl⟩
    have hin : ∀ k ∈ fs, In ps k := fun k hk => (hrch k hk).inn hw hs
    have hfl := nodup_len ps.length fs nd hin
    refine ⟨_, rfl, Nat.zero_le _, fun e0 ne0 => ?_⟩
    have s4 := Same.upd (o := .lst []) ne0
    have d0 : Dp K (upd H3 e0 (.lst [])) (.ref e0) (.list []) := .lst (SqL.of upd_same) .nil
    have f4 := s4 _ _ f3
    have w4 := s4 _ _ w3
    have s34 := s3.trans s4
    change (_ : Hp → Prop) (upd H3 e0 (.lst []))
    generalize upd H3 e0 (.lst []) = H4 at s34 f4 w4 d0 ⊢
    refine ⟨.list (ws.map PyData.int), .list [], .lst (SqL.of w4) (dpInts ws), d0, PySem.W.ke_shaped_ints ws, rfl, _, rfl, ?_⟩
    rcases List.eq_nil_or_concat ws with rfl | ⟨ws', k, ew⟩
    · refine iteF ⟨_, rfl, F0, fs, rfl, SqL.of f4, by omega, fun ns' p pm pw np => ?_⟩
      refine q p ns' _ (s34.trans (Same.upd np)) (s34.free np) upd_same (places_of nd (fun k => ⟨hrch k, fun hk => ?_⟩) pm pw)
      exact hk.all (S := fun k => k ∈ fs) hst fun a x y ha hp => by
        rcases hcl a ha with h | h
        · cases h
        · rw [hp] at h
          exact ⟨h x (by simp [sides]), h y (by simp [sides])⟩
    · rw [List.concat_eq_append] at ew
      subst ew
      rw [eqv_nil (by simp)]
      have hk : k ∈ fs := hsub k (by simp)
      have hkin := hin k hk
      refine iteT ⟨fun σ H' => ∃ (fs2 ws2 : List Int) (v4 v5 : Option V), 2 * (ps.length - fs2.length) + ws2.length < 2 * (ps.length - fs.length) + (ws' ++ [k]).length ∧ σ = [some (V.ref m), some (V.int st), some (V.ref F0), some (V.ref W0), v4, v5] ∧ Same H H' ∧ H' F0 = some (.lst (fs2.map V.int)) ∧ H' W0 = some (.lst (ws2.map V.int)) ∧ fs2.Nodup ∧ (∀ k ∈ fs2, Rch ps st k) ∧ st ∈ fs2 ∧ (∀ k ∈ ws2, k ∈ fs2) ∧ ∀ k ∈ fs2, k ∈ ws2 ∨ ∀ z ∈ sides (place ps k), z ∈ fs2, ?_, ?_⟩
      · rintro σ' H' ⟨fs2, ws2, v4, v5, h0, h1, h2, h3, h4, h5, h6, h7, h8, h9⟩
        exact ⟨_, h0, fs2, ws2, v4, v5, rfl, by omega, h1, h2, h3, h4, h5, h6, h7, h8, h9⟩
      · obtain ⟨rs, tt, em, ea, et⟩ := (hm.same s34).at hw hkin.1 hkin.2
        have w4' : H4 W0 = some (.lst (ws'.map V.int ++ [V.int k])) := by rw [w4, List.map_append]; rfl
        refine ⟨_, rfl, _, rfl, .inl ⟨rfl, _, SqL.of w4'⟩, W0, _, .int k, rfl, rfl, w4', by simp, ?_⟩
        rw [List.dropLast_concat]
        have wF : W0 ≠ F0 := FW.symm
        have s5 : Same H (upd H4 W0 (.lst (ws'.map V.int))) := fun b o e => by
          rw [upd_ne (ne_of_none e nW0)]
          exact s34 _ _ e
        have f5 : upd H4 W0 (.lst (ws'.map V.int)) F0 = some (.lst (fs.map V.int)) := by
          rw [upd_ne FW]
          exact f4
        have w5 : upd H4 W0 (.lst (ws'.map V.int)) W0 = some (.lst (ws'.map V.int)) := upd_same
        have nt : ∀ {a : Addr} {xs : List V}, H4 a = some (.tup xs) → upd H4 W0 (.lst (ws'.map V.int)) a = some (.tup xs) := fun h => by
          rw [upd_ne (ne_of h w4 (by intro z; cases z))]
          exact h
        have em5 := nt em
        have et5 := nt et
        change (_ : Hp → Prop) (upd H4 W0 (.lst (ws'.map V.int)))
        generalize upd H4 W0 (.lst (ws'.map V.int)) = H5 at s5 f5 w5 em5 et5 ⊢
        refine ⟨m, rs, k, .ref tt, rfl, rfl, SqT.of em5, ea, ?_⟩
        dsimp only
        refine at_name ?_
        refine for_tail (fun v H' => ∃ T, v = .ref T ∧ Same H5 H' ∧ H' T = some (.tup ((sides (place ps k)).map V.int))) ?_ (fun t => ?_)
        rotate_left
        · cases e : place ps k with
          | toss x y =>
            rw [e] at et5
            refine ⟨_, rfl, tt, _, 0, .str "toss", rfl, rfl, SqT.of et5, atI_nat (j := 0) rfl, rfl, _, rfl, ?_⟩
            rw [decide_eq_true rfl]
            refine iteT ⟨_, rfl, ?_⟩
            dsimp only [tPart, tNoPart]
            refine ⟨1, rfl, tt, _, rfl, SqT.of et5, (fun h => absurd h.1 (by show ¬ HT.sIx 3 0 (some 1) = 0; decide)), fun T nT => t _ _ ⟨T, rfl, Same.upd nT, ?_⟩⟩
            rw [upd_same, e]
            rfl
          | fin n =>
            rw [e] at et5
            refine ⟨_, rfl, tt, _, 0, .str "end", rfl, rfl, SqT.of et5, atI_nat (j := 0) rfl, rfl, _, rfl, ?_⟩
            rw [decide_eq_false str_toss_end]
            refine iteF ⟨Nat.zero_le _, fun T nT => t _ _ ⟨T, rfl, Same.upd nT, ?_⟩⟩
            rw [upd_same, e]
            rfl
          | never =>
            rw [e] at et5
            refine ⟨_, rfl, tt, _, 0, .str "never", rfl, rfl, SqT.of et5, atI_nat (j := 0) rfl, rfl, _, rfl, ?_⟩
            rw [decide_eq_false str_toss_never]
            refine iteF ⟨Nat.zero_le _, fun T nT => t _ _ ⟨T, rfl, Same.upd nT, ?_⟩⟩
            rw [upd_same, e]
            rfl
        · rintro v H6 ⟨T, rfl, s6, eT⟩
          have f6 := s6 _ _ f5
          have w6 := s6 _ _ w5
          have s56 := s5.trans s6
          refine ⟨T, rfl, ⟨_, SqT.of eT⟩, for_tup (K := K) (a := T) (xs := (sides (place ps k)).map V.int) (fun j σ H' => ∃ (fs2 ws2 : List Int) (v5 : Option V), 2 * (ps.length - fs2.length) + ws2.length < 2 * (ps.length - fs.length) + (ws' ++ [k]).length ∧ σ = [some (V.ref m), some (V.int st), some (V.ref F0), some (V.ref W0), some (V.ref tt), v5] ∧ Same H H' ∧ H' F0 = some (.lst (fs2.map V.int)) ∧ H' W0 = some (.lst (ws2.map V.int)) ∧ H' T = some (.tup ((sides (place ps k)).map V.int)) ∧ fs2.Nodup ∧ (∀ k ∈ fs2, Rch ps st k) ∧ (∀ a ∈ fs, a ∈ fs2) ∧ (∀ a ∈ ws2, a ∈ fs2) ∧ (∀ a ∈ ws', a ∈ ws2) ∧ (∀ a ∈ fs2, a ∈ fs ∨ a ∈ ws2) ∧ ∀ i z, i < j → (sides (place ps k))[i]? = some z → z ∈ fs2) ⟨fs, ws', v5, by rw [List.length_append]; show _ < _ + (ws'.length + 1); omega, rfl, s56, f6, w6, eT, nd, hrch, fun a h => h, fun a h => hsub a (List.mem_append_left _ h), fun a h => h, fun a h => .inl h, fun i z h => absurd h (Nat.not_lt_zero _)⟩ (fun j σ H' _ ⟨_, _, _, _, _, _, _, _, h, _⟩ => SqT.of h) ?_ ?_⟩
          · rintro j v σ H7 hj ⟨fs2, ws2, v5, c0, rfl, s7, f7, w7, t7, nd7, r7, sub7, ws7, wk7, or7, cl7⟩
            obtain ⟨z, hz, rfl⟩ : ∃ z, (sides (place ps k))[j]? = some z ∧ V.int z = v := by
              rw [List.getElem?_map] at hj
              cases e : (sides (place ps k))[j]? with
              | none => rw [e] at hj; cases hj
              | some z => rw [e] at hj; exact ⟨z, rfl, Option.some.inj hj⟩
            have rz : Rch ps st z := rch_side (hrch k hk) (List.mem_of_getElem? hz)
            have len7 := nodup_len ps.length fs2 nd7 fun a ha => (r7 a ha).inn hw hs
            refine ⟨_, rfl, _, rfl, F0, _, rfl, .inl (SqL.of f7), rfl, flat_ints fs2, _, rfl, ?_⟩
            change (if (!inV (V.int z) (fs2.map V.int)) = true then _ else _ : Prop)
            rw [notIn_ints]
            by_cases hm2 : z ∈ fs2
            · rw [decide_eq_true hm2]
              refine iteF ⟨fs2, ws2, _, c0, rfl, s7, f7, w7, t7, nd7, r7, sub7, ws7, wk7, or7, fun i y hi hy => ?_⟩
              rcases Nat.lt_or_ge i j with l | l
              · exact cl7 i y l hy
              · have ei : i = j := by omega
                rw [ei, hz] at hy
                cases hy
                exact hm2
            · rw [decide_eq_false hm2]
              have w8 : upd H7 F0 (.lst (fs2.map V.int ++ [V.int z])) W0 = some (.lst (ws2.map V.int)) := by
                rw [upd_ne wF]
                exact w7
              have len8 : (fs2 ++ [z]).length ≤ ps.length := nodup_len ps.length (fs2 ++ [z]) (by
                rw [List.nodup_append]
                refine ⟨nd7, by simp, fun a ha c hc => ?_⟩
                rw [List.mem_singleton.mp hc]
                intro e
                subst e
                exact hm2 ha) fun a ha => by
                rcases List.mem_append.mp ha with ha | ha
                · exact (r7 a ha).inn hw hs
                · rw [List.mem_singleton.mp ha]
                  exact rz.inn hw hs
              rw [List.length_append] at len8
              have len8 : fs2.length + 1 ≤ ps.length := len8
              have lw : ws2.length ≤ 100 := by omega
              refine iteT ⟨_, rfl, .inl ⟨rfl, _, SqL.of f7⟩, _, rfl, F0, _, _, rfl, rfl, f7, by rw [List.length_map]; omega, _, rfl, .inl ⟨rfl, _, SqL.of w8⟩, _, rfl, W0, _, _, rfl, rfl, w8, by rw [List.length_map]; omega, ?_⟩
              refine ⟨fs2 ++ [z], ws2 ++ [z], _, ?_, rfl, ?_, ?_, ?_, ?_, ?_, ?_, ?_, ?_, ?_, ?_, ?_⟩
              · rw [List.length_append, List.length_append]
                show 2 * (ps.length - (fs2.length + 1)) + (ws2.length + 1) < _
                omega
              · intro b o h
                rw [upd_ne (ne_of_none h nW0), upd_ne (ne_of_none h nF)]
                exact s7 _ _ h
              · rw [upd_ne FW, upd_same, List.map_append]
                rfl
              · rw [upd_same, List.map_append]
                rfl
              · rw [upd_ne (ne_of t7 w7 (by intro z; cases z)), upd_ne (ne_of t7 f7 (by intro z; cases z))]
                exact t7
              · rw [List.nodup_append]
                refine ⟨nd7, by simp, fun a ha c hc => ?_⟩
                rw [List.mem_singleton.mp hc]
                intro e
                subst e
                exact hm2 ha
              · intro a ha
                rcases List.mem_append.mp ha with ha | ha
                · exact r7 a ha
                · rw [List.mem_singleton.mp ha]
                  exact rz
              · exact fun a ha => List.mem_append_left _ (sub7 a ha)
              · intro a ha
                rcases List.mem_append.mp ha with ha | ha
                · exact List.mem_append_left _ (ws7 a ha)
                · exact List.mem_append_right _ ha
              · exact fun a ha => List.mem_append_left _ (wk7 a ha)
              · intro a ha
                rcases List.mem_append.mp ha with ha | ha
                · rcases or7 a ha with h | h
                  · exact .inl h
                  · exact .inr (List.mem_append_left _ h)
                · exact .inr (List.mem_append_right _ ha)
              · intro i y hi hy
                rcases Nat.lt_or_ge i j with l | l
                · exact List.mem_append_left _ (cl7 i y l hy)
                · have ei : i = j := by omega
                  rw [ei, hz] at hy
                  cases hy
                  exact List.mem_append_right _ (by simp)
          · rintro σ H7 ⟨fs2, ws2, v5, c0, rfl, s7, f7, w7, t7, nd7, r7, sub7, ws7, wk7, or7, cl7⟩
            rw [List.length_map] at cl7
            refine ⟨fs2, ws2, _, _, c0, rfl, s7, f7, w7, nd7, r7, sub7 st hst, ws7, fun a ha => ?_⟩
            rcases or7 a ha with h | h
            · rcases hcl a h with h2 | h2
              · rcases List.mem_append.mp h2 with h3 | h3
                · exact .inl (wk7 a h3)
                · rw [List.mem_singleton.mp h3]
                  refine .inr fun z hz => ?_
                  obtain ⟨i, hi, ei⟩ := List.getElem_of_mem hz
                  exact cl7 i z hi (by rw [List.getElem?_eq_getElem hi, ei])
              · exact .inr fun z hz => sub7 z (h2 z hz)
            · exact .inl h
end
end Z

set_option Elab.async false
set_option linter.all false
set_option maxRecDepth 100000
set_option maxHeartbeats 4000000
namespace Z
open PySem PySem.Spec PyProof.Rows L2 GG
abbrev sRA : Stmt := top 8
abbrev sCE : Stmt := top 7
/-! ### what makes a coin of a machine -/
def Bad (ps : List Pl) : Prop := ∃ k, Rch ps 0 k ∧ ¬ Op ps k
def Ans (ps : List Pl) (n : Int) : Prop := ∃ k, Rch ps 0 k ∧ place ps k = .fin n
inductive CoinIs (ps : List Pl) : V → Prop
  | ends : Bad ps → CoinIs ps (.str "ends")
  | answers : ¬ Bad ps → (∃ n, Ans ps n ∧ n ≠ 0 ∧ n ≠ 1) → CoinIs ps (.str "answers")
  | sure : ¬ Bad ps → (∀ n, Ans ps n → n = 0 ∨ n = 1) → ¬ (Ans ps 0 ∧ Ans ps 1) → CoinIs ps (.str "sure")
  | coin : ¬ Bad ps → (∀ n, Ans ps n → n = 0 ∨ n = 1) → Ans ps 0 → Ans ps 1 → CoinIs ps .non
theorem CoinIs.eq {ps : List Pl} {u v : V} (h : CoinIs ps u) (g : CoinIs ps v) : u = v := by
  cases h with
  | ends a =>
    cases g with
    | ends _ => rfl
    | answers b _ => exact absurd a b
    | sure b _ _ => exact absurd a b
    | coin b _ _ _ => exact absurd a b
  | answers a b =>
    obtain ⟨n, hn, n0, n1⟩ := b
    cases g with
    | ends c => exact absurd c a
    | answers _ _ => rfl
    | sure _ c _ => rcases c n hn with e | e <;> contradiction
    | coin _ c _ _ => rcases c n hn with e | e <;> contradiction
  | sure a b c =>
    cases g with
    | ends d => exact absurd d a
    | answers _ d =>
      obtain ⟨n, hn, n0, n1⟩ := d
      rcases b n hn with e | e <;> contradiction
    | sure _ _ _ => rfl
    | coin _ _ d e => exact absurd ⟨d, e⟩ c
  | coin a b c d =>
    cases g with
    | ends e => exact absurd e a
    | answers _ e =>
      obtain ⟨n, hn, n0, n1⟩ := e
      rcases b n hn with e | e <;> contradiction
    | sure _ _ e => exact absurd ⟨c, d⟩ e
    | coin _ _ _ _ => rfl
def ansL (ps : List Pl) (ks : List Int) : List Int := ks.filterMap fun k => match place ps k with
  | .fin n => some n
  | _ => none
theorem ans_mem {ps : List Pl} {ks : List Int} (h : Places ps 0 ks) (n : Int) : n ∈ ansL ps ks ↔ Ans ps n := by
  unfold ansL
  rw [List.mem_filterMap]
  constructor
  · rintro ⟨k, hk, e⟩
    refine ⟨k, (h.2 k).mp hk, ?_⟩
    cases q : place ps k with
    | fin m => rw [q] at e; cases e; rfl
    | toss x y => rw [q] at e; cases e
    | never => rw [q] at e; cases e
  · rintro ⟨k, r, e⟩
    exact ⟨k, (h.2 k).mpr r, by rw [e]⟩
theorem ansL_snoc (ps : List Pl) (ks : List Int) (k : Int) : ansL ps (ks ++ [k]) = ansL ps ks ++ (match place ps k with | .fin n => [n] | _ => []) := by
  unfold ansL
  rw [List.filterMap_append]
  congr 1
  cases e : place ps k <;> simp [e]
theorem ansL_len (ps : List Pl) (ks : List Int) : (ansL ps ks).length ≤ ks.length := List.length_filterMap_le _ _
section
variable {P : Program} {w : World} {K : PySem.W.Frag} {mg : Str → Option Value} {base : Heap}
def spRA : Sp := fun vs H Q _ => ∃ (m : Addr) (ps : List Pl), vs = [.ref m] ∧ Mach H m ps ∧ WF ps ∧ ∀ (p : Addr) (ks : List Int) H', Same H H' → H p = none → H' p = some (.lst ((ansL ps ks).map V.int)) → Places ps 0 ks → Q (.ref p) H'
theorem scRA : FnScope ["machine", "index"] ["machine"] (defScope sRA) := ⟨rfl, rfl, rfl, by decide +kernel, rfl, by decide +kernel, by decide +kernel⟩
theorem ok_ra {f g : Addr} {fd gd : FuncData} (F : Fun K "reachable_answers" "reachable_answers" sRA f fd) (GR : FnOk P w K mg base CX0 3 g gd ["machine"] spReach) (PR : Def K mg "reachable_states" g gd ["machine"]) : FnOk P w K mg base CX0 4 f fd ["machine"] spRA := by
  refine F.ok scRA (fun vs H Q E h => ?_) (fun cdv A outer s H vs Q E hr h => ?_)
  · obtain ⟨m, ps, rfl, _⟩ := h
    rfl
  · obtain ⟨m, ps, rfl, hm, hw, q⟩ := h
    refine ⟨_, (pss_one (ps_ret (pe_lc (own := [("index", 1)]) (g := gName 1) rfl scRA.nd (pi_tup (pe_call GR (hr.mono (by decide)) (by rfl) PR.is PR.kp PR.bi .nil pass0 (pa_cons (pv 0) pa_nil))) (blkOk_by (N := ["machine", "index"]) (sc := defScope sRA) (own := [("index", 1)]) (by decide +kernel)) (fun _ _ _ _ _ => (pg_name (i := 1) scRA.nd rfl (.inl rfl))) (fun _ _ _ _ _ => (pts_one (pt_cmpR op_eq (pe_ix (KX.ix_tupK (K := K) rfl) (pe_ix (KX.ix_tupK (K := K) rfl) (pv 0) (pv 1) (fun _ _ => rfl)) pe_int (fun _ _ => rfl)) pe_str (nomark _)))) (fun _ _ _ _ _ => (pe_ix (KX.ix_tupK (K := K) rfl) (pe_ix (KX.ix_tupK (K := K) rfl) (pv 0) (pv 1) (fun _ _ => rfl)) pe_int (fun _ _ => rfl)))))), ?_⟩
    have line : sizeLine = 16777216 := by decide
    have hl := hw.le
    refine ⟨_, rfl, m, ps, rfl, hm, hw, fun t ks H1 s1 nt et hk => ?_⟩
    have hkl := hk.len hw (in_zero hw)
    refine ⟨t, rfl, ⟨_, SqT.of et⟩, fun D nD => ?_⟩
    refine lc_tup (K := K) (a := t) (xs := ks.map V.int) (fun j Hx => Same H1 Hx ∧ Hx D = some (.lst ((ansL ps (ks.take j)).map V.int))) ⟨Same.upd nD, upd_same⟩ (fun j Hx _ h => SqT.of (h.1 _ _ et)) ?_ ?_
    · rintro j x H4 hx ⟨s4, e4⟩
      obtain ⟨k, hk2, rfl⟩ : ∃ k, ks[j]? = some k ∧ V.int k = x := by
        rw [List.getElem?_map] at hx
        cases e : ks[j]? with
        | none => rw [e] at hx; cases hx
        | some z => rw [e] at hx; exact ⟨z, rfl, Option.some.inj hx⟩
      have rk : Rch ps 0 k := (hk.2 k).mp (List.mem_of_getElem? hk2)
      have hkin := rk.inn hw (in_zero hw)
      obtain ⟨rs, tt, em, ea, e2⟩ := (hm.same (s1.trans s4)).at hw hkin.1 hkin.2
      have tk : ks.take (j + 1) = ks.take j ++ [k] := by rw [List.take_succ, hk2]; rfl
      have lj : (ansL ps (ks.take j)).length ≤ 30 := by
        have := ansL_len ps (ks.take j)
        rw [List.length_take] at this
        omega
      refine ⟨rfl, ?_⟩
      cases e : place ps k with
      | fin n =>
        rw [e] at e2
        refine ⟨_, rfl, _, rfl, m, rs, k, .ref tt, rfl, rfl, SqT.of em, ea, tt, _, 0, .str "end", rfl, rfl, SqT.of e2, atI_nat (j := 0) rfl, rfl, _, rfl, ?_⟩
        rw [decide_eq_true rfl]
        refine iteT ⟨_, rfl, _, rfl, m, rs, k, .ref tt, rfl, rfl, SqT.of em, ea, tt, _, 1, .int n, rfl, rfl, SqT.of e2, atI_nat (j := 1) rfl, _, e4, by rw [List.length_map]; omega, fun b o h => by rw [upd_ne (ne_of_none h nD)]; exact s4 _ _ h, ?_⟩
        rw [upd_same, tk, ansL_snoc, e, List.map_append]
        rfl
      | toss x y =>
        rw [e] at e2
        refine ⟨_, rfl, _, rfl, m, rs, k, .ref tt, rfl, rfl, SqT.of em, ea, tt, _, 0, .str "toss", rfl, rfl, SqT.of e2, atI_nat (j := 0) rfl, rfl, _, rfl, ?_⟩
        rw [decide_eq_false str_end_toss]
        refine iteF ⟨s4, ?_⟩
        rw [tk, ansL_snoc, e, List.append_nil]
        exact e4
      | never =>
        rw [e] at e2
        refine ⟨_, rfl, _, rfl, m, rs, k, .ref tt, rfl, rfl, SqT.of em, ea, tt, _, 0, .str "never", rfl, rfl, SqT.of e2, atI_nat (j := 0) rfl, rfl, _, rfl, ?_⟩
        rw [decide_eq_false str_end_never]
        refine iteF ⟨s4, ?_⟩
        rw [tk, ansL_snoc, e, List.append_nil]
        exact e4
    · rintro H4 ⟨s4, e4⟩
      rw [List.length_map, List.take_length] at e4
      exact q D ks H4 (s1.trans s4) (s1.free nD) e4 hk
def spCE : Sp := fun vs H Q _ => ∃ (m : Addr) (ps : List Pl), vs = [.ref m] ∧ Mach H m ps ∧ WF ps ∧ ∀ v H', Same H H' → CoinIs ps v → Q v H'
theorem scCE : FnScope ["machine", "answers", "answer"] ["machine"] (defScope sCE) := ⟨rfl, rfl, rfl, by decide +kernel, rfl, by decide +kernel, by decide +kernel⟩
theorem ok_ce {f g c : Addr} {fd gd cd : FuncData} (F : Fun K "coin_error" "coin_error" sCE f fd) (mA : mg "any" = none) (GC : FnOk P w K mg base CX0 3 c cd ["machine"] spCheck) (PC_ : Def K mg "check_termination" c cd ["machine"])
    (GR : FnOk P w K mg base CX0 4 g gd ["machine"] spRA) (PR : Def K mg "reachable_answers" g gd ["machine"]) : FnOk P w K mg base CX0 5 f fd ["machine"] spCE := by
  refine F.ok scCE (fun vs H Q E h => ?_) (fun cdv A outer s H vs Q E hr h => ?_)
  · obtain ⟨m, ps, rfl, _⟩ := h
    rfl
  · obtain ⟨m, ps, rfl, hm, hw, q⟩ := h
    refine ⟨_, (pss_cons (ps_if (pt_cmpR op_eq (pe_ix ix_tup (pe_call GC (hr.mono (by decide)) (by rfl) PC_.is PC_.kp PC_.bi .nil pass0 (pa_cons (pv 0) pa_nil)) pe_int (fun _ _ => rfl)) pe_str (nomark _)) (pss_one (ps_ret pe_str)) pss_nil)
      (pss_cons (ps_set (i := 1) scCE.nd rfl (.inl rfl) (pe_call GR (hr.mono (by decide)) (by rfl) PR.is PR.kp PR.bi .nil pass0 (pa_cons (pv 0) pa_nil)))
      (pss_cons (ps_if (pt_val (pe_callB (cr_any rfl) (by rfl) mA (by decide +kernel) (pa_cons (pe_lc (own := [("answer", 2)]) (g := gName 2) (tt := tYes) rfl scCE.nd (pi_list (pv 1)) (blkOk_by (N := ["machine", "answers", "answer"]) (sc := defScope sCE) (own := [("answer", 2)]) (by decide +kernel)) (fun _ _ _ _ _ => (pg_name (i := 2) scCE.nd rfl (.inl rfl))) (fun _ _ _ _ _ => pts_nil) (fun _ _ _ _ _ => (pe_cmpR (KX.op_notInK (K := K) rfl) (pv 2) (pe_tup (pa_cons pe_int (pa_cons pe_int pa_nil))) (by rfl)))) pa_nil))) (pss_one (ps_ret pe_str)) pss_nil)
      (pss_one (ps_ret (pe_ifExp (PW.pt (pw_and (pt_cmpR op_in_seq pe_int (pv 1) (by rfl)) (pw_and1 (pt_cmpR op_in_seq pe_int (pv 1) (by rfl))))) pe_non pe_str)))))), ?_⟩
    have line : sizeLine = 16777216 := by decide
    have hl := hw.le
    refine ⟨_, rfl, m, ps, rfl, hm, hw, fun t H1 s1 nt ht => ?_⟩
    rcases ht with ⟨z, k, a, ks, et, hgo, no, _, _⟩ | ⟨a, ks, et, allop, _, _⟩
    · refine ⟨t, _, 0, .str "trap", rfl, rfl, SqT.of et, atI_nat (j := 0) rfl, rfl, _, rfl, ?_⟩
      rw [decide_eq_true rfl]
      exact iteT (q _ _ s1 (.ends ⟨k, hgo.rch, no⟩))
    · have nb : ¬ Bad ps := fun ⟨k, r, n⟩ => n (allop k r)
      refine ⟨t, _, 0, .str "ends", rfl, rfl, SqT.of et, atI_nat (j := 0) rfl, rfl, _, rfl, ?_⟩
      rw [decide_eq_false (by intro h; exact absurd (V.str.inj h) (by decide +kernel))]
      refine iteF ⟨_, rfl, m, ps, rfl, hm.same s1, hw, fun p ks2 H2 s2 np ep hk => ?_⟩
      have hkl := hk.len hw (in_zero hw)
      have hal := ansL_len ps ks2
      have s12 := s1.trans s2
      refine ⟨_, rfl, p, rfl, ⟨_, SqL.of ep⟩, fun D nD => ?_⟩
      refine lc_list (K := K) (a := p) (xs := (ansL ps ks2).map V.int) (fun j Hx => Same H2 Hx ∧ Hx D = some (.lst ((((ansL ps ks2).take j).map fun n => !decide (n ∈ ([0, 1] : List Int))).map V.bl))) ⟨Same.upd nD, upd_same⟩ (fun j Hx _ h => SqL.of (h.1 _ _ ep)) ?_ ?_
      · rintro j x H4 hx ⟨s4, e4⟩
        obtain ⟨n, hn, rfl⟩ : ∃ n, (ansL ps ks2)[j]? = some n ∧ V.int n = x := by
          rw [List.getElem?_map] at hx
          cases e : (ansL ps ks2)[j]? with
          | none => rw [e] at hx; cases hx
          | some z => rw [e] at hx; exact ⟨z, rfl, Option.some.inj hx⟩
        have hj := (List.getElem?_eq_some_iff.mp hn).1
        refine ⟨rfl, ?_⟩
        dsimp only [tYes]
        refine iteT ⟨_, rfl, by show 2 ≤ sizeLine; decide, fun T nT => ?_⟩
        have s5 := Same.upd (o := .tup [V.int 0, .int 1]) nT
        refine ⟨T, _, rfl, .inr (SqT.of upd_same), rfl, rfl, _, s5 _ _ e4, by rw [List.length_map, List.length_map, List.length_take]; omega, fun b o h => by rw [upd_ne (ne_of_none h nD)]; exact s5 _ _ (s4 _ _ h), ?_⟩
        rw [upd_same, List.take_succ, hn, List.map_append, List.map_append]
        show some (HO.lst (_ ++ [V.bl (!inV (V.int n) (([0, 1] : List Int).map V.int))])) = _
        rw [notIn_ints]
        rfl
      · rintro H4 ⟨s4, e4⟩
        rw [List.length_map, List.take_length] at e4
        refine ⟨D, _, rfl, SqL.of e4, _, rfl, ?_⟩
        have s14 := s12.trans s4
        have ea4 := s4 _ _ ep
        cases hany : (((ansL ps ks2).map fun n => !decide (n ∈ ([0, 1] : List Int))).any id) with
        | true =>
          rw [List.any_map, List.any_eq_true] at hany
          obtain ⟨n, hn, h2⟩ := hany
          have h2 : n ∉ ([0, 1] : List Int) := by simpa using h2
          refine iteT (q _ _ s14 (.answers nb ⟨n, (ans_mem hk n).mp hn, fun e => h2 (by simp [e]), fun e => h2 (by simp [e])⟩))
        | false =>
          have all01 : ∀ n, Ans ps n → n = 0 ∨ n = 1 := fun n hn => by
            have hm2 := (ans_mem hk n).mpr hn
            rw [List.any_map, List.any_eq_false] at hany
            have := hany n hm2
            have : n ∈ ([0, 1] : List Int) := Classical.byContradiction fun z => this (by show (!decide (n ∈ ([0, 1] : List Int))) = true; rw [decide_eq_false z]; rfl)
            rcases List.mem_cons.mp this with e | e
            · exact .inl e
            · exact .inr (List.mem_singleton.mp e)
          refine iteF ⟨_, rfl, p, _, rfl, .inl (SqL.of ea4), rfl, flat_ints _, _, rfl, ?_⟩
          change (if (inV (V.int 0) ((ansL ps ks2).map V.int)) = true then _ else _ : Prop)
          rw [notIn_ints]
          by_cases h0 : (0 : Int) ∈ ansL ps ks2
          · rw [decide_eq_true h0]
            refine iteT ⟨_, rfl, p, _, rfl, .inl (SqL.of ea4), rfl, flat_ints _, _, rfl, ?_⟩
            change (if (inV (V.int 1) ((ansL ps ks2).map V.int)) = true then _ else _ : Prop)
            rw [notIn_ints]
            by_cases h1 : (1 : Int) ∈ ansL ps ks2
            · rw [decide_eq_true h1]
              exact iteT (q _ _ s14 (.coin nb all01 ((ans_mem hk 0).mp h0) ((ans_mem hk 1).mp h1)))
            · rw [decide_eq_false h1]
              exact iteF (q _ _ s14 (.sure nb all01 fun z => h1 ((ans_mem hk 1).mpr z.2)))
          · rw [decide_eq_false h0]
            exact iteF (iteF (q _ _ s14 (.sure nb all01 fun z => h0 ((ans_mem hk 0).mpr z.1))))
end
end Z

set_option Elab.async false
set_option linter.all false
set_option maxRecDepth 100000
set_option maxHeartbeats 4000000
namespace Z
open PySem PySem.Spec PyProof.Rows L2 GG
abbrev sLO : Stmt := top 17
theorem place_in' {ps : List Pl} {i : Nat} (hi : i < ps.length) : In ps ((i : Nat) : Int) := ⟨by omega, by omega⟩
section
variable {P : Program} {w : World} {K : PySem.W.Frag} {mg : Str → Option Value} {base : Heap}
/-- the places from which an end is reached, told one by one -/
def Known (ps : List Pl) (bs : List Bool) : Prop := bs.length = ps.length ∧ ∀ k : Nat, k < ps.length → (bs[k]? = some true ↔ Op ps ((k : Nat) : Int))
def spLO : Sp := fun vs H Q _ => ∃ (m : Addr) (ps : List Pl), vs = [.ref m] ∧ Mach H m ps ∧ WF ps ∧ ∀ (p : Addr) (bs : List Bool) H', Same H H' → H p = none → H' p = some (.lst (bs.map V.bl)) → Known ps bs → Q (.ref p) H'
theorem scLO : FnScope ["machine", "found", "at", "place"] ["machine"] (defScope sLO) := ⟨rfl, rfl, rfl, by decide +kernel, rfl, by decide +kernel, by decide +kernel⟩
theorem ok_lo {f g : Addr} {fd gd : FuncData} (F : Fun K "_law_open" "_law_open" sLO f fd) (T : Names mg) (GL : FnOk P w K mg base CX0 1 g gd ["machine", "start"] spLR) (PL_ : Def K mg "_law_reached" g gd ["machine", "start"]) : FnOk P w K mg base CX0 2 f fd ["machine"] spLO := by
  refine F.ok scLO (fun vs H Q E h => ?_) (fun cdv A outer s H vs Q E hr h => ?_)
  · obtain ⟨m, ps, rfl, _⟩ := h
    rfl
  · obtain ⟨m, ps, rfl, hm, hw, q⟩ := h
    have hu : A.units + 3 + 64 < cLine := hr.units
    refine ⟨_, (pss_cons (ps_set (i := 1) scLO.nd rfl (.inl rfl) (pe_lst pa_nil))
      (pss_cons (ps_for PassesOwn.never rfl (pi_range1 rfl T.range (pa_cons (pe_callB call_len_seq (by rfl) T.len PySem.boot_len (pa_cons (pv 0) pa_nil)) pa_nil)) (pg_name (i := 2) scLO.nd rfl (.inl rfl)) (pss_one (ps_expr (pe_bm PySem.F.plainAttrs_list PySem.F.slot_list_append PySem.F.type_list_append mt_append (pv 1) (pa_cons (pe_cmpR (op_neD hu) (pe_lc (own := [("place", 3)]) (g := gName 3) rfl scLO.nd (pi_list (pe_call GL (hr.mono (by decide)) (by rfl) PL_.is PL_.kp PL_.bi .nil pass0 (pa_cons (pv 0) (pa_cons (pv 2) pa_nil)))) (blkOk_by (N := ["machine", "found", "at", "place"]) (sc := defScope sLO) (own := [("place", 3)]) (by decide +kernel)) (fun _ _ _ _ _ => (pg_name (i := 3) scLO.nd rfl (.inl rfl))) (fun _ _ _ _ _ => (pts_one (pt_cmpR op_eq (pe_ix (KX.ix_tupK (K := K) rfl) (pe_ix (KX.ix_tupK (K := K) rfl) (pv 0) (pv 3) (fun _ _ => rfl)) pe_int (fun _ _ => rfl)) pe_str (nomark _)))) (fun _ _ _ _ _ => pe_int)) (pe_lst pa_nil) (nomark _)) pa_nil)))))
      (pss_one (ps_ret (pv 1))))), ?_⟩
    have line : sizeLine = 16777216 := by decide
    have hl := hw.le
    obtain ⟨rs, em, pl⟩ := id hm
    have rl := pl.len
    refine ⟨Nat.zero_le _, fun F0 nF => ?_⟩
    refine ⟨_, rfl, m, rs, rfl, .inr (SqT.of ((Same.upd nF) _ _ em)), _, rfl, by rw [rl]; omega, by rw [rl]; omega, ?_⟩
    rw [rl, Int.toNat_natCast]
    refine for_range (lo := 0) (n := ps.length) (fun i σ H' => ∃ (bs : List Bool) (v2 : Option V), σ = [some (V.ref m), some (V.ref F0), v2, none] ∧ Same H H' ∧ H' F0 = some (.lst (bs.map V.bl)) ∧ bs.length = i ∧ ∀ k : Nat, k < i → (bs[k]? = some true ↔ Op ps ((k : Nat) : Int))) ⟨[], _, rfl, Same.upd nF, upd_same, rfl, fun k hk => absurd hk (Nat.not_lt_zero _)⟩ ?_ ?_
    · rintro i σ H2 hi ⟨bs, v2, rfl, s2, f2, lb, hb⟩
      have hin : In ps ((i : Nat) : Int) := place_in' hi
      refine ⟨_, rfl, .inl ⟨rfl, _, SqL.of f2⟩, ?_⟩
      refine ⟨_, rfl, _, rfl, m, (0 : Int) + (i : Nat), ps, rfl, hm.same s2, hw, by rw [show (0 : Int) + (i : Nat) = (i : Nat) by omega]; exact hin, fun p ks H3 s3 np ep hk => ?_⟩
      rw [show (0 : Int) + (i : Nat) = (i : Nat) by omega] at hk
      have hkl := hk.len hw hin
      have s23 := s2.trans s3
      refine ⟨p, rfl, ⟨_, SqL.of ep⟩, fun D nD => ?_⟩
      refine lc_list (K := K) (a := p) (xs := ks.map V.int) (fun j Hx => Same H3 Hx ∧ ∃ os : List Int, Hx D = some (.lst (os.map V.int)) ∧ os.length ≤ j ∧ (os ≠ [] ↔ ∃ k ∈ ks.take j, ∃ n, place ps k = .fin n)) ⟨Same.upd nD, [], upd_same, Nat.le_refl _, by simp⟩ (fun j Hx _ h => SqL.of (h.1 _ _ ep)) ?_ ?_
      · rintro j x H4 hx ⟨s4, os, e4, lo, ho⟩
        obtain ⟨k, hk2, rfl⟩ : ∃ k, ks[j]? = some k ∧ V.int k = x := by
          rw [List.getElem?_map] at hx
          cases e : ks[j]? with
          | none => rw [e] at hx; cases hx
          | some z => rw [e] at hx; exact ⟨z, rfl, Option.some.inj hx⟩
        have hj := (List.getElem?_eq_some_iff.mp hk2).1
        have rk : Rch ps ((i : Nat) : Int) k := (hk.2 k).mp (List.mem_of_getElem? hk2)
        have hkin := rk.inn hw hin
        obtain ⟨rs', tt, em', ea, et⟩ := (hm.same (s23.trans s4)).at hw hkin.1 hkin.2
        refine ⟨rfl, ?_⟩
        have tk : ks.take (j + 1) = ks.take j ++ [k] := by rw [List.take_succ, hk2]; rfl
        have no : ∀ p, place ps k = p → (∀ n, p ≠ .fin n) → Same H3 H4 ∧ ∃ os, H4 D = some (HO.lst (List.map V.int os)) ∧ os.length ≤ j + 1 ∧ (os ≠ [] ↔ ∃ k ∈ ks.take (j + 1), ∃ n, place ps k = .fin n) := fun p hp hn => by
          refine ⟨s4, os, e4, by omega, ho.trans ⟨fun ⟨z, hz, n, hzn⟩ => ⟨z, by rw [tk]; exact List.mem_append_left _ hz, n, hzn⟩, fun ⟨z, hz, n, hzn⟩ => ?_⟩⟩
          rw [tk] at hz
          rcases List.mem_append.mp hz with hz | hz
          · exact ⟨z, hz, n, hzn⟩
          · rw [List.mem_singleton.mp hz, hp] at hzn
            exact absurd hzn (hn n)
        cases e : place ps k with
        | fin n =>
          rw [e] at et
          refine ⟨_, rfl, _, rfl, m, rs', k, .ref tt, rfl, rfl, SqT.of em', ea, tt, _, 0, .str "end", rfl, rfl, SqT.of et, atI_nat (j := 0) rfl, rfl, _, rfl, ?_⟩
          rw [decide_eq_true rfl]
          refine iteT ⟨_, e4, by rw [List.length_map]; omega, fun b o h => by rw [upd_ne (ne_of_none h nD)]; exact s4 _ _ h, os ++ [1], by rw [upd_same, List.map_append]; rfl, by rw [List.length_append]; show os.length + 1 ≤ _; omega, ?_⟩
          refine ⟨fun _ => ⟨k, by rw [tk]; simp, n, e⟩, fun _ => by simp⟩
        | toss x y =>
          rw [e] at et
          refine ⟨_, rfl, _, rfl, m, rs', k, .ref tt, rfl, rfl, SqT.of em', ea, tt, _, 0, .str "toss", rfl, rfl, SqT.of et, atI_nat (j := 0) rfl, rfl, _, rfl, ?_⟩
          rw [decide_eq_false str_end_toss]
          exact iteF (no _ e (fun n z => by cases z))
        | never =>
          rw [e] at et
          refine ⟨_, rfl, _, rfl, m, rs', k, .ref tt, rfl, rfl, SqT.of em', ea, tt, _, 0, .str "never", rfl, rfl, SqT.of et, atI_nat (j := 0) rfl, rfl, _, rfl, ?_⟩
          rw [decide_eq_false str_end_never]
          exact iteF (no _ e (fun n z => by cases z))
      · rintro H4 ⟨s4, os, e4, lo, ho⟩
        rw [List.length_map, List.take_length] at ho
        refine ⟨Nat.zero_le _, fun e0 ne0 => ?_⟩
        have s5 := Same.upd (o := .lst []) ne0
        have d0 : Dp K (upd H4 e0 (.lst [])) (.ref e0) (.list []) := .lst (SqL.of upd_same) .nil
        have s25 := (s23.trans s4).trans s5
        have f5 := s5 _ _ (s4 _ _ (s3 _ _ f2))
        have e5 := s5 _ _ e4
        change (_ : Hp → Prop) (upd H4 e0 (.lst []))
        generalize upd H4 e0 (.lst []) = H5 at s25 f5 e5 d0 ⊢
        refine ⟨.list (os.map PyData.int), .list [], .lst (SqL.of e5) (dpInts os), d0, PySem.W.ke_shaped_ints os, rfl, F0, _, _, rfl, rfl, f5, by rw [List.length_map]; omega, ?_⟩
        have op : os ≠ [] ↔ Op ps ((i : Nat) : Int) := ho.trans ⟨fun ⟨k, hk2, n, e⟩ => ⟨k, n, (hk.2 k).mp hk2, e⟩, fun ⟨k, n, r, e⟩ => ⟨k, (hk.2 k).mpr r, n, e⟩⟩
        have val : ∃ b : Bool, (!PyData.eqv (.list (os.map PyData.int)) (.list [])) = b ∧ (b = true ↔ Op ps ((i : Nat) : Int)) := by
          by_cases h : os = []
          · subst h
            refine ⟨false, rfl, ⟨fun z => (by cases z), fun z => absurd rfl (op.mpr z)⟩⟩
          · exact ⟨true, eqv_nil h, ⟨fun _ => op.mp h, fun _ => rfl⟩⟩
        obtain ⟨b, eb, hb2⟩ := val
        rw [eb]
        refine ⟨bs ++ [b], _, rfl, fun c o h => by rw [upd_ne (ne_of_none h nF)]; exact s25 _ _ h, by rw [upd_same, List.map_append]; rfl, by simp [lb], fun k hk3 => ?_⟩
        rcases Nat.lt_or_ge k i with l | l
        · rw [List.getElem?_append_left (by omega)]
          exact hb k l
        · have ek : k = i := by omega
          subst ek
          rw [List.getElem?_append_right (by omega), lb, Nat.sub_self]
          show some b = some true ↔ _
          rw [← hb2]
          exact ⟨fun z => Option.some.inj z, fun z => by rw [z]⟩
    · rintro σ H2 ⟨bs, v2, rfl, s2, f2, lb, hb⟩
      exact ⟨_, rfl, q F0 bs H2 s2 nF f2 ⟨lb, hb⟩⟩
end
end Z

set_option Elab.async false
set_option linter.all false
/-! set(xs) of a list of ints -/
namespace ST
open PySem PySem.Spec PyProof.Rows L2
section
variable {P : Program} {w : World} {A : Around} {E : Value → Shared → Prop} {s : Shared}
set_option maxRecDepth 100000 in
set_option maxHeartbeats 3200000 in
theorem new_of_list {b : Addr} {us : Array Value} (ms : List Int) {Q : Value → Shared → Prop} (calm : A.handled = none) (lst : s.heap.IsList b us) (whole : IntsAre us.toList ms) (few : ms.length + 1 < scanBound)
    (h : ∀ (h' : Heap) (tk n : Nat), SetR w h' s.heap.objs.size (fun j => decide (j ∈ ms)) n → n ≤ ms.length → (∀ c o, s.heap.get? c = some o → h'.get? c = some o) → Q (.ref s.heap.objs.size) { s with heap := h', toks := tk }) :
    wpAny (model P w) A (call (.type "set") [.ref b]) Q E s := by
  have many : us.size = ms.length := by
    have e := IntsAre.length whole
    rwa [Array.length_toList] at e
  obtain ⟨k1, k2, hmro_⟩ := F.called_set.mro
  have made_ := F.called_set.made
  have sub_ := F.called_set.sub
  refine wpAny_call (codeAny_of_tree ?_)
  show wpAny _ _ (callAny (.type "set") _) _ _ _
  refine wpAny_pure ⟨Code.quiet_builtin _ (by decide +kernel), codeAny_builtin F.entry_type_call ?_⟩
  rw [Around.under_plain (weight_type_call_type "set" [.ref b] []) rfl]
  have nt := F.called_set.notType
  have cc := F.called_set.canCreate
  have tc := F.typeCall_set_1 (.ref b)
  repeat (any_goals (first | assumption | wp_step))
  -- the new set's object
  generalize eo : ({ cls := .type "set", dict := none, data := .set #[] 0 (.fresh 0 0 (!w.params.followText "set-order")) } : Obj) = ob
  refine codeAny_mono (code_set_led1 (.ref b) (E := E) (Q₁ := fun v t => v = .ref s.heap.objs.size ∧ t = { s with heap := s.heap.push ob }) ⟨rfl, by rw [← eo]⟩) fun r t hr => ?_
  cases r with
  | error e => exact hr
  | ok fl =>
    cases fl with
    | next => exact hr.elim
    | brk => exact hr.elim
    | cont => exact hr.elim
    | ret v =>
      obtain ⟨rfl, rfl⟩ := hr
      have stands : (s.heap.push ob).get? s.heap.objs.size = some ob := Heap.get?_push_size _ (by rw [← eo]; rfl)
      have isSet : Shared.TypeIs { s with heap := s.heap.push ob } (.ref s.heap.objs.size) "set" := ⟨_, stands, by rw [← eo]⟩
      have li := F.called_set.init.lookup
      have bi := F.called_set.init.bind (.ref s.heap.objs.size)
      repeat (any_goals (first | assumption | wp_step))
      refine codeAny_mono (codeAny_call_builtin (R := wants (fun v t => v = .none ∧ ∃ h' tk n, t = { s with heap := h', toks := tk } ∧ SetR w h' s.heap.objs.size (fun j => decide (j ∈ ms)) n ∧ n ≤ ms.length ∧ (∀ c o, s.heap.get? c = some o → h'.get? c = some o)) E) F.called_set.init.plain F.entry_set_init (check_set_init_1 isSet ?_)) fun r' t' hr' => ?_
      · obtain ⟨⟨c0, d0, dat0, sl0⟩, get0, cls0, cap0, dat⟩ := lst
        simp only at cls0 dat
        subst cls0 dat
        have get1 : (s.heap.push ob).get? b = some { cls := .type "list", dict := d0, data := .seq us cap0, slots := sl0 } := Heap.get?_push_of_some _ get0
        have q1 := F.sub_list_set
        have q2 := F.sub_list_frozenset
        have q3 : (Value.type "list" == Value.type "dict") = false := by decide
        have lst1 : (s.heap.push ob).IsList b us := ⟨_, get1, rfl, cap0, rfl⟩
        subst eo
        unfold Builtin.«set.__init__» noKeywords Builtin.Frozenset.updateFrom
        generalize eI : pyIter = walk
        wp_walk
        subst eI
        refine wpAny_pyIter_list lst1 ?_
        refine wpAny_bind (wpAny_runValue ?_)
        generalize eo : ({ cls := .type "set", dict := none, data := .set #[] 0 (.fresh 0 0 (!w.params.followText "set-order")) } : Obj) = ob at *
        have low : b < s.heap.objs.size := Heap.lt_size get0
        have hh3 : A.in1.in1.in1.handled = none := by simp [calm]
        have bI : b ≠ (s.heap.push ob).objs.size := by
          rw [Heap.size_push]
          exact Nat.ne_of_lt (Nat.lt_succ_of_lt low)
        have apart : s.heap.objs.size ∉ [(s.heap.push ob).objs.size, b] := by
          rw [Heap.size_push]
          simp only [List.mem_cons, List.not_mem_nil, or_false, not_or]
          exact ⟨Nat.ne_of_lt (Nat.lt_succ_self _), Nat.ne_of_gt low⟩
        have vals : ∀ (i : Nat) (v : Value), us[i]? = some v → ∃ k t, ms[i]? = some k ∧ v = .int k t := fun i v hv => by
          have lt : i < ms.length := by
            rw [← many]
            exact (Array.getElem?_eq_some_iff.mp hv).1
          obtain ⟨t, e⟩ := PyProof.Rows.IntsAre.int_at whole i v (by rw [Array.getElem?_toList]; exact hv)
          refine ⟨ms[i], t, List.getElem?_eq_getElem lt, ?_⟩
          rw [e, List.getD_eq_getElem?_getD, List.getElem?_eq_getElem lt]
          rfl
        refine set_update_ints ((Walks.list hh3 _ b bI us).toS) s.heap.objs.size apart ms many few vals (us.size - 0) 0 _ (by omega) (Nat.zero_le _) ⟨⟨_, Heap.get?_push_size _ rfl, rfl, rfl⟩, lst1.push _⟩ ⟨0, Nat.le_refl 0, ?_⟩ ?_
        · refine setR_new_at ?_
          rw [eo]
          exact Heap.get?_push_of_some _ stands
        · rintro ⟨h', g', d', tk', os'⟩ n' mv hn hS'
          have eg : g' = s.gens := mv.gens
          have ed : d' = s.drawn := mv.drawn
          have eo' : os' = s.os := mv.os
          subst eg ed eo'
          show wpAny _ _ _ _ _ _
          refine wpAny_pure ?_
          show wpAny _ _ (ret Value.none) _ _ _
          rw [many] at hn
          refine wpAny_pure ⟨rfl, h', tk', n', rfl, hS', hn, fun c o e => ?_⟩
          have c0 : c < s.heap.objs.size := Heap.lt_size e
          have c1 : c ≠ s.heap.objs.size := Nat.ne_of_lt c0
          have c2 : c ≠ (s.heap.push ob).objs.size := by
            rw [Heap.size_push]
            exact Nat.ne_of_lt (Nat.lt_succ_of_lt c0)
          exact mv.heap c o (by simp only [List.mem_cons, List.not_mem_nil, or_false, not_or]; exact ⟨c1, c2⟩) (Heap.get?_push_of_some _ (Heap.get?_push_of_some _ e))
      · cases r' with
        | error e => exact hr'
        | ok fl' =>
          cases fl' with
          | next => exact hr'.elim
          | brk => exact hr'.elim
          | cont => exact hr'.elim
          | ret v =>
            obtain ⟨rfl, h', tk, n', rfl, hS', hn, keep⟩ := hr'
            repeat (any_goals (first | assumption | wp_step))
            exact h _ _ _ hS' hn keep
end
section
variable {X : Cx}
def rSetI (K : PySem.W.Frag) (w : World) : List V → Hp → VK → Prop := fun vs H Q => ∃ (b : Addr) (ms : List Int), vs = [.ref b] ∧ SqL K H b (ms.map V.int) ∧ ms.length < 64 ∧ ∀ (a : Addr) (n : Nat), n ≤ ms.length → H a = none → Q (.ref a) (upd H a (SetO w a (fun j => decide (j ∈ ms)) n))
theorem call_setI (calm : X.calm = true) : CallR X (.type "set") (rSetI X.K X.w) := by
  intro pins s σ H vs us Q I r h
  obtain ⟨b, ms, rfl, hs, few, q⟩ := h
  obtain ⟨u, rfl, ru⟩ := vals1 r
  have eu : u = Value.ref b := ru
  subst eu
  obtain ⟨its, rv, pl, _⟩ := I.list hs
  refine new_of_list ms (I.ok.hd calm) pl.isList (by simpa using intsAre_of rv) (by unfold scanBound; omega) fun h' tk n hS hn keep => ?_
  refine ⟨.ref s.heap.objs.size, _, I.laid (t' := tk) keep (Nat.le_refl _) (setO_new hS), rfl, q _ n hn (I.hok.fresh (Nat.le_refl _))⟩
end
end ST

set_option Elab.async false
set_option linter.all false
set_option maxRecDepth 100000
set_option maxHeartbeats 4000000
/-! t[::1] and t[::-1] of a tuple -/
namespace SS
open PySem PySem.Spec PyProof.Rows L2 GG
theorem fm_congr {α β : Type} {f g : α → Option β} : ∀ {l : List α}, (∀ a ∈ l, f a = g a) → l.filterMap f = l.filterMap g
  | [], _ => rfl
  | a :: l, h => by
    rw [List.filterMap_cons, List.filterMap_cons, h a List.mem_cons_self, fm_congr fun b hb => h b (List.mem_cons_of_mem _ hb)]
theorem back_list : ∀ (n : Nat) (l : List Value), l.length = n → ((List.range n).filterMap fun (k : Nat) => l[(((n : Int) - 1) + (k : Int) * -1).toNat]?) = l.reverse := by
  intro n l hl
  have e : ((List.range n).filterMap fun (k : Nat) => l[(((n : Int) - 1) + (k : Int) * -1).toNat]?) = (List.range n).filterMap fun k => l[n - 1 - k]? := by
    refine fm_congr fun k hk => ?_
    have := List.mem_range.mp hk
    congr 1
    omega
  rw [e]
  refine List.ext_getElem? fun i => ?_
  have m : ((List.range n).filterMap fun k => l[n - 1 - k]?) = (List.range n).map fun k => l.getD (n - 1 - k) .none := by
    rw [← List.filterMap_eq_map]
    refine fm_congr fun k hk => ?_
    have := List.mem_range.mp hk
    show l[n - 1 - k]? = some (l.getD (n - 1 - k) .none)
    rw [List.getD_eq_getElem?_getD, List.getElem?_eq_getElem (by omega)]
    rfl
  rw [m, List.getElem?_map]
  rcases Nat.lt_or_ge i n with h | h
  · rw [List.getElem?_range h, List.getElem?_reverse (by omega), hl]
    show some (l.getD (n - 1 - i) .none) = _
    rw [List.getD_eq_getElem?_getD, List.getElem?_eq_getElem (by omega)]
    rfl
  · rw [List.getElem?_eq_none (by rw [List.length_range]; exact h), List.getElem?_eq_none (by rw [List.length_reverse]; omega)]
    rfl
section
variable {prog : Program} {w : World} {A : Around} {E : Value → Shared → Prop} {s : Shared}
/-- what the slice object of a step says of so many items -/
theorem told {z : Addr} {j : Int} {u : Tok} {n : Nat} {R : Int × Int × Nat → Shared → Prop} (obj : s.heap.IsSliceOf z .none .none (.int j u)) (h0 : (j == 0) = false)
    (h : R ((Builtin.Slice.sliceAdjust none none j (n : Int)).1, j, Builtin.Slice.slicePlaces (Builtin.Slice.sliceAdjust none none j (n : Int)).1 (Builtin.Slice.sliceAdjust none none j (n : Int)).2 j) s) :
    wpAny (model prog w) A (Builtin.Slice.sliceApplied (.ref z) (pure (n : Int))) R E s := by
  obtain ⟨o, look, cl, fs⟩ := id obj
  unfold Builtin.Slice.sliceApplied Builtin.Slice.sliceFields
  refine wpAny_bind (wpAny_bind (wpAny_field look fs (x := .none) rfl (wpAny_bind (wpAny_field look fs (x := .none) rfl (wpAny_bind (wpAny_field look fs (x := .int j u) rfl (wpAny_pure ?_)))))))
  refine wpAny_bind (slicePart_int (i := j) (u := u) ?_)
  show wpAny _ _ (if (j == 0) = true then _ else _) _ _ s
  rw [if_neg (by rw [h0]; decide)]
  refine wpAny_bind (slicePart_none (wpAny_bind (slicePart_none (wpAny_bind (wpAny_pure ?_)))))
  exact wpAny_pure h
theorem item_step {t z : Addr} {items : Array Value} {j : Int} {u : Tok} {R : Value → Shared → Prop} (ht : IsTup s.heap t items) (obj : s.heap.IsSliceOf z .none .none (.int j u))
    (h : (j = 1 ∧ R (.ref t) s) ∨ (j = -1 ∧ R (.ref s.heap.objs.size) { s with heap := s.heap.push { cls := .type "tuple", data := .seq items.toList.reverse.toArray } })) (few : items.size ≤ sizeLine) :
    wpAny (model prog w) A (getItem (.ref t) (.ref z)) R E s := by
  obtain ⟨o, look, cl, fs⟩ := id obj
  have hz : s.TypeIs (.ref z) "slice" := ⟨o, look, cl⟩
  unfold getItem
  refine wpAny_holding ?_
  refine wpAny_bind (wpAny_sequenceKey ht.typeIs (by decide) ?_)
  refine wpAny_bind (wpAny_callSpecial?_slot (name := Str.ofString "__getitem__") ht.typeIs slot_tuple_getitem (wpAny_call_entry slot_tuple_getitem ht.typeIs entry_tuple_getitem ?_ (args_tuple_getitem _ _)))
  show wpAny _ _ (Builtin.Tuple.tupleItemsOf (.ref t) >>= _) _ _ s
  refine wpAny_bind (tupleItemsOf_ ht ?_)
  refine wpAny_bind (wpAny_typeOf hz ?_)
  rw [if_pos (by decide)]
  rcases h with ⟨rfl, h⟩ | ⟨rfl, h⟩
  · refine wpAny_bind (told (n := items.size) obj (by decide) ?_)
    have p : Builtin.Slice.slicePlaces 0 (items.size : Int) 1 = items.size := by
      have := HT.places_gen 0 items.size
      simpa using this
    show wpAny _ _ (if (((0 : Int) == 0 && (1 : Int) == 1 && (Builtin.Slice.slicePlaces 0 (items.size : Int) 1) == items.size) = true) then _ else _) _ _ s
    rw [p, if_pos (by simp)]
    unfold Builtin.Tuple.tupleIsExact
    refine wpAny_bind (wpAny_bind (wpAny_typeOf ht.typeIs (wpAny_pure ?_)))
    rw [if_pos (by decide)]
    first
      | exact wpAny_bind (wpAny_pure (wpAny_pure ⟨_, rfl, wpAny_pure h⟩))
      | exact wpAny_bind (wpAny_rule (wpAny_pure ⟨_, rfl, wpAny_pure h⟩))
  · refine wpAny_bind (told (n := items.size) obj (by decide) ?_)
    have a1 : (Builtin.Slice.sliceAdjust none none (-1) (items.size : Int)) = ((items.size : Int) - 1, -1) := rfl
    rw [a1]
    have p : Builtin.Slice.slicePlaces ((items.size : Int) - 1) (-1) (-1) = items.size := by
      unfold Builtin.Slice.slicePlaces
      rw [if_neg (by decide)]
      show (if (items.size : Int) - 1 > -1 then ((items.size : Int) - 1 - -1 - 1) / 1 + 1 else 0).toNat = _
      rw [Int.ediv_one]
      split <;> omega
    show wpAny _ _ (if ((((items.size : Int) - 1) == 0 && (-1 : Int) == 1 && (Builtin.Slice.slicePlaces ((items.size : Int) - 1) (-1) (-1)) == items.size) = true) then _ else _) _ _ s
    have e1 : ((-1 : Int) == 1) = false := by decide
    rw [e1, Bool.and_false, Bool.false_and, if_neg (by decide), p]
    have e2 : ((List.range items.size).filterMap fun (k : Nat) => items[(((items.size : Int) - 1) + (k : Int) * -1).toNat]?).toArray = items.toList.reverse.toArray := by
      congr 1
      have := back_list items.size items.toList (Array.length_toList ..)
      simpa using this
    have line : items.toList.reverse.toArray.size ≤ sizeLine := by
      rw [List.size_toArray, List.length_reverse, Array.length_toList]
      exact few
    refine wpAny_bind (m := Builtin.Tuple.tupleExact _) ?_
    show wpAny _ _ (Builtin.Tuple.tupleExact ((List.range items.size).filterMap fun (k : Nat) => items[(((items.size : Int) - 1) + (k : Int) * -1).toNat]?).toArray) _ _ s
    rw [e2]
    exact wpAny_newObj_type (wpAny_pure ⟨_, rfl, wpAny_pure h⟩) line
end
section
variable {X : Cx} {e st : Expr} {te ts : TE} {pos p2 : Pos}
def tStep (K : PySem.W.Frag) (te ts : TE) : TE := fun σ H Q => te σ H fun x H1 => ts σ H1 fun y H2 => ∃ a xs, x = .ref a ∧ SqT K H2 a xs ∧ ((y = .int 1 ∧ Q (.ref a) H2) ∨ (y = .int (-1) ∧ ∀ p, H2 p = none → Q (.ref p) (upd H2 p (.tup xs.reverse))))
theorem rev_vals : ∀ {xs : List V} {us : List Value}, Vals xs us → Vals xs.reverse us.reverse := by
  intro xs us h
  induction h with
  | nil => exact .nil
  | cons r _ ih =>
    rw [List.reverse_cons, List.reverse_cons]
    exact ih.snoc r
theorem pe_step (he : PE X e te) (hs : PE X st ts) (quiet : ∀ o r, letTemporaryGo e o r = pure () := by intro _ _; rfl) : PE X (.Subscript e (.Slice none none (some st) p2) pos) (tStep X.K te ts) := by
  refine ⟨fun pins s σ H Q I h => ?_⟩
  refine wpAny_Subscript_Slice_step slot_tuple_getitem.lookup (thn (he.run pins s σ H _ I h) fun v s1 ⟨x, H1, I1, r1, q1⟩ => ?_) quiet
  refine wpAny_Slice (wpAny_evalPart_none (wpAny_evalPart_none (wpAny_evalPart_some (thn (hs.run pins s1 σ H1 _ I1 q1) fun u s2 ⟨y, H2, I2, r2, a, xs, ex, hx, q⟩ => ?_))))
  subst ex
  have ev : v = Value.ref a := r1
  subst ev
  obtain ⟨j, ey, w⟩ : ∃ j : Int, y = .int j ∧ ((j = 1 ∧ Q (.ref a) H2) ∨ (j = -1 ∧ ∀ p, H2 p = none → Q (.ref p) (upd H2 p (.tup xs.reverse)))) := by
    rcases q with ⟨rfl, q⟩ | ⟨rfl, q⟩
    · exact ⟨1, rfl, .inl ⟨rfl, q⟩⟩
    · exact ⟨-1, rfl, .inr ⟨rfl, q⟩⟩
  subst ey
  obtain ⟨t, eu⟩ : ∃ t, u = Value.int j t := r2
  subst eu
  have I3 : Inv X pins σ H2 { s2 with heap := s2.heap.push { cls := .type "slice", data := .fields #[Value.none, Value.none, Value.int j t] } } := I2.kept (t' := s2.toks) fun b ob q => Heap.get?_push_of_some _ q
  obtain ⟨its, rv, ht, few⟩ := I3.tuple hx
  refine ⟨ht.typeIs, item_step ht (Heap.IsSliceOf.new ..) ?_ (by rw [List.size_toArray, ← rv.length]; exact few)⟩
  rcases w with ⟨rfl, w⟩ | ⟨rfl, w⟩
  · exact .inl ⟨rfl, .ref a, H2, I3, rfl, w⟩
  · refine .inr ⟨rfl, .ref _, upd H2 _ (.tup xs.reverse), I3.laid (t' := s2.toks) (o := .tup xs.reverse) (fun b ob q => Heap.get?_push_of_some _ q) (Nat.le_refl _) ?_, rfl, w _ (I3.hok.fresh (Nat.le_refl _))⟩
    refine ⟨?_, its.reverse, rev_vals rv, ?_⟩
    · rw [List.length_reverse]
      exact few
    · exact IsTup.new _ _
end
end SS

set_option Elab.async false
set_option linter.all false
set_option maxRecDepth 100000
set_option maxHeartbeats 4000000
namespace Z
open PySem PySem.Spec PyProof.Rows L2 GG
abbrev sDue : Stmt := top 19
section
variable {P : Program} {w : World} {K : PySem.W.Frag} {mg : Str → Option Value} {base : Heap}
/-- a list of ints against the empty one -/
theorem ne_nil (K : PySem.W.Frag) {H : Hp} {a e0 : Addr} {os : List Int} (e : H a = some (.lst (os.map V.int))) (n0 : H e0 = none) : Dp K (upd H e0 (.lst [])) (.ref a) (.list (os.map PyData.int)) ∧ Dp K (upd H e0 (.lst [])) (.ref e0) (.list []) :=
  ⟨.lst (SqL.of (Same.upd n0 _ _ e)) (dpInts os), .lst (SqL.of upd_same) .nil⟩
theorem ne_val (os : List Int) : (!PyData.eqv (.list (os.map PyData.int)) (.list [])) = !decide (os = []) := by
  by_cases h : os = []
  · subst h
    rfl
  · rw [eqv_nil h, decide_eq_false h]
    rfl
theorem eqv_all : ∀ (xs ys : List Int), PyData.eqvAll (xs.map PyData.int) (ys.map PyData.int) = decide (xs = ys)
  | [], [] => rfl
  | [], y :: ys => rfl
  | x :: xs, [] => rfl
  | x :: xs, y :: ys => by
    have ih := eqv_all xs ys
    show (PyData.eqv (.int x) (.int y) && PyData.eqvAll (xs.map PyData.int) (ys.map PyData.int)) = _
    rw [ih]
    show ((x == y) && _) = _
    by_cases e : x = y
    · subst e
      by_cases h : xs = ys
      · subst h
        simp
      · rw [decide_eq_false h, decide_eq_false (fun z => h (List.cons.inj z).2)]
        simp
    · have e2 : (x == y) = false := by simpa using e
      rw [e2, decide_eq_false (fun z => e (List.cons.inj z).1)]
      rfl
theorem eqv_intsL (xs ys : List Int) : PyData.eqv (.list (xs.map PyData.int)) (.list (ys.map PyData.int)) = decide (xs = ys) := eqv_all xs ys
structure NamesD (mg : Str → Option Value) : Prop extends NamesG mg where
  set : mg "set" = none
def spDue : Sp := spCE
theorem scDue : FnScope ["machine", "comes", "known", "told", "at", "answer"] ["machine"] (defScope sDue) := ⟨rfl, rfl, rfl, by decide +kernel, rfl, by decide +kernel, by decide +kernel⟩
theorem ok_due {f g c : Addr} {fd gd cd : FuncData} (F : Fun K "_law_due" "_law_due" sDue f fd) (T : NamesD mg) (GL : FnOk P w K mg base CX0 1 g gd ["machine", "start"] spLR) (PL_ : Def K mg "_law_reached" g gd ["machine", "start"])
    (GO : FnOk P w K mg base CX0 2 c cd ["machine"] spLO) (PO_ : Def K mg "_law_open" c cd ["machine"]) : FnOk P w K mg base CX0 3 f fd ["machine"] spDue := by
  refine F.ok scDue (fun vs H Q E h => ?_) (fun cdv A outer s H vs Q E hr h => ?_)
  · obtain ⟨m, ps, rfl, _⟩ := h
    rfl
  · obtain ⟨m, ps, rfl, hm, hw, q⟩ := h
    have hu : A.units + 3 + 64 < cLine := hr.units
    refine ⟨_, (pss_cons (ps_asg (pe_tup (pa_cons (pe_call GL (hr.mono (by decide)) (by rfl) PL_.is PL_.kp PL_.bi .nil pass0 (pa_cons (pv 0) (pa_cons pe_int pa_nil))) (pa_cons (pe_call GO (hr.mono (by decide)) (by rfl) PO_.is PO_.kp PO_.bi .nil pass0 (pa_cons (pv 0) pa_nil)) pa_nil))) (pg_tup rfl (pgs_cons (pg_name (i := 1) scDue.nd rfl (.inl rfl)) (pgs_cons (pg_name (i := 2) scDue.nd rfl (.inr rfl)) pgs_nil))))
      (pss_cons (ps_if (pt_cmpR (op_neD hu) (pe_lc (own := [("at", 4)]) (g := gName 4) rfl scDue.nd (pi_list (pv 1)) (blkOk_by (N := ["machine", "comes", "known", "told", "at", "answer"]) (sc := defScope sDue) (own := [("at", 4)]) (by decide +kernel)) (fun _ _ _ _ _ => (pg_name (i := 4) scDue.nd rfl (.inl rfl))) (fun _ _ _ _ _ => (pts_one (pt_not (pt_val (pe_ix (KX.ix_listK (K := K) rfl) (pv 2) (pv 4) (fun _ _ => rfl)))))) (fun _ _ _ _ _ => (pv 4))) (pe_lst pa_nil) (nomark _)) (pss_one (ps_ret pe_str)) pss_nil)
      (pss_cons (ps_set (i := 3) scDue.nd rfl (.inl rfl) (pe_callB (cr_sortedSet rfl) (by rfl) T.sorted (by decide +kernel) (pa_cons (pe_callTy (ST.call_setI rfl) (by rfl) T.set (by decide +kernel) (pa_cons (pe_lc (own := [("at", 4)]) (g := gName 4) rfl scDue.nd (pi_list (pv 1)) (blkOk_by (N := ["machine", "comes", "known", "told", "at", "answer"]) (sc := defScope sDue) (own := [("at", 4)]) (by decide +kernel)) (fun _ _ _ _ _ => (pg_name (i := 4) scDue.nd rfl (.inl rfl))) (fun _ _ _ _ _ => (pts_one (pt_cmpR op_eq (pe_ix (KX.ix_tupK (K := K) rfl) (pe_ix (KX.ix_tupK (K := K) rfl) (pv 0) (pv 4) (fun _ _ => rfl)) pe_int (fun _ _ => rfl)) pe_str (nomark _)))) (fun _ _ _ _ _ => (pe_ix (KX.ix_tupK (K := K) rfl) (pe_ix (KX.ix_tupK (K := K) rfl) (pv 0) (pv 4) (fun _ _ => rfl)) pe_int (fun _ _ => rfl)))) pa_nil)) pa_nil)))
      (pss_cons (ps_if (pt_cmpR (op_neD hu) (pe_lc (own := [("answer", 5)]) (g := gName 5) rfl scDue.nd (pi_list (pv 3)) (blkOk_by (N := ["machine", "comes", "known", "told", "at", "answer"]) (sc := defScope sDue) (own := [("answer", 5)]) (by decide +kernel)) (fun _ _ _ _ _ => (pg_name (i := 5) scDue.nd rfl (.inl rfl))) (fun _ _ _ _ _ => (pts_one (pt_cmpR op_gt (pv 5) pe_int (nomark _)))) (fun _ _ _ _ _ => (pv 5))) (pe_lst pa_nil) (nomark _)) (pss_one (ps_ret pe_str)) pss_nil)
      (pss_one (ps_ret (pe_ifExp (pt_cmpR (op_eqD hu) (pv 3) (pe_lst (pa_cons pe_int (pa_cons pe_int pa_nil))) (nomark _)) pe_non pe_str))))))), ?_⟩
    have line : sizeLine = 16777216 := by decide
    have hl := hw.le
    refine ⟨_, rfl, m, 0, ps, rfl, hm, hw, in_zero hw, fun p ks H1 s1 np ep hk => ?_⟩
    refine ⟨_, rfl, m, ps, rfl, hm.same s1, hw, fun p2 bs H2 s2 np2 ep2 hb => ?_⟩
    refine ⟨by show 2 ≤ sizeLine; decide, fun T0 nT0 => ?_⟩
    have hkl := hk.len hw (in_zero hw)
    have s3 := Same.upd (o := .tup [V.ref p, .ref p2]) nT0
    refine ⟨T0, _, rfl, SqT.of upd_same, rfl, _, _, rfl, _, _, rfl, rfl, ?_⟩
    have s13 := (s1.trans s2).trans s3
    have ep3 := s3 _ _ (s2 _ _ ep)
    have eb3 := s3 _ _ ep2
    change (_ : Hp → Prop) (upd H2 T0 (.tup [V.ref p, .ref p2]))
    generalize upd H2 T0 (.tup [V.ref p, .ref p2]) = H3 at s13 ep3 eb3 ⊢
    have known : ∀ {k : Int}, In ps k → ∃ b : Bool, atI (bs.map V.bl) k = some (.bl b) ∧ (b = true ↔ Op ps k) := fun {k} hin => by
      obtain ⟨j, rfl⟩ : ∃ j : Nat, k = (j : Int) := ⟨k.toNat, by have := hin.1; omega⟩
      have hj : j < ps.length := by have := hin.2; omega
      have hj2 : j < bs.length := by rw [hb.1]; exact hj
      refine ⟨bs[j], atI_nat (by rw [List.getElem?_map, List.getElem?_eq_getElem hj2]; rfl), ?_⟩
      rw [← hb.2 j hj, List.getElem?_eq_getElem hj2]
      exact ⟨fun h => by rw [h], fun h => Option.some.inj h⟩
    have elem : ∀ {j : Nat} {x : V}, (ks.map V.int)[j]? = some x → ∃ k, ks[j]? = some k ∧ V.int k = x ∧ j < ks.length ∧ Rch ps 0 k := fun {j x} hx => by
      rw [List.getElem?_map] at hx
      cases e : ks[j]? with
      | none => rw [e] at hx; cases hx
      | some z =>
        rw [e] at hx
        exact ⟨z, rfl, Option.some.inj hx, (List.getElem?_eq_some_iff.mp e).1, (hk.2 z).mp (List.mem_of_getElem? e)⟩
    refine ⟨_, rfl, p, rfl, ⟨_, SqL.of ep3⟩, fun D nD => ?_⟩
    refine lc_list (K := K) (a := p) (xs := ks.map V.int) (fun j Hx => Same H3 Hx ∧ ∃ os : List Int, Hx D = some (.lst (os.map V.int)) ∧ os.length ≤ j ∧ (os ≠ [] ↔ ∃ k ∈ ks.take j, ¬ Op ps k)) ⟨Same.upd nD, [], upd_same, Nat.le_refl _, by simp⟩ (fun j Hx _ h => SqL.of (h.1 _ _ ep3)) ?_ ?_
    · rintro j x H4 hx ⟨s4, os, e4, lo, ho⟩
      obtain ⟨k, hk2, rfl, hj, rk⟩ := elem hx
      obtain ⟨b, hbk, hbo⟩ := known (rk.inn hw (in_zero hw))
      have tk : ks.take (j + 1) = ks.take j ++ [k] := by rw [List.take_succ, hk2]; rfl
      refine ⟨rfl, ?_⟩
      refine ⟨_, rfl, _, rfl, p2, _, k, .bl b, rfl, rfl, SqL.of (s4 _ _ eb3), hbk, _, rfl, ?_⟩
      cases b with
      | true =>
        refine iteF ⟨s4, os, e4, by omega, ho.trans ⟨fun ⟨z, hz, h⟩ => ⟨z, by rw [tk]; exact List.mem_append_left _ hz, h⟩, fun ⟨z, hz, h⟩ => ?_⟩⟩
        rw [tk] at hz
        rcases List.mem_append.mp hz with hz | hz
        · exact ⟨z, hz, h⟩
        · rw [List.mem_singleton.mp hz] at h
          exact absurd (hbo.mp rfl) h
      | false =>
        have no : ¬ Op ps k := fun h => by have := hbo.mpr h; cases this
        refine iteT ⟨_, rfl, _, e4, by rw [List.length_map]; omega, fun b o h => by rw [upd_ne (ne_of_none h nD)]; exact s4 _ _ h, os ++ [k], by rw [upd_same, List.map_append]; rfl, by rw [List.length_append]; show os.length + 1 ≤ _; omega, ?_⟩
        exact ⟨fun _ => ⟨k, by rw [tk]; simp, no⟩, fun _ => by simp⟩
    · rintro H4 ⟨s4, os, e4, lo, ho⟩
      rw [List.length_map, List.take_length] at ho
      refine ⟨Nat.zero_le _, fun e0 n0 => ?_⟩
      obtain ⟨d1, d2⟩ := ne_nil K e4 n0
      have s5 := Same.upd (o := .lst []) n0
      refine ⟨_, _, d1, d2, PySem.W.ke_shaped_ints os, rfl, _, rfl, ?_⟩
      rw [ne_val]
      have s15 := (s13.trans s4).trans s5
      have ep5 := s5 _ _ (s4 _ _ ep3)
      clear d1 d2
      generalize upd H4 e0 (.lst []) = H5 at s15 ep5 ⊢
      have bad : os ≠ [] ↔ Bad ps := ho.trans ⟨fun ⟨k, h, no⟩ => ⟨k, (hk.2 k).mp h, no⟩, fun ⟨k, h, no⟩ => ⟨k, (hk.2 k).mpr h, no⟩⟩
      by_cases h0 : os = []
      · rw [decide_eq_true h0]
        have nb : ¬ Bad ps := fun h => bad.mpr h h0
        refine iteF ⟨_, rfl, p, rfl, ⟨_, SqL.of ep5⟩, fun D2 nD2 => ?_⟩
        refine lc_list (K := K) (a := p) (xs := ks.map V.int) (fun j Hx => Same H5 Hx ∧ Hx D2 = some (.lst ((ansL ps (ks.take j)).map V.int))) ⟨Same.upd nD2, upd_same⟩ (fun j Hx _ h => SqL.of (h.1 _ _ ep5)) ?_ ?_
        · rintro j x H6 hx ⟨s6, e6⟩
          obtain ⟨k, hk2, rfl, hj, rk⟩ := elem hx
          have hkin := rk.inn hw (in_zero hw)
          obtain ⟨rs, tt, em, ea, e2⟩ := (hm.same (s15.trans s6)).at hw hkin.1 hkin.2
          have tk : ks.take (j + 1) = ks.take j ++ [k] := by rw [List.take_succ, hk2]; rfl
          have lj : (ansL ps (ks.take j)).length ≤ 30 := by
            have := ansL_len ps (ks.take j)
            rw [List.length_take] at this
            omega
          refine ⟨rfl, ?_⟩
          cases e : place ps k with
          | fin n =>
            rw [e] at e2
            refine ⟨_, rfl, _, rfl, m, rs, k, .ref tt, rfl, rfl, SqT.of em, ea, tt, _, 0, .str "end", rfl, rfl, SqT.of e2, atI_nat (j := 0) rfl, rfl, _, rfl, ?_⟩
            rw [decide_eq_true rfl]
            refine iteT ⟨_, rfl, _, rfl, m, rs, k, .ref tt, rfl, rfl, SqT.of em, ea, tt, _, 1, .int n, rfl, rfl, SqT.of e2, atI_nat (j := 1) rfl, _, e6, by rw [List.length_map]; omega, fun b o h => by rw [upd_ne (ne_of_none h nD2)]; exact s6 _ _ h, ?_⟩
            rw [upd_same, tk, ansL_snoc, e, List.map_append]
            rfl
          | toss x y =>
            rw [e] at e2
            refine ⟨_, rfl, _, rfl, m, rs, k, .ref tt, rfl, rfl, SqT.of em, ea, tt, _, 0, .str "toss", rfl, rfl, SqT.of e2, atI_nat (j := 0) rfl, rfl, _, rfl, ?_⟩
            rw [decide_eq_false str_end_toss]
            refine iteF ⟨s6, ?_⟩
            rw [tk, ansL_snoc, e, List.append_nil]
            exact e6
          | never =>
            rw [e] at e2
            refine ⟨_, rfl, _, rfl, m, rs, k, .ref tt, rfl, rfl, SqT.of em, ea, tt, _, 0, .str "never", rfl, rfl, SqT.of e2, atI_nat (j := 0) rfl, rfl, _, rfl, ?_⟩
            rw [decide_eq_false str_end_never]
            refine iteF ⟨s6, ?_⟩
            rw [tk, ansL_snoc, e, List.append_nil]
            exact e6
        · rintro H6 ⟨s6, e6⟩
          rw [List.length_map, List.take_length] at e6
          have hal := ansL_len ps ks
          refine ⟨D2, _, rfl, SqL.of e6, by omega, fun S n hn nS => ?_⟩
          have s7 := Same.upd (o := SetO w S (fun j => decide (j ∈ ansL ps ks)) n) nS
          refine ⟨S, _, n, rfl, upd_same, by omega, fun ns p3 pw hmem lenn np3 => ?_⟩
          have s8 := Same.upd (o := .lst (ns.map V.int)) np3
          have e8 : upd (upd H6 S (SetO w S (fun j => decide (j ∈ ansL ps ks)) n)) p3 (.lst (ns.map V.int)) p3 = some (.lst (ns.map V.int)) := upd_same
          have s18 : Same H (upd (upd H6 S (SetO w S (fun j => decide (j ∈ ansL ps ks)) n)) p3 (.lst (ns.map V.int))) := ((s15.trans s6).trans s7).trans s8
          have hans : ∀ k, k ∈ ns ↔ Ans ps k := fun k => (hmem k).trans (by rw [decide_eq_true_eq]; exact ans_mem hk k)
          change (_ : Hp → Prop) (upd (upd H6 S (SetO w S (fun j => decide (j ∈ ansL ps ks)) n)) p3 (.lst (ns.map V.int)))
          generalize upd (upd H6 S (SetO w S (fun j => decide (j ∈ ansL ps ks)) n)) p3 (.lst (ns.map V.int)) = H8 at s18 e8 ⊢
          refine ⟨_, rfl, p3, rfl, ⟨_, SqL.of e8⟩, fun D3 nD3 => ?_⟩
          refine lc_list (K := K) (a := p3) (xs := ns.map V.int) (fun j Hx => Same H8 Hx ∧ ∃ os : List Int, Hx D3 = some (.lst (os.map V.int)) ∧ os.length ≤ j ∧ (os ≠ [] ↔ ∃ k ∈ ns.take j, 1 < k)) ⟨Same.upd nD3, [], upd_same, Nat.le_refl _, by simp⟩ (fun j Hx _ h => SqL.of (h.1 _ _ e8)) ?_ ?_
          · rintro j x H9 hx ⟨s9, os2, e9, lo2, ho2⟩
            obtain ⟨k, hk2, rfl⟩ : ∃ k, ns[j]? = some k ∧ V.int k = x := by
              rw [List.getElem?_map] at hx
              cases e : ns[j]? with
              | none => rw [e] at hx; cases hx
              | some z => rw [e] at hx; exact ⟨z, rfl, Option.some.inj hx⟩
            have hj := (List.getElem?_eq_some_iff.mp hk2).1
            have tk : ns.take (j + 1) = ns.take j ++ [k] := by rw [List.take_succ, hk2]; rfl
            refine ⟨rfl, _, rfl, _, _, rfl, rfl, _, rfl, ?_⟩
            by_cases h1 : k > 1
            · rw [decide_eq_true h1]
              refine iteT ⟨_, rfl, _, e9, by rw [List.length_map]; omega, fun b o h => by rw [upd_ne (ne_of_none h nD3)]; exact s9 _ _ h, os2 ++ [k], by rw [upd_same, List.map_append]; rfl, by rw [List.length_append]; show os2.length + 1 ≤ _; omega, ?_⟩
              exact ⟨fun _ => ⟨k, by rw [tk]; simp, h1⟩, fun _ => by simp⟩
            · rw [decide_eq_false h1]
              refine iteF ⟨s9, os2, e9, by omega, ho2.trans ⟨fun ⟨z, hz, h⟩ => ⟨z, by rw [tk]; exact List.mem_append_left _ hz, h⟩, fun ⟨z, hz, h⟩ => ?_⟩⟩
              rw [tk] at hz
              rcases List.mem_append.mp hz with hz | hz
              · exact ⟨z, hz, h⟩
              · rw [List.mem_singleton.mp hz] at h
                exact absurd h h1
          · rintro H9 ⟨s9, os2, e9, lo2, ho2⟩
            rw [List.length_map, List.take_length] at ho2
            refine ⟨Nat.zero_le _, fun e1 n1 => ?_⟩
            obtain ⟨d1, d2⟩ := ne_nil K e9 n1
            have s10 := Same.upd (o := .lst []) n1
            refine ⟨_, _, d1, d2, PySem.W.ke_shaped_ints os2, rfl, _, rfl, ?_⟩
            rw [ne_val]
            have s1A := (s18.trans s9).trans s10
            have eA := s10 _ _ (s9 _ _ e8)
            clear d1 d2
            generalize upd H9 e1 (.lst []) = HA at s1A eA ⊢
            have pos : ∀ n, Ans ps n → 0 ≤ n := fun n ⟨k, r, e⟩ => by
              have hin := r.inn hw (in_zero hw)
              obtain ⟨p, hp, okp⟩ := hw.get hin.1 hin.2
              rw [place_get hp] at e
              subst e
              exact okp.1
            by_cases h2 : os2 = []
            · rw [decide_eq_true h2]
              have all01 : ∀ n, Ans ps n → n = 0 ∨ n = 1 := fun n hn => by
                have p0 := pos n hn
                have : ¬ 1 < n := fun z => ho2.mpr ⟨n, (hans n).mpr hn, z⟩ h2
                omega
              refine iteF ⟨_, rfl, by show 2 ≤ sizeLine; decide, fun L2 nL2 => ?_⟩
              have s11 := Same.upd (o := .lst [V.int 0, .int 1]) nL2
              refine ⟨_, .list (([0, 1] : List Int).map PyData.int), .lst (SqL.of (s11 _ _ eA)) (dpInts ns), .lst (SqL.of upd_same) (dpInts [0, 1]), PySem.W.ke_shaped_ints ns, PySem.W.ke_shaped_ints _, _, rfl, ?_⟩
              have iff01 : ns = [0, 1] ↔ (Ans ps 0 ∧ Ans ps 1) := by
                constructor
                · intro h
                  subst h
                  exact ⟨(hans 0).mp (by simp), (hans 1).mp (by simp)⟩
                · rintro ⟨a0, a1⟩
                  refine lt_unique pw (by decide) fun k => (hans k).trans ⟨fun h => ?_, fun h => ?_⟩
                  · rcases all01 k h with e | e <;> simp [e]
                  · rcases List.mem_cons.mp h with e | e
                    · rw [e]
                      exact a0
                    · rw [List.mem_singleton.mp e]
                      exact a1
              rw [eqv_intsL]
              by_cases h3 : ns = [0, 1]
              · rw [decide_eq_true h3]
                have := iff01.mp h3
                exact iteT (q _ _ (s1A.trans s11) (.coin nb all01 this.1 this.2))
              · rw [decide_eq_false h3]
                exact iteF (q _ _ (s1A.trans s11) (.sure nb all01 fun z => h3 (iff01.mpr z)))
            · rw [decide_eq_false h2]
              obtain ⟨n, hn, h1⟩ := ho2.mp h2
              exact iteT (q _ _ s1A (.answers nb ⟨n, (hans n).mp hn, by omega, by omega⟩))
      · rw [decide_eq_false h0]
        exact iteT (q _ _ s15 (.ends (bad.mp h0)))
end
end Z

set_option Elab.async false
set_option linter.all false
set_option maxRecDepth 100000
set_option maxHeartbeats 4000000
namespace Z
open PySem PySem.Spec PyProof.Rows L2 GG
abbrev sLC : Stmt := top 18
/-! machines side by side -/
theorem Pls.app {H : Hp} {rs rs2 : List V} {ps ps2 : List Pl} (h : Pls H rs ps) (g : Pls H rs2 ps2) : Pls H (rs ++ rs2) (ps ++ ps2) := by
  induction h with
  | nil => exact g
  | cons e _ ih => exact .cons e ih
theorem place_app {ps qs : List Pl} {k : Int} (h : In ps k) : place (ps ++ qs) k = place ps k := by
  unfold place
  have : k.toNat < ps.length := by
    have := h.1
    have := h.2
    omega
  rw [List.getD_eq_getElem?_getD, List.getD_eq_getElem?_getD, List.getElem?_append_left this]
theorem place_snd {ps qs : List Pl} (j : Nat) : place (ps ++ qs) ((ps.length + j : Nat) : Int) = qs.getD j .never := by
  unfold place
  rw [Int.toNat_natCast, List.getD_eq_getElem?_getD, List.getElem?_append_right (by omega), List.getD_eq_getElem?_getD]
  congr 2
  omega
theorem rch_app {ps qs : List Pl} (hw : WF ps) {s k : Int} (hs : In ps s) : Rch (ps ++ qs) s k ↔ Rch ps s k := by
  constructor
  · intro h
    refine h.all (S := fun k => Rch ps s k) .here fun a x y ha e => ?_
    have hin := Rch.inn hw hs ha
    rw [place_app hin] at e
    exact ⟨ha.heads e, ha.tails e⟩
  · intro h
    induction h with
    | here => exact .here
    | heads r e ih => exact ih.heads (by rw [place_app (r.inn hw hs)]; exact e)
    | tails r e ih => exact ih.tails (by rw [place_app (r.inn hw hs)]; exact e)
theorem op_app {ps qs : List Pl} (hw : WF ps) {k : Int} (hk : In ps k) : Op (ps ++ qs) k ↔ Op ps k := by
  constructor
  · rintro ⟨e, n, r, f⟩
    have r' := (rch_app hw hk).mp r
    exact ⟨e, n, r', by rw [← f, place_app (r'.inn hw hk)]⟩
  · rintro ⟨e, n, r, f⟩
    exact ⟨e, n, (rch_app hw hk).mpr r, by rw [place_app (r.inn hw hk)]; exact f⟩
theorem bad_app {ps qs : List Pl} (hw : WF ps) : Bad (ps ++ qs) ↔ Bad ps := by
  constructor
  · rintro ⟨k, r, no⟩
    have r' := (rch_app hw (in_zero hw)).mp r
    exact ⟨k, r', fun o => no ((op_app hw (r'.inn hw (in_zero hw))).mpr o)⟩
  · rintro ⟨k, r, no⟩
    exact ⟨k, (rch_app hw (in_zero hw)).mpr r, fun o => no ((op_app hw (r.inn hw (in_zero hw))).mp o)⟩
theorem ans_app {ps qs : List Pl} (hw : WF ps) {n : Int} : Ans (ps ++ qs) n ↔ Ans ps n := by
  constructor
  · rintro ⟨k, r, e⟩
    have r' := (rch_app hw (in_zero hw)).mp r
    exact ⟨k, r', by rw [← e, place_app (r'.inn hw (in_zero hw))]⟩
  · rintro ⟨k, r, e⟩
    exact ⟨k, (rch_app hw (in_zero hw)).mpr r, by rw [place_app (r.inn hw (in_zero hw))]; exact e⟩
theorem coin_app {ps qs : List Pl} (hw : WF ps) (h : CoinIs ps .non) : CoinIs (ps ++ qs) .non := by
  cases h with
  | coin a b c d => exact .coin (fun z => a ((bad_app hw).mp z)) (fun n hn => b n ((ans_app hw).mp hn)) ((ans_app hw).mpr c) ((ans_app hw).mpr d)
theorem wf_app {ps qs : List Pl} (hw : WF ps) (l : ps.length + qs.length ≤ 30) (h : ∀ p ∈ qs, p.ok (ps.length + qs.length)) : WF (ps ++ qs) := ⟨by rw [List.length_append]; have := hw.ne; omega, by rw [List.length_append]; exact l, fun p hp => by
  rw [List.length_append]
  rcases List.mem_append.mp hp with hp | hp
  · have := hw.ok p hp
    cases p with
    | toss a b =>
      obtain ⟨a1, a2, a3, a4⟩ := this
      exact ⟨a1, by omega, a3, by omega⟩
    | fin n => exact this
    | never => trivial
  · exact h p hp⟩
/-! the law's coins: tosses that go on to a later place, and two ends -/
structure Later (n : Nat) (ts : List Pl) : Prop where
  ln : ts.length = n
  ok : ∀ k, k < n → ∃ x y : Int, ts[k]? = some (.toss x y) ∧ 0 ≤ x ∧ x < n + 2 ∧ 0 ≤ y ∧ y < n + 2 ∧ (k < x ∨ k < y)
def duo (ts : List Pl) (a : Int) : List Pl := ts ++ [.fin a, .fin (1 - a)]
theorem duo_len (ts : List Pl) (a : Int) : (duo ts a).length = ts.length + 2 := by simp [duo]
theorem duo_toss {n : Nat} {ts : List Pl} (h : Later n ts) {a : Int} {k : Nat} (hk : k < n) : ∃ x y : Int, place (duo ts a) (k : Nat) = .toss x y ∧ 0 ≤ x ∧ x < n + 2 ∧ 0 ≤ y ∧ y < n + 2 ∧ (k < x ∨ k < y) := by
  obtain ⟨x, y, e, r⟩ := h.ok k hk
  refine ⟨x, y, ?_, r⟩
  refine place_get ?_
  unfold duo
  rw [Int.toNat_natCast, List.getElem?_append_left (by rw [h.ln]; exact hk)]
  exact e
theorem duo_end {n : Nat} {ts : List Pl} (h : Later n ts) (a : Int) : place (duo ts a) (n : Nat) = .fin a ∧ place (duo ts a) ((n + 1 : Nat) : Int) = .fin (1 - a) := by
  have e0 := place_snd (ps := ts) (qs := [.fin a, .fin (1 - a)]) 0
  have e1 := place_snd (ps := ts) (qs := [.fin a, .fin (1 - a)]) 1
  rw [h.ln] at e0 e1
  exact ⟨e0, e1⟩
theorem duo_wf {n : Nat} {ts : List Pl} (h : Later n ts) {a : Int} (a0 : 0 ≤ a) (a1 : a < 2) (l : n ≤ 28) : WF (duo ts a) := ⟨by rw [duo_len]; omega, by rw [duo_len, h.ln]; omega, fun p hp => by
  rw [duo_len, h.ln]
  rcases List.mem_append.mp hp with hp | hp
  · obtain ⟨k, hk, e⟩ := List.getElem_of_mem hp
    rw [h.ln] at hk
    obtain ⟨x, y, e2, r1, r2, r3, r4, _⟩ := h.ok k hk
    rw [List.getElem?_eq_getElem (by rw [h.ln]; exact hk), e] at e2
    cases e2
    exact ⟨r1, by omega, r3, by omega⟩
  · rcases List.mem_cons.mp hp with rfl | hp
    · exact ⟨a0, by omega⟩
    · rw [List.mem_singleton.mp hp]
      exact ⟨by omega, by omega⟩⟩
theorem duo_op {n : Nat} {ts : List Pl} (h : Later n ts) (a : Int) (d : Nat) : ∀ k : Nat, k + d = n + 1 → Op (duo ts a) (k : Nat) := by
  induction d using Nat.strongRecOn with
  | _ d ih =>
    intro k e
    rcases (show d = 0 ∨ d = 1 ∨ 2 ≤ d by omega) with rfl | rfl | d2
    · have ek : k = n + 1 := by omega
      subst ek
      exact ⟨_, 1 - a, .here, (duo_end h a).2⟩
    · have ek : k = n := by omega
      subst ek
      exact ⟨_, a, .here, (duo_end h a).1⟩
    · have hk : k < n := by omega
      obtain ⟨x, y, ep, x0, x1, y0, y1, lt⟩ := duo_toss h (a := a) hk
      have go : ∀ z : Int, (k : Int) < z → z < n + 2 → Op (duo ts a) z := fun z z0 z1 => by
        obtain ⟨j, rfl⟩ : ∃ j : Nat, z = (j : Int) := ⟨z.toNat, by omega⟩
        exact ih (n + 1 - j) (by omega) j (by omega)
      rcases lt with lt | lt
      · obtain ⟨b, m, r, f⟩ := go x lt x1
        exact ⟨b, m, (Rch.here.heads ep).trans r, f⟩
      · obtain ⟨b, m, r, f⟩ := go y lt y1
        exact ⟨b, m, (Rch.here.tails ep).trans r, f⟩
theorem duo_coin {n : Nat} {ts : List Pl} (h : Later n ts) {a : Int} (a0 : 0 ≤ a) (a1 : a < 2) (l : n ≤ 28) (r0 : Rch (duo ts a) 0 (n : Nat)) (r1 : Rch (duo ts a) 0 ((n + 1 : Nat) : Int)) : CoinIs (duo ts a) .non := by
  have hw := duo_wf h a0 a1 l
  have al : ∀ m, Ans (duo ts a) m → m = 0 ∨ m = 1 := fun m ⟨k, r, e⟩ => by
    have hin := r.inn hw (in_zero hw)
    obtain ⟨j, rfl⟩ : ∃ j : Nat, k = (j : Int) := ⟨k.toNat, by have := hin.1; omega⟩
    have hj : j < n + 2 := by have := hin.2; rw [duo_len, h.ln] at this; omega
    rcases Nat.lt_or_ge j n with q | q
    · obtain ⟨x, y, ep, _⟩ := duo_toss h (a := a) q
      rw [ep] at e
      cases e
    · rcases (show j = n ∨ j = n + 1 by omega) with rfl | rfl
      · rw [(duo_end h a).1] at e
        cases e
        omega
      · rw [(duo_end h a).2] at e
        cases e
        omega
  have ra : Ans (duo ts a) a := ⟨_, r0, (duo_end h a).1⟩
  have rb : Ans (duo ts a) (1 - a) := ⟨_, r1, (duo_end h a).2⟩
  refine .coin (fun ⟨k, r, no⟩ => ?_) al ?_ ?_
  · have hin := r.inn hw (in_zero hw)
    obtain ⟨j, rfl⟩ : ∃ j : Nat, k = (j : Int) := ⟨k.toNat, by have := hin.1; omega⟩
    exact no (duo_op h a (n + 1 - j) j (by have := hin.2; rw [duo_len, h.ln] at this; omega))
  · rcases (show a = 0 ∨ a = 1 by omega) with rfl | rfl
    · exact ra
    · exact rb
  · rcases (show a = 0 ∨ a = 1 by omega) with rfl | rfl
    · exact rb
    · exact ra
section
variable {P : Program} {w : World} {K : PySem.W.Frag} {mg : Str → Option Value} {base : Heap}
def spLC : Sp := fun vs H Q _ => ∃ (p l : Addr) (most : Nat), vs = [.ref p, .int (most : Nat)] ∧ Pen H p l ∧ 0 < most ∧ most ≤ 20 ∧ ∀ (t : Addr) (ps : List Pl) H', But p H H' → Pen H' p l → H t = none → Mach H' t ps → WF ps → CoinIs ps .non → (∃ x y, place ps 0 = .toss x y) → ps.length ≤ most + 4 → Q (.ref t) H'
theorem scLC : FnScope ["pen", "most", "tosses", "places", "at", "later", "two", "answer", "machine", "comes"] ["pen", "most"] (defScope sLC) := ⟨rfl, rfl, rfl, by decide +kernel, rfl, by decide +kernel, by decide +kernel⟩
theorem ok_lc {f g c : Addr} {fd gd cd : FuncData} (F : Fun K "_law_coin" "_law_coin" sLC f fd) (T : Names mg) (GD : FnOk P w K mg base CX0 2 g gd ["pen", "many"] spDraw) (PD : Def K mg "_law_draw" g gd ["pen", "many"])
    (GL : FnOk P w K mg base CX0 1 c cd ["machine", "start"] spLR) (PL_ : Def K mg "_law_reached" c cd ["machine", "start"]) : FnOk P w K mg base CX0 3 f fd ["pen", "most"] spLC := by
  refine F.ok scLC (fun vs H Q E h => ?_) (fun cdv A outer s H vs Q E hr h => ?_)
  · obtain ⟨p, l, most, rfl, _⟩ := h
    rfl
  · obtain ⟨p, l, most, rfl, pn, m0, m20, q⟩ := h
    refine ⟨_, (pss_cons (ps_set (i := 2) scLC.nd rfl (.inl rfl) (pe_op op_add pe_int (pe_call GD (hr.mono (by decide)) (by rfl) PD.is PD.kp PD.bi .nil pass0 (pa_cons (pv 0) (pa_cons (pv 1) pa_nil)))))
      (pss_cons (ps_set (i := 3) scLC.nd rfl (.inl rfl) (pe_lst pa_nil))
      (pss_cons (ps_for PassesOwn.never rfl (pi_range1 rfl T.range (pa_cons (pv 2) pa_nil)) (pg_name (i := 4) scLC.nd rfl (.inl rfl)) (pss_cons (ps_set (i := 5) scLC.nd rfl (.inl rfl) (pe_op op_add (pe_op op_add (pv 4) pe_int) (pe_call GD (hr.mono (by decide)) (by rfl) PD.is PD.kp PD.bi .nil pass0 (pa_cons (pv 0) (pa_cons (pe_op op_sub (pe_op op_add (pv 2) pe_int) (pv 4)) pa_nil)))))
      (pss_cons (ps_set (i := 6) scLC.nd rfl (.inl rfl) (pe_tup (pa_cons (pv 5) (pa_cons (pe_call GD (hr.mono (by decide)) (by rfl) PD.is PD.kp PD.bi .nil pass0 (pa_cons (pv 0) (pa_cons (pe_op op_add (pv 2) pe_int) pa_nil))) pa_nil))))
      (pss_one (ps_expr (pe_bm PySem.F.plainAttrs_list PySem.F.slot_list_append PySem.F.type_list_append mt_append (pv 3) (pa_cons (pe_op op_catT (pe_tup (pa_cons pe_str pa_nil)) (SS.pe_step (pv 6) (pe_ix ix_list (pe_lst (pa_cons pe_int (pa_cons (pe_un un_neg pe_int) pa_nil))) (pe_call GD (hr.mono (by decide)) (by rfl) PD.is PD.kp PD.bi .nil pass0 (pa_cons (pv 0) (pa_cons pe_int pa_nil))) (fun _ _ => rfl)))) pa_nil)))))))
      (pss_cons (ps_set (i := 7) scLC.nd rfl (.inl rfl) (pe_call GD (hr.mono (by decide)) (by rfl) PD.is PD.kp PD.bi .nil pass0 (pa_cons (pv 0) (pa_cons pe_int pa_nil))))
      (pss_cons (ps_set (i := 8) scLC.nd rfl (.inl rfl) (pe_op op_catT (pe_callTy call_tuple_of (by rfl) T.tuple (by decide +kernel) (pa_cons (pv 3) pa_nil)) (pe_tup (pa_cons (pe_tup (pa_cons pe_str (pa_cons (pv 7) pa_nil))) (pa_cons (pe_tup (pa_cons pe_str (pa_cons (pe_op op_sub pe_int (pv 7)) pa_nil))) pa_nil)))))
      (pss_cons (ps_set (i := 9) scLC.nd rfl (.inl rfl) (pe_call GL (hr.mono (by decide)) (by rfl) PL_.is PL_.kp PL_.bi .nil pass0 (pa_cons (pv 8) (pa_cons pe_int pa_nil))))
      (pss_cons (ps_if (PW.pt (pw_and (pt_cmpR op_in_seq (pv 2) (pv 9) (by rfl)) (pw_and1 (pt_cmpR op_in_seq (pe_op op_add (pv 2) pe_int) (pv 9) (by rfl))))) (pss_one (ps_ret (pv 8))) pss_nil)
      (pss_one (ps_ret (pe_tup (pa_cons (pe_tup (pa_cons pe_str (pa_cons (pe_op op_add pe_int (pe_call GD (hr.mono (by decide)) (by rfl) PD.is PD.kp PD.bi .nil pass0 (pa_cons (pv 0) (pa_cons pe_int pa_nil)))) (pa_cons pe_int pa_nil)))) (pa_cons (pe_tup (pa_cons pe_str (pa_cons pe_int (pa_cons pe_int pa_nil)))) (pa_cons (pe_tup (pa_cons pe_str (pa_cons (pv 7) pa_nil))) (pa_cons (pe_tup (pa_cons pe_str (pa_cons (pe_op op_sub pe_int (pv 7)) pa_nil))) pa_nil)))))))))))))), ?_⟩
    have line : sizeLine = 16777216 := by decide
    refine ⟨.ref p, rfl, _, rfl, p, l, (most : Int), rfl, pn, by omega, log_le (by omega), fun d H1 d0 d1 b1 p1 => ⟨_, _, rfl, rfl, ?_⟩⟩
    obtain ⟨n, hn⟩ : ∃ n : Nat, 1 + d = (n : Int) := ⟨(1 + d).toNat, by omega⟩
    dsimp only
    rw [hn]
    have n0 : 0 < n := by omega
    have n1 : n ≤ most := by omega
    refine ⟨Nat.zero_le _, fun P0 nP => ?_⟩
    have aP := p1.apart nP
    have sP := Same.upd (o := .lst []) nP
    refine ⟨_, rfl, _, rfl, by omega, by omega, ?_⟩
    rw [Int.toNat_natCast]
    refine for_range (lo := 0) (n := n) (fun i σ H' => ∃ (rs : List V) (ts : List Pl) (v4 v5 v6 : Option V), σ = [some (V.ref p), some (V.int (most : Nat)), some (V.int (n : Nat)), some (V.ref P0), v4, v5, v6, none, none, none] ∧ H' P0 = some (.lst rs) ∧ Pls H' rs ts ∧ ts.length = i ∧ But p H1 H' ∧ Pen H' p l ∧ ∀ k, k < i → ∃ x y : Int, ts[k]? = some (.toss x y) ∧ 0 ≤ x ∧ x < n + 2 ∧ 0 ≤ y ∧ y < n + 2 ∧ (k < x ∨ k < y)) ⟨[], [], _, _, _, rfl, upd_same, .nil, rfl, But.of sP, p1.same sP, fun k hk => absurd hk (Nat.not_lt_zero _)⟩ ?_ ?_
    · rintro i σ H2 hi ⟨rs, ts, v4, v5, v6, rfl, e2, pl2, lt2, b2, p2, ht⟩
      refine ⟨_, rfl, _, _, rfl, rfl, _, rfl, _, rfl, _, _, rfl, rfl, _, rfl, _, _, rfl, rfl, p, l, (n : Int) + 1 - (0 + (i : Nat)), rfl, p2, by omega, log_le (by omega), fun u H3 u0 u1 b3 p3 => ⟨_, _, rfl, rfl, ?_⟩⟩
      refine ⟨_, rfl, _, rfl, _, rfl, _, _, rfl, rfl, p, l, (n : Int) + 2, rfl, p3, by omega, log_le (by omega), fun z H4 z0 z1 b4 p4 => ⟨by show 2 ≤ sizeLine; decide, fun T nT => ?_⟩⟩
      obtain ⟨x, hx⟩ : ∃ x : Int, (0 : Int) + (i : Nat) + 1 + u = x := ⟨_, rfl⟩
      dsimp only
      rw [hx]
      have x0 : (i : Int) < x := by omega
      have x1 : x < n + 2 := by omega
      have s5 := Same.upd (o := .tup [V.int x, .int z]) nT
      have eT : upd H4 T (.tup [V.int x, .int z]) T = some (.tup [V.int x, .int z]) := upd_same
      have b24 := b3.trans b4
      have p5 := p4.same s5
      have b25 := b24.trans (But.of s5)
      generalize upd H4 T (.tup [V.int x, .int z]) = H5 at eT p5 b25 ⊢
      have e5 := b25.mem aP.1 e2
      refine ⟨_, rfl, .inl ⟨rfl, _, SqL.of e5⟩, by show 1 ≤ sizeLine; decide, fun T1 nT1 => ?_⟩
      have s6 := Same.upd (o := .tup [V.str (PySem.Str.ofString "toss")]) nT1
      have eT1 : upd H5 T1 (.tup [V.str (PySem.Str.ofString "toss")]) T1 = some (.tup [V.str (PySem.Str.ofString "toss")]) := upd_same
      have p6 := p5.same s6
      have b26 := b25.trans (But.of s6)
      have eT6 := s6 _ _ eT
      generalize upd H5 T1 (.tup [V.str (PySem.Str.ofString "toss")]) = H6 at eT1 p6 b26 eT6 ⊢
      refine ⟨_, rfl, _, rfl, by show 2 ≤ sizeLine; decide, fun L nL => ?_⟩
      have s7 := Same.upd (o := .lst [V.int 1, .int (-1)]) nL
      have eL : upd H6 L (.lst [V.int 1, .int (-1)]) L = some (.lst [V.int 1, .int (-1)]) := upd_same
      have p7 := p6.same s7
      have b27 := b26.trans (But.of s7)
      have aL := p6.apart nL
      have eT7 := s7 _ _ eT6
      have eT17 := s7 _ _ eT1
      generalize upd H6 L (.lst [V.int 1, .int (-1)]) = H7 at eL p7 b27 eT7 eT17 ⊢
      refine ⟨.ref p, rfl, p, l, 2, rfl, p7, by decide, by decide +kernel, fun v H8 v0 v1 b8 p8 => ?_⟩
      have eL8 := b8.mem aL.1 eL
      have eT8 := b8.mem (p7.notTup eT7) eT7
      have eT18 := b8.mem (p7.notTup eT17) eT17
      have b28 := b27.trans b8
      -- the toss, either way round
      have fin : ∀ (r : Addr) (a b : Int) (H9 : Hp), But p H8 H9 → Pen H9 p l → H9 r = some (.tup (Pl.toss a b).row) → 0 ≤ a → a < n + 2 → 0 ≤ b → b < n + 2 → ((i : Int) < a ∨ (i : Int) < b) → H9 P0 = some (.lst rs) ∧ rs.length < sizeLine ∧ (∃ (rs' : List V) (ts' : List Pl) (v4 v5 v6 : Option V), [some (V.ref p), some (V.int (most : Nat)), some (V.int (n : Nat)), some (V.ref P0), some (V.int (0 + (i : Nat))), some (V.int x), some (V.ref T), none, none, none] = [some (V.ref p), some (V.int (most : Nat)), some (V.int (n : Nat)), some (V.ref P0), v4, v5, v6, none, none, none] ∧ upd H9 P0 (.lst (rs ++ [.ref r])) P0 = some (.lst rs') ∧ Pls (upd H9 P0 (.lst (rs ++ [.ref r]))) rs' ts' ∧ ts'.length = i + 1 ∧ But p H1 (upd H9 P0 (.lst (rs ++ [.ref r]))) ∧ Pen (upd H9 P0 (.lst (rs ++ [.ref r]))) p l ∧ ∀ k, k < i + 1 → ∃ x y : Int, ts'[k]? = some (.toss x y) ∧ 0 ≤ x ∧ x < n + 2 ∧ 0 ≤ y ∧ y < n + 2 ∧ (k < x ∨ k < y)) := fun r a b H9 b9 p9 er a0 a1 c0 c1 lt => by
        have b29 := b28.trans b9
        have e9 := b29.mem aP.1 e2
        have pl9 : Pls H9 rs ts := pl2.mono fun t xs e => b29.mem (p2.notTup e) e
        have notP : ∀ {t : Addr} {xs : List V}, H9 t = some (.tup xs) → upd H9 P0 (.lst (rs ++ [.ref r])) t = some (.tup xs) := fun h => by
          rw [upd_ne (ne_of h e9 (by intro z; cases z))]
          exact h
        refine ⟨e9, by rw [pl2.len]; omega, rs ++ [.ref r], ts ++ [.toss a b], _, _, _, rfl, upd_same, (pl9.mono fun t xs e => notP e).snoc (notP er), by simp [lt2], ?_, ?_, fun k hk => ?_⟩
        · intro c o h ne
          by_cases q : c = P0
          · subst q
            rw [nP] at h
            cases h
          · rw [upd_ne q]
            exact (b2.trans b29) c o h ne
        · obtain ⟨cs, pos, val, h1, h2, h3⟩ := p9
          exact ⟨cs, pos, val, by rw [upd_ne aP.1.symm]; exact h1, by rw [upd_ne aP.2.symm]; exact h2, h3⟩
        · rcases Nat.lt_or_ge k i with q | q
          · obtain ⟨x', y', h⟩ := ht k q
            exact ⟨x', y', by rw [List.getElem?_append_left (by omega)]; exact h.1, h.2⟩
          · have ek : k = i := by omega
            subst ek
            exact ⟨a, b, by rw [List.getElem?_append_right (by omega), lt2, Nat.sub_self]; rfl, a0, a1, c0, c1, lt⟩
      rcases (show v = 0 ∨ v = 1 by omega) with rfl | rfl
      · refine ⟨L, _, 0, .int 1, rfl, rfl, SqL.of eL8, atI_nat (j := 0) rfl, T, _, rfl, SqT.of eT8, .inl ⟨rfl, ?_⟩⟩
        refine ⟨T1, T, _, _, rfl, rfl, SqT.of eT18, SqT.of eT8, by simp, by show 1 + 2 ≤ sizeLine; decide, (fun h => by cases h), fun _ r nr => ?_⟩
        have s9 := Same.upd (o := .tup [V.str (PySem.Str.ofString "toss"), .int x, .int z]) nr
        obtain ⟨f1, f2, f3⟩ := fin r x z _ (But.of s9) (p8.same s9) upd_same (by omega) x1 z0 z1 (.inl x0)
        exact ⟨P0, _, _, rfl, rfl, f1, f2, f3⟩
      · refine ⟨L, _, 1, .int (-1), rfl, rfl, SqL.of eL8, atI_nat (j := 1) rfl, T, _, rfl, SqT.of eT8, .inr ⟨rfl, fun R nR => ?_⟩⟩
        have sR := Same.upd (o := .tup [V.int z, .int x]) nR
        have eR : upd H8 R (.tup [V.int z, .int x]) R = some (.tup [V.int z, .int x]) := upd_same
        refine ⟨T1, R, _, _, rfl, rfl, SqT.of (sR _ _ eT18), SqT.of eR, by simp, by show 1 + 2 ≤ sizeLine; decide, (fun h => by cases h), fun _ r nr => ?_⟩
        have s9 := Same.upd (o := .tup [V.str (PySem.Str.ofString "toss"), .int z, .int x]) nr
        obtain ⟨f1, f2, f3⟩ := fin r z x _ ((But.of sR).trans (But.of s9)) ((p8.same sR).same s9) upd_same z0 z1 (by omega) x1 (.inr x0)
        exact ⟨P0, _, _, rfl, rfl, f1, f2, f3⟩
    · rintro σ H2 ⟨rs, ts, v4, v5, v6, rfl, e2, pl2, lt2, b2, p2, ht⟩
      have lat : Later n ts := ⟨lt2, ht⟩
      refine ⟨.ref p, rfl, p, l, 2, rfl, p2, by decide, by decide +kernel, fun a H3 a0 a1 b3 p3 => ?_⟩
      have b23 := b2.trans b3
      have e3 := b3.mem aP.1 e2
      have pl3 : Pls H3 rs ts := pl2.mono fun t xs e => b3.mem (p2.notTup e) e
      refine ⟨_, rfl, P0, _, rfl, .inl ⟨SqL.of e3, fun M nM => ?_⟩⟩
      have sM := Same.upd (o := .tup rs) nM
      have eM : upd H3 M (.tup rs) M = some (.tup rs) := upd_same
      have pl4 : Pls (upd H3 M (.tup rs)) rs ts := pl3.mono fun t xs e => sM _ _ e
      have p4 := p3.same sM
      have b4 := b23.trans (But.of sM)
      generalize upd H3 M (.tup rs) = H4 at eM pl4 p4 b4 ⊢
      refine ⟨_, rfl, by show 2 ≤ sizeLine; decide, fun E0 nE0 => ?_⟩
      have s5 := Same.upd (o := .tup [V.str (PySem.Str.ofString "end"), .int a]) nE0
      have f0 : upd H4 E0 (.tup [V.str (PySem.Str.ofString "end"), .int a]) E0 = some (.tup (Pl.fin a).row) := upd_same
      have eM5 := s5 _ _ eM
      have pl5 : Pls (upd H4 E0 (.tup [V.str (PySem.Str.ofString "end"), .int a])) rs ts := pl4.mono fun t xs e => s5 _ _ e
      have p5 := p4.same s5
      have b5 := b4.trans (But.of s5)
      generalize upd H4 E0 (.tup [V.str (PySem.Str.ofString "end"), .int a]) = H5 at f0 eM5 pl5 p5 b5 ⊢
      refine ⟨_, rfl, _, _, rfl, rfl, by show 2 ≤ sizeLine; decide, fun E1 nE1 => ?_⟩
      have s6 := Same.upd (o := .tup [V.str (PySem.Str.ofString "end"), .int (1 - a)]) nE1
      have f1 : upd H5 E1 (.tup [V.str (PySem.Str.ofString "end"), .int (1 - a)]) E1 = some (.tup (Pl.fin (1 - a)).row) := upd_same
      have f06 := s6 _ _ f0
      have eM6 := s6 _ _ eM5
      have pl6 : Pls (upd H5 E1 (.tup [V.str (PySem.Str.ofString "end"), .int (1 - a)])) rs ts := pl5.mono fun t xs e => s6 _ _ e
      have p6 := p5.same s6
      have b6 := b5.trans (But.of s6)
      dsimp only
      generalize upd H5 E1 (.tup [V.str (PySem.Str.ofString "end"), .int (1 - a)]) = H6 at f1 f06 eM6 pl6 p6 b6 ⊢
      refine ⟨by show 2 ≤ sizeLine; decide, fun E2 nE2 => ?_⟩
      have s7 := Same.upd (o := .tup [V.ref E0, .ref E1]) nE2
      have f2 : upd H6 E2 (.tup [V.ref E0, .ref E1]) E2 = some (.tup [V.ref E0, .ref E1]) := upd_same
      have f07 := s7 _ _ f06
      have f17 := s7 _ _ f1
      have eM7 := s7 _ _ eM6
      have pl7 : Pls (upd H6 E2 (.tup [V.ref E0, .ref E1])) rs ts := pl6.mono fun t xs e => s7 _ _ e
      have p7 := p6.same s7
      have b7 := b6.trans (But.of s7)
      generalize upd H6 E2 (.tup [V.ref E0, .ref E1]) = H7 at f2 f07 f17 eM7 pl7 p7 b7 ⊢
      have rl := pl7.len
      refine ⟨M, E2, rs, _, rfl, rfl, SqT.of eM7, SqT.of f2, (fun h => by rw [h] at rl; rw [lt2] at rl; exact absurd rl (by show ¬ 0 = n; omega)), by rw [rl, lt2]; show n + 2 ≤ sizeLine; omega, (fun h => by cases h), fun _ C nC => ?_⟩
      have s8 := Same.upd (o := .tup (rs ++ [V.ref E0, .ref E1])) nC
      have hmC : Mach (upd H7 C (.tup (rs ++ [V.ref E0, .ref E1]))) C (duo ts a) := ⟨_, upd_same, (pl7.mono fun t xs e => s8 _ _ e).app (.cons (s8 _ _ f07) (.cons (s8 _ _ f17) .nil))⟩
      have p8 := p7.same s8
      have b8 := b7.trans (But.of s8)
      have nCH : H7 C = none := nC
      generalize upd H7 C (.tup (rs ++ [V.ref E0, .ref E1])) = H8 at s8 hmC p8 b8 ⊢
      have hwC := duo_wf lat a0 a1 (by omega)
      refine ⟨_, rfl, C, 0, duo ts a, rfl, hmC, hwC, in_zero hwC, fun L ks H9 s9 nL eL hks => ?_⟩
      have p9 := p8.same s9
      have b9 := b8.trans (But.of s9)
      have hm9 := hmC.same s9
      -- the way out by three places
      have b1P := b1
      dsimp only
      refine on (if_tail (fun σ H' => σ = [some (V.ref p), some (V.int (most : Nat)), some (V.int (n : Nat)), some (V.ref P0), v4, v5, v6, some (V.int a), some (V.ref C), some (V.ref L)] ∧ H' = H9) ?_ (fun tl => ?_))
      rotate_left
      · refine ⟨_, rfl, _, rfl, L, _, rfl, .inl (SqL.of eL), rfl, flat_ints _, _, rfl, ?_⟩
        change (if (inV (V.int (n : Nat)) (ks.map V.int)) = true then _ else _ : Prop)
        rw [notIn_ints]
        by_cases h0 : ((n : Nat) : Int) ∈ ks
        · rw [decide_eq_true h0]
          refine iteT ⟨_, rfl, _, _, rfl, rfl, _, rfl, L, _, rfl, .inl (SqL.of eL), rfl, flat_ints _, _, rfl, ?_⟩
          change (if (inV (V.int ((n : Nat) + 1 : Int)) (ks.map V.int)) = true then _ else _ : Prop)
          rw [notIn_ints]
          by_cases h1 : ((n : Nat) : Int) + 1 ∈ ks
          · rw [decide_eq_true h1]
            refine iteT ⟨_, rfl, ?_⟩
            have cn := duo_coin lat a0 a1 (by omega) ((hks.2 _).mp h0) ((hks.2 _).mp h1)
            obtain ⟨x, y, e0, _⟩ := duo_toss lat (a := a) (show 0 < n from n0)
            refine q C (duo ts a) H9 (b1.trans b9) p9 ?_ hm9 hwC cn ⟨x, y, e0⟩ (by rw [duo_len, lt2]; omega)
            exact (b1.trans b7).free (p7.apart nC).1 nCH
          · rw [decide_eq_false h1]
            exact iteF (tl _ _ ⟨rfl, rfl⟩)
        · rw [decide_eq_false h0]
          exact iteF (iteF (tl _ _ ⟨rfl, rfl⟩))
      · rintro σ HX ⟨rfl, rfl⟩
        refine ⟨_, rfl, p, l, 2, rfl, p9, by decide, by decide +kernel, fun d HA d0 d1 bA pA => ⟨_, _, rfl, rfl, by show 3 ≤ sizeLine; decide, fun t1 n1' => ?_⟩⟩
        have q1 := Same.upd (o := .tup [V.str (PySem.Str.ofString "toss"), .int (1 + d), .int 1]) n1'
        have g1 : upd HA t1 (.tup [V.str (PySem.Str.ofString "toss"), .int (1 + d), .int 1]) t1 = some (.tup (Pl.toss (1 + d) 1).row) := upd_same
        generalize upd HA t1 (.tup [V.str (PySem.Str.ofString "toss"), .int (1 + d), .int 1]) = HB at q1 g1 ⊢
        refine ⟨by show 3 ≤ sizeLine; decide, fun t2 n2' => ?_⟩
        have q2 := Same.upd (o := .tup [V.str (PySem.Str.ofString "toss"), .int 3, .int 2]) n2'
        have g2 : upd HB t2 (.tup [V.str (PySem.Str.ofString "toss"), .int 3, .int 2]) t2 = some (.tup (Pl.toss 3 2).row) := upd_same
        generalize upd HB t2 (.tup [V.str (PySem.Str.ofString "toss"), .int 3, .int 2]) = HC at q2 g2 ⊢
        refine ⟨_, rfl, by show 2 ≤ sizeLine; decide, fun t3 n3' => ?_⟩
        have q3 := Same.upd (o := .tup [V.str (PySem.Str.ofString "end"), .int a]) n3'
        have g3 : upd HC t3 (.tup [V.str (PySem.Str.ofString "end"), .int a]) t3 = some (.tup (Pl.fin a).row) := upd_same
        generalize upd HC t3 (.tup [V.str (PySem.Str.ofString "end"), .int a]) = HD at q3 g3 ⊢
        refine ⟨_, rfl, _, _, rfl, rfl, by show 2 ≤ sizeLine; decide, fun t4 n4' => ?_⟩
        have q4 := Same.upd (o := .tup [V.str (PySem.Str.ofString "end"), .int (1 - a)]) n4'
        have g4 : upd HD t4 (.tup [V.str (PySem.Str.ofString "end"), .int (1 - a)]) t4 = some (.tup (Pl.fin (1 - a)).row) := upd_same
        dsimp only
        generalize upd HD t4 (.tup [V.str (PySem.Str.ofString "end"), .int (1 - a)]) = HE at q4 g4 ⊢
        refine ⟨by show 4 ≤ sizeLine; decide, fun t5 n5' => ?_⟩
        have q5 := Same.upd (o := .tup [V.ref t1, .ref t2, .ref t3, .ref t4]) n5'
        have q15 := (((q1.trans q2).trans q3).trans q4)
        have lat2 : Later 2 [.toss (1 + d) 1, .toss 3 2] := ⟨rfl, fun k hk => by
          rcases (show k = 0 ∨ k = 1 by omega) with rfl | rfl
          · exact ⟨1 + d, 1, rfl, by omega, by show (1 : Int) + d < (2 : Nat) + 2; omega, by decide, by decide, .inr (by decide)⟩
          · exact ⟨3, 2, rfl, by decide, by decide, by decide, by decide, .inl (by decide)⟩⟩
        have hw2 := duo_wf lat2 a0 a1 (by decide)
        have pl0 : place (duo [.toss (1 + d) 1, .toss 3 2] a) 0 = .toss (1 + d) 1 := rfl
        have pl1 : place (duo [.toss (1 + d) 1, .toss 3 2] a) 1 = .toss 3 2 := rfl
        have r1' : Rch (duo [.toss (1 + d) 1, .toss 3 2] a) 0 1 := Rch.here.tails pl0
        have pA' := pA.same q15
        refine q t5 (duo [.toss (1 + d) 1, .toss 3 2] a) _ (((b1.trans b9).trans bA).trans ((But.of q15).trans (But.of q5))) (pA'.same q5) ?_ ⟨_, upd_same, .cons (q5 _ _ (q4 _ _ (q3 _ _ (q2 _ _ g1)))) (.cons (q5 _ _ (q4 _ _ (q3 _ _ g2))) (.cons (q5 _ _ (q4 _ _ g3)) (.cons (q5 _ _ g4) .nil)))⟩ hw2 (duo_coin lat2 a0 a1 (by decide) (r1'.tails pl1) (r1'.heads pl1)) ⟨_, _, pl0⟩ (by show 4 ≤ most + 4; omega)
        exact (((b1.trans b9).trans bA).trans (But.of q15)).free (pA'.apart n5').1 n5'
end
end Z

set_option Elab.async false
set_option linter.all false
set_option maxRecDepth 100000
set_option maxHeartbeats 4000000
namespace Z
open PySem PySem.Spec PyProof.Rows L2 GG
abbrev sOne : Stmt := top 20
abbrev sLaw : Stmt := top 21
/-! all ends made the same -/
def one1 : Pl → Pl
  | .fin _ => .fin 1
  | p => p
theorem place_one {ps : List Pl} (k : Int) : place (ps.map one1) k = one1 (place ps k) := by
  unfold place
  rw [List.getD_eq_getElem?_getD, List.getD_eq_getElem?_getD, List.getElem?_map]
  cases ps[k.toNat]? <;> rfl
theorem one_toss {p : Pl} {x y : Int} : one1 p = .toss x y ↔ p = .toss x y := by
  cases p <;> simp [one1]
theorem one_fin {p : Pl} {n : Int} : one1 p = .fin n ↔ n = 1 ∧ ∃ m, p = .fin m := by
  cases p with
  | fin m =>
    constructor
    · intro h
      exact ⟨(Pl.fin.inj h).symm, m, rfl⟩
    · rintro ⟨rfl, _⟩
      rfl
  | toss x y => simp [one1]
  | never => simp [one1]
theorem rch_one {ps : List Pl} {s k : Int} : Rch (ps.map one1) s k ↔ Rch ps s k := by
  constructor
  · intro h
    induction h with
    | here => exact .here
    | heads _ e ih => rw [place_one, one_toss] at e; exact ih.heads e
    | tails _ e ih => rw [place_one, one_toss] at e; exact ih.tails e
  · intro h
    induction h with
    | here => exact .here
    | heads _ e ih => exact ih.heads (by rw [place_one, one_toss]; exact e)
    | tails _ e ih => exact ih.tails (by rw [place_one, one_toss]; exact e)
theorem sure_one {ps : List Pl} (h : CoinIs ps .non) : CoinIs (ps.map one1) (.str "sure") := by
  cases h with
  | coin a b c d =>
    have all1 : ∀ n, Ans (ps.map one1) n → n = 1 := fun n ⟨k, r, e⟩ => by
      rw [place_one, one_fin] at e
      exact e.1
    refine .sure (fun ⟨k, r, no⟩ => a ⟨k, rch_one.mp r, fun ⟨e, m, r2, f⟩ => no ⟨e, 1, rch_one.mpr r2, by rw [place_one, f]; rfl⟩⟩) (fun n hn => .inr (all1 n hn)) (fun z => ?_)
    have := all1 0 z.1
    omega
theorem wf_one {ps : List Pl} (hw : WF ps) : WF (ps.map one1) := ⟨by rw [List.length_map]; exact hw.ne, by rw [List.length_map]; exact hw.le, fun p hp => by
  rw [List.length_map]
  obtain ⟨q, hq, rfl⟩ := List.mem_map.mp hp
  have := hw.ok q hq
  cases q with
  | toss a b => exact this
  | fin n => exact ⟨by decide, by decide⟩
  | never => trivial⟩
theorem cut_tail (xs : List V) : cutV xs (some 1) none = xs.tail := by
  unfold cutV
  have e1 : HT.sIx xs.length 0 (some 1) = min 1 xs.length := HT.sIx_nat xs.length 0 1
  rw [e1, HT.sIx_none]
  cases xs with
  | nil => rfl
  | cons x r =>
    rw [List.length_cons, show min 1 (r.length + 1) = 1 by omega]
    show List.take (r.length + 1 - 1) r = r
    rw [Nat.add_sub_cancel, List.take_length]
theorem pls_cons {H : Hp} {rs : List V} {ps : List Pl} (h : Pls H rs ps) (n : 0 < ps.length) : ∃ (t0 : Addr) (q0 : Pl) (rs' : List V) (ps' : List Pl), rs = .ref t0 :: rs' ∧ ps = q0 :: ps' ∧ H t0 = some (.tup q0.row) ∧ Pls H rs' ps' := by
  cases h with
  | nil => exact absurd n (Nat.lt_irrefl 0)
  | cons e g => exact ⟨_, _, _, _, rfl, rfl, e, g⟩
/-! repr of a text, of None -/
section
variable {X : Cx}
def rReprV : List V → Hp → VK → Prop := fun vs H Q => (vs = [.non] ∧ Q (.str "None") H) ∨ ∃ x : Str, vs = [.str x] ∧ (reprText x).length ≤ sizeLine ∧ Q (.str (reprText x)) H
theorem call_reprV : CallR X (.builtin "repr") rReprV := by
  intro pins s σ H vs us Q I r h
  rcases h with ⟨rfl, q⟩ | ⟨x, rfl, few, q⟩
  · obtain ⟨u, rfl, ru⟩ := vals1 r
    have e : u = Value.none := ru
    subst e
    exact PySem.P.repr_of_none ⟨.str _, H, I.tok _, ⟨_, rfl⟩, q⟩
  · obtain ⟨u, rfl, ru⟩ := vals1 r
    obtain ⟨t, e⟩ : ∃ t, u = Value.str x t := ru
    subst e
    exact PySem.P.repr_of_str ⟨.str _, H, I.tok _, ⟨_, rfl⟩, q⟩ few
end
theorem CoinIs.shown {ps : List Pl} {v : V} (h : CoinIs ps v) : ∃ t : Str, ∀ (H : Hp) (Q : VK), Q (.str t) H → rReprV [v] H Q := by
  cases h with
  | ends _ => exact ⟨_, fun H Q q => .inr ⟨_, rfl, by rw [sizeLine_eq]; decide +kernel, q⟩⟩
  | answers _ _ => exact ⟨_, fun H Q q => .inr ⟨_, rfl, by rw [sizeLine_eq]; decide +kernel, q⟩⟩
  | sure _ _ _ => exact ⟨_, fun H Q q => .inr ⟨_, rfl, by rw [sizeLine_eq]; decide +kernel, q⟩⟩
  | coin _ _ _ _ => exact ⟨_, fun H Q q => .inl ⟨rfl, q⟩⟩
section
variable {P : Program} {w : World} {K : PySem.W.Frag} {mg : Str → Option Value} {base : Heap}
def spOne : Sp := fun vs H Q _ => ∃ (t : Addr) (p : Pl), vs = [.ref t] ∧ H t = some (.tup p.row) ∧ ∀ t' H', Same H H' → H' t' = some (.tup (one1 p).row) → Q (.ref t') H'
theorem scOne : FnScope ["place"] ["place"] (defScope sOne) := ⟨rfl, rfl, rfl, by decide +kernel, rfl, by decide +kernel, by decide +kernel⟩
theorem ok_one {f : Addr} {fd : FuncData} (F : Fun K "_law_one_answer" "_law_one_answer" sOne f fd) : FnOk P w K mg base CX0 1 f fd ["place"] spOne := by
  refine F.ok scOne (fun vs H Q E h => ?_) (fun cdv A outer s H vs Q E hr h => ?_)
  · obtain ⟨t, p, rfl, _⟩ := h
    rfl
  · obtain ⟨t, p, rfl, et, q⟩ := h
    refine ⟨_, (pss_one (ps_ret (pe_ifExp (pt_cmpR op_eq (pe_ix ix_tup (pv 0) pe_int (fun _ _ => rfl)) pe_str (nomark _)) (pe_tup (pa_cons pe_str (pa_cons pe_int pa_nil))) (pv 0)))), ?_⟩
    cases p with
    | toss x y =>
      refine ⟨.ref t, rfl, t, _, 0, .str "toss", rfl, rfl, SqT.of et, atI_nat (j := 0) rfl, rfl, _, rfl, ?_⟩
      rw [decide_eq_false str_end_toss]
      exact iteF ⟨_, rfl, q t H (fun _ _ z => z) et⟩
    | fin n =>
      refine ⟨.ref t, rfl, t, _, 0, .str "end", rfl, rfl, SqT.of et, atI_nat (j := 0) rfl, rfl, _, rfl, ?_⟩
      rw [decide_eq_true rfl]
      exact iteT ⟨by show 2 ≤ sizeLine; decide, fun r nr => q r _ (Same.upd nr) upd_same⟩
    | never =>
      refine ⟨.ref t, rfl, t, _, 0, .str "never", rfl, rfl, SqT.of et, atI_nat (j := 0) rfl, rfl, _, rfl, ?_⟩
      rw [decide_eq_false str_end_never]
      exact iteF ⟨_, rfl, q t H (fun _ _ z => z) et⟩
structure NamesL (mg : Str → Option Value) : Prop extends NamesD mg where
  repr : mg "repr" = none
  max : mg "max" = none
  min : mg "min" = none
  any : mg "any" = none
def spLaw (K : PySem.W.Frag) : Sp := fun vs H Q _ => ∃ (a : Addr) (ns : List Int), vs = [.ref a] ∧ SqL K H a (ns.map V.int) ∧ ns.length ≤ 63 ∧ ∀ H', Q (.bl true) H'
theorem scLaw : FnScope ["script", "pen", "turn", "machine", "coin", "more", "place"] ["script"] (defScope sLaw) := ⟨rfl, rfl, rfl, by decide +kernel, rfl, by decide +kernel, by decide +kernel⟩
theorem ok_law {f fP fD fM fC fE fU fO : Addr} {fd dP dD dM dC dE dU dO : FuncData} (F : Fun K "law" "law" sLaw f fd) (T : NamesL mg)
    (GP : FnOk P w K mg base CX0 1 fP dP ["script"] (spPen K)) (P1 : Def K mg "_law_pen" fP dP ["script"])
    (GD : FnOk P w K mg base CX0 2 fD dD ["pen", "many"] spDraw) (P2 : Def K mg "_law_draw" fD dD ["pen", "many"])
    (GM : FnOk P w K mg base CX0 4 fM dM ["pen", "most", "answers"] spMach) (P3 : Def K mg "_law_machine" fM dM ["pen", "most", "answers"])
    (GC : FnOk P w K mg base CX0 3 fC dC ["pen", "most"] spLC) (P4 : Def K mg "_law_coin" fC dC ["pen", "most"])
    (GE : FnOk P w K mg base CX0 5 fE dE ["machine"] spCE) (P5 : Def K mg "coin_error" fE dE ["machine"])
    (GU : FnOk P w K mg base CX0 3 fU dU ["machine"] spDue) (P6 : Def K mg "_law_due" fU dU ["machine"])
    (GO : FnOk P w K mg base CX0 1 fO dO ["place"] spOne) (P7 : Def K mg "_law_one_answer" fO dO ["place"]) :
    FnG P w K mg base 7 f fd ["script"] (spLaw K) := by
  refine fnG_of F scLaw (fun vs H Q E h => ?_) (fun cdv A outer s H vs Q E hg hr h => ?_)
  · obtain ⟨a, ns, rfl, _⟩ := h
    rfl
  · obtain ⟨a, ns, rfl, hS, hlen, q⟩ := h
    have hu : A.units + 3 + 64 < cLine := hr.units
    have cr := call_reprV (X := (cxOf CX0 P w K mg base ["script", "pen", "turn", "machine", "coin", "more", "place"] "law" (defScope sLaw) f cdv A outer s H E).nox)
    refine ⟨_, (pss_cons (ps_set (i := 1) scLaw.nd rfl (.inl rfl) (pe_call GP (hr.mono (by decide)) (by rfl) P1.is P1.kp P1.bi .nil pass0 (pa_cons (pv 0) pa_nil)))
      (pss_cons (ps_for PassesOwn.never rfl (pi_range1 rfl T.range (pa_cons (pe_callB (call_max2 rfl) (by rfl) T.max (by decide +kernel) (pa_cons pe_int (pa_cons (pe_callB (call_min2 rfl) (by rfl) T.min (by decide +kernel) (pa_cons pe_int (pa_cons (pe_callB call_len_seq (by rfl) T.len PySem.boot_len (pa_cons (pv 0) pa_nil)) pa_nil))) pa_nil))) pa_nil)) (pg_name (i := 2) scLaw.nd rfl (.inl rfl)) (pss_cons (ps_set (i := 3) scLaw.nd rfl (.inl rfl) (pe_call GM (hr.mono (by decide)) (by rfl) P3.is P3.kp P3.bi .nil pass0 (pa_cons (pv 1) (pa_cons pe_int (pa_cons (pe_ix ix_list (pe_lst (pa_cons (pe_lst (pa_cons pe_int (pa_cons pe_int pa_nil))) (pa_cons (pe_lst (pa_cons pe_int (pa_cons pe_int (pa_cons pe_int (pa_cons pe_int (pa_cons pe_int pa_nil)))))) (pa_cons (pe_lst (pa_cons pe_int pa_nil)) pa_nil)))) (pe_call GD (hr.mono (by decide)) (by rfl) P2.is P2.kp P2.bi .nil pass0 (pa_cons (pv 1) (pa_cons pe_int pa_nil))) (fun _ _ => rfl)) pa_nil)))))
      (pss_cons (ps_set (i := 4) scLaw.nd rfl (.inl rfl) (pe_call GC (hr.mono (by decide)) (by rfl) P4.is P4.kp P4.bi .nil pass0 (pa_cons (pv 1) (pa_cons pe_int pa_nil))))
      (pss_cons (ps_if (PW.pt (pw_or (pt_cmpR op_ne (pe_callB cr (by rfl) T.repr (by decide +kernel) (pa_cons (pe_call GE (hr.mono (by decide)) (by rfl) P5.is P5.kp P5.bi .nil pass0 (pa_cons (pv 3) pa_nil)) pa_nil)) (pe_callB cr (by rfl) T.repr (by decide +kernel) (pa_cons (pe_call GU (hr.mono (by decide)) (by rfl) P6.is P6.kp P6.bi .nil pass0 (pa_cons (pv 3) pa_nil)) pa_nil)) (nomark _)) (pw_or1 (pt_cmpR op_notN (pe_call GE (hr.mono (by decide)) (by rfl) P5.is P5.kp P5.bi .nil pass0 (pa_cons (pv 4) pa_nil)) pe_non (nomark _))))) (pss_one (ps_ret pe_bl)) pss_nil)
      (pss_cons (ps_set (i := 5) scLaw.nd rfl (.inl rfl) (pe_op op_catT (pv 4) (pe_tup (pa_cons (pe_tup (pa_cons pe_str (pa_cons pe_int pa_nil))) (pa_cons (pe_tup (pa_cons pe_str pa_nil)) (pa_cons (pe_tup (pa_cons pe_str (pa_cons (pe_op op_add (pe_callB call_len_seq (by rfl) T.len PySem.boot_len (pa_cons (pv 4) pa_nil)) pe_int) (pa_cons pe_int pa_nil)))) pa_nil))))))
      (pss_cons (ps_if (PW.pt (pw_or (pt_cmpR op_notN (pe_call GE (hr.mono (by decide)) (by rfl) P5.is P5.kp P5.bi .nil pass0 (pa_cons (pv 5) pa_nil)) pe_non (nomark _)) (pw_or1 (pt_cmpR op_ne (pe_callB cr (by rfl) T.repr (by decide +kernel) (pa_cons (pe_call GE (hr.mono (by decide)) (by rfl) P5.is P5.kp P5.bi .nil pass0 (pa_cons (pe_op op_catT (pv 4) (pv 3)) pa_nil)) pa_nil)) pe_str (nomark _))))) (pss_one (ps_ret pe_bl)) pss_nil)
      (pss_one (ps_if (pt_cmpR op_ne (pe_call GE (hr.mono (by decide)) (by rfl) P5.is P5.kp P5.bi .nil pass0 (pa_cons (pe_op op_catT (pe_tup (pa_cons (pe_ix ix_tup (pv 4) pe_int (fun _ _ => rfl)) pa_nil)) (pe_callTy call_tuple_of (by rfl) T.tuple (by decide +kernel) (pa_cons (pe_lc (own := [("place", 6)]) (g := gName 6) (tt := tYes) rfl scLaw.nd (pi_tup (pe_slice sl_tup (pv 4) (po_some pe_int) po_none)) (blkOk_by (N := ["script", "pen", "turn", "machine", "coin", "more", "place"]) (sc := defScope sLaw) (own := [("place", 6)]) (by decide +kernel)) (fun _ _ _ _ _ => (pg_name (i := 6) scLaw.nd rfl (.inl rfl))) (fun _ _ _ _ _ => pts_nil) (fun _ _ _ _ _ => (pe_call GO (hr.mono (by decide)) (by rfl) P7.is P7.kp P7.bi .nil pass0 (pa_cons (pv 6) pa_nil)))) pa_nil))) pa_nil)) pe_str (nomark _)) (pss_one (ps_ret pe_bl)) pss_nil))))))))
      (pss_one (ps_ret (pe_and (pe_cmpR op_eq (pe_call GE (hr.mono (by decide)) (by rfl) P5.is P5.kp P5.bi .nil pass0 (pa_cons (pe_tup (pa_cons (pe_tup (pa_cons pe_str (pa_cons pe_int pa_nil))) pa_nil)) pa_nil)) pe_str (nomark _)) (pe_one (pe_cmpR op_eq (pe_call GE (hr.mono (by decide)) (by rfl) P5.is P5.kp P5.bi .nil pass0 (pa_cons (pe_tup (pa_cons (pe_tup (pa_cons pe_str pa_nil)) pa_nil)) pa_nil)) pe_str (nomark _)))))))), ?_⟩
    have line : sizeLine = 16777216 := by decide
    refine ⟨.ref a, rfl, a, ns, rfl, hS, hlen, fun p l H1 s1 np nl p1 => ?_⟩
    have hS1 := s1.seq hS
    refine ⟨.ref a, rfl, a, _, rfl, .inl hS1, _, _, rfl, _, _, rfl, _, rfl, ?_, ?_, for_range (lo := 0) (fun i σ H' => ∃ v2 v3 v4 v5 : Option V, σ = [some (V.ref a), some (V.ref p), v2, v3, v4, v5, none] ∧ Pen H' p l) ⟨none, none, none, none, rfl, p1⟩ ?_ ?_⟩
    · show -(2 ^ 62) ≤ _
      repeat' split
      all_goals omega
    · show _ < (2 : Int) ^ 62
      repeat' split
      all_goals omega
    · rintro i₀ σ H2 hi ⟨v2, v3, v4, v5, rfl, p2⟩
      refine ⟨_, rfl, by show 2 ≤ sizeLine; decide, fun l1 m1 => ?_⟩
      have q1 := Same.upd (o := .lst [V.int 0, .int 1]) m1
      have g1 : upd H2 l1 (.lst [V.int 0, .int 1]) l1 = some (.lst (([0, 1] : List Int).map V.int)) := upd_same
      generalize upd H2 l1 (.lst [V.int 0, .int 1]) = Ha at q1 g1 ⊢
      refine ⟨by show 5 ≤ sizeLine; decide, fun l2 m2 => ?_⟩
      have q2 := Same.upd (o := .lst [V.int 0, .int 1, .int 0, .int 1, .int 2]) m2
      have g2 : upd Ha l2 (.lst [V.int 0, .int 1, .int 0, .int 1, .int 2]) l2 = some (.lst (([0, 1, 0, 1, 2] : List Int).map V.int)) := upd_same
      generalize upd Ha l2 (.lst [V.int 0, .int 1, .int 0, .int 1, .int 2]) = Hb at q2 g2 ⊢
      refine ⟨by show 1 ≤ sizeLine; decide, fun l3 m3 => ?_⟩
      have q3 := Same.upd (o := .lst [V.int 1]) m3
      have g3 : upd Hb l3 (.lst [V.int 1]) l3 = some (.lst (([1] : List Int).map V.int)) := upd_same
      generalize upd Hb l3 (.lst [V.int 1]) = Hc at q3 g3 ⊢
      refine ⟨by show 3 ≤ sizeLine; decide, fun l4 m4 => ?_⟩
      have q4 := Same.upd (o := .lst [V.ref l1, .ref l2, .ref l3]) m4
      have g4 : upd Hc l4 (.lst [V.ref l1, .ref l2, .ref l3]) l4 = some (.lst [V.ref l1, .ref l2, .ref l3]) := upd_same
      replace g1 := q4 _ _ (q3 _ _ (q2 _ _ g1))
      replace g2 := q4 _ _ (q3 _ _ g2)
      replace g3 := q4 _ _ g3
      have pd := (((p2.same q1).same q2).same q3).same q4
      have pc := ((p2.same q1).same q2).same q3
      have a4 := pc.apart m4
      generalize upd Hc l4 (.lst [V.ref l1, .ref l2, .ref l3]) = Hd at q4 g1 g2 g3 g4 pd ⊢
      refine ⟨.ref p, rfl, p, l, 3, rfl, pd, by decide, by decide +kernel, fun d He d0 d1 be pe => ?_⟩
      have k1 := be.mem (pd.notInts g1) g1
      have k2 := be.mem (pd.notInts g2) g2
      have k3 := be.mem (pd.notInts g3) g3
      have k4 := be.mem a4.1 g4
      obtain ⟨r, ms, hat, hr0, m0, m60, mok⟩ : ∃ (r : Addr) (ms : List Int), atI [V.ref l1, V.ref l2, V.ref l3] d = some (.ref r) ∧ He r = some (.lst (ms.map V.int)) ∧ 0 < ms.length ∧ ms.length ≤ 60 ∧ (∀ n ∈ ms, 0 ≤ n ∧ n < 100) := by
        rcases (show d = 0 ∨ d = 1 ∨ d = 2 by omega) with rfl | rfl | rfl
        · exact ⟨l1, _, rfl, k1, by decide, by decide, by decide⟩
        · exact ⟨l2, _, rfl, k2, by decide, by decide, by decide⟩
        · exact ⟨l3, _, rfl, k3, by decide, by decide, by decide⟩
      refine ⟨l4, _, d, .ref r, rfl, rfl, SqL.of k4, hat, p, l, r, 5, ms, rfl, pe, by decide, by decide, hr0, m0, m60, mok, fun M qs H3 b3 nM hmM hwM p3 hql => ?_⟩
      refine ⟨_, rfl, p, l, 5, rfl, p3, by decide, by decide, fun C ps H4 b4 p4 nC hmC hwC hcoin hfirst hpl => ?_⟩
      have hmM4 := hmM.but p3 b4
      have hpl9 : ps.length ≤ 9 := hpl
      have hql8 : qs.length ≤ 8 := by omega
      -- what the program and the law say of the machine
      refine ⟨_, rfl, M, qs, rfl, hmM4, hwM, fun v H5 s5 hv => ?_⟩
      obtain ⟨tx, shown⟩ := hv.shown
      dsimp only [tNil]
      refine shown _ _ ?_
      refine ⟨_, rfl, M, qs, rfl, hmM4.same s5, hwM, fun u H6 s6 hu' => ?_⟩
      have euv := hu'.eq hv
      subst euv
      dsimp only [tNil]
      refine shown _ _ ?_
      refine ⟨rfl, _, rfl, iteNS rfl ?_⟩
      have s46 := s5.trans s6
      refine ⟨_, rfl, C, ps, rfl, hmC.same s46, hwC, fun v H7 s7 hv2 => ⟨rfl, _, rfl, ?_⟩⟩
      have ev := hv2.eq hcoin
      subst ev
      rw [decide_eq_true rfl]
      refine iteF ?_
      have s47 := s46.trans s7
      have hmC7 := hmC.same s47
      have hmM7 := hmM4.same s47
      have p7 := p4.same s47
      obtain ⟨rs, eC, plC⟩ := id hmC7
      have rl := plC.len
      have ps0 := hwC.ne
      -- more
      refine ⟨_, rfl, by show 2 ≤ sizeLine; decide, fun t1 z1 => ?_⟩
      have w1 := Same.upd (o := .tup [V.str (PySem.Str.ofString "end"), .int 7]) z1
      have f1 : upd H7 t1 (.tup [V.str (PySem.Str.ofString "end"), .int 7]) t1 = some (.tup (Pl.fin 7).row) := upd_same
      generalize upd H7 t1 (.tup [V.str (PySem.Str.ofString "end"), .int 7]) = Ja at w1 f1 ⊢
      refine ⟨by show 1 ≤ sizeLine; decide, fun t2 z2 => ?_⟩
      have w2 := Same.upd (o := .tup [V.str (PySem.Str.ofString "never")]) z2
      have f2 : upd Ja t2 (.tup [V.str (PySem.Str.ofString "never")]) t2 = some (.tup (Pl.never).row) := upd_same
      generalize upd Ja t2 (.tup [V.str (PySem.Str.ofString "never")]) = Jb at w2 f2 ⊢
      have w12 := w1.trans w2
      refine ⟨_, rfl, C, rs, rfl, .inr (SqT.of (w12 _ _ eC)), _, _, rfl, rfl, by show 3 ≤ sizeLine; decide, fun t3 z3 => ?_⟩
      dsimp only
      rw [rl]
      have w3 := Same.upd (o := .tup [V.str (PySem.Str.ofString "toss"), .int ((ps.length : Nat) + 2 : Int), .int 0]) z3
      have f3 : upd Jb t3 (.tup [V.str (PySem.Str.ofString "toss"), .int ((ps.length : Nat) + 2 : Int), .int 0]) t3 = some (.tup (Pl.toss ((ps.length : Nat) + 2 : Int) 0).row) := upd_same
      generalize upd Jb t3 (.tup [V.str (PySem.Str.ofString "toss"), .int ((ps.length : Nat) + 2 : Int), .int 0]) = Jc at w3 f3 ⊢
      refine ⟨by show 3 ≤ sizeLine; decide, fun t4 z4 => ?_⟩
      have w4 := Same.upd (o := .tup [V.ref t1, .ref t2, .ref t3]) z4
      have f4 : upd Jc t4 (.tup [V.ref t1, .ref t2, .ref t3]) t4 = some (.tup [V.ref t1, .ref t2, .ref t3]) := upd_same
      generalize upd Jc t4 (.tup [V.ref t1, .ref t2, .ref t3]) = Jd at w4 f4 ⊢
      have w14 := (w12.trans w3).trans w4
      refine ⟨C, t4, rs, _, rfl, rfl, SqT.of (w14 _ _ eC), SqT.of f4, (fun h => by rw [h] at rl; exact absurd rl (by show ¬ 0 = ps.length; omega)), by rw [rl]; show ps.length + 3 ≤ sizeLine; omega, (fun h => by cases h), fun _ W zW => ?_⟩
      have w5 := Same.upd (o := .tup (rs ++ [V.ref t1, .ref t2, .ref t3])) zW
      have hmW : Mach (upd Jd W (.tup (rs ++ [V.ref t1, .ref t2, .ref t3]))) W (ps ++ [.fin 7, .never, .toss ((ps.length : Nat) + 2 : Int) 0]) := ⟨_, upd_same, (plC.mono fun t xs e => w5 _ _ (w14 _ _ e)).app (.cons (w5 _ _ (w4 _ _ (w3 _ _ (w2 _ _ f1)))) (.cons (w5 _ _ (w4 _ _ (w3 _ _ f2))) (.cons (w5 _ _ (w4 _ _ f3)) .nil)))⟩
      have w15 := w14.trans w5
      generalize upd Jd W (.tup (rs ++ [V.ref t1, .ref t2, .ref t3])) = Je at hmW w15 ⊢
      have hwW : WF (ps ++ [.fin 7, .never, .toss ((ps.length : Nat) + 2 : Int) 0]) := wf_app hwC (by show ps.length + 3 ≤ 30; omega) fun x hx => by
        rcases List.mem_cons.mp hx with rfl | hx
        · exact ⟨by decide, by decide⟩
        · rcases List.mem_cons.mp hx with rfl | hx
          · trivial
          · rw [List.mem_singleton.mp hx]
            show 0 ≤ ((ps.length : Nat) : Int) + 2 ∧ ((ps.length : Nat) : Int) + 2 < ((ps.length + 3 : Nat) : Int) ∧ (0 : Int) ≤ 0 ∧ (0 : Int) < ((ps.length + 3 : Nat) : Int)
            omega
      refine ⟨_, rfl, W, _, rfl, hmW, hwW, fun v Jf w6 hv3 => ⟨rfl, _, rfl, ?_⟩⟩
      have ev := hv3.eq (coin_app hwC hcoin)
      subst ev
      rw [decide_eq_true rfl]
      refine iteF ?_
      -- coin + machine
      have w16 := w15.trans w6
      obtain ⟨rs2, eM, plM⟩ := id (hmM7.same w16)
      have rl2 := plM.len
      have eC6 := w16 _ _ eC
      refine ⟨_, rfl, _, rfl, C, M, rs, rs2, rfl, rfl, SqT.of eC6, SqT.of eM, (fun h => by rw [h] at rl; exact absurd rl (by show ¬ 0 = ps.length; omega)), by rw [rl, rl2]; omega, (fun h => by rw [h] at rl2; have := hwM.ne; exact absurd rl2 (by show ¬ 0 = qs.length; omega)), fun _ X zX => ?_⟩
      have w7 := Same.upd (o := .tup (rs ++ rs2)) zX
      have hmX : Mach (upd Jf X (.tup (rs ++ rs2))) X (ps ++ qs) := ⟨_, upd_same, (plC.mono fun t xs e => w7 _ _ (w16 _ _ e)).app (plM.mono fun t xs e => w7 _ _ e)⟩
      have w17 := w16.trans w7
      generalize upd Jf X (.tup (rs ++ rs2)) = Jg at hmX w17 ⊢
      have hwX : WF (ps ++ qs) := wf_app hwC (by omega) fun x hx => by
        have := hwM.ok x hx
        cases x with
        | toss a b =>
          obtain ⟨a1, a2, a3, a4⟩ := this
          exact ⟨a1, by omega, a3, by omega⟩
        | fin n => exact this
        | never => trivial
      refine ⟨X, _, rfl, hmX, hwX, fun v Jh w8 hv4 => ?_⟩
      have ev := hv4.eq (coin_app hwC hcoin)
      subst ev
      refine .inl ⟨rfl, rfl, _, rfl, ?_⟩
      rw [decide_eq_true rfl]
      refine iteF ?_
      -- all ends the same
      have w18 := w17.trans w8
      obtain ⟨t0, q0, rs', ps', ers, eps, e0, pl'⟩ : ∃ (t0 : Addr) (q0 : Pl) (rs' : List V) (ps' : List Pl), rs = .ref t0 :: rs' ∧ ps = q0 :: ps' ∧ H7 t0 = some (.tup q0.row) ∧ Pls H7 rs' ps' := pls_cons plC ps0
      have hq0 : one1 q0 = q0 := by
        obtain ⟨x, y, h⟩ := hfirst
        rw [eps] at h
        have : q0 = .toss x y := h
        rw [this]
        rfl
      have two : 0 < ps'.length := by
        cases hcoin with
        | coin _ _ c _ =>
          obtain ⟨k, r, e⟩ := c
          have hin := r.inn hwC (in_zero hwC)
          refine Nat.pos_of_ne_zero fun z => ?_
          have l1 : ps.length = 1 := by rw [eps, List.length_cons, z]
          have k0 : k = 0 := by have := hin.1; have := hin.2; omega
          subst k0
          obtain ⟨x, y, h⟩ := hfirst
          rw [h] at e
          cases e
      have eC8 := w18 _ _ eC
      have lps : ps.length = ps'.length + 1 := by rw [eps, List.length_cons]
      refine ⟨_, rfl, C, rs, 0, .ref t0, rfl, rfl, SqT.of eC8, by rw [ers]; exact atI_nat (j := 0) rfl, by show 1 ≤ sizeLine; decide, fun t5 z5 => ?_⟩
      have w9 := Same.upd (o := .tup [V.ref t0]) z5
      have f5 : upd Jh t5 (.tup [V.ref t0]) t5 = some (.tup [V.ref t0]) := upd_same
      generalize upd Jh t5 (.tup [V.ref t0]) = Ji at w9 f5 ⊢
      refine ⟨_, rfl, ?_⟩
      dsimp only [tPart, tNoPart]
      refine ⟨1, rfl, C, rs, rfl, SqT.of (w9 _ _ eC8), ?_, fun S zS => ?_⟩
      · intro h
        have e1 : HT.sIx rs.length 0 (some 1) = min 1 rs.length := HT.sIx_nat rs.length 0 1
        rw [e1] at h
        have := h.1
        omega
      rw [cut_tail, ers, List.tail_cons]
      have wA := Same.upd (o := .tup rs') zS
      have fS : upd Ji S (.tup rs') S = some (.tup rs') := upd_same
      have w1A := (w18.trans w9).trans wA
      have f5A := wA _ _ f5
      generalize upd Ji S (.tup rs') = Jj at wA fS w1A f5A ⊢
      have plA : Pls Jj rs' ps' := pl'.mono fun t xs e => w1A _ _ e
      refine ⟨S, rfl, ⟨_, SqT.of fS⟩, fun D nD => ?_⟩
      refine lc_tup (K := K) (a := S) (xs := rs') (fun j Hx => Same Jj Hx ∧ ∃ us : List V, Hx D = some (.lst us) ∧ us.length = j ∧ Pls Hx us ((ps'.take j).map one1)) ⟨Same.upd nD, [], upd_same, rfl, .nil⟩ (fun j Hx _ h => SqT.of (h.1 _ _ fS)) ?_ ?_
      · rintro j x Hx hx ⟨sx, us, eD, lus, plU⟩
        have hj := (List.getElem?_eq_some_iff.mp hx).1
        rw [plA.len] at hj
        have hpj : ps'[j]? = some ps'[j] := List.getElem?_eq_getElem hj
        obtain ⟨t, ht, et⟩ := plA.get hpj
        rw [hx] at ht
        have ex := Option.some.inj ht
        subst ex
        refine ⟨rfl, ?_⟩
        dsimp only [tYes]
        refine iteT ⟨_, rfl, t, ps'[j], rfl, sx _ _ et, fun t' Hy sy et' => ?_⟩
        have eDy := sy _ _ eD
        have notD : ∀ {b : Addr} {xs : List V}, Hy b = some (.tup xs) → upd Hy D (.lst (us ++ [.ref t'])) b = some (.tup xs) := fun h => by
          rw [upd_ne (ne_of h eDy (by intro z; cases z))]
          exact h
        refine ⟨us, eDy, by omega, fun b o h => by rw [upd_ne (ne_of_none h nD)]; exact sy _ _ (sx _ _ h), us ++ [.ref t'], upd_same, by simp [lus], ?_⟩
        rw [List.take_succ, hpj, List.map_append]
        exact ((plU.mono fun b xs e => sy _ _ e).mono fun b xs e => notD e).snoc (notD et')
      · rintro Hx ⟨sx, us, eD, lus, plU⟩
        rw [plA.len, List.take_length] at plU
        rw [plA.len] at lus
        refine ⟨D, us, rfl, .inl ⟨SqL.of eD, fun Y zY => ?_⟩⟩
        have wB := Same.upd (o := .tup us) zY
        have fY : upd Hx Y (.tup us) Y = some (.tup us) := upd_same
        have plV : Pls (upd Hx Y (.tup us)) us (ps'.map one1) := plU.mono fun b xs e => wB _ _ e
        have w1B := (w1A.trans sx).trans wB
        have f5B := wB _ _ (sx _ _ f5A)
        generalize upd Hx Y (.tup us) = Jk at fY plV w1B f5B ⊢
        refine ⟨t5, Y, _, us, rfl, rfl, SqT.of f5B, SqT.of fY, by simp, by show 1 + us.length ≤ sizeLine; omega, (fun h => by rw [h] at lus; exact absurd lus (by show ¬ 0 = ps'.length; omega)), fun _ Z zZ => ?_⟩
        have wC := Same.upd (o := .tup ([V.ref t0] ++ us)) zZ
        have hmZ : Mach (upd Jk Z (.tup ([V.ref t0] ++ us))) Z (ps.map one1) := by
          rw [eps, List.map_cons, hq0]
          exact ⟨_, upd_same, .cons (wC _ _ (w1B _ _ e0)) (plV.mono fun b xs e => wC _ _ e)⟩
        have w1C := w1B.trans wC
        generalize upd Jk Z (.tup ([V.ref t0] ++ us)) = Jl at hmZ w1C ⊢
        refine ⟨Z, _, rfl, hmZ, wf_one hwC, fun v Jm wD hv5 => ?_⟩
        have ev := hv5.eq (sure_one hcoin)
        subst ev
        refine ⟨rfl, _, rfl, iteNS rfl ?_⟩
        exact ⟨_, _, _, _, rfl, p7.same (w1C.trans wD)⟩
    · rintro σ H2 ⟨v2, v3, v4, v5, rfl, p2⟩
      have go : ∀ (x : Pl) (y : V), (∀ u, CoinIs [x] u → u = y) → WF [x] → ∀ (H : Hp) (t m : Addr), H t = some (.tup x.row) → H m = some (.tup [V.ref t]) → Mach H m [x] := fun x y _ _ H t m e f => ⟨_, f, .cons e .nil⟩
      have w1 : WF [.fin 1] := ⟨by decide, by decide, fun p hp => by rw [List.mem_singleton.mp hp]; exact ⟨by decide, by decide⟩⟩
      have w2 : WF [.never] := ⟨by decide, by decide, fun p hp => by rw [List.mem_singleton.mp hp]; trivial⟩
      have z1 : ∀ {x : Pl} {k : Int}, WF [x] → Rch [x] 0 k → k = 0 := fun hw r => by
        have := r.inn hw (in_zero hw)
        have h1 := this.1
        have h2 : _ < ((1 : Nat) : Int) := this.2
        omega
      have c1 : CoinIs [.fin 1] (.str "sure") := .sure (fun ⟨k, r, no⟩ => no (by rw [z1 w1 r]; exact ⟨0, 1, .here, rfl⟩)) (fun n ⟨k, r, e⟩ => by rw [z1 w1 r] at e; cases e; exact .inr rfl) (fun z => by
        obtain ⟨⟨k, r, e⟩, _⟩ := z
        rw [z1 w1 r] at e
        cases e)
      have c2 : CoinIs [.never] (.str "ends") := .ends ⟨0, .here, fun ⟨e, n, r, f⟩ => by
        rw [z1 w2 r] at f
        cases f⟩
      refine ⟨by show 2 ≤ sizeLine; decide, fun t1 n1 => ?_⟩
      have s1' := Same.upd (o := .tup [V.str (PySem.Str.ofString "end"), .int 1]) n1
      have f1 : upd H2 t1 (.tup [V.str (PySem.Str.ofString "end"), .int 1]) t1 = some (.tup (Pl.fin 1).row) := upd_same
      generalize upd H2 t1 (.tup [V.str (PySem.Str.ofString "end"), .int 1]) = H3 at f1 ⊢
      refine ⟨by show 1 ≤ sizeLine; decide, fun t2 n2 => ?_⟩
      have hm1 : Mach (upd H3 t2 (.tup [V.ref t1])) t2 [.fin 1] := ⟨_, upd_same, .cons ((Same.upd n2) _ _ f1) .nil⟩
      generalize upd H3 t2 (.tup [V.ref t1]) = H4 at hm1 ⊢
      refine ⟨t2, _, rfl, hm1, w1, fun v H5 s5 hv => ?_⟩
      have ev := hv.eq c1
      subst ev
      refine ⟨rfl, ?_⟩
      rw [decide_eq_true rfl]
      refine ⟨true, rfl, iteT ?_⟩
      refine ⟨by show 1 ≤ sizeLine; decide, fun t3 n3 => ?_⟩
      have f3 : upd H5 t3 (.tup [V.str (PySem.Str.ofString "never")]) t3 = some (.tup (Pl.never).row) := upd_same
      generalize upd H5 t3 (.tup [V.str (PySem.Str.ofString "never")]) = H6 at f3 ⊢
      refine ⟨by show 1 ≤ sizeLine; decide, fun t4 n4 => ?_⟩
      have hm2 : Mach (upd H6 t4 (.tup [V.ref t3])) t4 [.never] := ⟨_, upd_same, .cons ((Same.upd n4) _ _ f3) .nil⟩
      generalize upd H6 t4 (.tup [V.ref t3]) = H7 at hm2 ⊢
      refine ⟨t4, _, rfl, hm2, w2, fun v H8 s8 hv => ?_⟩
      have ev := hv.eq c2
      subst ev
      refine ⟨rfl, ?_⟩
      rw [decide_eq_true rfl]
      exact q _
end
theorem all_mk {w : World} {K : PySem.W.Frag} {h : Heap} {mg : Str → Option Value} {fa f0 f1 f2 f3 f4 f5 f6 f7 f8 f9 f10 f11 f12 f13 f14 f15 f16 f17 f18 : Addr} (X : K.In h) (G : h.Ns mainGlobals mg) (hfa : mg "law" = some (.ref fa))
    {od0 an0 od1 an1 od2 an2 od3 an3 od4 an4 od5 an5 od6 an6 od7 an7 od8 an8 od9 an9 od10 an10 od11 an11 od12 an12 od13 an13 od14 an14 od15 an15 od16 an16 od17 an17 od18 an18 : Option Addr} {sl0 sl1 sl2 sl3 sl4 sl5 sl6 sl7 sl8 sl9 sl10 sl11 sl12 sl13 sl14 sl15 sl16 sl17 sl18 : Array (Option Value)} {oc0 kV0 dc0 pm0 cd0 ct0 oc1 kV1 dc1 pm1 cd1 ct1 oc2 kV2 dc2 pm2 cd2 ct2 oc3 kV3 dc3 pm3 cd3 ct3 oc4 kV4 dc4 pm4 cd4 ct4 oc5 kV5 dc5 pm5 cd5 ct5 oc6 kV6 dc6 pm6 cd6 ct6 oc7 kV7 dc7 pm7 cd7 ct7 oc8 kV8 dc8 pm8 cd8 ct8 oc9 kV9 dc9 pm9 cd9 ct9 oc10 kV10 dc10 pm10 cd10 ct10 oc11 kV11 dc11 pm11 cd11 ct11 oc12 kV12 dc12 pm12 cd12 ct12 oc13 kV13 dc13 pm13 cd13 ct13 oc14 kV14 dc14 pm14 cd14 ct14 oc15 kV15 dc15 pm15 cd15 ct15 oc16 kV16 dc16 pm16 cd16 ct16 oc17 kV17 dc17 pm17 cd17 ct17 oc18 kV18 dc18 pm18 cd18 ct18 : Value}
    (a0 : PySem.W.nsIn K mainGlobals "_law_pen" = some (some (.ref f0))) (l0 : K.lookup f0 = some ⟨oc0, od0, .func (PySem.W.fnOf "_law_pen" "_law_pen" (defArgs sPen) (defBody sPen) (defScope sPen) .none kV0 dc0 pm0 an0 cd0 ct0), sl0⟩) (c0 : PySem.W.codeIn K cd0 "_law_pen" = true) (k0 : PySem.W.keepIn K (.ref f0) = true)
    (a1 : PySem.W.nsIn K mainGlobals "_law_fresh" = some (some (.ref f1))) (l1 : K.lookup f1 = some ⟨oc1, od1, .func (PySem.W.fnOf "_law_fresh" "_law_fresh" (defArgs sFresh) (defBody sFresh) (defScope sFresh) .none kV1 dc1 pm1 an1 cd1 ct1), sl1⟩) (c1 : PySem.W.codeIn K cd1 "_law_fresh" = true) (k1 : PySem.W.keepIn K (.ref f1) = true)
    (a2 : PySem.W.nsIn K mainGlobals "_law_draw" = some (some (.ref f2))) (l2 : K.lookup f2 = some ⟨oc2, od2, .func (PySem.W.fnOf "_law_draw" "_law_draw" (defArgs sDraw) (defBody sDraw) (defScope sDraw) .none kV2 dc2 pm2 an2 cd2 ct2), sl2⟩) (c2 : PySem.W.codeIn K cd2 "_law_draw" = true) (k2 : PySem.W.keepIn K (.ref f2) = true)
    (a3 : PySem.W.nsIn K mainGlobals "_law_ends" = some (some (.ref f3))) (l3 : K.lookup f3 = some ⟨oc3, od3, .func (PySem.W.fnOf "_law_ends" "_law_ends" (defArgs sEnds) (defBody sEnds) (defScope sEnds) .none kV3 dc3 pm3 an3 cd3 ct3), sl3⟩) (c3 : PySem.W.codeIn K cd3 "_law_ends" = true) (k3 : PySem.W.keepIn K (.ref f3) = true)
    (a4 : PySem.W.nsIn K mainGlobals "_law_machine" = some (some (.ref f4))) (l4 : K.lookup f4 = some ⟨oc4, od4, .func (PySem.W.fnOf "_law_machine" "_law_machine" (defArgs sMach) (defBody sMach) (defScope sMach) .none kV4 dc4 pm4 an4 cd4 ct4), sl4⟩) (c4 : PySem.W.codeIn K cd4 "_law_machine" = true) (k4 : PySem.W.keepIn K (.ref f4) = true)
    (a5 : PySem.W.nsIn K mainGlobals "_law_numbered" = some (some (.ref f5))) (l5 : K.lookup f5 = some ⟨oc5, od5, .func (PySem.W.fnOf "_law_numbered" "_law_numbered" (defArgs sNumb) (defBody sNumb) (defScope sNumb) .none kV5 dc5 pm5 an5 cd5 ct5), sl5⟩) (c5 : PySem.W.codeIn K cd5 "_law_numbered" = true) (k5 : PySem.W.keepIn K (.ref f5) = true)
    (a6 : PySem.W.nsIn K mainGlobals "is_toss" = some (some (.ref f6))) (l6 : K.lookup f6 = some ⟨oc6, od6, .func (PySem.W.fnOf "is_toss" "is_toss" (defArgs sToss) (defBody sToss) (defScope sToss) .none kV6 dc6 pm6 an6 cd6 ct6), sl6⟩) (c6 : PySem.W.codeIn K cd6 "is_toss" = true) (k6 : PySem.W.keepIn K (.ref f6) = true)
    (a7 : PySem.W.nsIn K mainGlobals "find_tapes" = some (some (.ref f7))) (l7 : K.lookup f7 = some ⟨oc7, od7, .func (PySem.W.fnOf "find_tapes" "find_tapes" (defArgs sFind) (defBody sFind) (defScope sFind) .none kV7 dc7 pm7 an7 cd7 ct7), sl7⟩) (c7 : PySem.W.codeIn K cd7 "find_tapes" = true) (k7 : PySem.W.keepIn K (.ref f7) = true)
    (a8 : PySem.W.nsIn K mainGlobals "reachable_states" = some (some (.ref f8))) (l8 : K.lookup f8 = some ⟨oc8, od8, .func (PySem.W.fnOf "reachable_states" "reachable_states" (defArgs sReach) (defBody sReach) (defScope sReach) .none kV8 dc8 pm8 an8 cd8 ct8), sl8⟩) (c8 : PySem.W.codeIn K cd8 "reachable_states" = true) (k8 : PySem.W.keepIn K (.ref f8) = true)
    (a9 : PySem.W.nsIn K mainGlobals "end_distances" = some (some (.ref f9))) (l9 : K.lookup f9 = some ⟨oc9, od9, .func (PySem.W.fnOf "end_distances" "end_distances" (defArgs sDist) (defBody sDist) (defScope sDist) .none kV9 dc9 pm9 an9 cd9 ct9), sl9⟩) (c9 : PySem.W.codeIn K cd9 "end_distances" = true) (k9 : PySem.W.keepIn K (.ref f9) = true)
    (a10 : PySem.W.nsIn K mainGlobals "check_termination" = some (some (.ref f10))) (l10 : K.lookup f10 = some ⟨oc10, od10, .func (PySem.W.fnOf "check_termination" "check_termination" (defArgs sCheck) (defBody sCheck) (defScope sCheck) .none kV10 dc10 pm10 an10 cd10 ct10), sl10⟩) (c10 : PySem.W.codeIn K cd10 "check_termination" = true) (k10 : PySem.W.keepIn K (.ref f10) = true)
    (a11 : PySem.W.nsIn K mainGlobals "reachable_answers" = some (some (.ref f11))) (l11 : K.lookup f11 = some ⟨oc11, od11, .func (PySem.W.fnOf "reachable_answers" "reachable_answers" (defArgs sRA) (defBody sRA) (defScope sRA) .none kV11 dc11 pm11 an11 cd11 ct11), sl11⟩) (c11 : PySem.W.codeIn K cd11 "reachable_answers" = true) (k11 : PySem.W.keepIn K (.ref f11) = true)
    (a12 : PySem.W.nsIn K mainGlobals "coin_error" = some (some (.ref f12))) (l12 : K.lookup f12 = some ⟨oc12, od12, .func (PySem.W.fnOf "coin_error" "coin_error" (defArgs sCE) (defBody sCE) (defScope sCE) .none kV12 dc12 pm12 an12 cd12 ct12), sl12⟩) (c12 : PySem.W.codeIn K cd12 "coin_error" = true) (k12 : PySem.W.keepIn K (.ref f12) = true)
    (a13 : PySem.W.nsIn K mainGlobals "_law_reached" = some (some (.ref f13))) (l13 : K.lookup f13 = some ⟨oc13, od13, .func (PySem.W.fnOf "_law_reached" "_law_reached" (defArgs sLR) (defBody sLR) (defScope sLR) .none kV13 dc13 pm13 an13 cd13 ct13), sl13⟩) (c13 : PySem.W.codeIn K cd13 "_law_reached" = true) (k13 : PySem.W.keepIn K (.ref f13) = true)
    (a14 : PySem.W.nsIn K mainGlobals "_law_open" = some (some (.ref f14))) (l14 : K.lookup f14 = some ⟨oc14, od14, .func (PySem.W.fnOf "_law_open" "_law_open" (defArgs sLO) (defBody sLO) (defScope sLO) .none kV14 dc14 pm14 an14 cd14 ct14), sl14⟩) (c14 : PySem.W.codeIn K cd14 "_law_open" = true) (k14 : PySem.W.keepIn K (.ref f14) = true)
    (a15 : PySem.W.nsIn K mainGlobals "_law_coin" = some (some (.ref f15))) (l15 : K.lookup f15 = some ⟨oc15, od15, .func (PySem.W.fnOf "_law_coin" "_law_coin" (defArgs sLC) (defBody sLC) (defScope sLC) .none kV15 dc15 pm15 an15 cd15 ct15), sl15⟩) (c15 : PySem.W.codeIn K cd15 "_law_coin" = true) (k15 : PySem.W.keepIn K (.ref f15) = true)
    (a16 : PySem.W.nsIn K mainGlobals "_law_due" = some (some (.ref f16))) (l16 : K.lookup f16 = some ⟨oc16, od16, .func (PySem.W.fnOf "_law_due" "_law_due" (defArgs sDue) (defBody sDue) (defScope sDue) .none kV16 dc16 pm16 an16 cd16 ct16), sl16⟩) (c16 : PySem.W.codeIn K cd16 "_law_due" = true) (k16 : PySem.W.keepIn K (.ref f16) = true)
    (a17 : PySem.W.nsIn K mainGlobals "_law_one_answer" = some (some (.ref f17))) (l17 : K.lookup f17 = some ⟨oc17, od17, .func (PySem.W.fnOf "_law_one_answer" "_law_one_answer" (defArgs sOne) (defBody sOne) (defScope sOne) .none kV17 dc17 pm17 an17 cd17 ct17), sl17⟩) (c17 : PySem.W.codeIn K cd17 "_law_one_answer" = true) (k17 : PySem.W.keepIn K (.ref f17) = true)
    (a18 : PySem.W.nsIn K mainGlobals "law" = some (some (.ref f18))) (l18 : K.lookup f18 = some ⟨oc18, od18, .func (PySem.W.fnOf "law" "law" (defArgs sLaw) (defBody sLaw) (defScope sLaw) .none kV18 dc18 pm18 an18 cd18 ct18), sl18⟩) (c18 : PySem.W.codeIn K cd18 "law" = true) (k18 : PySem.W.keepIn K (.ref f18) = true)
    (z_list : PySem.W.nsIn K mainGlobals "list" = some none)
    (z_tuple : PySem.W.nsIn K mainGlobals "tuple" = some none)
    (z_len : PySem.W.nsIn K mainGlobals "len" = some none)
    (z_range : PySem.W.nsIn K mainGlobals "range" = some none)
    (z_sorted : PySem.W.nsIn K mainGlobals "sorted" = some none)
    (z_enumerate : PySem.W.nsIn K mainGlobals "enumerate" = some none)
    (z_set : PySem.W.nsIn K mainGlobals "set" = some none)
    (z_repr : PySem.W.nsIn K mainGlobals "repr" = some none)
    (z_max : PySem.W.nsIn K mainGlobals "max" = some none)
    (z_min : PySem.W.nsIn K mainGlobals "min" = some none)
    (z_any : PySem.W.nsIn K mainGlobals "any" = some none)
    : ∃ fd : FuncData, (∀ (s : Shared) (v : Value), BindsTo s fd ⟨[v], []⟩ [("script", v)]) ∧ ∀ base : Heap, K.In base → base.Ns mainGlobals mg → FnG (PySem.Challenge.rw_bentcoin_k55_why_it_is_no_coin).prog w K mg base 7 fa fd ["script"] (spLaw K) := by
  have e := hfa.symm.trans (PySem.W.mg_of X G a18)
  cases e
  have F0 := fun_mk (st := sPen) l0 c0 k0
  have b0 := F0.binds (ps := ["script"]) fun _ _ _ _ _ _ us hl => match us, hl with | [_], _ => rfl
  have F1 := fun_mk (st := sFresh) l1 c1 k1
  have b1 := F1.binds (ps := ["pen"]) fun _ _ _ _ _ _ us hl => match us, hl with | [_], _ => rfl
  have F2 := fun_mk (st := sDraw) l2 c2 k2
  have b2 := F2.binds (ps := ["pen", "many"]) fun _ _ _ _ _ _ us hl => match us, hl with | [_, _], _ => rfl
  have F3 := fun_mk (st := sEnds) l3 c3 k3
  have b3 := F3.binds (ps := ["pen", "answers"]) fun _ _ _ _ _ _ us hl => match us, hl with | [_, _], _ => rfl
  have F4 := fun_mk (st := sMach) l4 c4 k4
  have b4 := F4.binds (ps := ["pen", "most", "answers"]) fun _ _ _ _ _ _ us hl => match us, hl with | [_, _, _], _ => rfl
  have F5 := fun_mk (st := sNumb) l5 c5 k5
  have b5 := F5.binds (ps := ["machine", "order"]) fun _ _ _ _ _ _ us hl => match us, hl with | [_, _], _ => rfl
  have F6 := fun_mk (st := sToss) l6 c6 k6
  have b6 := F6.binds (ps := ["state"]) fun _ _ _ _ _ _ us hl => match us, hl with | [_], _ => rfl
  have F7 := fun_mk (st := sFind) l7 c7 k7
  have b7 := F7.binds (ps := ["machine", "start"]) fun _ _ _ _ _ _ us hl => match us, hl with | [_, _], _ => rfl
  have F8 := fun_mk (st := sReach) l8 c8 k8
  have b8 := F8.binds (ps := ["machine"]) fun _ _ _ _ _ _ us hl => match us, hl with | [_], _ => rfl
  have F9 := fun_mk (st := sDist) l9 c9 k9
  have b9 := F9.binds (ps := ["machine"]) fun _ _ _ _ _ _ us hl => match us, hl with | [_], _ => rfl
  have F10 := fun_mk (st := sCheck) l10 c10 k10
  have b10 := F10.binds (ps := ["machine"]) fun _ _ _ _ _ _ us hl => match us, hl with | [_], _ => rfl
  have F11 := fun_mk (st := sRA) l11 c11 k11
  have b11 := F11.binds (ps := ["machine"]) fun _ _ _ _ _ _ us hl => match us, hl with | [_], _ => rfl
  have F12 := fun_mk (st := sCE) l12 c12 k12
  have b12 := F12.binds (ps := ["machine"]) fun _ _ _ _ _ _ us hl => match us, hl with | [_], _ => rfl
  have F13 := fun_mk (st := sLR) l13 c13 k13
  have b13 := F13.binds (ps := ["machine", "start"]) fun _ _ _ _ _ _ us hl => match us, hl with | [_, _], _ => rfl
  have F14 := fun_mk (st := sLO) l14 c14 k14
  have b14 := F14.binds (ps := ["machine"]) fun _ _ _ _ _ _ us hl => match us, hl with | [_], _ => rfl
  have F15 := fun_mk (st := sLC) l15 c15 k15
  have b15 := F15.binds (ps := ["pen", "most"]) fun _ _ _ _ _ _ us hl => match us, hl with | [_, _], _ => rfl
  have F16 := fun_mk (st := sDue) l16 c16 k16
  have b16 := F16.binds (ps := ["machine"]) fun _ _ _ _ _ _ us hl => match us, hl with | [_], _ => rfl
  have F17 := fun_mk (st := sOne) l17 c17 k17
  have b17 := F17.binds (ps := ["place"]) fun _ _ _ _ _ _ us hl => match us, hl with | [_], _ => rfl
  have F18 := fun_mk (st := sLaw) l18 c18 k18
  refine ⟨PySem.W.fnOf "law" "law" (defArgs sLaw) (defBody sLaw) (defScope sLaw) .none kV18 dc18 pm18 an18 cd18 ct18, fun s v => .of_eq rfl, fun base _ _ => ?_⟩
  have T : NamesL mg := ⟨⟨⟨⟨PySem.W.mg_none_of X G z_list, PySem.W.mg_none_of X G z_tuple, PySem.W.mg_none_of X G z_len, PySem.W.mg_none_of X G z_range⟩, PySem.W.mg_none_of X G z_sorted, PySem.W.mg_none_of X G z_enumerate⟩, PySem.W.mg_none_of X G z_set⟩, PySem.W.mg_none_of X G z_repr, PySem.W.mg_none_of X G z_max, PySem.W.mg_none_of X G z_min, PySem.W.mg_none_of X G z_any⟩
  have m : ∀ {x : Str} {u : Value}, PySem.W.nsIn K mainGlobals x = some (some u) → mg x = some u := fun e => PySem.W.mg_of X G e
  have N := T.toNamesD.toNamesG.toNames
  have G0 := ok_pen (P := PySem.Challenge.pw_bentcoin_k55_why_it_is_no_coin) (w := w) (mg := mg) (base := base) F0 N
  have G1 := ok_fresh (P := PySem.Challenge.pw_bentcoin_k55_why_it_is_no_coin) (w := w) (mg := mg) (base := base) F1 N
  have G2 := ok_draw F2 G1 (m a1) k1 b1
  have G3 := ok_ends F3 N G2 ⟨m a2, k2, b2⟩
  have G5 := ok_numb (P := PySem.Challenge.pw_bentcoin_k55_why_it_is_no_coin) (w := w) (mg := mg) (base := base) F5 N
  have G4 := ok_mach F4 N G2 ⟨m a2, k2, b2⟩ G3 ⟨m a3, k3, b3⟩ G5 ⟨m a5, k5, b5⟩
  have G6 := ok_toss (P := PySem.Challenge.pw_bentcoin_k55_why_it_is_no_coin) (w := w) (mg := mg) (base := base) F6
  have G7 := ok_find F7 N G6 ⟨m a6, k6, b6⟩
  have G8 := ok_reach F8 T.toNamesD.toNamesG G7 ⟨m a7, k7, b7⟩
  have G9 := ok_dist F9 T.toNamesD.toNamesG G6 ⟨m a6, k6, b6⟩
  have G10 := ok_check F10 T.toNamesD.toNamesG G7 ⟨m a7, k7, b7⟩ G9 ⟨m a9, k9, b9⟩
  have G11 := ok_ra F11 G8 ⟨m a8, k8, b8⟩
  have G12 := ok_ce F12 T.any G10 ⟨m a10, k10, b10⟩ G11 ⟨m a11, k11, b11⟩
  have G13 := ok_lr (P := PySem.Challenge.pw_bentcoin_k55_why_it_is_no_coin) (w := w) (mg := mg) (base := base) F13 T.sorted
  have G14 := ok_lo F14 N G13 ⟨m a13, k13, b13⟩
  have G15 := ok_lc F15 N G2 ⟨m a2, k2, b2⟩ G13 ⟨m a13, k13, b13⟩
  have G16 := ok_due F16 T.toNamesD G13 ⟨m a13, k13, b13⟩ G14 ⟨m a14, k14, b14⟩
  have G17 := ok_one (P := PySem.Challenge.pw_bentcoin_k55_why_it_is_no_coin) (w := w) (mg := mg) (base := base) F17
  exact ok_law F18 T G0 ⟨m a0, k0, b0⟩ G2 ⟨m a2, k2, b2⟩ G4 ⟨m a4, k4, b4⟩ G15 ⟨m a15, k15, b15⟩ G12 ⟨m a12, k12, b12⟩ G16 ⟨m a16, k16, b16⟩ G17 ⟨m a17, k17, b17⟩
end Z
open PySem PySem.W PyProof.Rows
set_option maxRecDepth 100000 in
set_option maxHeartbeats 0 in
theorem PySem.Challenge.cw_bentcoin_k55_why_it_is_no_coin_holds : PySem.Challenge.rw_bentcoin_k55_why_it_is_no_coin.Holds := by
  w_on; o_law; k_head; (case hw => w_witness2)
  k_fill
  refine GG.walkG (l := PySem.Challenge.rw_bentcoin_k55_why_it_is_no_coin) (n := 63) (k := 7) (x := "script") (sp := Z.spLaw) rfl (by decide) rfl ⟨rfl, by decide, by decide⟩ (fun w h Y => PySem.W.kIn_of Y) ?F (fun _ _ a ns hl hS => ⟨a, ns, rfl, hS, hl, fun _ => rfl⟩)
  case F =>
    intro w mg fa h KX G hmg
    refine' Z.all_mk KX G hmg ?a0 ?l0 ?c0 ?k0 ?a1 ?l1 ?c1 ?k1 ?a2 ?l2 ?c2 ?k2 ?a3 ?l3 ?c3 ?k3 ?a4 ?l4 ?c4 ?k4 ?a5 ?l5 ?c5 ?k5 ?a6 ?l6 ?c6 ?k6 ?a7 ?l7 ?c7 ?k7 ?a8 ?l8 ?c8 ?k8 ?a9 ?l9 ?c9 ?k9 ?a10 ?l10 ?c10 ?k10 ?a11 ?l11 ?c11 ?k11 ?a12 ?l12 ?c12 ?k12 ?a13 ?l13 ?c13 ?k13 ?a14 ?l14 ?c14 ?k14 ?a15 ?l15 ?c15 ?k15 ?a16 ?l16 ?c16 ?k16 ?a17 ?l17 ?c17 ?k17 ?a18 ?l18 ?c18 ?k18 ?z_list ?z_tuple ?z_len ?z_range ?z_sorted ?z_enumerate ?z_set ?z_repr ?z_max ?z_min ?z_any
    (case a0 => k_is)
    (case l0 => k_is)
    (case c0 => k_is)
    (case k0 => k_is)
    (case a1 => k_is)
    (case l1 => k_is)
    (case c1 => k_is)
    (case k1 => k_is)
    (case a2 => k_is)
    (case l2 => k_is)
    (case c2 => k_is)
    (case k2 => k_is)
    (case a3 => k_is)
    (case l3 => k_is)
    (case c3 => k_is)
    (case k3 => k_is)
    (case a4 => k_is)
    (case l4 => k_is)
    (case c4 => k_is)
    (case k4 => k_is)
    (case a5 => k_is)
    (case l5 => k_is)
    (case c5 => k_is)
    (case k5 => k_is)
    (case a6 => k_is)
    (case l6 => k_is)
    (case c6 => k_is)
    (case k6 => k_is)
    (case a7 => k_is)
    (case l7 => k_is)
    (case c7 => k_is)
    (case k7 => k_is)
    (case a8 => k_is)
    (case l8 => k_is)
    (case c8 => k_is)
    (case k8 => k_is)
    (case a9 => k_is)
    (case l9 => k_is)
    (case c9 => k_is)
    (case k9 => k_is)
    (case a10 => k_is)
    (case l10 => k_is)
    (case c10 => k_is)
    (case k10 => k_is)
    (case a11 => k_is)
    (case l11 => k_is)
    (case c11 => k_is)
    (case k11 => k_is)
    (case a12 => k_is)
    (case l12 => k_is)
    (case c12 => k_is)
    (case k12 => k_is)
    (case a13 => k_is)
    (case l13 => k_is)
    (case c13 => k_is)
    (case k13 => k_is)
    (case a14 => k_is)
    (case l14 => k_is)
    (case c14 => k_is)
    (case k14 => k_is)
    (case a15 => k_is)
    (case l15 => k_is)
    (case c15 => k_is)
    (case k15 => k_is)
    (case a16 => k_is)
    (case l16 => k_is)
    (case c16 => k_is)
    (case k16 => k_is)
    (case a17 => k_is)
    (case l17 => k_is)
    (case c17 => k_is)
    (case k17 => k_is)
    (case a18 => k_is)
    (case l18 => k_is)
    (case c18 => k_is)
    (case k18 => k_is)
    (case z_list => k_is)
    (case z_tuple => k_is)
    (case z_len => k_is)
    (case z_range => k_is)
    (case z_sorted => k_is)
    (case z_enumerate => k_is)
    (case z_set => k_is)
    (case z_repr => k_is)
    (case z_max => k_is)
    (case z_min => k_is)
    (case z_any => k_is)
