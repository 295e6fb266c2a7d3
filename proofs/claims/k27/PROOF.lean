import PyProof.Rows.All
import Wide.All
import OpenK.AllK
import Wide.FinOn
import HandS.ForMost
import HandS.Defaults
import HandS.Wide
import HandS.Rev
import HandS.Flow
import HandS.Conv
import KE.GoesEnum
import PyProof.StrLawsIn
import HandS.Zip
import HandS.DictComp
import HandS.Walk
import KE.DataAny
import PyProof.StrOps2
import HandS.Text
import HandS.Sort
import HandS.More
import HandS.Iter
import HandS.IsInst
import KE.KEqDict
import HandS.TupAny
import PySem.Challenge.RW_bentcoin_k27_whole_places_numbered_other
set_option Elab.async false
set_option maxRecDepth 100000
set_option maxHeartbeats 4000000
/-! Defs that are run where no text of an object is being made: so that repr gives the whole text. -/
namespace GG
open PySem PySem.Spec PyProof.Rows L2
section
variable {P : Program} {w : World} {K : PySem.W.Frag} {mg : Str → Option Value} {base : Heap}
structure FnG (P : Program) (w : World) (K : PySem.W.Frag) (mg : Str → Option Value) (base : Heap) (k : Nat) (f : Addr) (fd : FuncData) (ps : List Str) (sp : Sp) : Prop where
  size : ∀ vs H Q E, sp vs H Q E → vs.length = ps.length
  goes : ∀ (A : Around) (o : List Env) (s : Shared) (H : Hp) (ar : Args) (us : List Value) (vs : List V) (Q : VK) (E : XK),
    A.guards = some [] → Room k A → Env0 P w K mg base A o s H → BindsTo s fd ar (ps.zip us) → Vals vs us → sp vs H Q E →
    codeAny (model P w) A (.call (.ref f) ar) (CR CX0 o P w H s Q E) s

theorem fnG_of {x qual : Str} {st : Stmt} {f : Addr} {fd : FuncData} {N ps : List Str} {k : Nat} {sp : Sp}
    (F : Fun K x qual st f fd) (S : FnScope N ps (defScope st)) (size : ∀ vs H Q E, sp vs H Q E → vs.length = ps.length)
    (body : ∀ (cd : Value) (A : Around) (o : List Env) (s : Shared) (H : Hp) (vs : List V) (Q : VK) (E : XK),
      A.guards = some [] → Room k (A.deeper (envOfC qual (defScope st) s.heap.objs.size f cd)) → sp vs H Q E →
      ∃ t, PSs (cxOf CX0 P w K mg base N qual (defScope st) f cd A o s H E).nox (defBody st) t ∧
        t { nx := fun _ H' => Q .non H', rt := Q } (start N vs) H) :
    FnG P w K mg base (k + 1) f fd ps sp := by
  obtain ⟨oc, od, kV, doc, pm, an, cd, ct, slots, rfl, found, code⟩ := F.ex
  refine ⟨size, ?_⟩
  intro A o s H ar us vs Q E gA room e0 hbind given asked
  have inK : K.In s.heap := e0.mod.kin.keeps fun b u e => (e0.bs b u e).1
  have free : s.heap.NoLimit := e0.mod.nolimit.keeps fun b u e => (e0.bs b u e).1
  have many := size vs H Q E asked
  have kinds : ∀ y ∈ ps.zip us, (defScope st).names.lookup y.1 = some .local ∨ ((defScope st).names.lookup y.1 = some .cell ∧
      ((cellsFrom (s.heap.objs.size + 1) (defScope st).names []).lookup y.1).isSome = true) := by
    rintro ⟨n, v⟩ hy
    cases S.par n (List.of_mem_zip hy).1 with
    | inl q => exact Or.inl q
    | inr q => exact Or.inr ⟨q, PySem.W.cellsFrom_some _ _ _ (Or.inl q)⟩
  apply codeAny_call_function room.depth (inK _ _ found) rfl S.co S.gen rfl (PySem.W.codeRec_of inK code)
  apply hbind
  apply wpAny_newFunctionEnv_cells S.kind kinds
  intro env he s1 ready
  subst he
  refine ⟨free.keeps ready.toInCall.keep, ?_⟩
  apply codeAny_func
  obtain ⟨t, ht, hq⟩ := body cd A o s H vs Q E gA (room.deeper _) asked
  have first := inv_start (E := E) (CX := CX0) S room.hd e0 many given ready
  refine wpAny_mono (ht.nox.run [] s1 (start N vs) H _ first hq) (fun fl s' hs => ?_) (fun e s' hs => hs)
  cases fl with
  | next =>
    obtain ⟨σ', H', J, q⟩ := hs
    exact ⟨V.non, H', J.os, J.bare, J.base, J.hok, rfl, q⟩
  | ret u =>
    obtain ⟨v, σ', H', J, rv, q⟩ := hs
    exact ⟨v, H', J.os, J.bare, J.base, J.hok, rv, q⟩
  | brk => exact hs.elim fun _ z => z.elim fun _ z => z.elim fun _ z => z.elim
  | cont => exact hs.elim fun _ z => z.elim fun _ z => z.elim fun _ z => z.elim

/-- what is left of the heap when the script stands alone in it -/
def one (a : Addr) (o : HO) : Hp := fun b => if b = a then some o else none
theorem one_at {a : Addr} {o : HO} : one a o a = some o := if_pos rfl
theorem one_no {a b : Addr} {o : HO} (h : b ≠ a) : one a o b = none := if_neg h

section
variable {mb : Str → Option Value} {k : Nat} {fa a : Addr} {fd : FuncData} {x : Str} {sp : Sp} {s₁ : Shared} {vs : List Value} {ns : List Int}
abbrev Fine (s₁ : Shared) (r : Result) (s' : Shared) : Prop := r = .ok (.ret (.bool true)) ∧ OldK s₁.heap s'.heap ∧ s'.os = s₁.os ∧ AllBare s'.gens

/-- from a heap in which at most the script is told of -/
theorem from_heap {H : Hp} (inK : K.In (hidT s₁.heap H)) (names : (hidT s₁.heap H).Ns mainGlobals mg) (blt : (hidT s₁.heap H).Ns builtinsNs mb)
    (known : ∀ y : Str, y ≠ "__name__" → mb y = bootBuiltins y) (free : (hidT s₁.heap H).NoLimit) (none_ : s₁.gens = #[])
    (alone : ∀ b, H b = none ∨ ∃ o xs, H b = some (.frz o (.lst xs))) (hok : HOk P w H s₁.heap) (room : Room k callerA)
    (F : FnG P w K mg (hidT s₁.heap H) k fa fd [x] sp) (binds : ∀ (s : Shared) (u : Value), BindsTo s fd ⟨[u], []⟩ [(x, u)])
    (asked : sp [.ref a] H (fun v _ => v = .bl true) fun _ _ _ => False) :
    codeAny (model P w) callerA (.call (.ref fa) ⟨[.ref a], []⟩) (Fine s₁) s₁ := by
  have entry : Env0 P w K mg (hidT s₁.heap H) callerA [] s₁ H :=
    { frames := rfl, mod := ⟨inK, names, ⟨mb, blt, known⟩, free⟩, bs := fun b u e => of_hidT e, bsz := Nat.le_of_eq (hidT_size _ _), funs := trivial,
      frf := fun b hb => absurd (show b ∈ ([] : List Addr) from hb) (by simp), hok := hok, bare := .of_eq none_ }
  have run := F.goes callerA [] s₁ H ⟨[.ref a], []⟩ [.ref a] [.ref a] _ _ rfl room entry (binds s₁ (.ref a)) (.cons rfl .nil) asked
  refine codeAny_mono run fun r s' got => ?_
  cases r with
  | error e => exact False.elim got
  | ok fl =>
    cases fl with
    | ret u =>
      obtain ⟨v, H', os, bare, un, hok', ru, yes⟩ := got
      have yes' : v = .bl true := yes
      subst yes'
      have eu : u = Value.bool true := ru
      subst eu
      refine ⟨rfl, OldK.of_keep ?_, os, bare⟩
      intro b u e
      rcases alone b with q | ⟨ob, xs, q⟩
      · exact un.keep b u e q (fun z => absurd (show b ∈ ([] : List Addr) from z) (by simp)) (by simp)
      · have e1 := (hok b _ q).1
        have e2 := (hok' b _ (un.frzs b ob _ q)).1
        rw [e] at e1
        cases e1
        exact e2
    | next => exact False.elim got
    | brk => exact False.elim got
    | cont => exact False.elim got
/-- the law's call, its promise once -/
theorem lawG (inK : K.In s₁.heap) (names : s₁.heap.Ns mainGlobals mg) (blt : s₁.heap.Ns builtinsNs mb) (known : ∀ y : Str, y ≠ "__name__" → mb y = bootBuiltins y)
    (free : s₁.heap.NoLimit) (none_ : s₁.gens = #[]) (script : s₁.heap.get? a = some { cls := .type "list", data := .seq vs.toArray }) (nums : IntsAre vs ns)
    (few : ns.length ≤ sizeLine) (room : Room k callerA) (F : ∀ base : Heap, K.In base → base.Ns mainGlobals mg → FnG P w K mg base k fa fd [x] sp)
    (binds : ∀ (s : Shared) (u : Value), BindsTo s fd ⟨[u], []⟩ [(x, u)]) (asked : ∀ H : Hp, SqL K H a (ns.map V.int) → sp [.ref a] H (fun v _ => v = .bl true) fun _ _ _ => False) :
    codeAny (model P w) callerA (.call (.ref fa) ⟨[.ref a], []⟩) (Fine s₁) s₁ := by
  have rel := vals_ints nums
  have len := nums.length
  cases look : K.lookup a with
  | some o =>
    have e := inK a o look
    rw [script] at e
    cases e
    have keep : ∀ {b : Addr} {u : Obj}, s₁.heap.get? b = some u → (hidT s₁.heap fun _ => none).get? b = some u := fun e => hidT_get e rfl
    have ns' : ∀ {b : Addr} {m : Str → Option Value}, s₁.heap.Ns b m → (hidT s₁.heap fun _ => none).Ns b m := fun ⟨o, es, ep, e, d, r⟩ => ⟨o, es, ep, keep e, d, r⟩
    have inK' : K.In (hidT s₁.heap fun _ => none) := fun b u e => keep (inK b u e)
    refine from_heap inK' (ns' names) (ns' blt) known (let ⟨mc, h1, h2⟩ := free; ⟨mc, ns' h1, h2⟩) none_ (fun _ => .inl rfl) (fun b u z => nomatch z) room (F _ inK' (ns' names)) binds ?_
    exact asked _ (.inr ⟨_, vs.toArray, _, look, rfl, rfl, rfl, by rw [List.size_toArray, len]; exact few, by simpa using rel⟩)
  | none =>
    have keep : ∀ {b : Addr} {u : Obj}, b ≠ a → s₁.heap.get? b = some u → (hidT s₁.heap (one a (.frz { cls := .type "list", data := .seq vs.toArray } (.lst (ns.map V.int))))).get? b = some u := fun n e => hidT_get e (one_no n)
    have ns' : ∀ {b : Addr} {m : Str → Option Value}, s₁.heap.Ns b m → (hidT s₁.heap (one a (.frz { cls := .type "list", data := .seq vs.toArray } (.lst (ns.map V.int))))).Ns b m := by
      rintro b m ⟨o, es, ep, e, d, r⟩
      refine ⟨o, es, ep, keep (fun z => ?_) e, d, r⟩
      rw [z, script] at e
      cases e
      cases d
    have inK' : K.In (hidT s₁.heap (one a (.frz { cls := .type "list", data := .seq vs.toArray } (.lst (ns.map V.int))))) := fun b u e => keep (fun z => by rw [z, look] at e; cases e) (inK b u e)
    refine from_heap inK' (ns' names) (ns' blt) known (let ⟨mc, h1, h2⟩ := free; ⟨mc, ns' h1, h2⟩) none_ (fun b => ?_) (fun b u z => ?_) room (F _ inK' (ns' names)) binds (asked _ (.inl (.inr ⟨_, one_at⟩)))
    · by_cases e : b = a
      · exact .inr ⟨_, _, by rw [e]; exact one_at⟩
      · exact .inl (one_no e)
    · by_cases e : b = a
      · subst e
        have z' := one_at.symm.trans z
        cases z'
        exact ⟨script, by rw [List.length_map]; exact few, vs, _, rel, script⟩
      · have z' := (one_no e).symm.trans z
        cases z'
end
end
/-- the end of a proof: as the layer's own, for such a promise -/
theorem walkG {l : PySem.W.OpenLaw} {n k : Nat} {q : Program} {loose : List Str} {XP : (Str → Option Value) → Heap → Prop} {YP : World → Heap → Prop} {d : DefRec} {K : Params → PySem.W.Frag}
    {sp : PySem.W.Frag → Sp} {x : Str} (most : l.most = some n) (few : n ≤ sizeLine) (plain : d.params.defaults = []) (room : Room k callerA) (inY : ∀ (w : World) (h : Heap), YP w h → (K w.params).In h)
    (F : ∀ (w : World) (mg : Str → Option Value) (fa : Addr) (h : Heap), (K w.params).In h → h.Ns mainGlobals mg → mg d.name = some (.ref fa) →
      ∃ fd : FuncData, (∀ (s : Shared) (u : Value), BindsTo s fd ⟨[u], []⟩ [(x, u)]) ∧
        ∀ base : Heap, (K w.params).In base → base.Ns mainGlobals mg → FnG l.prog w (K w.params) mg base k fa fd [x] (sp (K w.params)))
    (asked : ∀ (K : PySem.W.Frag) (H : Hp) (a : Addr) (ns : List Int), ns.length ≤ n → SqL K H a (ns.map V.int) → sp K [.ref a] H (fun v _ => v = .bl true) fun _ _ _ => False) :
    PySem.W.WalkO q loose XP YP l.row.toRowW d [] (fun f vs => PySem.call f vs) := by
  apply Att.attach_call most plain
  intro w s₀ s₁ mg mb fa o pm cd doc a vs ns G Y _ _ _ named script nums size none_
  have inK := inY w _ Y
  obtain ⟨fd, binds, hF⟩ := F w mg fa _ inK G.T.g named
  exact lawG inK G.T.g G.T.b G.T.builtins G.T.nolimit none_ script nums (Nat.le_trans size few) room hF binds fun H hs => asked _ H a ns size hs

/-! the text of data -/
/-- data whose text is made: no dict, no int too long, not too deep, not too many -/
structure Shows (d : PyData) (deep many : Nat) : Prop where
  s : d.showable = true
  l : d.leavesShort 1922 = true
  h : d.hasDict = false
  p : d.depth ≤ deep
  b : d.bulk ≤ many
theorem Shows.mono {d : PyData} {a b a' b' : Nat} (x : Shows d a b) (h1 : a ≤ a') (h2 : b ≤ b') : Shows d a' b' := ⟨x.s, x.l, x.h, Nat.le_trans x.p h1, Nat.le_trans x.b h2⟩
theorem Shows.room {d : PyData} (x : Shows d 50 8000) : d.shown.length ≤ sizeLine := by
  have h := PyData.shown_le_bulk 1922 (by decide) d x.l
  have hb := x.b
  have e : sizeLine = 16777216 := by decide
  have := Nat.mul_le_mul_left 1924 hb
  omega
theorem short_int {i : Int} (h : i.natAbs.log2 < 1920) : (PyData.int i).leavesShort 1922 = true := by
  simp only [PyData.leavesShort, decide_eq_true_eq]
  have e := int_text_length_le (k := 1920) (by decide) h
  rw [PyData.shown_int, PySem.ofString_length]
  omega
theorem ints_show : ∀ {ns : List Int}, (∀ n ∈ ns, n.natAbs.log2 < 1920) → PyData.showableAll (ns.map PyData.int) = true ∧ PyData.leavesShortAll 1922 (ns.map PyData.int) = true ∧ PyData.hasDictAll (ns.map PyData.int) = false ∧ PyData.depthAll (ns.map PyData.int) = 0 ∧ PyData.bulkAll (ns.map PyData.int) = ns.length
  | [], _ => ⟨rfl, rfl, rfl, rfl, rfl⟩
  | n :: r, h => by
    obtain ⟨h1, h2, h3, h4, h5⟩ := ints_show (ns := r) fun m hm => h m (List.mem_cons_of_mem _ hm)
    have hn := h n List.mem_cons_self
    have hs := short_int hn
    refine ⟨?_, ?_, ?_, ?_, ?_⟩
    · simp [PyData.showableAll, PyData.showable, h1, hn]
    · simp [PyData.leavesShortAll, h2, hs]
    · simp [PyData.hasDictAll, PyData.hasDict, h3]
    · simp [PyData.depthAll, PyData.depth, h4]
    · simp [PyData.bulkAll, PyData.bulk, h5]; omega
theorem shows_ints {ns : List Int} (h : ∀ n ∈ ns, n.natAbs.log2 < 1920) : Shows (.tuple (ns.map PyData.int)) 1 ns.length := by
  obtain ⟨h1, h2, h3, h4, h5⟩ := ints_show h
  exact ⟨by simp [PyData.showable, h1], by simp [PyData.leavesShort, h2], by simp [PyData.hasDict, h3], by simp [PyData.depth, h4], by simp [PyData.bulk, h5]⟩
section
variable {X : Cx}
def rRepr (K : PySem.W.Frag) : List V → Hp → VK → Prop := fun vs H Q => ∃ (a : Addr) (d : PyData), vs = [.ref a] ∧ Dp K H (.ref a) d ∧ Shows d 50 8000 ∧ Q (.str d.shown) H
theorem call_repr {k : Nat} (hg : X.A.guards = some []) (room : Room k X.A) : CallR X (.builtin "repr") (rRepr X.K) := by
  intro pins s σ H vs us Q I r h
  obtain ⟨a, d, rfl, hd, hs, q⟩ := h
  obtain ⟨u, rfl, ru⟩ := vals1 r
  have eu : u = Value.ref a := ru
  subst eu
  obtain ⟨as, reads⟩ := Dp.reads I d (.ref a) (.ref a) hd rfl
  have hu := room.un
  have hp := hs.p
  refine repr_of_reads' reads hs.s (fun e => by rw [hs.h] at e; cases e) hg (by omega) (fun _ _ e => e) (fun h' u tk hk => ?_) hs.room
  exact ⟨.str d.shown, H, I.kept hk, ⟨u, rfl⟩, q⟩
/-! x *= e of ints -/
theorem ip_mulW : PIp X .Mult (fun x y H Q => ∃ i j : Int, x = .int i ∧ y = .int j ∧ IntMulOk i j ∧ Q (.int (i * j)) H) := by
  intro pins s σ H x y v u Q I rx ry h
  obtain ⟨i, j, ex, ey, ok, q⟩ := h
  subst ex ey
  obtain ⟨t, et⟩ := rx
  obtain ⟨t', et'⟩ := ry
  subst et et'
  exact imul_int ⟨V.int (i * j), H, I.tok _, ⟨_, rfl⟩, q⟩ ok
/-! f(k = v, ..): all by their names -/
variable {CX : CXT} {k : Nat} {f : Addr} {fd : FuncData} {ps ks : List Str} {sp : Sp} {E : XK} {x : Str} {p pos : Pos} {kws : List Keyword} {t tk : TA}
  {g : List Value → List Value → List Value} {gV : List V → List V → List V}
def tNamed (sp : Sp) (gV : List V → List V → List V) (E : XK) (m : Nat) (tk : TA) : TE := fun σ H Q => tk σ H fun zs H1 => zs.length = m ∧ sp (gV [] zs) H1 Q E
theorem pe_named (F : FnOk X.prog X.w X.K X.mg X.base CX k f fd ps sp) (room : Room k X.A) (glob : Gl X x) (is : X.mg x = some (.ref f)) (keep : PySem.W.keepIn X.K (.ref f) = true)
    (bound : KBn X.K fd ps 0 ks g gV) (pass : Passes CX X E) (args : PK X kws tk) (all : (backToKw pos (keywordEach kws X.env)).all (·.1.isSome) = true := by rfl)
    (names : (backToKw pos (keywordEach kws X.env)).filterMap (·.1) = ks := by rfl) (nodebug : (x == ("__debug__" : Str)) = false := by decide)
    (plain : ((backTo pos (starEach [] X.env)).any (·.1) || (backToKw pos (keywordEach kws X.env)).any (·.1.isNone)) = false := by rfl) :
    PE X (.Call (.Name x p) [] kws pos) (tNamed sp gV E ks.length tk) := by
  constructor
  intro pins s σ H Q I h
  apply wpAny_Call_Name_kw
  refine ld_glob I glob is ?_ nodebug
  apply PySem.W.callWith_KW0 I.ok.mod.kin keep all _ plain
  have run := args.run pos pins s σ H _ I h
  refine thn run fun ws s2 done => ?_
  obtain ⟨zs, H2, I2, rz, many, q⟩ := done
  refine ⟨I2.kIn, ?_⟩
  rw [names]
  have few : ws.length = ks.length := by rw [← rz.length]; exact many
  first
  | exact run_fnN (us := []) (vs := []) F room bound pass I2 .nil rz rfl few q
  | exact run_fnN (us := []) (vs := []) F room bound pass I2 .nil rz rfl many q
def turned {α : Type} : List α → List α
  | [u, v] => [v, u]
  | l => l
theorem turned_vals : ∀ {zs : List V} {ws : List Value}, Vals zs ws → Vals (turned zs) (turned ws)
  | _, _, .nil => .nil
  | _, _, .cons a .nil => .cons a .nil
  | _, _, .cons a (.cons b .nil) => .cons b (.cons a .nil)
  | _, _, .cons a (.cons b (.cons c r)) => .cons a (.cons b (.cons c r))
/-- two parameters, both by name, the second ahead -/
theorem named2 {K : PySem.W.Frag} {x qual : Str} {st : Stmt} {a b : Str} (F : Fun K x qual st f fd)
    (h : ∀ (kV doc pm : Value) (an : Option Addr) (cd ct u v : Value), bindArgs (PySem.W.fnOf x qual (defArgs st) (defBody st) (defScope st) .none kV doc pm an cd ct) ⟨[], [(b, u), (a, v)]⟩ = pure [(a, v), (b, u)]) :
    KBn K fd [a, b] 0 [b, a] (fun _ ws => turned ws) (fun _ zs => turned zs) := by
  obtain ⟨oc, od, kV, doc, pm, an, cd, ct, slots, rfl, found, code⟩ := F.ex
  refine ⟨fun s us ws _ l0 l2 => ?_, fun _ r => turned_vals r⟩
  match us, ws, l0, l2 with
  | [], [u, v], _, _ => exact .of_eq (h kV doc pm an cd ct u v)
theorem max_is (calm : X.calm = true) : CallR X (.builtin "max") (fun vs H Q => ∃ i j k : Int, vs = [.int i, .int j] ∧ k = (if j > i then j else i) ∧ Q (.int k) H) := by
  intro pins s σ H vs us Q I r h
  obtain ⟨i, j, k, e, ek, q⟩ := h
  subst ek
  exact call_max2 calm pins s σ H vs us Q I r ⟨i, j, e, q⟩
/-! a def that wants that no text is being made, called -/
theorem pe_callG {F : FuncData} {es : List Expr} {e : Expr} (G : FnG X.prog X.w X.K X.mg X.base k f F ps sp) (quiet : X.A.guards = some []) (room : Room k X.A) (glob : Gl X x) (is : X.mg x = some (.ref f)) (keep : PySem.W.keepIn X.K (.ref f) = true)
    (bound : Binds X.K F ps []) (args : PA X (e :: es) t) (nodebug : (x == ("__debug__" : Str)) = false := by decide) (star : starEach (e :: es) X.env = (false, eval e X.env) :: starEach es X.env := by rfl)
    (plain : (backTo pos (starEach es X.env)).any (·.1) = false := by rfl) : PE X (.Call (.Name x p) (e :: es) [] pos) (tCall sp [] E0 t) := by
  constructor
  intro pins s σ H Q I h
  apply wpAny_Call_Name_kw
  refine ld_glob I glob is ?_ nodebug
  refine PySem.W.callWith_K (h₀ := X.base) I.ok.mod.kin keep (thn (args.run pos pins s σ H _ I h) fun us s1 got => ?_) star plain
  obtain ⟨vs, H1, I1, r, asked⟩ := got
  refine ⟨I1.kIn, ?_⟩
  have asked' : sp vs H1 Q E0 := by simpa using asked
  have many : (us ++ []).length = ps.length := by rw [List.append_nil, ← r.length]; exact G.size _ _ _ _ asked'
  have bind := bound s1 us I1.kIn many
  rw [List.append_nil] at bind
  apply wpAny_call
  refine codeAny_mono (G.goes X.A X.stack s1 H1 ⟨us, []⟩ us vs Q E0 quiet room I1.env0 bind r asked') fun res s' hq => ?_
  cases res with
  | error e => exact False.elim hq
  | ok fl =>
    cases fl with
    | ret u => exact I1.after hq
    | next => exact False.elim hq
    | brk => exact False.elim hq
    | cont => exact False.elim hq
/-! repr of None, or of data -/
def rRepr2 (K : PySem.W.Frag) : List V → Hp → VK → Prop := fun vs H Q => (vs = [.non] ∧ Q (.str "None") H) ∨ rRepr K vs H Q
theorem call_repr2 {k : Nat} (hg : X.A.guards = some []) (room : Room k X.A) : CallR X (.builtin "repr") (rRepr2 X.K) := by
  intro pins s σ H vs us Q I r h
  rcases h with ⟨ev, q⟩ | h
  · subst ev
    obtain ⟨u, eu, ru⟩ := vals1 r
    subst eu
    have e : u = Value.none := ru
    subst e
    exact PySem.P.repr_of_none ⟨.str _, H, I.tok _, ⟨_, rfl⟩, q⟩
  · exact call_repr hg room pins s σ H vs us Q I r h
end
end GG

set_option Elab.async false
set_option linter.all false
set_option maxRecDepth 100000
set_option maxHeartbeats 4000000
namespace Z
open PySem PySem.Spec PyProof.Rows L2 GG
def top (i : Nat) : Stmt := PySem.Challenge.pw_bentcoin_k27_whole_places_numbered_other.main.body.getD i (.Pass ⟨0, 0, 0, 0⟩)
abbrev sPen : Stmt := top 21
abbrev sFresh : Stmt := top 22
abbrev sDraw : Stmt := top 23
/-- what follows an if, once for all ways to it -/
theorem if_tail {c : TT} {a b : TS} {D : Ends} {σ : L2.St} {H : Hp} (W : L2.St → Hp → Prop) (tail : ∀ σ H, W σ H → D.nx σ H) (go : (∀ σ H, W σ H → D.nx σ H) → tIfS c a b D σ H) : tIfS c a b D σ H := go tail
theorem on {t u : TS} {D : Ends} {σ : L2.St} {H : Hp} (h : t { D with nx := u D } σ H) : tSeq t u D σ H := h
theorem put_c {v : V} {i : Nat} {D : Ends} {σ : L2.St} {H : Hp} (h : D.nx (σ.set i (some v)) H) : tAsg (tC v) (gName i) D σ H := h
/-! heaps -/
theorem Same.upd {H : Hp} {p : Addr} {o : HO} (h : H p = none) : Same H (L2.upd H p o) := fun b x e => by
  rw [upd_ne (ne_of_none e h)]
  exact e
/-- all that was told of stands, but what is at a -/
def But (a : Addr) (H H' : Hp) : Prop := ∀ b o, H b = some o → b ≠ a → H' b = some o
theorem But.refl (a : Addr) (H : Hp) : But a H H := fun _ _ e _ => e
theorem But.trans {a : Addr} {H H1 H2 : Hp} (x : But a H H1) (y : But a H1 H2) : But a H H2 := fun b o e n => y b o (x b o e n) n
theorem But.of {a : Addr} {H H1 : Hp} (x : Same H H1) : But a H H1 := fun b o e _ => x b o e
theorem But.put {a : Addr} {H : Hp} {o : HO} : But a H (L2.upd H a o) := fun b u e n => by
  rw [upd_ne n]
  exact e
theorem But.free {a : Addr} {H H' : Hp} {l : Addr} (e : But a H H') (n : l ≠ a) (h : H' l = none) : H l = none := by
  cases q : H l with
  | none => rfl
  | some o =>
    rw [e l o q n] at h
    cases h
theorem But.same {a : Addr} {H H0 H' : Hp} (s : Same H0 H) (n : H0 a = none) (b : But a H H') : Same H0 H' := fun c o e => b c o (s c o e) (ne_of_none e n)
theorem But.seq {a c : Addr} {K : PySem.W.Frag} {H H' : Hp} {xs : List V} (e : But a H H') (n : c ≠ a) (h : SqL K H c xs) : SqL K H' c xs := by
  rcases h with (h | ⟨o, h⟩) | h
  · exact .inl (.inl (e _ _ h n))
  · exact .inl (.inr ⟨o, e _ _ h n⟩)
  · exact .inr h
/-- a pen stands at a -/
def Pen (H : Hp) (a l : Addr) : Prop := ∃ (cs : List Int) (pos val : Int), H a = some (.lst [.ref l, .int pos, .int val]) ∧ H l = some (.lst (cs.map V.int)) ∧ 0 ≤ pos
theorem Pen.ne {H : Hp} {a l : Addr} {cs : List Int} {p v : Int} (h : H a = some (.lst [.ref l, .int p, .int v])) (e : H l = some (.lst (cs.map V.int))) : l ≠ a := by
  intro z
  subst z
  rw [h] at e
  cases cs with
  | nil => cases e
  | cons x r => cases e
theorem Pen.put {H : Hp} {a l : Addr} {cs : List Int} {p v q u : Int} (h : H a = some (.lst [.ref l, .int p, .int v])) (e : H l = some (.lst (cs.map V.int))) (hq : 0 ≤ q) : Pen (upd H a (.lst [.ref l, .int q, .int u])) a l :=
  ⟨cs, q, u, upd_same, by rw [upd_ne (Pen.ne h e)]; exact e, hq⟩
theorem Pen.same {H H' : Hp} {a l : Addr} (p : Pen H a l) (s : Same H H') : Pen H' a l := by
  obtain ⟨cs, q, v, h1, h2, h3⟩ := p
  exact ⟨cs, q, v, s _ _ h1, s _ _ h2, h3⟩
theorem dpInts {K : PySem.W.Frag} {H : Hp} : ∀ ns : List Int, DpAll K H (ns.map V.int) (ns.map PyData.int)
  | [] => .nil
  | n :: r => .cons (.int n) (dpInts r)
theorem cut_to {α : Type} (xs : List V) (n : Nat) : ∃ m, cutV xs none (some (n : Int)) = xs.take m := ⟨_, by unfold cutV; rw [HT.sIx_none]; rfl⟩
/-- a row without the zeros at its end -/
def strip (l : List Int) : List Int := (l.reverse.dropWhile (· == 0)).reverse
theorem strip_nil : strip [] = [] := rfl
theorem strip_zero (l : List Int) : strip (l ++ [0]) = strip l := by
  unfold strip
  rw [List.reverse_append]
  rfl
theorem strip_last {l : List Int} {z : Int} (h : z ≠ 0) : strip (l ++ [z]) = l ++ [z] := by
  unfold strip
  rw [List.reverse_append]
  show (List.dropWhile (· == 0) (z :: l.reverse)).reverse = _
  rw [List.dropWhile_cons_of_neg (by simpa using h), List.reverse_cons, List.reverse_reverse]
theorem strip_mem {l : List Int} {c : Int} (h : c ∈ strip l) : c ∈ l := by
  unfold strip at h
  rw [List.mem_reverse] at h
  exact List.mem_reverse.mp ((List.dropWhile_sublist _).subset h)
theorem strip_len (l : List Int) : (strip l).length ≤ l.length := by
  unfold strip
  rw [List.length_reverse]
  have := (List.dropWhile_sublist (· == 0) (l := l.reverse)).length_le
  rwa [List.length_reverse] at this
theorem strip_strip (l : List Int) : strip (strip l) = strip l := by
  rcases List.eq_nil_or_concat (strip l) with e | ⟨r, z, e⟩
  · rw [e]; rfl
  · rw [List.concat_eq_append] at e
    by_cases h : z = 0
    · exfalso
      have e2 : l.reverse.dropWhile (· == 0) = z :: r.reverse := by
        have := congrArg List.reverse e
        unfold strip at this
        rw [List.reverse_reverse, List.reverse_append] at this
        exact this
      have := List.head?_dropWhile_not (p := fun x : Int => x == 0) (l := l.reverse)
      rw [e2] at this
      simp [h] at this
    · rw [e, strip_last h]
theorem eqv_nil : ∀ {xs : List Int}, xs ≠ [] → (!PyData.eqv (.list (xs.map PyData.int)) (.list [])) = true
  | [], h => absurd rfl h
  | _ :: _, _ => rfl
structure Names (mg : Str → Option Value) : Prop where
  list : mg "list" = none
  tuple : mg "tuple" = none
  len : mg "len" = none
  range : mg "range" = none
structure Def (K : PySem.W.Frag) (mg : Str → Option Value) (x : Str) (f : Addr) (fd : FuncData) (ps : List Str) : Prop where
  is : mg x = some (.ref f)
  kp : PySem.W.keepIn K (.ref f) = true
  bi : Binds K fd ps []
theorem Pen.apart {H : Hp} {a l e : Addr} (p : Pen H a l) (h : H e = none) : e ≠ a ∧ e ≠ l := by
  obtain ⟨cs, pos, val, ha, hl, _⟩ := p
  exact ⟨(ne_of_none ha h).symm, (ne_of_none hl h).symm⟩
theorem Pen.notTup {H : Hp} {a l e : Addr} {xs : List V} (p : Pen H a l) (h : H e = some (.tup xs)) : e ≠ a := by
  obtain ⟨cs, pos, val, ha, hl, _⟩ := p
  rintro rfl
  rw [ha] at h
  cases h
theorem But.mem {a p : Addr} {H H' : Hp} {o : HO} (b : But a H H') (n : p ≠ a) (e : H p = some o) : H' p = some o := b p o e n
/-- what follows a value, once for all ways to it -/
theorem asg_tail {te : TE} {g : TG} {D : Ends} {σ : L2.St} {H : Hp} (W : V → Hp → Prop) (tail : ∀ v H', W v H' → g v σ H' D.nx) (go : (∀ v H', W v H' → g v σ H' D.nx) → te σ H fun x H1 => g x σ H1 D.nx) : tAsg te g D σ H := go tail
theorem log_le {b : Int} (h : b.natAbs < 2 ^ 100) : b.natAbs.log2 < 9000 := Nat.lt_of_lt_of_le (PySem.Flt.log2_lt_of (k := 100) (by decide) h) (by decide)
section
variable {P : Program} {w : World} {K : PySem.W.Frag} {mg : Str → Option Value} {base : Heap}
/-! ### the pen -/
def spPen (K : PySem.W.Frag) : Sp := fun vs H Q _ => ∃ (s : Addr) (ns : List Int), vs = [.ref s] ∧ SqL K H s (ns.map V.int) ∧ ns.length ≤ 63 ∧ ∀ p l H', Same H H' → H p = none → H l = none → Pen H' p l → Q (.ref p) H'
theorem scPen : FnScope ["script"] ["script"] (defScope sPen) := ⟨rfl, rfl, rfl, by decide +kernel, rfl, by decide +kernel, by decide +kernel⟩
theorem ok_pen {f : Addr} {fd : FuncData} (F : Fun K "_law_pen" "_law_pen" sPen f fd) (T : Names mg) : FnOk P w K mg base CX0 1 f fd ["script"] (spPen K) := by
  refine F.ok scPen (fun vs H Q E h => ?_) (fun cdv A outer s H vs Q E hr h => ?_)
  · obtain ⟨a, ns, rfl, _⟩ := h
    rfl
  · obtain ⟨a, ns, rfl, hS, hlen, q⟩ := h
    refine ⟨_, pss_one (ps_ret (pe_lst (pa_cons (pe_callTy call_list_of (by rfl) T.list (by decide +kernel) (pa_cons (pe_slice sl_list (pv 0) po_none (po_some pe_int)) pa_nil)) (pa_cons pe_int (pa_cons pe_int pa_nil))))), ?_⟩
    refine ⟨.ref a, rfl, 63, rfl, a, _, rfl, hS, fun c nc => ?_⟩
    refine ⟨c, _, rfl, .inl (.inl (.inl upd_same)), fun l nl => ?_⟩
    refine ⟨by show 3 ≤ sizeLine; decide, fun p np => ?_⟩
    obtain ⟨m, em⟩ := cut_to (α := Int) (ns.map V.int) 63
    have em : cutV (ns.map V.int) none (some 63) = (ns.map V.int).take m := em
    have lp : l ≠ p := ne_of_none upd_same np
    have h1 := (Same.trans (Same.upd (o := .lst (cutV (ns.map V.int) none (some 63))) nc) (Same.trans (Same.upd (o := .lst (cutV (ns.map V.int) none (some 63))) nl) (Same.upd (o := .lst [.ref l, .int 0, .int 0]) np)))
    refine q p l _ h1 (Same.free (Same.trans (Same.upd nc) (Same.upd nl)) np) (Same.free (Same.upd nc) nl) ⟨ns.take m, 0, 0, upd_same, ?_, by decide⟩
    rw [upd_ne lp, upd_same, em, List.map_take]
/-! ### a fresh number -/
def spFresh : Sp := fun vs H Q _ => ∃ (a l : Addr), vs = [.ref a] ∧ Pen H a l ∧ ∀ (v : Int) H', But a H H' → Pen H' a l → Q (.int v) H'
theorem scFresh : FnScope ["pen", "at", "cell", "p", "one", "found", "turn"] ["pen"] (defScope sFresh) := ⟨rfl, rfl, rfl, by decide +kernel, rfl, by decide +kernel, by decide +kernel⟩
theorem ok_fresh {f : Addr} {fd : FuncData} (F : Fun K "_law_fresh" "_law_fresh" sFresh f fd) (T : Names mg) : FnOk P w K mg base CX0 1 f fd ["pen"] spFresh := by
  refine F.ok scFresh (fun vs H Q E h => ?_) (fun cdv A outer s H vs Q E hr h => ?_)
  · obtain ⟨a, l, rfl, _⟩ := h
    rfl
  · obtain ⟨a, l, rfl, ⟨cs, pos, val, ha, hl, hp⟩, q⟩ := h
    have hu : A.units + 3 + 64 < cLine := hr.units
    refine ⟨_, pss_cons (ps_set (i := 1) scFresh.nd rfl (.inl rfl) (pe_ix ix_list (pv 0) pe_int (fun _ _ => rfl)))
      (pss_cons (ps_asg (pe_op op_add (pv 1) pe_int) (pg_sub (pv 0) pe_int set_list))
      (pss_cons (ps_set (i := 2) scFresh.nd rfl (.inl rfl) pe_int)
      (pss_cons (ps_if (pt_cmpR (op_neD hu) (pe_ix ix_list (pv 0) pe_int (fun _ _ => rfl)) (pe_lst pa_nil) (nomark _))
        (pss_one (ps_set (i := 2) scFresh.nd rfl (.inl rfl) (pe_ix ix_list (pe_ix ix_list (pv 0) pe_int (fun _ _ => rfl)) (pe_op op_mod (pv 1) (pe_callB call_len_seq (by rfl) T.len PySem.boot_len (pa_cons (pe_ix ix_list (pv 0) pe_int (fun _ _ => rfl)) pa_nil))) (fun _ _ => rfl)))) pss_nil)
      (pss_cons (ps_if (PW.pt (pw_and (pt_cmpR op_lt (pv 1) (pe_callB call_len_seq (by rfl) T.len PySem.boot_len (pa_cons (pe_ix ix_list (pv 0) pe_int (fun _ _ => rfl)) pa_nil)) (nomark _)) (pw_and1 (pt_cmpR op_ge (pv 2) (pe_op op_pow pe_int pe_int) (nomark _)))))
        (pss_one (ps_ret (pe_op op_sub (pv 2) (pe_op op_pow pe_int pe_int)))) pss_nil)
      (pss_cons (ps_set (i := 3) scFresh.nd rfl (.inl rfl) pe_int)
      (pss_cons (ps_set (i := 4) scFresh.nd rfl (.inl rfl) (pe_op op_mod (pe_op op_add (pe_op op_add (pe_op op_mul (pv 2) pe_int) (pe_op op_mul pe_int (pv 1))) pe_int) (pv 3)))
      (pss_cons (ps_set (i := 5) scFresh.nd rfl (.inl rfl) (pv 4))
      (pss_cons (ps_for PassesOwn.never rfl (pi_range1 rfl T.range (pa_cons pe_int pa_nil)) (pg_name (i := 6) scFresh.nd rfl (.inl rfl))
        (pss_cons (ps_set (i := 4) scFresh.nd rfl (.inl rfl) (pe_op op_mod (pe_op op_add (pe_op op_add (pe_op op_mul (pv 4) (pv 4)) (pe_op op_mul (pe_op op_mul pe_int (pe_op op_add (pv 6) pe_int)) (pe_op op_add (pv 1) pe_int))) (pv 2)) (pv 3)))
        (pss_one (ps_set (i := 5) scFresh.nd rfl (.inl rfl) (pe_op op_add (pe_op op_mul (pv 5) (pv 3)) (pv 4))))))
      (pss_one (ps_ret (pv 5))))))))))), ?_⟩
    -- position = pen[1]; pen[1] = position + 1; cell = 0
    refine ⟨.ref a, rfl, a, _, 1, .int pos, rfl, rfl, SqL.of ha, atI_nat (j := 1) rfl, ?_⟩
    refine ⟨_, rfl, _, _, rfl, rfl, .ref a, rfl, a, _, 1, 1, rfl, rfl, ha, rfl, ?_⟩
    have ha1 : upd H a (.lst [.ref l, .int (pos + 1), .int val]) a = some (.lst [.ref l, .int (pos + 1), .int val]) := upd_same
    have hl1 : upd H a (.lst [.ref l, .int (pos + 1), .int val]) l = some (.lst (cs.map V.int)) := by
      rw [upd_ne (Pen.ne ha hl)]
      exact hl
    have b1 : But a H (upd H a (.lst [.ref l, .int (pos + 1), .int val])) := But.put
    change (_ : Hp → Prop) (upd H a (.lst [.ref l, .int (pos + 1), .int val]))
    generalize upd H a (.lst [.ref l, .int (pos + 1), .int val]) = H1 at ha1 hl1 b1 ⊢
    -- if pen[0] != []
    have ec : cs = [] ∨ ∃ x r, cs = x :: r := by
      cases cs with
      | nil => exact .inl rfl
      | cons x r => exact .inr ⟨x, r, rfl⟩
    dsimp only
    refine on (put_c ?_)
    dsimp only
    refine on (if_tail (fun σ H' => ∃ cell : Int, σ = [some (V.ref a), some (V.int pos), some (V.int cell), none, none, none, none] ∧ Same H1 H') ?_ (fun t => ?_))
    rotate_left
    · refine ⟨.ref a, rfl, a, _, 0, .ref l, rfl, rfl, SqL.of ha1, atI_nat (j := 0) rfl, Nat.zero_le _, fun e0 ne0 => ?_⟩
      have s2 : Same H1 (upd H1 e0 (.lst [])) := Same.upd ne0
      have ha2 := s2 _ _ ha1
      have hl2 := s2 _ _ hl1
      have d0 : Dp K (upd H1 e0 (.lst [])) (.ref e0) (.list []) := .lst (SqL.of upd_same) .nil
      generalize upd H1 e0 (.lst []) = H2 at s2 ha2 hl2 d0 ⊢
      refine ⟨.list (cs.map PyData.int), .list [], .lst (SqL.of hl2) (dpInts cs), d0, PySem.W.ke_shaped_ints cs, rfl, _, rfl, ?_⟩
      rcases ec with rfl | ⟨x, r, rfl⟩
      · exact iteF (t _ _ ⟨0, rfl, s2⟩)
      · refine iteT ?_
        have hpos : pos % (((x :: r).length : Nat) : Int) < ((x :: r).length : Nat) ∧ 0 ≤ pos % (((x :: r).length : Nat) : Int) := by
          have : (0 : Int) < ((x :: r).length : Nat) := by rw [List.length_cons]; omega
          exact ⟨Int.emod_lt_of_pos _ this, Int.emod_nonneg _ (by omega)⟩
        obtain ⟨j, ej⟩ : ∃ j : Nat, pos % (((x :: r).length : Nat) : Int) = (j : Int) := ⟨(pos % (((x :: r).length : Nat) : Int)).toNat, by omega⟩
        have hj : j < (x :: r).length := by omega
        refine ⟨.ref a, rfl, a, _, 0, .ref l, rfl, rfl, SqL.of ha2, atI_nat (j := 0) rfl, .int pos, rfl, .ref a, rfl, a, _, 0, .ref l, rfl, rfl, SqL.of ha2, atI_nat (j := 0) rfl, l, _, rfl, .inl (SqL.of hl2), _, _, rfl, rfl, ?_, ?_⟩
        · show (0 : Int) < _
          rw [List.length_map, List.length_cons]
          omega
        · refine ⟨l, _, _, .int (x :: r)[j], rfl, rfl, SqL.of hl2, ?_, t _ _ ⟨_, rfl, s2⟩⟩
          rw [List.length_map, ej]
          exact atI_nat (by rw [List.getElem?_map, List.getElem?_eq_getElem hj]; rfl)
    · rintro σ H' ⟨cell, rfl, s2⟩
      have ha2 := s2 _ _ ha1
      have hl2 := s2 _ _ hl1
      have b2 : But a H H' := b1.trans (But.of s2)
      have p2 : Pen H' a l := ⟨cs, pos + 1, val, ha2, hl2, by omega⟩
      -- if position < len(pen[0]) and cell >= 10 ** 18: return cell - 10 ** 18
      dsimp only
      refine on (if_tail (fun σ H3 => σ = [some (V.ref a), some (V.int pos), some (V.int cell), none, none, none, none] ∧ H3 = H') ?_ (fun t => ?_))
      rotate_left
      · refine ⟨_, rfl, .ref a, rfl, a, _, 0, .ref l, rfl, rfl, SqL.of ha2, atI_nat (j := 0) rfl, l, _, rfl, .inl (SqL.of hl2), _, _, rfl, rfl, _, rfl, ite2 (fun _ => ?_) (fun _ => iteF (t _ _ ⟨rfl, rfl⟩))⟩
        refine ⟨_, rfl, _, _, rfl, rfl, ⟨by decide, by decide, by decide⟩, _, _, rfl, rfl, _, rfl, ite2 (fun _ => ?_) (fun _ => t _ _ ⟨rfl, rfl⟩)⟩
        exact ⟨_, rfl, _, _, rfl, rfl, ⟨by decide, by decide, by decide⟩, _, _, rfl, rfl, q _ _ b2 p2⟩
      · rintro σ H3 ⟨rfl, rfl⟩
        -- state, mixed, the six turns
        refine ⟨_, rfl, _, _, rfl, rfl, .inr ⟨by decide, by decide⟩, _, rfl, _, _, rfl, rfl, .inl ⟨by decide, by decide⟩, _, _, rfl, rfl, _, _, rfl, rfl, _, rfl, _, _, rfl, rfl, (by show (0 : Int) < 2305843009213693951; decide), _, rfl,
          6, rfl, by decide, by decide, for_range (lo := 0) (n := 6) (fun i σ H4 => ∃ (st mx : Int) (v : Option V), σ = [some (V.ref a), some (V.int pos), some (V.int cell), some (V.int 2305843009213693951), some (V.int st), some (V.int mx), v] ∧ H4 = H3 ∧ 0 ≤ st ∧ st < 2305843009213693951)
            ⟨_, _, none, rfl, rfl, Int.emod_nonneg _ (by decide), Int.emod_lt_of_pos _ (by decide)⟩ ?_ ?_⟩
        · rintro i σ H4 hi ⟨st, mx, v, rfl, rfl, h0, h1⟩
          refine ⟨_, rfl, _, rfl, _, _, rfl, rfl, .inl ⟨by omega, by omega⟩, _, rfl, _, _, rfl, rfl, _, _, rfl, rfl, .inl ⟨by decide, by decide⟩, _, rfl, _, _, rfl, rfl, _, _, rfl, rfl, .inl ⟨by show -(2 ^ 64) < (69621 : Int) * (0 + (i : Int) + 1); omega, by show (69621 : Int) * (0 + (i : Int) + 1) < 2 ^ 64; omega⟩, _, _, rfl, rfl,
            _, rfl, _, _, rfl, rfl, _, rfl, _, _, rfl, rfl, (by show (0 : Int) < 2305843009213693951; decide), _, rfl, _, rfl, _, _, rfl, rfl, .inr ⟨by decide, by decide⟩, _, rfl, _, _, rfl, rfl, ?_⟩
          exact ⟨_, _, _, rfl, rfl, Int.emod_nonneg _ (by decide), Int.emod_lt_of_pos _ (by decide)⟩
        · rintro σ H4 ⟨st, mx, v, rfl, rfl, h0, h1⟩
          exact ⟨_, rfl, q _ _ b2 p2⟩
/-! ### a number below a bound -/
def spDraw : Sp := fun vs H Q _ => ∃ (a l : Addr) (b : Int), vs = [.ref a, .int b] ∧ Pen H a l ∧ 0 < b ∧ b.natAbs.log2 < 9000 ∧ ∀ (d : Int) H', 0 ≤ d → d < b → But a H H' → Pen H' a l → Q (.int d) H'
theorem scDraw : FnScope ["pen", "many", "digit"] ["pen", "many"] (defScope sDraw) := ⟨rfl, rfl, rfl, by decide +kernel, rfl, by decide +kernel, by decide +kernel⟩
theorem ok_draw {f g : Addr} {fd gd : FuncData} (F : Fun K "_law_draw" "_law_draw" sDraw f fd) (GF : FnOk P w K mg base CX0 1 g gd ["pen"] spFresh) (mF : mg "_law_fresh" = some (.ref g)) (kF : PySem.W.keepIn K (.ref g) = true) (bF : Binds K gd ["pen"] []) :
    FnOk P w K mg base CX0 2 f fd ["pen", "many"] spDraw := by
  refine F.ok scDraw (fun vs H Q E h => ?_) (fun cdv A outer s H vs Q E hr h => ?_)
  · obtain ⟨a, l, b, rfl, _⟩ := h
    rfl
  · obtain ⟨a, l, b, rfl, pn, hb, hb2, q⟩ := h
    refine ⟨_, pss_cons (ps_if (pt_cmpR op_lt (pe_ix ix_list (pv 0) pe_int (fun _ _ => rfl)) (pv 1) (nomark _))
        (pss_one (ps_asg (pe_call GF hr (by rfl) mF kF bF .nil pass0 (pa_cons (pv 0) pa_nil)) (pg_sub (pv 0) pe_int set_list))) pss_nil)
      (pss_cons (ps_set (i := 2) scDraw.nd rfl (.inl rfl) (pe_op op_mod (pe_ix ix_list (pv 0) pe_int (fun _ _ => rfl)) (pv 1)))
      (pss_cons (ps_asg (pe_op op_fdivW (pe_ix ix_list (pv 0) pe_int (fun _ _ => rfl)) (pv 1)) (pg_sub (pv 0) pe_int set_list))
      (pss_one (ps_ret (pv 2))))), ?_⟩
    refine on (if_tail (fun σ H' => σ = [some (V.ref a), some (V.int b), none] ∧ Pen H' a l ∧ But a H H') ?_ (fun t => ?_))
    rotate_left
    · obtain ⟨cs, pos, val, ha, hl, hp⟩ := id pn
      refine ⟨.ref a, rfl, a, _, 2, .int val, rfl, rfl, SqL.of ha, atI_nat (j := 2) rfl, _, rfl, _, _, rfl, rfl, _, rfl, ite2 (fun _ => ?_) (fun _ => t _ _ ⟨rfl, pn, But.refl _ _⟩)⟩
      refine ⟨.ref a, rfl, a, l, rfl, pn, fun v H1 b1 p1 => ?_⟩
      obtain ⟨cs, pos, val, ha, hl, hp⟩ := p1
      exact ⟨.ref a, rfl, a, _, 2, 2, rfl, rfl, ha, rfl, t _ _ ⟨rfl, Pen.put ha hl hp, b1.trans But.put⟩⟩
    · rintro σ H1 ⟨rfl, ⟨cs, pos, val, ha, hl, hp⟩, b1⟩
      refine ⟨.ref a, rfl, a, _, 2, .int val, rfl, rfl, SqL.of ha, atI_nat (j := 2) rfl, _, rfl, _, _, rfl, rfl, hb, .ref a, rfl, a, _, 2, .int val, rfl, rfl, SqL.of ha, atI_nat (j := 2) rfl, _, rfl, _, _, rfl, rfl, ⟨hb, hb2⟩, .ref a, rfl, a, _, 2, 2, rfl, rfl, ha, rfl, _, rfl, ?_⟩
      exact q _ _ (Int.emod_nonneg _ (by omega)) (Int.emod_lt_of_pos _ hb) (b1.trans But.put) (Pen.put ha hl hp)
end
end Z

set_option Elab.async false
set_option linter.all false
set_option maxRecDepth 100000
set_option maxHeartbeats 4000000
namespace Z
open PySem PySem.Spec PyProof.Rows L2 GG
abbrev sEnds : Stmt := top 24
abbrev sMach : Stmt := top 25
abbrev sNumb : Stmt := top 26
/-! ### machines -/
inductive Pl where
  | toss (a b : Int)
  | fin (n : Int)
  | never
def Pl.row : Pl → List V
  | .toss a b => [.str "toss", .int a, .int b]
  | .fin n => [.str "end", .int n]
  | .never => [.str "never"]
def Pl.ok (m : Nat) : Pl → Prop
  | .toss a b => 0 ≤ a ∧ a < m ∧ 0 ≤ b ∧ b < m
  | .fin n => 0 ≤ n ∧ n < 100
  | .never => True
def Pl.still (p : Pl) : Prop := p = .never ∨ ∃ n, p = .fin n ∧ 0 ≤ n ∧ n < 100
theorem Pl.still.ok {p : Pl} (h : p.still) (m : Nat) : p.ok m := by
  rcases h with rfl | ⟨n, rfl, h1, h2⟩
  · trivial
  · exact ⟨h1, h2⟩
def Pl.isT : Pl → Bool
  | .toss _ _ => true
  | _ => false
theorem Pl.still.isT {p : Pl} (h : p.still) : p.isT = false := by
  rcases h with rfl | ⟨n, rfl, _⟩ <;> rfl
inductive Pls (H : Hp) : List V → List Pl → Prop where
  | nil : Pls H [] []
  | cons {t : Addr} {p : Pl} {rs : List V} {ps : List Pl} : H t = some (.tup p.row) → Pls H rs ps → Pls H (.ref t :: rs) (p :: ps)
theorem Pls.mono {H H' : Hp} (f : ∀ t xs, H t = some (.tup xs) → H' t = some (.tup xs)) {rs : List V} {ps : List Pl} (h : Pls H rs ps) : Pls H' rs ps := by
  induction h with
  | nil => exact .nil
  | cons e _ ih => exact .cons (f _ _ e) ih
theorem Pls.snoc {H : Hp} {rs : List V} {ps : List Pl} (h : Pls H rs ps) {t : Addr} {p : Pl} (e : H t = some (.tup p.row)) : Pls H (rs ++ [.ref t]) (ps ++ [p]) := by
  induction h with
  | nil => exact .cons e .nil
  | cons e' _ ih => exact .cons e' ih
theorem Pls.len {H : Hp} {rs : List V} {ps : List Pl} (h : Pls H rs ps) : rs.length = ps.length := by
  induction h with
  | nil => rfl
  | cons _ _ ih => simp [ih]
theorem Pls.get {H : Hp} {rs : List V} {ps : List Pl} (h : Pls H rs ps) : ∀ {i : Nat} {p : Pl}, ps[i]? = some p → ∃ t, rs[i]? = some (.ref t) ∧ H t = some (.tup p.row) := by
  induction h with
  | nil => intro i p e; simp at e
  | @cons t q rs ps e' _ ih =>
    intro i p e
    cases i with
    | zero =>
      have : q = p := by simpa using e
      subst this
      exact ⟨t, rfl, e'⟩
    | succ i => exact ih (by simpa using e)
def Mach (H : Hp) (m : Addr) (ps : List Pl) : Prop := ∃ rs, H m = some (.tup rs) ∧ Pls H rs ps
theorem Mach.mono {H H' : Hp} (f : ∀ t xs, H t = some (.tup xs) → H' t = some (.tup xs)) {m : Addr} {ps : List Pl} (h : Mach H m ps) : Mach H' m ps := by
  obtain ⟨rs, e, h⟩ := h
  exact ⟨rs, f _ _ e, h.mono f⟩
theorem Mach.same {H H' : Hp} (s : Same H H') {m : Addr} {ps : List Pl} (h : Mach H m ps) : Mach H' m ps := h.mono fun t xs e => s _ _ e
theorem Mach.but {H H' : Hp} {a l m : Addr} {ps : List Pl} (pn : Pen H a l) (b : But a H H') (h : Mach H m ps) : Mach H' m ps := h.mono fun t xs e => b.mem (pn.notTup e) e
structure WF (ps : List Pl) : Prop where
  ne : 0 < ps.length
  le : ps.length ≤ 30
  ok : ∀ p ∈ ps, p.ok ps.length
theorem WF.get {ps : List Pl} (w : WF ps) {a : Int} (h0 : 0 ≤ a) (h1 : a < ps.length) : ∃ p, ps[a.toNat]? = some p ∧ p.ok ps.length := by
  have lt : a.toNat < ps.length := by omega
  exact ⟨ps[a.toNat], List.getElem?_eq_getElem lt, w.ok _ (List.getElem_mem lt)⟩
theorem str_toss_end : (V.str "end" : V) ≠ V.str "toss" := by intro h; exact absurd (V.str.inj h) (by decide +kernel)
theorem str_toss_never : (V.str "never" : V) ≠ V.str "toss" := by intro h; exact absurd (V.str.inj h) (by decide +kernel)
theorem str_end_toss : (V.str "toss" : V) ≠ V.str "end" := by intro h; exact absurd (V.str.inj h) (by decide +kernel)
theorem str_end_never : (V.str "never" : V) ≠ V.str "end" := by intro h; exact absurd (V.str.inj h) (by decide +kernel)
theorem str_never_toss : (V.str "toss" : V) ≠ V.str "never" := by intro h; exact absurd (V.str.inj h) (by decide +kernel)
theorem str_never_end : (V.str "end" : V) ≠ V.str "never" := by intro h; exact absurd (V.str.inj h) (by decide +kernel)
section
variable {P : Program} {w : World} {K : PySem.W.Frag} {mg : Str → Option Value} {base : Heap}
def spEnds : Sp := fun vs H Q _ => ∃ (a l q : Addr) (ns : List Int), vs = [.ref a, .ref q] ∧ Pen H a l ∧ H q = some (.lst (ns.map V.int)) ∧ 0 < ns.length ∧ ns.length ≤ 60 ∧ (∀ n ∈ ns, 0 ≤ n ∧ n < 100) ∧
  ∀ (t : Addr) (p : Pl) H', But a H H' → H t = none → H' t = some (.tup p.row) → Pen H' a l → p.still → Q (.ref t) H'
theorem Pen.notInts {H : Hp} {a l q : Addr} {ns : List Int} (p : Pen H a l) (h : H q = some (.lst (ns.map V.int))) : q ≠ a := by
  obtain ⟨cs, pos, val, ha, hl, _⟩ := p
  rintro rfl
  rw [ha] at h
  cases ns with
  | nil => cases h
  | cons x r => cases h
theorem scEnds : FnScope ["pen", "answers"] ["pen", "answers"] (defScope sEnds) := ⟨rfl, rfl, rfl, by decide +kernel, rfl, by decide +kernel, by decide +kernel⟩
theorem ok_ends {f g : Addr} {fd gd : FuncData} (F : Fun K "_law_ends" "_law_ends" sEnds f fd) (T : Names mg) (GD : FnOk P w K mg base CX0 2 g gd ["pen", "many"] spDraw) (PD : Def K mg "_law_draw" g gd ["pen", "many"]) :
    FnOk P w K mg base CX0 3 f fd ["pen", "answers"] spEnds := by
  refine F.ok scEnds (fun vs H Q E h => ?_) (fun cdv A outer s H vs Q E hr h => ?_)
  · obtain ⟨a, l, q, ns, rfl, _⟩ := h
    rfl
  · obtain ⟨a, l, r, ns, rfl, pn, hr1, h0, h60, hns, q⟩ := h
    refine ⟨_, (pss_cons (ps_if (pt_cmpR op_eq (pe_call GD (hr.mono (by first | decide | omega)) (by rfl) PD.is PD.kp PD.bi .nil pass0 (pa_cons (pv 0) (pa_cons pe_int pa_nil))) pe_int (nomark _)) (pss_one (ps_ret (pe_tup (pa_cons pe_str pa_nil)))) pss_nil)
      (pss_one (ps_ret (pe_tup (pa_cons pe_str (pa_cons (pe_ix ix_list (pv 1) (pe_call GD (hr.mono (by first | decide | omega)) (by rfl) PD.is PD.kp PD.bi .nil pass0 (pa_cons (pv 0) (pa_cons (pe_callB call_len_seq (by rfl) T.len PySem.boot_len (pa_cons (pv 1) pa_nil)) pa_nil))) (fun _ _ => rfl)) pa_nil)))))), ?_⟩
    refine ⟨.ref a, rfl, a, l, 7, rfl, pn, by decide, by decide +kernel, fun d H1 u0 u1 b1 p1 => ⟨rfl, _, rfl, ite2 (fun _ => ?_) (fun _ => ?_)⟩⟩
    · refine ⟨by show 1 ≤ sizeLine; decide, fun t nt => ?_⟩
      exact q t .never _ (b1.trans (But.of (Same.upd nt))) (b1.free (p1.apart nt).1 nt) upd_same (p1.same (Same.upd nt)) (.inl rfl)
    · have hr2 := b1.mem (pn.notInts hr1) hr1
      refine ⟨.ref r, rfl, .ref a, rfl, .ref r, rfl, r, _, rfl, .inl (SqL.of hr2), a, l, _, rfl, p1, ?_, ?_, fun d2 H2 v0 v1 b2 p2 => ?_⟩
      · rw [List.length_map]
        omega
      · rw [List.length_map]
        refine log_le (Nat.lt_of_le_of_lt (show _ ≤ 60 by omega) (by decide))
      · rw [List.length_map] at v1
        obtain ⟨j, rfl⟩ : ∃ j : Nat, d2 = (j : Int) := ⟨d2.toNat, by omega⟩
        have hj : j < ns.length := by omega
        refine ⟨r, _, j, .int ns[j], rfl, rfl, SqL.of (b2.mem (p1.notInts hr2) hr2), atI_nat (by rw [List.getElem?_map, List.getElem?_eq_getElem hj]; rfl), by show 2 ≤ sizeLine; decide, fun t nt => ?_⟩
        have b3 := b1.trans b2
        exact q t (.fin ns[j]) _ (b3.trans (But.of (Same.upd nt))) (b3.free (p2.apart nt).1 nt) upd_same (p2.same (Same.upd nt)) (.inr ⟨_, rfl, hns _ (List.getElem_mem hj)⟩)
/-! ### the numbers of the places changed -/
structure Order (n : Nat) (os : List Int) : Prop where
  len : os.length = n
  all : ∀ k : Int, 0 ≤ k → k < n → k ∈ os
  ok : ∀ k ∈ os, 0 ≤ k ∧ k < n
def spNumb : Sp := fun vs H Q _ => ∃ (m o : Addr) (ps : List Pl) (os : List Int), vs = [.ref m, .ref o] ∧ Mach H m ps ∧ WF ps ∧ H o = some (.lst (os.map V.int)) ∧ Order ps.length os ∧
  ∀ (t : Addr) (qs : List Pl) H', Same H H' → H t = none → Mach H' t qs → WF qs → qs.length = ps.length → ((∃ p ∈ ps, p.isT = false) → ∃ q ∈ qs, q.isT = false) → Q (.ref t) H'
theorem flat_ints : ∀ ns : List Int, (ns.map V.int).all flatV = true
  | [] => rfl
  | _ :: r => flat_ints r
theorem find_int {os : List Int} {k : Int} (h : k ∈ os) : ∃ j : Nat, j < os.length ∧ (os.map V.int)[j]? = some (V.int k) ∧ ∀ (m : Nat) (z : V), m < j → (os.map V.int)[m]? = some z → eqV z (V.int k) = false := by
  induction os with
  | nil => cases h
  | cons x r ih =>
    by_cases e : x = k
    · subst e
      exact ⟨0, by simp, rfl, fun m z hm => absurd hm (Nat.not_lt_zero m)⟩
    · have h' : k ∈ r := by
        rcases List.mem_cons.mp h with z | z
        · exact absurd z.symm e
        · exact z
      obtain ⟨j, h1, h2, h3⟩ := ih h'
      refine ⟨j + 1, by simpa using h1, h2, fun m z hm hz => ?_⟩
      cases m with
      | zero =>
        have : z = V.int x := by simpa using hz.symm
        subst this
        show (x == k) = false
        simpa using e
      | succ m => exact h3 m z (by omega) (by simpa using hz)
theorem scNumb : FnScope ["machine", "order", "found", "old", "place"] ["machine", "order"] (defScope sNumb) := ⟨rfl, rfl, rfl, by decide +kernel, rfl, by decide +kernel, by decide +kernel⟩
theorem ok_numb {f : Addr} {fd : FuncData} (F : Fun K "_law_numbered" "_law_numbered" sNumb f fd) (T : Names mg) : FnOk P w K mg base CX0 1 f fd ["machine", "order"] spNumb := by
  refine F.ok scNumb (fun vs H Q E h => ?_) (fun cdv A outer s H vs Q E hr h => ?_)
  · obtain ⟨m, o, ps, os, rfl, _⟩ := h
    rfl
  · obtain ⟨m, o, ps, os, rfl, hm, hw, ho, hos, q⟩ := h
    refine ⟨_, (pss_cons (ps_set (i := 2) scNumb.nd rfl (.inl rfl) (pe_lst pa_nil))
      (pss_cons (ps_for PassesOwn.never rfl (pi_list (pv 1)) (pg_name (i := 3) scNumb.nd rfl (.inl rfl)) (pss_cons (ps_set (i := 4) scNumb.nd rfl (.inl rfl) (pe_ix ix_tup (pv 0) (pv 3) (fun _ _ => rfl)))
      (pss_cons (ps_if (pt_cmpR op_eq (pe_ix ix_tup (pv 4) pe_int (fun _ _ => rfl)) pe_str (nomark _)) (pss_one (ps_set (i := 4) scNumb.nd rfl (.inl rfl) (pe_tup (pa_cons pe_str (pa_cons (pe_bm PySem.F.plainAttrs_list PySem.F.slot_list_index PySem.F.type_list_index mt_index (pv 1) (pa_cons (pe_ix ix_tup (pv 4) pe_int (fun _ _ => rfl)) pa_nil)) (pa_cons (pe_bm PySem.F.plainAttrs_list PySem.F.slot_list_index PySem.F.type_list_index mt_index (pv 1) (pa_cons (pe_ix ix_tup (pv 4) pe_int (fun _ _ => rfl)) pa_nil)) pa_nil)))))) pss_nil)
      (pss_one (ps_expr (pe_bm PySem.F.plainAttrs_list PySem.F.slot_list_append PySem.F.type_list_append mt_append (pv 2) (pa_cons (pv 4) pa_nil)))))))
      (pss_one (ps_ret (pe_callTy call_tuple_of (by rfl) T.tuple (by decide +kernel) (pa_cons (pv 2) pa_nil)))))), ?_⟩
    refine ⟨Nat.zero_le _, fun L nL => ?_⟩
    have s1 : Same H (upd H L (.lst [])) := Same.upd nL
    have eL : upd H L (.lst []) L = some (.lst []) := upd_same
    change (_ : Hp → Prop) (upd H L (.lst []))
    generalize upd H L (.lst []) = H1 at s1 eL ⊢
    refine ⟨.ref o, rfl, o, rfl, ⟨_, SqL.of (s1 _ _ ho)⟩, for_list (K := K) (a := o) (xs := os.map V.int) (fun i σ H' => ∃ (v3 v4 : Option V) (rs : List V) (qs : List Pl), σ = [some (V.ref m), some (V.ref o), some (V.ref L), v3, v4] ∧ Same H H' ∧ H' L = some (.lst rs) ∧ Pls H' rs qs ∧ qs.length = i ∧ (∀ p ∈ qs, p.ok ps.length) ∧ ∀ (j k : Nat) (p : Pl), j < i → os[j]? = some ((k : Nat) : Int) → ps[k]? = some p → ∃ q, qs[j]? = some q ∧ q.isT = p.isT)
      ⟨_, _, [], [], rfl, s1, eL, .nil, rfl, by simp, fun j k p h => absurd h (Nat.not_lt_zero _)⟩ (fun i σ H' _ ⟨_, _, _, _, _, s, _⟩ => SqL.of (s _ _ ho)) ?_ ?_⟩
    · rintro i x σ H2 hx ⟨v3, v4, rs, qs, rfl, s2, e2, pl, len, okq, still⟩
      have hi : i < os.length := by
        have := (List.getElem?_eq_some_iff.mp hx).1
        rwa [List.length_map] at this
      have ex : x = .int os[i] := by
        rw [List.getElem?_map, List.getElem?_eq_getElem hi] at hx
        exact (Option.some.inj hx).symm
      subst ex
      obtain ⟨k0, k1⟩ := hos.ok _ (List.getElem_mem hi)
      obtain ⟨p, hp, okp⟩ := hw.get k0 k1
      obtain ⟨rs0, em, pls0⟩ := hm.same s2
      obtain ⟨t, ht, et⟩ := pls0.get hp
      obtain ⟨j, ej⟩ : ∃ j : Nat, os[i] = (j : Int) := ⟨os[i].toNat, by omega⟩
      rw [ej, Int.toNat_natCast] at hp ht
      have hlen : rs.length < sizeLine := by
        have := pl.len
        have := hos.len
        have := hw.le
        have e : sizeLine = 16777216 := by decide
        omega
      refine ⟨.ref m, rfl, .int os[i], rfl, m, rs0, _, .ref t, rfl, rfl, SqT.of em, by rw [ej]; exact atI_nat ht, ?_⟩
      dsimp only
      refine on (if_tail (fun σ H3 => ∃ (t' : Addr) (p' : Pl), σ = [some (V.ref m), some (V.ref o), some (V.ref L), some (V.int os[i]), some (V.ref t')] ∧ Same H2 H3 ∧ H3 t' = some (.tup p'.row) ∧ p'.ok ps.length ∧ p'.isT = p.isT) ?_ (fun tl => ?_))
      rotate_left
      · cases p with
        | toss x y =>
          refine ⟨.ref t, rfl, t, _, 0, .str "toss", rfl, rfl, SqT.of et, atI_nat (j := 0) rfl, rfl, _, rfl, ?_⟩
          rw [decide_eq_true rfl]
          refine iteT ?_
          obtain ⟨x0, x1, y0, y1⟩ := okp
          obtain ⟨jx, jx1, jx2, jx3⟩ := find_int (hos.all x x0 x1)
          obtain ⟨jy, jy1, jy2, jy3⟩ := find_int (hos.all y y0 y1)
          have ho2 := s2 _ _ ho
          refine ⟨.ref o, rfl, .inl ⟨rfl, _, SqL.of ho2⟩, .ref t, rfl, t, _, 1, .int x, rfl, rfl, SqT.of et, atI_nat (j := 1) rfl, o, _, .int x, jx, .int x, rfl, rfl, SqL.of ho2, rfl, flat_ints os, jx2, by show (x == x) = true; simp, jx3, ?_⟩
          refine ⟨.ref o, rfl, .inl ⟨rfl, _, SqL.of ho2⟩, .ref t, rfl, t, _, 2, .int y, rfl, rfl, SqT.of et, atI_nat (j := 2) rfl, o, _, .int y, jy, .int y, rfl, rfl, SqL.of ho2, rfl, flat_ints os, jy2, by show (y == y) = true; simp, jy3, ?_⟩
          refine ⟨by show 3 ≤ sizeLine; decide, fun t' nt => tl _ _ ⟨t', .toss (jx : Nat) (jy : Nat), rfl, Same.upd nt, upd_same, ?_⟩⟩
          have := hos.len
          exact ⟨⟨by omega, by omega, by omega, by omega⟩, rfl⟩
        | fin n =>
          refine ⟨.ref t, rfl, t, _, 0, .str "end", rfl, rfl, SqT.of et, atI_nat (j := 0) rfl, rfl, _, rfl, ?_⟩
          rw [decide_eq_false str_toss_end]
          exact iteF (tl _ _ ⟨t, .fin n, rfl, Same.refl _, et, okp, rfl⟩)
        | never =>
          refine ⟨.ref t, rfl, t, _, 0, .str "never", rfl, rfl, SqT.of et, atI_nat (j := 0) rfl, rfl, _, rfl, ?_⟩
          rw [decide_eq_false str_toss_never]
          exact iteF (tl _ _ ⟨t, .never, rfl, Same.refl _, et, okp, rfl⟩)
      · rintro σ H3 ⟨t', p', rfl, s3, et', okp', same'⟩
        have e3 := s3 _ _ e2
        refine ⟨.ref L, rfl, .inl ⟨rfl, _, SqL.of e3⟩, .ref t', rfl, L, _, _, rfl, rfl, e3, hlen, ?_⟩
        have ntL : ∀ b xs, H3 b = some (.tup xs) → b ≠ L := by
          rintro b xs e rfl
          rw [e3] at e
          cases e
        refine ⟨_, _, rs ++ [.ref t'], qs ++ [p'], rfl, ?_, upd_same, ?_, by simp [len], ?_, ?_⟩
        · intro b u e
          rw [upd_ne (ne_of_none e nL)]
          exact s3 _ _ (s2 _ _ e)
        · exact ((pl.mono fun b xs e => s3 _ _ e).snoc et').mono fun b xs e => by rw [upd_ne (ntL _ _ e)]; exact e
        · intro x hx
          rcases List.mem_append.mp hx with hx | hx
          · exact okq x hx
          · rw [List.mem_singleton.mp hx]
            exact okp'
        · intro j' k' p2 hj' ho' hp'
          rcases Nat.lt_or_ge j' i with l | l
          · obtain ⟨q', hq', e'⟩ := still j' k' p2 l ho' hp'
            exact ⟨q', by rw [List.getElem?_append_left (by omega)]; exact hq', e'⟩
          · have ei : j' = i := by omega
            subst ei
            rw [List.getElem?_eq_getElem hi, ej] at ho'
            have ek : k' = j := by
              have := Option.some.inj ho'
              omega
            subst ek
            rw [hp] at hp'
            have ep := Option.some.inj hp'
            subst ep
            exact ⟨p', by rw [List.getElem?_append_right (by omega), len, Nat.sub_self]; rfl, same'⟩
    · rintro σ H2 ⟨v3, v4, rs, qs, rfl, s2, e2, pl, len, okq, still⟩
      rw [List.length_map] at still
      rw [List.length_map, hos.len] at len
      refine ⟨.ref L, rfl, L, _, rfl, .inl ⟨SqL.of e2, fun t nt => ?_⟩⟩
      have s3 := Same.upd (o := .tup rs) nt
      exact q t qs _ (s2.trans s3) (s2.free nt) ⟨rs, upd_same, pl.mono fun b xs e => s3 _ _ e⟩ ⟨by have := hw.ne; omega, by have := hw.le; omega, by rw [len]; exact okq⟩ len (fun ⟨p, hp, hf⟩ => by
        obtain ⟨k, hk, ek⟩ := List.getElem_of_mem hp
        obtain ⟨j, hj, ej⟩ := List.getElem_of_mem (hos.all (k : Nat) (by omega) (by omega))
        obtain ⟨q', hq', e'⟩ := still j k p hj (by rw [List.getElem?_eq_getElem hj, ej]) (by rw [List.getElem?_eq_getElem hk, ek])
        exact ⟨q', List.mem_of_getElem? hq', e'.trans hf⟩)
/-! ### a machine that is drawn -/
theorem ixN_nat {n j : Nat} (h : j < n) : ixN n (j : Int) = some j := by
  unfold ixN
  rw [if_pos (by omega), if_pos (by omega)]
  simp
theorem order_swap {n z : Nat} (h : z < n) : Order n ((((List.range n).map fun i : Nat => (i : Int)).set 0 (z : Int)).set z 0) := by
  have len : ((List.range n).map fun i : Nat => (i : Int)).length = n := by simp
  refine ⟨by simp, fun k k0 k1 => ?_, fun k hk => ?_⟩
  · obtain ⟨j, rfl⟩ : ∃ j : Nat, k = (j : Int) := ⟨k.toNat, by omega⟩
    have hj : j < n := by omega
    refine List.mem_of_getElem? (i := if j = 0 then z else if j = z then 0 else j) ?_
    rw [List.getElem?_set, List.getElem?_set]
    by_cases e0 : j = 0
    · subst e0
      rw [if_pos rfl, if_pos rfl, List.length_set, len, if_pos h]
      rfl
    · rw [if_neg e0]
      by_cases ez : j = z
      · subst ez
        rw [if_pos rfl, if_neg e0, if_pos rfl, len, if_pos (by omega)]
      · rw [if_neg ez, if_neg (fun q => ez q.symm), if_neg (fun q => e0 q.symm), List.getElem?_map, List.getElem?_range hj]
        rfl
  · rcases List.mem_or_eq_of_mem_set hk with hk | rfl
    · rcases List.mem_or_eq_of_mem_set hk with hk | rfl
      · obtain ⟨i, hi, rfl⟩ := List.mem_map.mp hk
        have := List.mem_range.mp hi
        omega
      · omega
    · omega
theorem first_is {n : Nat} (h : 0 < n) {d : Int} (d0 : 0 ≤ d) (d1 : d < 6) : ∃ z : Nat, z < n ∧ atI [V.int ((n : Int) - 1), V.int 0, V.int 0, V.int 0, V.int 0, V.int 0] d = some (V.int (z : Nat)) := by
  rcases (show d = 0 ∨ d = 1 ∨ d = 2 ∨ d = 3 ∨ d = 4 ∨ d = 5 by omega) with rfl | rfl | rfl | rfl | rfl | rfl
  · refine ⟨n - 1, by omega, ?_⟩
    rw [show ((n - 1 : Nat) : Int) = (n : Int) - 1 by omega]
    rfl
  all_goals exact ⟨0, h, rfl⟩
theorem rg_is (n : Nat) : rgV 0 (n : Int) = ((List.range n).map fun i : Nat => (i : Int)).map V.int := by
  unfold rgV
  rw [List.map_map, show ((n : Int) - 0).toNat = n by omega]
  refine List.map_congr_left fun i _ => ?_
  show V.int (0 + (i : Int)) = V.int (i : Int)
  rw [Int.zero_add]
def spMach : Sp := fun vs H Q _ => ∃ (a l r : Addr) (m : Int) (ns : List Int), vs = [.ref a, .int m, .ref r] ∧ Pen H a l ∧ 0 ≤ m ∧ m ≤ 20 ∧ H r = some (.lst (ns.map V.int)) ∧ 0 < ns.length ∧ ns.length ≤ 60 ∧ (∀ n ∈ ns, 0 ≤ n ∧ n < 100) ∧
  ∀ (t : Addr) (ps : List Pl) H', But a H H' → H t = none → Mach H' t ps → WF ps → Pen H' a l → (ps.length : Int) ≤ m + 3 → (∃ p ∈ ps, p.isT = false) → Q (.ref t) H'
theorem scMach : FnScope ["pen", "most", "answers", "tosses", "others", "many", "first", "places", "at", "order"] ["pen", "most", "answers"] (defScope sMach) := ⟨rfl, rfl, rfl, by decide +kernel, rfl, by decide +kernel, by decide +kernel⟩
theorem ok_mach {f g e n : Addr} {fd gd ed nd : FuncData} (F : Fun K "_law_machine" "_law_machine" sMach f fd) (T : Names mg) (GD : FnOk P w K mg base CX0 2 g gd ["pen", "many"] spDraw) (PD : Def K mg "_law_draw" g gd ["pen", "many"])
    (GE : FnOk P w K mg base CX0 3 e ed ["pen", "answers"] spEnds) (PE_ : Def K mg "_law_ends" e ed ["pen", "answers"]) (GN : FnOk P w K mg base CX0 1 n nd ["machine", "order"] spNumb) (PN : Def K mg "_law_numbered" n nd ["machine", "order"]) :
    FnOk P w K mg base CX0 4 f fd ["pen", "most", "answers"] spMach := by
  refine F.ok scMach (fun vs H Q E h => ?_) (fun cdv A outer s H vs Q E hr h => ?_)
  · obtain ⟨a, l, r, m, ns, rfl, _⟩ := h
    rfl
  · obtain ⟨a, l, r, m, ns, rfl, pn, m0, m20, hr1, h0, h60, hns, q⟩ := h
    refine ⟨_, (pss_cons (ps_par (i := 3) (j := 4) (by rfl) scMach.nd rfl rfl (by decide) rfl rfl (pa_cons (pe_call GD (hr.mono (by first | decide | omega)) (by rfl) PD.is PD.kp PD.bi .nil pass0 (pa_cons (pv 0) (pa_cons (pe_op op_add (pv 1) pe_int) pa_nil))) (pa_cons (pe_op op_add pe_int (pe_call GD (hr.mono (by first | decide | omega)) (by rfl) PD.is PD.kp PD.bi .nil pass0 (pa_cons (pv 0) (pa_cons pe_int pa_nil)))) pa_nil)) (by rfl))
      (pss_cons (ps_set (i := 5) scMach.nd rfl (.inl rfl) (pe_op op_add (pv 3) (pv 4)))
      (pss_cons (ps_set (i := 6) scMach.nd rfl (.inl rfl) (pe_ifExp (pt_cmpR op_gt (pv 3) pe_int (nomark _)) (pe_ix ix_list (pe_lst (pa_cons (pe_op op_sub (pv 5) pe_int) (pa_cons pe_int (pa_cons pe_int (pa_cons pe_int (pa_cons pe_int (pa_cons pe_int pa_nil))))))) (pe_call GD (hr.mono (by first | decide | omega)) (by rfl) PD.is PD.kp PD.bi .nil pass0 (pa_cons (pv 0) (pa_cons pe_int pa_nil))) (fun _ _ => rfl)) pe_int))
      (pss_cons (ps_set (i := 7) scMach.nd rfl (.inl rfl) (pe_lst pa_nil))
      (pss_cons (ps_for PassesOwn.never rfl (pi_range1 rfl T.range (pa_cons (pv 5) pa_nil)) (pg_name (i := 8) scMach.nd rfl (.inl rfl)) (pss_one (ps_if (pt_cmpR op_lt (pv 8) (pv 3) (nomark _)) (pss_one (ps_expr (pe_bm PySem.F.plainAttrs_list PySem.F.slot_list_append PySem.F.type_list_append mt_append (pv 7) (pa_cons (pe_tup (pa_cons pe_str (pa_cons (pe_call GD (hr.mono (by first | decide | omega)) (by rfl) PD.is PD.kp PD.bi .nil pass0 (pa_cons (pv 0) (pa_cons (pv 5) pa_nil))) (pa_cons (pe_call GD (hr.mono (by first | decide | omega)) (by rfl) PD.is PD.kp PD.bi .nil pass0 (pa_cons (pv 0) (pa_cons (pv 5) pa_nil))) pa_nil)))) pa_nil)))) (pss_one (ps_expr (pe_bm PySem.F.plainAttrs_list PySem.F.slot_list_append PySem.F.type_list_append mt_append (pv 7) (pa_cons (pe_call GE (hr.mono (by first | decide | omega)) (by rfl) PE_.is PE_.kp PE_.bi .nil pass0 (pa_cons (pv 0) (pa_cons (pv 2) pa_nil))) pa_nil)))))))
      (pss_cons (ps_set (i := 9) scMach.nd rfl (.inl rfl) (pe_listRg rfl (by rfl) T.list (prg_1 (by rfl) T.range (pv 5))))
      (pss_cons (ps_asg (pe_tup (pa_cons (pe_ix ix_list (pv 9) (pv 6) (fun _ _ => rfl)) (pa_cons (pe_ix ix_list (pv 9) pe_int (fun _ _ => rfl)) pa_nil))) (pg_tup rfl (pgs_cons (pg_sub (pv 9) pe_int set_list) (pgs_cons (pg_sub (pv 9) (pv 6) set_list) pgs_nil))))
      (pss_one (ps_ret (pe_call GN (hr.mono (by first | decide | omega)) (by rfl) PN.is PN.kp PN.bi .nil pass0 (pa_cons (pe_callTy call_tuple_of (by rfl) T.tuple (by decide +kernel) (pa_cons (pv 7) pa_nil)) (pa_cons (pv 9) pa_nil)))))))))))), ?_⟩
    refine ⟨.ref a, rfl, .int m, rfl, _, _, rfl, rfl, a, l, m + 1, rfl, pn, by omega, log_le (Nat.lt_of_le_of_lt (show _ ≤ 100 by omega) (by decide)), fun d H1 u0 u1 b1 p1 => ?_⟩
    refine ⟨.ref a, rfl, a, l, 3, rfl, p1, by decide, by decide +kernel, fun d2 H2 v0 v1 b2 p2 => ⟨_, _, rfl, rfl, _, _, rfl, ?_⟩⟩
    obtain ⟨n, hn⟩ : ∃ n : Nat, d + (1 + d2) = (n : Int) := ⟨(d + (1 + d2)).toNat, by omega⟩
    refine ⟨_, rfl, _, rfl, _, _, rfl, rfl, ?_⟩
    dsimp only
    rw [hn]
    have n0 : 0 < n := by omega
    have n30 : n ≤ 30 := by omega
    have b12 := b1.trans b2
    refine on (asg_tail (fun v H' => ∃ z : Nat, v = .int (z : Nat) ∧ z < n ∧ But a H H' ∧ Pen H' a l) ?_ (fun t => ?_))
    rotate_left
    · refine ⟨_, rfl, _, _, rfl, rfl, _, rfl, ite2 (fun _ => ?_) (fun _ => t _ _ ⟨0, rfl, n0, b12, p2⟩)⟩
      refine ⟨_, rfl, _, _, rfl, rfl, by show 6 ≤ sizeLine; decide, fun e ne => ?_⟩
      have s3 : Same H2 (upd H2 e (.lst [.int ((n : Int) - 1), .int 0, .int 0, .int 0, .int 0, .int 0])) := Same.upd ne
      have he : upd H2 e (.lst [.int ((n : Int) - 1), .int 0, .int 0, .int 0, .int 0, .int 0]) e = some (.lst [.int ((n : Int) - 1), .int 0, .int 0, .int 0, .int 0, .int 0]) := upd_same
      have p3 := p2.same s3
      have nea := (p2.apart ne).1
      generalize upd H2 e (.lst [.int ((n : Int) - 1), .int 0, .int 0, .int 0, .int 0, .int 0]) = H3 at s3 he p3 ⊢
      refine ⟨.ref a, rfl, a, l, 6, rfl, p3, by decide, by decide +kernel, fun d3 H4 w0 w1 b4 p4 => ?_⟩
      obtain ⟨z, hz, ez⟩ := first_is n0 w0 w1
      exact ⟨e, _, d3, .int (z : Nat), rfl, rfl, SqL.of (b4.mem nea he), ez, t _ _ ⟨z, rfl, hz, (b12.trans (But.of s3)).trans b4, p4⟩⟩
    · rintro v H3 ⟨z, rfl, hz, b3, p3⟩
      refine ⟨Nat.zero_le _, fun L nL => ?_⟩
      have aL := p3.apart nL
      have nLH : H L = none := b3.free aL.1 nL
      have b4 : But a H (upd H3 L (.lst [])) := b3.trans (But.of (Same.upd nL))
      have p4 : Pen (upd H3 L (.lst [])) a l := p3.same (Same.upd nL)
      have eL : upd H3 L (.lst []) L = some (.lst []) := upd_same
      change (_ : Hp → Prop) (upd H3 L (.lst []))
      generalize upd H3 L (.lst []) = H4 at b4 p4 eL ⊢
      clear nL
      refine ⟨_, rfl, _, rfl, by omega, by omega, for_range (lo := 0) (n := n) (fun i σ H' => ∃ (v8 : Option V) (rs : List V) (ps : List Pl), σ = [some (V.ref a), some (V.int m), some (V.ref r), some (V.int d), some (V.int (1 + d2)), some (V.int (n : Nat)), some (V.int (z : Nat)), some (V.ref L), v8, none] ∧ But a H H' ∧ Pen H' a l ∧ H' L = some (.lst rs) ∧ Pls H' rs ps ∧ ps.length = i ∧ (∀ p ∈ ps, p.ok n) ∧ ∀ k : Nat, d ≤ k → k < i → ∃ p, ps[k]? = some p ∧ p.isT = false)
        ⟨_, [], [], rfl, b4, p4, eL, .nil, rfl, by simp, fun k _ h => absurd h (Nat.not_lt_zero _)⟩ ?_ ?_⟩
      · rintro i σ H5 hi ⟨v8, rs, ps, rfl, b5, p5, e5, pl, len, okp, quiet⟩
        have hlen : rs.length < sizeLine := by
          have := pl.len
          have e : sizeLine = 16777216 := by decide
          omega
        have fin : ∀ (t : Addr) (p : Pl) (H7 : Hp), But a H5 H7 → Pen H7 a l → H7 t = some (.tup p.row) → p.ok n → (d ≤ ((i : Nat) : Int) → p.isT = false) → H7 L = some (.lst rs) ∧ ∃ (v8 : Option V) (rs' : List V) (ps' : List Pl), [some (V.ref a), some (V.int m), some (V.ref r), some (V.int d), some (V.int (1 + d2)), some (V.int (n : Nat)), some (V.int (z : Nat)), some (V.ref L), some (V.int (0 + (i : Nat))), none] = [some (V.ref a), some (V.int m), some (V.ref r), some (V.int d), some (V.int (1 + d2)), some (V.int (n : Nat)), some (V.int (z : Nat)), some (V.ref L), v8, none] ∧
            But a H (upd H7 L (.lst (rs ++ [V.ref t]))) ∧ Pen (upd H7 L (.lst (rs ++ [V.ref t]))) a l ∧ upd H7 L (.lst (rs ++ [V.ref t])) L = some (.lst rs') ∧ Pls (upd H7 L (.lst (rs ++ [V.ref t]))) rs' ps' ∧ ps'.length = i + 1 ∧ (∀ p ∈ ps', p.ok n) ∧ ∀ k : Nat, d ≤ k → k < i + 1 → ∃ p, ps'[k]? = some p ∧ p.isT = false := by
          intro t p H7 b7 p7 et okt tq
          have e7 := b7.mem aL.1 e5
          refine ⟨e7, _, rs ++ [V.ref t], ps ++ [p], rfl, ?_, ?_, upd_same, ?_, by simp [len], ?_, ?_⟩
          · intro b o e nb
            rw [upd_ne (ne_of_none e nLH)]
            exact b7 _ _ (b5 _ _ e nb) nb
          · obtain ⟨cs, pos, val, h1, h2, h3⟩ := p7
            exact ⟨cs, pos, val, by rw [upd_ne aL.1.symm]; exact h1, by rw [upd_ne aL.2.symm]; exact h2, h3⟩
          · have pl7 : Pls H7 rs ps := pl.mono fun b xs e => b7.mem (p5.notTup e) e
            refine (pl7.snoc et).mono fun b xs e => ?_
            rw [upd_ne (by rintro rfl; rw [e7] at e; cases e)]
            exact e
          · intro x hx
            rcases List.mem_append.mp hx with hx | hx
            · exact okp x hx
            · rw [List.mem_singleton.mp hx]
              exact okt
          · intro k hk hk2
            rcases Nat.lt_or_ge k i with l | l
            · obtain ⟨p', hp', e'⟩ := quiet k hk l
              exact ⟨p', by rw [List.getElem?_append_left (by omega)]; exact hp', e'⟩
            · have ek : k = i := by omega
              subst ek
              exact ⟨p, by rw [List.getElem?_append_right (by omega), len, Nat.sub_self]; rfl, tq hk⟩
        have hb : (0 : Int) < (n : Nat) := by omega
        have hb2 : ((n : Nat) : Int).natAbs.log2 < 9000 := log_le (Nat.lt_of_le_of_lt (show _ ≤ 100 by omega) (by decide))
        refine ⟨_, rfl, _, rfl, _, _, rfl, rfl, _, rfl, ite2 (fun hlt => ?_) (fun _ => ?_)⟩
        · have hlt : (0 : Int) + (i : Nat) < d := by simpa using hlt
          refine ⟨.ref L, rfl, .inl ⟨rfl, _, SqL.of e5⟩, .ref a, rfl, _, rfl, a, l, _, rfl, p5, hb, hb2, fun x H6 x0 x1 b6 p6 => ?_⟩
          refine ⟨.ref a, rfl, _, rfl, a, l, _, rfl, p6, hb, hb2, fun y H7 y0 y1 b7 p7 => ⟨by show 3 ≤ sizeLine; decide, fun t nt => ?_⟩⟩
          obtain ⟨e8, go⟩ := fin t (.toss x y) _ ((b6.trans b7).trans (But.of (Same.upd nt))) (p7.same (Same.upd nt)) upd_same ⟨x0, x1, y0, y1⟩ (fun h => by omega)
          exact ⟨L, _, _, rfl, rfl, e8, hlen, go⟩
        · refine ⟨.ref L, rfl, .inl ⟨rfl, _, SqL.of e5⟩, .ref a, rfl, .ref r, rfl, a, l, r, ns, rfl, p5, b5.mem (pn.notInts hr1) hr1, h0, h60, hns, fun t p H6 b6 nt et p6 st => ?_⟩
          obtain ⟨e8, go⟩ := fin t p H6 b6 p6 et (st.ok n) (fun _ => st.isT)
          exact ⟨L, _, _, rfl, rfl, e8, hlen, go⟩
      · rintro σ H5 ⟨v8, rs, ps, rfl, b5, p5, e5, pl, len, okp, quiet⟩
        refine ⟨_, rfl, _, rfl, RgOk.of_le (by decide) (by omega) (by decide) (by omega), fun O nO => ?_⟩
        rw [rg_is]
        have aO := p5.apart nO
        have nOH : H O = none := b5.free aO.1 nO
        have s6 := Same.upd (o := .lst (((List.range n).map fun i : Nat => (i : Int)).map V.int)) nO
        have e6 : upd H5 O (.lst (((List.range n).map fun i : Nat => (i : Int)).map V.int)) O = some (.lst (((List.range n).map fun i : Nat => (i : Int)).map V.int)) := upd_same
        generalize upd H5 O (.lst (((List.range n).map fun i : Nat => (i : Int)).map V.int)) = H6 at s6 e6 ⊢
        have gz : ∀ j : Nat, j < n → (((List.range n).map fun i : Nat => (i : Int)).map V.int)[j]? = some (V.int (j : Nat)) := fun j hj => by
          rw [List.getElem?_map, List.getElem?_map, List.getElem?_range hj]
          rfl
        refine ⟨.ref O, rfl, _, rfl, O, _, _, .int (z : Nat), rfl, rfl, SqL.of e6, atI_nat (gz z hz), .ref O, rfl, O, _, 0, .int 0, rfl, rfl, SqL.of e6, atI_nat (j := 0) (gz 0 n0), by show 2 ≤ sizeLine; decide, fun t nt => ?_⟩
        have s7 := Same.upd (o := .tup [.int (z : Nat), .int 0]) nt
        have e7 := s7 _ _ e6
        have et : upd H6 t (.tup [.int (z : Nat), .int 0]) t = some (.tup [.int (z : Nat), .int 0]) := upd_same
        generalize upd H6 t (.tup [.int (z : Nat), .int 0]) = H7 at s7 e7 et ⊢
        have ln : (((List.range n).map fun i : Nat => (i : Int)).map V.int).length = n := by simp
        refine ⟨t, _, rfl, SqT.of et, rfl, _, _, rfl, .ref O, rfl, O, _, 0, 0, rfl, rfl, e7, by rw [ln]; exact ixN_nat (j := 0) n0, ?_⟩
        refine ⟨_, _, rfl, .ref O, rfl, _, rfl, O, _, _, z, rfl, rfl, upd_same, by rw [List.length_set, ln]; exact ixN_nat hz, rfl, ?_⟩
        have nOO : ∀ b o, H5 b = some o → b ≠ O := fun b o e => ne_of_none e nO
        have s57 := s6.trans s7
        have up : ∀ (x y : HO) b o, H5 b = some o → upd (upd H7 O x) O y b = some o := fun x y b o e => by
          rw [upd_ne (nOO b o e), upd_ne (nOO b o e)]
          exact s57 _ _ e
        have e8 : upd (upd H7 O (.lst ((((List.range n).map fun i : Nat => (i : Int)).map V.int).set 0 (.int (z : Nat))))) O (.lst (((((List.range n).map fun i : Nat => (i : Int)).map V.int).set 0 (.int (z : Nat))).set z (.int 0))) O = some (.lst (((((List.range n).map fun i : Nat => (i : Int)).set 0 (z : Int)).set z 0).map V.int)) := by
          rw [upd_same, List.map_set, List.map_set]
        have up := up (.lst ((((List.range n).map fun i : Nat => (i : Int)).map V.int).set 0 (.int (z : Nat)))) (.lst (((((List.range n).map fun i : Nat => (i : Int)).map V.int).set 0 (.int (z : Nat))).set z (.int 0)))
        change (_ : Hp → Prop) (upd (upd H7 O (.lst ((((List.range n).map fun i : Nat => (i : Int)).map V.int).set 0 (.int (z : Nat))))) O (.lst (((((List.range n).map fun i : Nat => (i : Int)).map V.int).set 0 (.int (z : Nat))).set z (.int 0))))
        generalize upd (upd H7 O (.lst ((((List.range n).map fun i : Nat => (i : Int)).map V.int).set 0 (.int (z : Nat))))) O (.lst (((((List.range n).map fun i : Nat => (i : Int)).map V.int).set 0 (.int (z : Nat))).set z (.int 0))) = H8 at e8 up ⊢
        have s58 : Same H5 H8 := up
        refine ⟨.ref L, rfl, L, _, rfl, .inl ⟨SqL.of (up _ _ e5), fun p np => ?_⟩⟩
        have s9 := Same.upd (o := .tup rs) np
        have s59 := s58.trans s9
        refine ⟨.ref O, rfl, p, O, ps, _, rfl, ⟨rs, upd_same, pl.mono fun b xs e => s59 _ _ e⟩, ⟨by omega, by omega, by rw [len]; exact okp⟩, s9 _ _ e8, by rw [len]; exact order_swap hz, fun t qs H9 s10 nt hm hw hq hstill => ?_⟩
        have s50 := s59.trans s10
        exact q t qs H9 (b5.trans (But.of s50)) (b5.free ((p5.same s59).apart nt).1 (s59.free nt)) hm hw (p5.same s50) (by rw [hq, len]; omega) (hstill (by
          obtain ⟨p', hp', e'⟩ := quiet d.toNat (by omega) (by omega)
          exact ⟨p', List.mem_of_getElem? hp', e'⟩))
end
end Z

set_option Elab.async false
set_option maxRecDepth 100000
set_option maxHeartbeats 4000000
/-! enumerate(t), t a tuple -/
namespace EN
open PySem PySem.Spec PyProof.Rows L2
open Sem (wp)
theorem new_enum {v : Value} {o : Obj} {G : Heap → Prop} (B : Begins v o G) :
    Meets (Builtin.«enumerate.__new__» ⟨[.type "enumerate", v], []⟩) (fun _ R s => G s.heap ∧
      R (.ok (.ret (.ref (s.heap.push o).objs.size)))
        { s with heap := (s.heap.push o).push { cls := .type "enumerate", data := .fields #[.none, .bool false, .ref s.heap.objs.size, rawInt 0, .none, .none] } }) := by
  refine .of_wp fun prog w A R s h => ?_
  obtain ⟨hp, g, d, tk, os⟩ := s
  obtain ⟨hG, h⟩ := h
  have sub := sub_enumerate
  have begin_ : ∀ {A' : Around} {E : Value → Shared → Prop} {Q : Value → Shared → Prop}, Q (.ref hp.objs.size) ⟨hp.push o, g, d, tk, os⟩ →
      wpAny (model prog w) A' (pyIter v) Q E ⟨hp, g, d, tk, os⟩ := fun q => B.iter prog w _ _ ⟨hp, g, d, tk, os⟩ _ hG q
  wp_walk using begin_
  refine wpAny_stack_any fun st => wpAny_pure ?_
  split
  · rename_i c _ _ _ _ _
    cases (c == Value.type "enumerate")
    all_goals
      wp_walk using begin_
      exact ⟨_, rfl, h⟩
  · wp_walk using begin_
    exact ⟨_, rfl, h⟩
theorem call_enum {prog : Program} {w : World} {A : Around} {E : Value → Shared → Prop} {s : Shared} {v : Value} {o : Obj} {G : Heap → Prop} {Q : Value → Shared → Prop} (B : Begins v o G) (hG : G s.heap)
    (h : ∀ h', IsEnum h' (s.heap.objs.size + 1) s.heap.objs.size 0 .none → h'.get? s.heap.objs.size = some o →
      (∀ b u, s.heap.get? b = some u → h'.get? b = some u) → Q (.ref (s.heap.objs.size + 1)) { s with heap := h' }) :
    wpAny (model prog w) A (call (.type "enumerate") [v]) Q E s := by
  apply callType_new F.called_enumerate (by decide) (F.typeCall_enumerate_1 _) (F.newCall_enumerate_1 _) (fun obj => F.args_object_init_2 obj _) F.entry_enumerate_new (new_enum B)
  refine ⟨hG, ?_⟩
  have size : (s.heap.push o).objs.size = s.heap.objs.size + 1 := Heap.size_push ..
  show _ ∧ _
  rw [size]
  have made : IsEnum ((s.heap.push o).push { cls := .type "enumerate", data := .fields #[.none, .bool false, .ref s.heap.objs.size, rawInt 0, .none, .none] }) (s.heap.objs.size + 1) s.heap.objs.size 0 .none := by
    have e := Heap.get?_push_size (s.heap.push o) (o := { cls := .type "enumerate", data := .fields #[.none, .bool false, .ref s.heap.objs.size, rawInt 0, .none, .none] }) rfl
    rwa [size] at e
  refine ⟨⟨_, made, rfl⟩, h _ made ?_ ?_⟩
  · exact Heap.get?_push_of_some _ (Heap.get?_push_size _ B.free)
  · intro b u e
    exact Heap.get?_push_of_some _ (Heap.get?_push_of_some _ e)

/-- the tuple at a, each item in a new pair with its place -/
def Pairs (K : PySem.W.Frag) (a : Addr) : It where
  go := fun i H => ∃ (xs : List V) (x : V), SqT K H a xs ∧ xs[i]? = some x
  yld := fun i H v H' => ∃ T x, v = .ref T ∧ H T = none ∧ H' = upd H T (.tup [.int (i : Nat), x]) ∧ ∀ xs, SqT K H a xs → xs[i]? = some x
  stop := fun i H => ∃ xs : List V, SqT K H a xs ∧ xs.length ≤ i
theorem turn_pairs {P : Program} {w : World} {K : PySem.W.Frag} {elts : List Expr} {kk : Nat} {tpos : Pos} (a e it : Addr) :
    Turn P w K (.Tuple elts kk tpos) (Pairs K a) [e, it] e (fun i h => (∃ old, IsEnum h e it ((i : Nat) : Int) old) ∧ h.IsTupleIter it a i ∧ e ≠ it) where
  mem := List.mem_cons_self ..
  obj := by
    rintro i h ⟨⟨old, he⟩, ⟨o, ho, hc, hd⟩, _⟩ b hb
    simp only [List.mem_cons, List.not_mem_nil, or_false] at hb
    rcases hb with rfl | rfl
    · exact ⟨_, he, fun v q => nomatch q⟩
    · exact ⟨o, ho, fun v q => by rw [hd] at q; cases q⟩
  keep := by
    rintro i h h' ⟨⟨old, he⟩, hi, hne⟩ k
    exact ⟨⟨old, k e (by simp) _ he⟩, hi.at fun o q => k it (by simp) o q, hne⟩
  item := by
    intro X hP hw hK calm i pins s σ H E I hf st hg
    subst hP hw hK
    obtain ⟨⟨old, he⟩, hit, hne⟩ := st
    obtain ⟨xs, x, hq, hx⟩ := hg
    obtain ⟨its, rv, p, hz⟩ := I.tuple hq
    obtain ⟨u, hu, ru⟩ := rv.get hx
    have le : e < s.heap.objs.size := Heap.lt_size he
    have li : it < s.heap.objs.size := by obtain ⟨_, q, _⟩ := hit; exact Heap.lt_size q
    have tup : s.heap.IsTuple a its.toArray := p
    have nai : a ≠ it := by
      rintro rfl
      obtain ⟨o1, q1, c1, _⟩ := tup
      obtain ⟨o2, q2, c2, _⟩ := hit
      rw [q1] at q2
      cases q2
      rw [c1] at c2
      injection c2 with c3
      exact absurd c3 (by decide)
    have nae : a ≠ e := by
      rintro rfl
      obtain ⟨o1, q1, c1, _⟩ := tup
      have q2 : s.heap.get? a = _ := he
      rw [q1] at q2
      cases q2
      injection c1 with c3
      exact absurd c3 (by decide)
    have lt : i < its.toArray.size := by
      have := (List.getElem?_eq_some_iff.mp hu).1
      simpa using this
    refine wpAny_pyNext_enum_itemD (Draws.tuple (A := X.A.in1) (by exact I.ok.hd calm) it a nai its.toArray) he ⟨hit, tup⟩ lt hne (by simp [hne, Ne.symm nae]) fun y h' tk hy ho st' hT hsz hk => ?_
    have ey : y = u := by
      have : its.toArray[i]? = some u := by simpa using hu
      exact Option.some.inj (hy.symm.trans this)
    subst ey
    refine ⟨_, rfl, wpAny_letOwnedTupleGo_enum (s := { s with heap := h', toks := tk + 1 }) ho fun h2 he2 sb => ?_⟩
    have sb' : Heap.SameBut e h' h2 := sb
    have hT2 : h2.get? s.heap.objs.size = some { cls := .type "tuple", data := .seq #[.int i tk, y] } := (sb'.2 _ (Nat.ne_of_gt le)).trans hT
    have new : ObjOk X.prog X.w (upd H s.heap.objs.size (.tup [.int (i : Nat), x])) h2 s.heap.objs.size (.tup [.int (i : Nat), x]) :=
      ⟨by show 2 ≤ sizeLine; decide, [.int i tk, y], .cons ⟨_, rfl⟩ (.cons ru .nil), ⟨_, hT2, rfl, _, rfl⟩⟩
    have I2 : Inv X pins σ (upd H s.heap.objs.size (.tup [.int (i : Nat), x])) { s with heap := h2, toks := tk + 1 } := by
      refine I.turnedNew (ch := [e, it]) (fun b ob hb q => ?_) hf (Nat.le_refl _) new
      have ne : b ≠ e := fun z => hb (by simp [z])
      have ni : b ≠ it := fun z => hb (by simp [z])
      exact (sb'.2 b ne).trans (hk b ob ne ni q)
    refine ⟨.ref s.heap.objs.size, _, I2, rfl, ⟨_, x, rfl, I.hok.fresh (Nat.le_refl _), rfl, fun ys hy => by rw [I.tuple_inj hy hq]; exact hx⟩, ⟨⟨y, ?_⟩, st'.1.at fun o q => (sb'.2 it (Ne.symm hne)).trans q, hne⟩, fun b hb => ?_⟩
    · have e1 : ((i + 1 : Nat) : Int) = (i : Int) + 1 := by omega
      rw [e1]
      exact he2
    · have lb : b < s.heap.objs.size := by
        simp only [List.mem_cons, List.not_mem_nil, or_false] at hb
        rcases hb with rfl | rfl
        · exact le
        · exact li
      rw [upd_ne (Nat.ne_of_lt lb)]
      exact (hf b hb).1
  done := by
    intro X hP hw hK calm i pins s σ H E I hf st hg
    subst hP hw hK
    obtain ⟨⟨old, he⟩, hit, hne⟩ := st
    obtain ⟨xs, hq, hx⟩ := hg
    obtain ⟨its, rv, p, hz⟩ := I.tuple hq
    have tup : s.heap.IsTuple a its.toArray := p
    have nai : a ≠ it := by
      rintro rfl
      obtain ⟨o1, q1, c1, _⟩ := tup
      obtain ⟨o2, q2, c2, _⟩ := hit
      rw [q1] at q2
      cases q2
      rw [c1] at c2
      injection c2 with c3
      exact absurd c3 (by decide)
    obtain ⟨f0, f1, f2, f3, f4, f5⟩ := hf it (by simp)
    have hl := rv.length
    have none_ : its.toArray[i]? = none := by simp; omega
    have hT : s.TypeIs (.ref e) "enumerate" := ⟨_, he, rfl⟩
    unfold pyNext
    refine wpAny_bind (wpAny_attempt (wpAny_callSpecial?_slot (name := Str.ofString "__next__") hT F.slot_enumerate_next
      (wpAny_call_entry F.slot_enumerate_next hT F.entry_enumerate_next ?_ (F.args_enumerate_next_1 _))))
    show wpAny _ _ (field (.ref e) 2 >>= _) _ _ _
    refine wpAny_bind (wpAny_field he rfl (x := .ref it) rfl ?_)
    refine wpAny_bind (wpAny_nextOf_tuple_end (I.ok.hd calm) hit tup none_ fun h' x he' hx' => ?_)
    obtain ⟨o, ho, hc⟩ := hx'
    refine wpAny_bind (wpAny_isInstance (T := "StopIteration") (b := true) ⟨o, ho, hc⟩ isSubtype_stop ?_)
    refine wpAny_pure ⟨rfl, ?_⟩
    exact I.turned (t' := s.toks) (fun b o hb q => he' b o hb q) f0 f1 f3 f4 f5
  self := by
    rintro A i s Q E ⟨⟨old, he⟩, _⟩ h
    exact wpAny_pyIter_enum he h
section
variable {X : Cx}
def tPairs (K : PySem.W.Frag) (ta : TA) : TI := fun σ H R => ta σ H fun vs H1 => ∃ a xs, vs = [.ref a] ∧ SqT K H1 a xs ∧ R (Pairs K a) H1
theorem pi_pairs {e : Expr} {ta : TA} {p pos tpos : Pos} {elts : List Expr} {kk : Nat} (glob : Gl X "enumerate") (none_ : X.mg "enumerate" = none) (args : PA X [e] ta)
    (star : starEach [e] X.env = [(false, eval e X.env)] := by rfl) : PI X (.Tuple elts kk tpos) (.Call (.Name "enumerate" p) [e] [] pos) (tPairs X.K ta) := by
  constructor
  intro pins s σ H R I h
  refine Call_ (ld_blt I glob none_ boot_enumerate ?_)
  refine PyProof.Rows.callWith_type1 (thn (args.run pos pins s σ H _ I h) fun us s1 got => ?_) star rfl
  obtain ⟨vs, H1, I1, r1, a, xs, ex, hq, q⟩ := got
  subst ex
  obtain ⟨u, eu, ru⟩ := vals1 r1
  subst eu
  have eu : u = Value.ref a := ru
  subst eu
  obtain ⟨its, rv, p', hz⟩ := I1.tuple hq
  refine call_enum (begins_tuple a its.toArray) p' fun h' he hit hk => wpAny_pyIter_enum he ?_
  have I2 : Inv X pins σ H1 { s1 with heap := h' } := I1.kept (t' := s1.toks) hk
  refine ⟨s1.heap.objs.size + 1, [s1.heap.objs.size + 1, s1.heap.objs.size], _, _, H1, rfl, I2, turn_pairs a (s1.heap.objs.size + 1) s1.heap.objs.size, ⟨⟨.none, he⟩, ⟨_, hit, rfl, rfl⟩, Nat.succ_ne_self _⟩, fun b hb => ?_, q⟩
  have above : s1.heap.objs.size ≤ b := by
    simp only [List.mem_cons, List.not_mem_nil, or_false] at hb
    rcases hb with rfl | rfl
    · exact Nat.le_add_right _ _
    · exact Nat.le_refl _
  exact I1.fpOk above (I1.hok.fresh above)
/-- the loop over the pairs -/
theorem for_pairs {K : PySem.W.Frag} {a : Addr} {xs : List V} {g : TG} {tb : TS} {D : Ends} {σ : L2.St} {H : Hp} (Pv : Nat → L2.St → Hp → Prop) (h0 : Pv 0 σ H) (hl : ∀ i σ H, i ≤ xs.length → Pv i σ H → SqT K H a xs)
    (turn : ∀ i x σ H T, xs[i]? = some x → Pv i σ H → H T = none → g (.ref T) σ (upd H T (.tup [.int (i : Nat), x])) fun σ2 H2 => tb { D with nx := Pv (i + 1), ct := Pv (i + 1), bk := D.nx } σ2 H2) (done : ∀ σ H, Pv xs.length σ H → D.nx σ H) :
    ∃ W : Nat → Nat → L2.St → Hp → Prop, (∃ m, W 0 m σ H) ∧ ∀ i m σ H, W i m σ H →
      ((Pairs K a).stop i H ∧ D.nx σ H) ∨ ((Pairs K a).go i H ∧ ∃ N : L2.St → Hp → Prop, (∀ σ' H', N σ' H' → ∃ m', m' < m ∧ W (i + 1) m' σ' H') ∧ ∀ x H', (Pairs K a).yld i H x H' → g x σ H' fun σ2 H2 => tb { D with nx := N, ct := N, bk := D.nx } σ2 H2) := by
  refine ⟨fun i m σ H => m = xs.length - i ∧ i ≤ xs.length ∧ Pv i σ H, ⟨xs.length, by simp, Nat.zero_le _, h0⟩, ?_⟩
  rintro i m σ H ⟨rfl, le, pv⟩
  have here := hl i σ H le pv
  rcases Nat.lt_or_ge i xs.length with lt | ge
  · refine .inr ⟨⟨xs, xs[i], here, List.getElem?_eq_getElem lt⟩, Pv (i + 1), fun σ' H' n => ⟨xs.length - (i + 1), by omega, rfl, lt, n⟩, ?_⟩
    rintro v H' ⟨T, x, rfl, nT, rfl, hx⟩
    exact turn i x σ H T (hx xs here) pv nT
  · have e : i = xs.length := by omega
    subst e
    exact .inl ⟨⟨xs, here, Nat.le_refl _⟩, done σ H pv⟩
end
end EN

set_option Elab.async false
set_option linter.all false
set_option maxRecDepth 100000
set_option maxHeartbeats 4000000
/-! enumerate(z), z a text -/
namespace EN
open PySem PySem.Spec PyProof.Rows L2
open Sem (wp)
def Signs (z : Str) : It where
  go := fun i _ => i < z.cps.size
  yld := fun i H v H' => ∃ T c, v = .ref T ∧ H T = none ∧ H' = upd H T (.tup [.int (i : Nat), .str ⟨#[c]⟩]) ∧ z.cps[i]? = some c
  stop := fun i _ => z.cps.size ≤ i
theorem turn_signs {P : Program} {w : World} {K : PySem.W.Frag} {elts : List Expr} {kk : Nat} {tpos : Pos} (z : Str) (t : Tok) (e it : Addr) :
    Turn P w K (.Tuple elts kk tpos) (Signs z) [e, it] e (fun i h => i ≤ z.cps.size ∧ (∃ old, IsEnum h e it ((i : Nat) : Int) old) ∧ h.IsStrIter it (strIterType z) z t i ∧ e ≠ it) where
  mem := List.mem_cons_self ..
  obj := by
    rintro i h ⟨_, ⟨old, he⟩, ⟨o, ho, hc, hd⟩, _⟩ b hb
    simp only [List.mem_cons, List.not_mem_nil, or_false] at hb
    rcases hb with rfl | rfl
    · exact ⟨_, he, fun v q => nomatch q⟩
    · exact ⟨o, ho, fun v q => by rw [hd] at q; cases q⟩
  keep := by
    rintro i h h' ⟨le, ⟨old, he⟩, hi, hne⟩ k
    obtain ⟨o, ho, r⟩ := hi
    exact ⟨le, ⟨old, k e (by simp) _ he⟩, ⟨o, k it (by simp) o ho, r⟩, hne⟩
  item := by
    intro X hP hw hK calm i pins s σ H E I hf st hg
    subst hP hw hK
    obtain ⟨_, ⟨old, he⟩, hit, hne⟩ := st
    have lt : i < z.cps.size := hg
    have le : e < s.heap.objs.size := Heap.lt_size he
    have li : it < s.heap.objs.size := by obtain ⟨_, q, _⟩ := hit; exact Heap.lt_size q
    refine wpAny_pyNext_enum_itemD (Draws.text (A := X.A.in1) (by exact I.ok.hd calm) it z t) he hit lt hne (by simp [hne]) fun y h' tk hy ho st' hT hsz hk => ?_
    obtain ⟨c, u, hc, rfl⟩ := hy
    refine ⟨_, rfl, wpAny_letOwnedTupleGo_enum (s := { s with heap := h', toks := tk + 1 }) ho fun h2 he2 sb => ?_⟩
    have sb' : Heap.SameBut e h' h2 := sb
    have hT2 : h2.get? s.heap.objs.size = some { cls := .type "tuple", data := .seq #[.int i tk, .str ⟨#[c]⟩ u] } := (sb'.2 _ (Nat.ne_of_gt le)).trans hT
    have new : ObjOk X.prog X.w (upd H s.heap.objs.size (.tup [.int (i : Nat), .str ⟨#[c]⟩])) h2 s.heap.objs.size (.tup [.int (i : Nat), .str ⟨#[c]⟩]) :=
      ⟨by show 2 ≤ sizeLine; decide, [.int i tk, .str ⟨#[c]⟩ u], .cons ⟨_, rfl⟩ (.cons ⟨_, rfl⟩ .nil), ⟨_, hT2, rfl, _, rfl⟩⟩
    have I2 : Inv X pins σ (upd H s.heap.objs.size (.tup [.int (i : Nat), .str ⟨#[c]⟩])) { s with heap := h2, toks := tk + 1 } := by
      refine I.turnedNew (ch := [e, it]) (fun b ob hb q => ?_) hf (Nat.le_refl _) new
      have ne : b ≠ e := fun z => hb (by simp [z])
      have ni : b ≠ it := fun z => hb (by simp [z])
      exact (sb'.2 b ne).trans (hk b ob ne ni q)
    refine ⟨.ref s.heap.objs.size, _, I2, rfl, ⟨_, c, rfl, I.hok.fresh (Nat.le_refl _), rfl, hc⟩, ⟨lt, ⟨.str ⟨#[c]⟩ u, ?_⟩, ?_, hne⟩, fun b hb => ?_⟩
    · have e1 : ((i + 1 : Nat) : Int) = (i : Int) + 1 := by omega
      rw [e1]
      exact he2
    · obtain ⟨o, q, r⟩ := st'
      exact ⟨o, (sb'.2 it (Ne.symm hne)).trans q, r⟩
    · have lb : b < s.heap.objs.size := by
        simp only [List.mem_cons, List.not_mem_nil, or_false] at hb
        rcases hb with rfl | rfl
        · exact le
        · exact li
      rw [upd_ne (Nat.ne_of_lt lb)]
      exact (hf b hb).1
  done := by
    intro X hP hw hK calm i pins s σ H E I hf st hg
    subst hP hw hK
    obtain ⟨le, ⟨old, he⟩, hit, hne⟩ := st
    have ge : z.cps.size ≤ i := hg
    obtain rfl : i = z.cps.size := by omega
    obtain ⟨f0, f1, f2, f3, f4, f5⟩ := hf it (by simp)
    have hT : s.TypeIs (.ref e) "enumerate" := ⟨_, he, rfl⟩
    unfold pyNext
    refine wpAny_bind (wpAny_attempt (wpAny_callSpecial?_slot (name := Str.ofString "__next__") hT F.slot_enumerate_next
      (wpAny_call_entry F.slot_enumerate_next hT F.entry_enumerate_next ?_ (F.args_enumerate_next_1 _))))
    show wpAny _ _ (field (.ref e) 2 >>= _) _ _ _
    refine wpAny_bind (wpAny_field he rfl (x := .ref it) rfl ?_)
    refine wpAny_bind ((Draws.text (prog := X.prog) (w := X.w) (A := X.A.in1) (by exact I.ok.hd calm) it z t).done s _ _ hit fun h' x he' hx' => ?_)
    obtain ⟨o, ho, hc⟩ := hx'
    refine wpAny_bind (wpAny_isInstance (T := "StopIteration") (b := true) ⟨o, ho, hc⟩ isSubtype_stop ?_)
    refine wpAny_pure ⟨rfl, ?_⟩
    exact I.turned (t' := s.toks) (fun b o hb q => he' b o hb q) f0 f1 f3 f4 f5
  self := by
    rintro A i s Q E ⟨_, ⟨old, he⟩, _⟩ h
    exact wpAny_pyIter_enum he h
section
variable {X : Cx}
def tSigns (ta : TA) : TI := fun σ H R => ta σ H fun vs H1 => ∃ z : Str, vs = [.str z] ∧ R (Signs z) H1
theorem pi_signs {e : Expr} {ta : TA} {p pos tpos : Pos} {elts : List Expr} {kk : Nat} (glob : Gl X "enumerate") (none_ : X.mg "enumerate" = none) (args : PA X [e] ta)
    (star : starEach [e] X.env = [(false, eval e X.env)] := by rfl) : PI X (.Tuple elts kk tpos) (.Call (.Name "enumerate" p) [e] [] pos) (tSigns ta) := by
  constructor
  intro pins s σ H R I h
  refine Call_ (ld_blt I glob none_ boot_enumerate ?_)
  refine PyProof.Rows.callWith_type1 (thn (args.run pos pins s σ H _ I h) fun us s1 got => ?_) star rfl
  obtain ⟨vs, H1, I1, r1, z, ex, q⟩ := got
  subst ex
  obtain ⟨u, eu, ru⟩ := vals1 r1
  subst eu
  obtain ⟨t, eu⟩ : ∃ t, u = Value.str z t := ru
  subst eu
  refine call_enum (begins_text z t) trivial fun h' he hit hk => wpAny_pyIter_enum he ?_
  have I2 : Inv X pins σ H1 { s1 with heap := h' } := I1.kept (t' := s1.toks) hk
  refine ⟨s1.heap.objs.size + 1, [s1.heap.objs.size + 1, s1.heap.objs.size], _, _, H1, rfl, I2, turn_signs z t (s1.heap.objs.size + 1) s1.heap.objs.size, ⟨Nat.zero_le _, ⟨.none, he⟩, ⟨_, hit, rfl, rfl⟩, Nat.succ_ne_self _⟩, fun b hb => ?_, q⟩
  have above : s1.heap.objs.size ≤ b := by
    simp only [List.mem_cons, List.not_mem_nil, or_false] at hb
    rcases hb with rfl | rfl
    · exact Nat.le_add_right _ _
    · exact Nat.le_refl _
  exact I1.fpOk above (I1.hok.fresh above)
/-- the loop over the signs -/
theorem for_signs {z : Str} {g : TG} {tb : TS} {D : Ends} {σ : L2.St} {H : Hp} (Pv : Nat → L2.St → Hp → Prop) (h0 : Pv 0 σ H)
    (turn : ∀ i c σ H T, z.cps[i]? = some c → Pv i σ H → H T = none → g (.ref T) σ (upd H T (.tup [.int (i : Nat), .str ⟨#[c]⟩])) fun σ2 H2 => tb { D with nx := Pv (i + 1), ct := Pv (i + 1), bk := D.nx } σ2 H2) (done : ∀ σ H, Pv z.cps.size σ H → D.nx σ H) :
    ∃ W : Nat → Nat → L2.St → Hp → Prop, (∃ m, W 0 m σ H) ∧ ∀ i m σ H, W i m σ H →
      ((Signs z).stop i H ∧ D.nx σ H) ∨ ((Signs z).go i H ∧ ∃ N : L2.St → Hp → Prop, (∀ σ' H', N σ' H' → ∃ m', m' < m ∧ W (i + 1) m' σ' H') ∧ ∀ x H', (Signs z).yld i H x H' → g x σ H' fun σ2 H2 => tb { D with nx := N, ct := N, bk := D.nx } σ2 H2) := by
  refine ⟨fun i m σ H => m = z.cps.size - i ∧ i ≤ z.cps.size ∧ Pv i σ H, ⟨z.cps.size, by simp, Nat.zero_le _, h0⟩, ?_⟩
  rintro i m σ H ⟨rfl, le, pv⟩
  rcases Nat.lt_or_ge i z.cps.size with lt | ge
  · refine .inr ⟨lt, Pv (i + 1), fun σ' H' n => ⟨z.cps.size - (i + 1), by omega, rfl, lt, n⟩, ?_⟩
    rintro v H' ⟨T, c, rfl, nT, rfl, hc⟩
    exact turn i c σ H T hc pv nT
  · have e : i = z.cps.size := by omega
    subst e
    exact .inl ⟨Nat.le_refl _, done σ H pv⟩
end
end EN

set_option Elab.async false
set_option linter.all false
set_option maxRecDepth 100000
set_option maxHeartbeats 4000000
/-! z.count(one sign); tapes as texts -/
namespace CO
open PySem PySem.StrLaws PySem.Builtin PySem.Builtin.Str
theorem walk (x : Str) (c : Nat) : ∀ (n a : Nat) (st : Array Nat × Nat), st.fst.size ≤ a → st.snd ≤ a → a + n ≤ x.length + 1 →
    ((forIn (List.range' a n) st (occBody x ⟨#[c]⟩ x.length (x.length + 1))).run.fst).size = st.fst.size + ((x.cps.toList.drop a).take n).count c
  | 0, a, st, _, _, _ => by simp
  | n + 1, a, st, h1, h2, h3 => by
    rw [List.range'_succ, List.forIn_cons]
    have one := subAt_one x c a
    have len : (⟨#[c]⟩ : Str).length = 1 := rfl
    have step : ((x.cps.toList.drop a).take (n + 1)).count c = (if x.cps.toList[a]? = some c then 1 else 0) + ((x.cps.toList.drop (a + 1)).take n).count c := by
      cases e : x.cps.toList[a]? with
      | none =>
        have ge : x.cps.toList.length ≤ a := by simpa using e
        rw [List.drop_eq_nil_of_le ge, List.drop_eq_nil_of_le (by omega)]
        simp
      | some d =>
        obtain ⟨lt, ed⟩ := List.getElem?_eq_some_iff.mp e
        rw [List.drop_eq_getElem_cons lt, List.take_succ_cons, List.count_cons, ed]
        by_cases hd : d = c
        · subst hd
          simp
          omega
        · simp [hd]
    rw [step]
    unfold occBody
    by_cases hc : x.cps.toList[a]? = some c
    · obtain ⟨q1, q2⟩ := one.mpr hc
      rw [if_pos ⟨⟨⟨by omega, h2⟩, q1⟩, q2⟩, if_pos hc]
      show ((forIn (List.range' (a + 1) n) (st.fst.push a, a + (⟨#[c]⟩ : Str).length) (occBody x ⟨#[c]⟩ x.length (x.length + 1))).run.fst).size = _
      rw [walk x c n (a + 1) _ (by show (st.fst.push a).size ≤ _; rw [Array.size_push]; omega) (by show a + 1 ≤ a + 1; exact Nat.le_refl _) (by omega)]
      show (st.fst.push a).size + _ = _
      rw [Array.size_push]
      omega
    · rw [if_neg (fun z => hc (one.mp ⟨z.1.2, z.2⟩)), if_neg hc]
      show ((forIn (List.range' (a + 1) n) (st.fst, st.snd) (occBody x ⟨#[c]⟩ x.length (x.length + 1))).run.fst).size = _
      rw [walk x c n (a + 1) _ (by show st.fst.size ≤ _; omega) (by show st.snd ≤ _; omega) (by omega)]
      show st.fst.size + _ = _
      simp only [if_neg hc, Nat.zero_add]
theorem count_one (x : Str) (c : Nat) : Txt.count x ⟨#[c]⟩ = (x.cps.toList.count c : Nat) := by
  unfold Txt.count
  rw [occ_eq]
  have h := walk x c (x.length + 1 - 0) 0 (#[], 0) (Nat.le_refl _) (Nat.le_refl _) (by omega)
  have e : (x.cps.toList.drop 0).take (x.length + 1 - 0) = x.cps.toList := by
    rw [List.drop_zero]
    exact List.take_of_length_le (by rw [Array.length_toList]; show x.length ≤ _; omega)
  rw [e] at h
  rw [Array.length_toList, h]
  simp
end CO

set_option Elab.async false
set_option linter.all false
set_option maxRecDepth 100000
set_option maxHeartbeats 4000000
/-! a comprehension over zip of two lists; binomials -/
namespace ZC
open PySem PySem.Spec PyProof.Rows L2 GG
theorem lc_zL {K : PySem.W.Frag} {a b : Addr} {xs ys : List V} {g : TG} {tt : TT} {te : TE} {vs : List Nat} {σ : L2.St} {H1 : Hp} {D : Addr} {Qd : Hp → Prop} (len : xs.length = ys.length) (Pv : Nat → Hp → Prop) (h0 : Pv 0 (upd H1 D (.lst []))) (hl : ∀ i H, Pv i H → SqL K H a xs ∧ SqL K H b ys)
    (turn : ∀ i x y H T, xs[i]? = some x → ys[i]? = some y → Pv i H → H T = none → g (.ref T) (wipe σ vs) (upd H T (.tup [x, y])) fun σ2 H2 => wipe σ2 vs = wipe σ vs ∧ tt σ2 H2 fun c H3 =>
      if c = true then te σ2 H3 fun y H4 => ∃ acc, H4 D = some (.lst acc) ∧ acc.length < sizeLine ∧ Pv (i + 1) (upd H4 D (.lst (acc ++ [y]))) else Pv (i + 1) H3) (done : ∀ H, Pv xs.length H → Qd H) :
    ∃ W : Nat → Nat → Hp → Prop, (∃ m, W 0 m (upd H1 D (.lst []))) ∧ ∀ i m H, W i m H →
      ((Itz K a b).stop i H ∧ Qd H) ∨ ((Itz K a b).go i H ∧ ∃ Nx : Hp → Prop, (∀ H', Nx H' → ∃ m', m' < m ∧ W (i + 1) m' H') ∧
        ∀ x H', (Itz K a b).yld i H x H' → g x (wipe σ vs) H' fun σ2 H2 => wipe σ2 vs = wipe σ vs ∧ tt σ2 H2 fun c H3 =>
          if c = true then te σ2 H3 fun y H4 => ∃ acc, H4 D = some (.lst acc) ∧ acc.length < sizeLine ∧ Nx (upd H4 D (.lst (acc ++ [y]))) else Nx H3) := by
  refine ⟨fun i m H => m = xs.length - i ∧ i ≤ xs.length ∧ Pv i H, ⟨_, rfl, Nat.zero_le _, h0⟩, ?_⟩
  rintro i m H ⟨rfl, le, pv⟩
  obtain ⟨qx, qy⟩ := hl i H pv
  rcases Nat.lt_or_ge i xs.length with lt | ge
  · have hx : xs[i]? = some xs[i] := List.getElem?_eq_getElem lt
    have lt2 : i < ys.length := by omega
    have hy : ys[i]? = some ys[i] := List.getElem?_eq_getElem lt2
    refine .inr ⟨⟨xs, ys, _, _, qx, qy, hx, hy⟩, Pv (i + 1), fun H' n => ⟨xs.length - (i + 1), by omega, rfl, lt, n⟩, ?_⟩
    rintro v H' ⟨T, x, y, rfl, nT, rfl, f1, f2⟩
    exact turn i x y H T (f1 xs qx) (f2 ys qy) pv nT
  · have e : i = xs.length := by omega
    subst e
    exact .inl ⟨⟨xs, ys, qx, qy, .inl (Nat.le_refl _)⟩, done H pv⟩

/-- the binomial number -/
def ch : Nat → Nat → Nat
  | _, 0 => 1
  | 0, _ + 1 => 0
  | n + 1, k + 1 => ch n k + ch n (k + 1)
theorem ch_over : ∀ (n k : Nat), n < k → ch n k = 0
  | 0, k + 1, _ => rfl
  | n + 1, k + 1, h => by
    show ch n k + ch n (k + 1) = 0
    rw [ch_over n k (by omega), ch_over n (k + 1) (by omega)]
theorem ch_zero (n : Nat) : ch n 0 = 1 := by cases n <;> rfl
theorem ch_le : ∀ (n k : Nat), ch n k ≤ 2 ^ n
  | n, 0 => by
    rw [ch_zero]
    exact Nat.one_le_two_pow
  | 0, k + 1 => Nat.zero_le _
  | n + 1, k + 1 => by
    show ch n k + ch n (k + 1) ≤ 2 ^ (n + 1)
    have := ch_le n k
    have := ch_le n (k + 1)
    rw [Nat.pow_succ]
    omega
def bin (n : Nat) : List Int := (List.range (n + 1)).map fun k => (ch n k : Int)
theorem bin_len (n : Nat) : (bin n).length = n + 1 := by simp [bin]
theorem bin_get {n k : Nat} (h : k ≤ n) : (bin n)[k]? = some (ch n k : Int) := by
  unfold bin
  rw [List.getElem?_map, List.getElem?_range (by omega)]
  rfl
/-- the two summands at a place -/
theorem bin_left {n k : Nat} (h : k ≤ n + 1) : (bin n ++ [0])[k]? = some (ch n k : Int) := by
  rcases Nat.lt_or_ge k (n + 1) with lt | ge
  · rw [List.getElem?_append_left (by rw [bin_len]; exact lt), bin_get (by omega)]
  · have e : k = n + 1 := by omega
    subst e
    rw [List.getElem?_append_right (by rw [bin_len]; exact Nat.le_refl _), bin_len, Nat.sub_self, ch_over n (n + 1) (by omega)]
    rfl
def low (n : Nat) : Nat → Int
  | 0 => 0
  | j + 1 => (ch n j : Int)
theorem bin_right {n k : Nat} (h : k ≤ n + 1) : ((0 : Int) :: bin n)[k]? = some (low n k) := by
  cases k with
  | zero => rfl
  | succ j =>
    rw [List.getElem?_cons_succ, bin_get (by omega)]
    rfl
theorem bin_step (n k : Nat) : (ch (n + 1) k : Int) = (ch n k : Int) + low n k := by
  cases k with
  | zero => simp [ch_zero, low]
  | succ j =>
    show ((ch n j + ch n (j + 1) : Nat) : Int) = _
    rw [Int.natCast_add]
    exact Int.add_comm _ _
end ZC

set_option Elab.async false
set_option linter.all false
set_option maxRecDepth 100000
set_option maxHeartbeats 4000000
/-! tapes as lists of tosses -/
namespace Z
open PySem PySem.Spec PyProof.Rows L2 ZC
def sg (b : Bool) : Str := if b then "H" else "T"
def word (t : List Bool) : Str := ⟨(t.map fun b => if b then 72 else 84).toArray⟩
theorem sg_len (b : Bool) : (sg b).length = 1 := by cases b <;> decide +kernel
theorem sg_cps (b : Bool) : (sg b).cps.toList = [if b then 72 else 84] := by cases b <;> decide +kernel
theorem sg_one (b : Bool) : sg b = ⟨#[if b then 72 else 84]⟩ := by cases b <;> decide +kernel
theorem sg_inj {b c : Bool} (h : sg b = sg c) : b = c := by
  cases b <;> cases c
  · rfl
  · exact absurd h (by decide +kernel)
  · exact absurd h (by decide +kernel)
  · rfl
theorem word_list (t : List Bool) : (word t).cps.toList = t.map fun b => if b then 72 else 84 := by
  unfold word
  rw [List.toList_toArray]
theorem word_len (t : List Bool) : (word t).length = t.length := by
  show (word t).cps.size = _
  rw [← Array.length_toList, word_list, List.length_map]
theorem word_at {t : List Bool} {i c : Nat} (h : (word t).cps[i]? = some c) : ∃ b, t[i]? = some b ∧ (⟨#[c]⟩ : Str) = sg b := by
  have h' : (word t).cps.toList[i]? = some c := by rw [Array.getElem?_toList]; exact h
  rw [word_list, List.getElem?_map] at h'
  cases e : t[i]? with
  | none => rw [e] at h'; cases h'
  | some b =>
    rw [e] at h'
    refine ⟨b, rfl, ?_⟩
    have ec : (if b then 72 else 84) = c := Option.some.inj h'
    rw [← ec, ← sg_one]
theorem str_ext {x y : Str} (e : x.cps.toList = y.cps.toList) : x = y := by
  obtain ⟨x⟩ := x
  obtain ⟨y⟩ := y
  exact congrArg Str.mk (Array.toList_inj.mp e)
theorem word_app (t u : List Bool) : word t ++ word u = word (t ++ u) := by
  refine str_ext ?_
  show ((word t).cps ++ (word u).cps).toList = _
  rw [Array.toList_append, word_list, word_list, word_list, List.map_append]
theorem word_one (b : Bool) : word [b] = sg b := str_ext (by rw [word_list, sg_cps]; rfl)
theorem word_snoc (t : List Bool) (b : Bool) : word t ++ sg b = word (t ++ [b]) := by rw [← word_one, word_app]
theorem word_cons (t : List Bool) (b : Bool) : sg b ++ word t = word (b :: t) := by rw [← word_one, word_app]; rfl
theorem cut_word {t : List Bool} {j k : Nat} (h : j ≤ k) (h' : k ≤ t.length) : cutS (word t) (some (j : Int)) (some (k : Int)) = word ((t.drop j).take (k - j)) := by
  have e1 : HT.sIx (word t).length 0 (some (j : Int)) = j := by
    rw [HT.sIx_nat, word_len]
    omega
  have e2 : HT.sIx (word t).length (word t).length (some (k : Int)) = k := by
    rw [HT.sIx_nat, word_len]
    omega
  refine str_ext ?_
  unfold cutS
  rw [e1, e2, List.toList_toArray, word_list, word_list, List.map_take, List.map_drop]
def hd (t : List Bool) : Nat := t.count true
theorem count_H (t : List Bool) : Txt.count (word t) "H" = (hd t : Int) := by
  have e : (("H" : String) : Str) = ⟨#[72]⟩ := by decide +kernel
  rw [e, CO.count_one, word_list]
  unfold hd
  congr 1
  induction t with
  | nil => rfl
  | cons b t ih =>
    rw [List.map_cons, List.count_cons, List.count_cons, ih]
    cases b <;> rfl
theorem hd_le (t : List Bool) : hd t ≤ t.length := List.count_le_length
/-- the rank of a tape among those with as many heads -/
def rk : List Bool → Nat
  | [] => 0
  | true :: t => rk t
  | false :: t => (if 0 < hd t then ch t.length (hd t - 1) else 0) + rk t
end Z

set_option Elab.async false
set_option linter.all false
set_option maxRecDepth 100000
set_option maxHeartbeats 4000000
namespace Z
open PySem PySem.Spec PyProof.Rows L2 GG
/-! ways through a machine -/
def place (ps : List Pl) (a : Int) : Pl := ps.getD a.toNat .never
theorem place_get {ps : List Pl} {a : Int} {p : Pl} (h : ps[a.toNat]? = some p) : place ps a = p := by
  unfold place
  rw [List.getD_eq_getElem?_getD, h]
  rfl
theorem Mach.at {H : Hp} {m : Addr} {ps : List Pl} (hm : Mach H m ps) (hw : WF ps) {a : Int} (h0 : 0 ≤ a) (h1 : a < ps.length) : ∃ (rs : List V) (t : Addr), H m = some (.tup rs) ∧ atI rs a = some (.ref t) ∧ H t = some (.tup (place ps a).row) := by
  obtain ⟨rs, em, pl⟩ := hm
  obtain ⟨p, hp, _⟩ := hw.get h0 h1
  obtain ⟨t, ht, et⟩ := pl.get hp
  rw [place_get hp]
  obtain ⟨j, rfl⟩ : ∃ j : Nat, a = (j : Int) := ⟨a.toNat, by omega⟩
  exact ⟨rs, t, em, atI_nat (by rw [Int.toNat_natCast] at ht; exact ht), et⟩
def In (ps : List Pl) (a : Int) : Prop := 0 ≤ a ∧ a < ps.length
theorem wf_succ {ps : List Pl} (hw : WF ps) {a x y : Int} (h : In ps a) (e : place ps a = .toss x y) : In ps x ∧ In ps y := by
  obtain ⟨p, hp, okp⟩ := hw.get h.1 h.2
  rw [place_get hp] at e
  subst e
  obtain ⟨a1, a2, a3, a4⟩ := okp
  exact ⟨⟨a1, a2⟩, a3, a4⟩
inductive Rch (ps : List Pl) (s : Int) : Int → Prop
  | here : Rch ps s s
  | heads {k x y : Int} : Rch ps s k → place ps k = .toss x y → Rch ps s x
  | tails {k x y : Int} : Rch ps s k → place ps k = .toss x y → Rch ps s y
theorem Rch.inn {ps : List Pl} (hw : WF ps) {s k : Int} (hs : In ps s) (h : Rch ps s k) : In ps k := by
  induction h with
  | here => exact hs
  | heads _ e ih => exact (wf_succ hw ih e).1
  | tails _ e ih => exact (wf_succ hw ih e).2
theorem Rch.trans {ps : List Pl} {a b c : Int} (h : Rch ps a b) (g : Rch ps b c) : Rch ps a c := by
  induction g with
  | here => exact h
  | heads _ e ih => exact ih.heads e
  | tails _ e ih => exact ih.tails e
/-- what holds at the start and is handed on holds at all that is reached -/
theorem Rch.all {ps : List Pl} {s : Int} {S : Int → Prop} (h0 : S s) (h : ∀ k x y, S k → place ps k = .toss x y → S x ∧ S y) {k : Int} (r : Rch ps s k) : S k := by
  induction r with
  | here => exact h0
  | heads _ e ih => exact (h _ _ _ ih e).1
  | tails _ e ih => exact (h _ _ _ ih e).2
/-! lists of places -/
theorem nodup_len : ∀ (n : Nat) (l : List Int), l.Nodup → (∀ x ∈ l, 0 ≤ x ∧ x < n) → l.length ≤ n
  | 0, l, _, h => by
    cases l with
    | nil => exact Nat.le_refl _
    | cons x r =>
      have := h x List.mem_cons_self
      omega
  | n + 1, l, nd, h => by
    have h2 := nodup_len n (l.filter (· ≠ (n : Int))) (nd.filter _) fun x hx => by
      rw [List.mem_filter] at hx
      have := h x hx.1
      have e : x ≠ n := by simpa using hx.2
      omega
    have h3 : ∀ l : List Int, l.Nodup → l.length ≤ (l.filter (· ≠ (n : Int))).length + 1 := fun l => by
      induction l with
      | nil => intro _; exact Nat.zero_le _
      | cons x r ih =>
        intro nd
        have nd' := List.nodup_cons.mp nd
        by_cases e : x = n
        · subst e
          rw [List.filter_cons_of_neg (by simp)]
          have : r.filter (· ≠ (n : Int)) = r := by
            rw [List.filter_eq_self]
            intro y hy
            have : y ≠ n := fun z => nd'.1 (z ▸ hy)
            simpa using this
          rw [this, List.length_cons]
          exact Nat.le_refl _
        · rw [List.filter_cons_of_pos (by simpa using e), List.length_cons, List.length_cons]
          have := ih nd'.2
          omega
    have := h3 l nd
    omega
theorem lt_unique : ∀ {xs ys : List Int}, xs.Pairwise (· < ·) → ys.Pairwise (· < ·) → (∀ k, k ∈ xs ↔ k ∈ ys) → xs = ys
  | [], [], _, _, _ => rfl
  | [], y :: ys, _, _, h => absurd ((h y).mpr List.mem_cons_self) List.not_mem_nil
  | x :: xs, [], _, _, h => absurd ((h x).mp List.mem_cons_self) List.not_mem_nil
  | x :: xs, y :: ys, hx, hy, h => by
    have hx' := List.pairwise_cons.mp hx
    have hy' := List.pairwise_cons.mp hy
    have e : x = y := by
      rcases List.mem_cons.mp ((h x).mp List.mem_cons_self) with e | m
      · exact e
      · rcases List.mem_cons.mp ((h y).mpr List.mem_cons_self) with e | m2
        · exact e.symm
        · have := hx'.1 y m2
          have := hy'.1 x m
          omega
    subst e
    congr 1
    refine lt_unique hx'.2 hy'.2 fun k => ⟨fun m => ?_, fun m => ?_⟩
    · rcases List.mem_cons.mp ((h k).mp (List.mem_cons_of_mem _ m)) with e | m2
      · have := hx'.1 k m
        omega
      · exact m2
    · rcases List.mem_cons.mp ((h k).mpr (List.mem_cons_of_mem _ m)) with e | m2
      · have := hy'.1 k m
        omega
      · exact m2
theorem le_lt : ∀ {xs : List Int}, xs.Pairwise (· ≤ ·) → xs.Nodup → xs.Pairwise (· < ·)
  | [], _, _ => .nil
  | x :: xs, h, nd => by
    have h' := List.pairwise_cons.mp h
    have nd' := List.nodup_cons.mp nd
    refine List.pairwise_cons.mpr ⟨fun y hy => ?_, le_lt h'.2 nd'.2⟩
    have := h'.1 y hy
    have : x ≠ y := fun e => nd'.1 (e ▸ hy)
    omega
/-- the places that are reached, in order -/
def Places (ps : List Pl) (s : Int) (ks : List Int) : Prop := ks.Pairwise (· < ·) ∧ ∀ k, k ∈ ks ↔ Rch ps s k
theorem Places.eq {ps : List Pl} {s : Int} {xs ys : List Int} (h : Places ps s xs) (g : Places ps s ys) : xs = ys := lt_unique h.1 g.1 fun k => (h.2 k).trans (g.2 k).symm
theorem lt_nodup : ∀ {xs : List Int}, xs.Pairwise (· < ·) → xs.Nodup
  | [], _ => .nil
  | x :: xs, h => by
    have h' := List.pairwise_cons.mp h
    refine List.nodup_cons.mpr ⟨fun m => ?_, lt_nodup h'.2⟩
    have := h'.1 x m
    omega
theorem Places.len {ps : List Pl} (hw : WF ps) {s : Int} (hs : In ps s) {ks : List Int} (h : Places ps s ks) : ks.length ≤ ps.length := nodup_len _ _ (lt_nodup h.1) fun k hk => ((h.2 k).mp hk).inn hw hs
theorem places_of {ps : List Pl} {s : Int} {ks ls : List Int} (nd : ks.Nodup) (hk : ∀ k, k ∈ ks ↔ Rch ps s k) (pm : ls.Perm ks) (pw : ls.Pairwise (· ≤ ·)) : Places ps s ls :=
  ⟨le_lt pw (pm.nodup_iff.mpr nd), fun k => (pm.mem_iff).trans (hk k)⟩
/-! ends within so many tosses -/
def eB (ps : List Pl) : Nat → Int → Bool
  | 0, k => match place ps k with
    | .fin _ => true
    | _ => false
  | j + 1, k => eB ps j k || match place ps k with
    | .toss x y => eB ps j x || eB ps j y
    | _ => false
def lvl (ps : List Pl) (d : Nat) (k : Int) : Option Nat := (List.range (d + 1)).find? fun j => eB ps j k
theorem eB_up {ps : List Pl} {j : Nat} {k : Int} (h : eB ps j k = true) : eB ps (j + 1) k = true := by
  show (eB ps j k || _) = true
  rw [h, Bool.true_or]
theorem eB_le {ps : List Pl} {i j : Nat} {k : Int} (l : i ≤ j) (h : eB ps i k = true) : eB ps j k = true := by
  induction l with
  | refl => exact h
  | step _ ih => exact eB_up ih
theorem lvl_none {ps : List Pl} {d : Nat} {k : Int} : lvl ps d k = none ↔ eB ps d k = false := by
  unfold lvl
  rw [List.find?_eq_none]
  constructor
  · intro h
    have := h d (List.mem_range.mpr (Nat.lt_succ_self d))
    simpa using this
  · intro h j hj e
    have := eB_le (Nat.le_of_lt_succ (List.mem_range.mp hj)) e
    rw [h] at this
    cases this
theorem lvl_succ (ps : List Pl) (d : Nat) (k : Int) : lvl ps (d + 1) k = (match lvl ps d k with | some j => some j | none => if eB ps (d + 1) k then some (d + 1) else none) := by
  unfold lvl
  rw [List.range_succ, List.find?_append]
  cases h : (List.range (d + 1)).find? fun j => eB ps j k with
  | some j => rfl
  | none =>
    rw [Option.none_or, List.find?_cons]
    cases eB ps (d + 1) k <;> rfl
theorem lvl_some {ps : List Pl} {d j : Nat} {k : Int} (h : lvl ps d k = some j) : j ≤ d ∧ eB ps j k = true ∧ ∀ i, i < j → eB ps i k = false := by
  unfold lvl at h
  obtain ⟨h1, i, h2, h3, h4⟩ := List.find?_eq_some_iff_getElem.mp h
  rw [List.getElem_range] at h3
  subst h3
  rw [List.length_range] at h2
  refine ⟨by omega, h1, fun m hm => ?_⟩
  have := h4 m hm
  rw [List.getElem_range] at this
  simpa using this
theorem lvl_at {ps : List Pl} {d j : Nat} {k : Int} (l : j ≤ d) (e : eB ps j k = true) (m : ∀ i, i < j → eB ps i k = false) : lvl ps d k = some j := by
  cases h : lvl ps d k with
  | none =>
    have := lvl_none.mp h
    rw [eB_le l e] at this
    cases this
  | some i =>
    obtain ⟨_, h2, h3⟩ := lvl_some h
    rcases Nat.lt_trichotomy i j with a | a | a
    · rw [m i a] at h2
      cases h2
    · rw [a]
    · rw [h3 j a] at e
      cases e
/-- no end within d tosses, one within d + 1: a side has it just at d -/
theorem lvl_turn {ps : List Pl} {d : Nat} {k x y : Int} (e : place ps k = .toss x y) (no : lvl ps d k = none) : eB ps (d + 1) k = (decide (lvl ps d x = some d) || decide (lvl ps d y = some d)) := by
  have nk := lvl_none.mp no
  have one : ∀ z, (z = x ∨ z = y) → eB ps d z = decide (lvl ps d z = some d) := fun z hz => by
    cases h : eB ps d z with
    | true =>
      refine (decide_eq_true (lvl_at (Nat.le_refl _) h fun i hi => ?_)).symm
      cases g : eB ps i z with
      | false => rfl
      | true =>
        have : eB ps (i + 1) k = true := by
          show (eB ps i k || _) = true
          rw [e]
          rcases hz with rfl | rfl <;> simp [g]
        have := eB_le (show i + 1 ≤ d by omega) this
        rw [nk] at this
        cases this
    | false =>
      refine (decide_eq_false fun z => ?_).symm
      have := (lvl_some z).2.1
      rw [h] at this
      cases this
  show (eB ps d k || _) = _
  rw [nk, e, Bool.false_or]
  show (eB ps d x || eB ps d y) = _
  rw [one x (.inl rfl), one y (.inr rfl)]
/-- a place from which an end is reached -/
def Op (ps : List Pl) (k : Int) : Prop := ∃ e n, Rch ps k e ∧ place ps e = .fin n
theorem op_of_eB {ps : List Pl} : ∀ {j : Nat} {k : Int}, eB ps j k = true → Op ps k
  | 0, k, h => by
    cases e : place ps k with
    | fin n => exact ⟨k, n, .here, e⟩
    | toss x y => rw [eB, e] at h; cases h
    | never => rw [eB, e] at h; cases h
  | j + 1, k, h => by
    have h : (eB ps j k || match place ps k with | .toss x y => eB ps j x || eB ps j y | _ => false) = true := h
    rw [Bool.or_eq_true] at h
    rcases h with h | h
    · exact op_of_eB h
    · cases e : place ps k with
      | fin n => exact ⟨k, n, .here, e⟩
      | toss x y =>
        rw [e] at h
        have h : (eB ps j x || eB ps j y) = true := h
        rw [Bool.or_eq_true] at h
        rcases h with h | h
        · obtain ⟨z, n, r, f⟩ := op_of_eB h
          exact ⟨z, n, (Rch.here.heads e).trans r, f⟩
        · obtain ⟨z, n, r, f⟩ := op_of_eB h
          exact ⟨z, n, (Rch.here.tails e).trans r, f⟩
      | never => rw [e] at h; cases h
theorem eB_of_op {ps : List Pl} {k : Int} (h : Op ps k) : ∃ j, eB ps j k = true := by
  obtain ⟨e, n, r, f⟩ := h
  have : ∀ {a : Int}, Rch ps k a → ∀ j, eB ps j a = true → ∃ i, eB ps i k = true := fun {a} r => by
    induction r with
    | here => exact fun j h => ⟨j, h⟩
    | @heads b x y _ eb ih =>
      intro j hj
      refine ih (j + 1) ?_
      show (eB ps j b || _) = true
      rw [eb]
      simp [hj]
    | @tails b x y _ eb ih =>
      intro j hj
      refine ih (j + 1) ?_
      show (eB ps j b || _) = true
      rw [eb]
      simp [hj]
  exact this r 0 (by rw [eB, f])
/-- as many levels as places -/
theorem levels {ps : List Pl} (hw : WF ps) : ∀ (j : Nat) {k : Int}, In ps k → eB ps j k = true → (∀ i, i < j → eB ps i k = false) → ∃ l : List Int, l.length = j + 1 ∧ l.Nodup ∧ (∀ x ∈ l, In ps x) ∧ ∀ x ∈ l, ∃ i, i ≤ j ∧ eB ps i x = true ∧ ∀ h, h < i → eB ps h x = false
  | 0, k, hk, h, m => ⟨[k], rfl, by simp, fun x hx => by rw [List.mem_singleton.mp hx]; exact hk, fun x hx => by rw [List.mem_singleton.mp hx]; exact ⟨0, Nat.le_refl _, h, m⟩⟩
  | j + 1, k, hk, h, m => by
    have nk := m j (Nat.lt_succ_self j)
    have h' : (eB ps j k || match place ps k with | .toss x y => eB ps j x || eB ps j y | _ => false) = true := h
    rw [nk, Bool.false_or] at h'
    cases e : place ps k with
    | fin n => rw [e] at h'; cases h'
    | never => rw [e] at h'; cases h'
    | toss x y =>
      rw [e] at h'
      have go : ∀ z, (z = x ∨ z = y) → eB ps j z = true → ∃ l : List Int, l.length = j + 1 + 1 ∧ l.Nodup ∧ (∀ x ∈ l, In ps x) ∧ ∀ x ∈ l, ∃ i, i ≤ j + 1 ∧ eB ps i x = true ∧ ∀ h, h < i → eB ps h x = false := fun z hz hj => by
        have inz : In ps z := by
          have := wf_succ hw hk e
          rcases hz with rfl | rfl
          · exact this.1
          · exact this.2
        have mz : ∀ i, i < j → eB ps i z = false := fun i hi => by
          cases g : eB ps i z with
          | false => rfl
          | true =>
            have : eB ps (i + 1) k = true := by
              show (eB ps i k || _) = true
              rw [e]
              rcases hz with rfl | rfl <;> simp [g]
            rw [m (i + 1) (by omega)] at this
            cases this
        obtain ⟨l, l1, l2, l3, l4⟩ := levels hw j inz hj mz
        refine ⟨k :: l, by simp [l1], List.nodup_cons.mpr ⟨fun hm => ?_, l2⟩, fun x hx => ?_, fun x hx => ?_⟩
        · obtain ⟨i, hi, h1, h2⟩ := l4 k hm
          rw [m i (by omega)] at h1
          cases h1
        · rcases List.mem_cons.mp hx with rfl | hx
          · exact hk
          · exact l3 x hx
        · rcases List.mem_cons.mp hx with rfl | hx
          · exact ⟨j + 1, Nat.le_refl _, h, m⟩
          · obtain ⟨i, hi, h1⟩ := l4 x hx
            exact ⟨i, by omega, h1⟩
      have h' : (eB ps j x || eB ps j y) = true := h'
      rw [Bool.or_eq_true] at h'
      rcases h' with h' | h'
      · exact go x (.inl rfl) h'
      · exact go y (.inr rfl) h'
theorem lvl_op {ps : List Pl} (hw : WF ps) {k : Int} (hk : In ps k) : lvl ps (ps.length - 1) k = none ↔ ¬ Op ps k := by
  rw [lvl_none]
  constructor
  · intro h o
    obtain ⟨j, hj⟩ := eB_of_op o
    obtain ⟨i, hi, mi⟩ : ∃ i, eB ps i k = true ∧ ∀ h, h < i → eB ps h k = false := by
      have : ∀ j, eB ps j k = true → ∃ i, eB ps i k = true ∧ ∀ h, h < i → eB ps h k = false := fun j => by
        induction j using Nat.strongRecOn with
        | _ j ih =>
          intro hj
          by_cases q : ∃ i, i < j ∧ eB ps i k = true
          · obtain ⟨i, l, hi⟩ := q
            exact ih i l hi
          · exact ⟨j, hj, fun i l => by
              cases g : eB ps i k with
              | false => rfl
              | true => exact absurd ⟨i, l, g⟩ q⟩
      exact this j hj
    obtain ⟨l, l1, l2, l3, _⟩ := levels hw i hk hi mi
    have := nodup_len _ _ l2 l3
    have := eB_le (show i ≤ ps.length - 1 by omega) hi
    rw [h] at this
    cases this
  · intro o
    cases g : eB ps (ps.length - 1) k with
    | false => rfl
    | true => exact absurd (op_of_eB g) o
end Z

set_option Elab.async false
set_option linter.all false
set_option maxRecDepth 100000
set_option maxHeartbeats 4000000
namespace Z
open PySem PySem.Spec PyProof.Rows L2 GG
/-! tapes, the last toss first, and how many lead where -/
def tps : Nat → List (List Bool)
  | 0 => [[]]
  | n + 1 => (tps n).map (true :: ·) ++ (tps n).map (false :: ·)
theorem tps_len : ∀ {n : Nat} {r : List Bool}, r ∈ tps n → r.length = n
  | 0, r, h => by
    rw [List.mem_singleton.mp h]
    rfl
  | n + 1, r, h => by
    rcases List.mem_append.mp h with h | h <;>
    · obtain ⟨q, hq, rfl⟩ := List.mem_map.mp h
      rw [List.length_cons, tps_len hq]
theorem tps_all : ∀ (r : List Bool), r ∈ tps r.length
  | [] => List.mem_singleton.mpr rfl
  | true :: r => List.mem_append_left _ (List.mem_map.mpr ⟨r, tps_all r, rfl⟩)
  | false :: r => List.mem_append_right _ (List.mem_map.mpr ⟨r, tps_all r, rfl⟩)
theorem tps_mem {n : Nat} {r : List Bool} : r ∈ tps n ↔ r.length = n := ⟨tps_len, fun h => h ▸ tps_all r⟩
theorem tps_count (n : Nat) (P : List Bool → Bool) : (tps (n + 1)).countP P = (tps n).countP (fun r => P (true :: r)) + (tps n).countP (fun r => P (false :: r)) := by
  show ((tps n).map (true :: ·) ++ (tps n).map (false :: ·)).countP P = _
  rw [List.countP_append, List.countP_map, List.countP_map]
  rfl
def hds (r : List Bool) : Nat := r.countP id
theorem hds_t (r : List Bool) : hds (true :: r) = hds r + 1 := by
  unfold hds
  rw [List.countP_cons_of_pos rfl]
theorem hds_f (r : List Bool) : hds (false :: r) = hds r := by
  unfold hds
  rw [List.countP_cons_of_neg (by decide)]
theorem hds_le (r : List Bool) : hds r ≤ r.length := List.countP_le_length
def side (ps : List Pl) (b : Bool) (q : Int) : Option Int := match place ps q with
  | .toss x y => some (if b then x else y)
  | _ => none
/-- where a tape leads, if it is not stopped ahead of its end -/
def ats (ps : List Pl) : List Bool → Option Int
  | [] => some 0
  | b :: r => (ats ps r).bind (side ps b)
theorem side_in {ps : List Pl} (hw : WF ps) {b : Bool} {q z : Int} (hq : In ps q) (h : side ps b q = some z) : In ps z := by
  unfold side at h
  cases e : place ps q with
  | toss x y =>
    rw [e] at h
    obtain ⟨h1, h2⟩ := wf_succ hw hq e
    cases b with
    | true => cases h; exact h1
    | false => cases h; exact h2
  | fin n => rw [e] at h; cases h
  | never => rw [e] at h; cases h
theorem ats_in {ps : List Pl} (hw : WF ps) : ∀ {r : List Bool} {z : Int}, ats ps r = some z → In ps z
  | [], z, h => by
    have e : (0 : Int) = z := Option.some.inj h
    subst e
    have := hw.ne
    exact ⟨by omega, by omega⟩
  | b :: r, z, h => by
    obtain ⟨q, h1, h2⟩ := Option.bind_eq_some_iff.mp h
    exact side_in hw (ats_in hw h1) h2
/-- the numbers of heads, of the tapes of n tosses for which P -/
def cnt (n : Nat) (P : List Bool → Bool) : List Int := (List.range (n + 1)).map fun h => (((tps n).countP fun r => decide (hds r = h) && P r : Nat) : Int)
theorem cnt_len (n : Nat) (P : List Bool → Bool) : (cnt n P).length = n + 1 := by simp [cnt]
theorem cnt_congr {n : Nat} {P P' : List Bool → Bool} (h : ∀ r, r.length = n → P r = P' r) : cnt n P = cnt n P' := by
  unfold cnt
  refine List.map_congr_left fun x _ => ?_
  congr 1
  refine List.countP_congr fun r hr => ?_
  rw [h r (tps_len hr)]
theorem cnt_zero {n : Nat} {P : List Bool → Bool} (h : ∀ r, r.length = n → P r = false) : cnt n P = List.replicate (n + 1) 0 := by
  unfold cnt
  refine List.ext_getElem (by simp) fun i h1 h2 => ?_
  rw [List.getElem_map, List.getElem_replicate]
  have : ((tps n).countP fun r => decide (hds r = (List.range (n + 1))[i]'(by simpa using h1)) && P r) = 0 := by
    rw [List.countP_eq_zero]
    intro r hr
    rw [h r (tps_len hr)]
    simp
  rw [this]
  rfl
/-- xs added from the place off on -/
def bump (off : Nat) (row xs : List Int) : List Int := (List.range row.length).map fun h => row.getD h 0 + if off ≤ h then xs.getD (h - off) 0 else 0
theorem bump_len (off : Nat) (row xs : List Int) : (bump off row xs).length = row.length := by simp [bump]
theorem bump_nil (off : Nat) (row : List Int) : bump off row [] = row := by
  unfold bump
  refine List.ext_getElem (by simp) fun i h1 h2 => ?_
  rw [List.getElem_map, List.getElem_range, List.getD_eq_getElem?_getD, List.getElem?_eq_getElem h2]
  simp
theorem bump_get {off : Nat} {row xs : List Int} {h : Nat} (hl : h < row.length) : (bump off row xs)[h]? = some (row.getD h 0 + if off ≤ h then xs.getD (h - off) 0 else 0) := by
  unfold bump
  rw [List.getElem?_map, List.getElem?_range hl]
  rfl
/-- one step of the loop that adds -/
theorem bump_step {off : Nat} {row xs : List Int} {i : Nat} {x : Int} (hx : xs[i]? = some x) (hl : i + off < row.length) {v : Int} (hv : (bump off row (xs.take i))[i + off]? = some v) : (bump off row (xs.take i)).set (i + off) (v + x) = bump off row (xs.take (i + 1)) := by
  have hi : i < xs.length := (List.getElem?_eq_some_iff.mp hx).1
  refine List.ext_getElem? fun h => ?_
  rw [List.getElem?_set, bump_len]
  by_cases e : i + off = h
  · subst e
    rw [if_pos rfl, if_pos hl, bump_get hl]
    rw [bump_get hl] at hv
    have hv := Option.some.inj hv
    rw [if_pos (by omega), Nat.add_sub_cancel] at hv ⊢
    rw [List.getD_eq_getElem?_getD (l := xs.take i), List.getElem?_take, if_neg (Nat.lt_irrefl i)] at hv
    rw [List.getD_eq_getElem?_getD (l := xs.take (i + 1)), List.getElem?_take, if_pos (by omega), hx]
    simp only [Option.getD_none, Option.getD_some] at hv ⊢
    rw [← hv]
    simp
  · rw [if_neg e]
    by_cases hh : h < row.length
    · rw [bump_get hh, bump_get hh]
      congr 2
      by_cases ho : off ≤ h
      · rw [if_pos ho, if_pos ho, List.getD_eq_getElem?_getD, List.getD_eq_getElem?_getD, List.getElem?_take, List.getElem?_take]
        by_cases hlt : h - off < i
        · rw [if_pos hlt, if_pos (by omega)]
        · rw [if_neg hlt, if_neg (by omega)]
      · rw [if_neg ho, if_neg ho]
    · rw [List.getElem?_eq_none (by rw [bump_len]; omega), List.getElem?_eq_none (by rw [bump_len]; omega)]
theorem cnt_get {n h : Nat} {P : List Bool → Bool} : (cnt n P).getD h 0 = (((tps n).countP fun r => decide (hds r = h) && P r : Nat) : Int) := by
  unfold cnt
  rw [List.getD_eq_getElem?_getD, List.getElem?_map]
  by_cases l : h < n + 1
  · rw [List.getElem?_range l]
    rfl
  · rw [List.getElem?_eq_none (by simpa using l)]
    show (0 : Int) = _
    have : ((tps n).countP fun r => decide (hds r = h) && P r) = 0 := by
      rw [List.countP_eq_zero]
      intro r hr
      have := hds_le r
      have e := tps_len hr
      have : hds r ≠ h := by omega
      simp [this]
    rw [this]
    rfl
theorem countP_or {α : Type} (P Q R : α → Bool) (l : List α) (h : ∀ x ∈ l, P x = (Q x || R x) ∧ (Q x && R x) = false) : l.countP P = l.countP Q + l.countP R := by
  induction l with
  | nil => rfl
  | cons x r ih =>
    obtain ⟨h1, h2⟩ := h x List.mem_cons_self
    have ih := ih fun y hy => h y (List.mem_cons_of_mem _ hy)
    rw [List.countP_cons, List.countP_cons, List.countP_cons, ih, h1]
    cases eq : Q x <;> cases er : R x <;> rw [eq, er] at h2 <;> simp at h2 ⊢ <;> omega
/-- the tapes of one more toss, of which the last toss is b and P holds of what goes ahead: Q = Q0 or that -/
theorem bump_cnt {n : Nat} {b : Bool} {P Q0 Q : List Bool → Bool} (h : ∀ c r, r.length = n → Q (c :: r) = (Q0 (c :: r) || (c == b && P r)) ∧ (Q0 (c :: r) && (c == b && P r)) = false) :
    bump (if b then 1 else 0) (cnt (n + 1) Q0) (cnt n P) = cnt (n + 1) Q := by
  refine List.ext_getElem? fun j => ?_
  by_cases hj : j < (cnt (n + 1) Q0).length
  · rw [bump_get hj]
    have hj' : j < n + 2 := by rw [cnt_len] at hj; omega
    have e : (cnt (n + 1) Q)[j]? = some ((cnt (n + 1) Q).getD j 0) := by
      rw [List.getD_eq_getElem?_getD, List.getElem?_eq_getElem (by rw [cnt_len]; omega)]
      rfl
    rw [e, cnt_get, cnt_get, cnt_get]
    have key : ((tps (n + 1)).countP fun r => decide (hds r = j) && Q r) = ((tps (n + 1)).countP fun r => decide (hds r = j) && Q0 r) + if (if b then 1 else 0) ≤ j then ((tps n).countP fun r => decide (hds r = j - if b then 1 else 0) && P r) else 0 := by
      rw [tps_count, tps_count]
      cases b with
      | true =>
        have ef : ((tps n).countP fun r => decide (hds (false :: r) = j) && Q (false :: r)) = ((tps n).countP fun r => decide (hds (false :: r) = j) && Q0 (false :: r)) := List.countP_congr fun r hr => by
          have := (h false r (tps_len hr)).1
          simp only [show (false == true) = false from rfl, Bool.false_and, Bool.or_false] at this
          rw [this]
        have et : ((tps n).countP fun r => decide (hds (true :: r) = j) && Q (true :: r)) = ((tps n).countP fun r => decide (hds (true :: r) = j) && Q0 (true :: r)) + ((tps n).countP fun r => decide (hds (true :: r) = j) && P r) := countP_or _ _ _ _ fun r hr => by
          obtain ⟨h1, h2⟩ := h true r (tps_len hr)
          rw [h1]
          simp only [show (true == true) = true from rfl, Bool.true_and] at h2 ⊢
          cases decide (hds (true :: r) = j)
          · exact ⟨rfl, rfl⟩
          · exact ⟨rfl, h2⟩
        rw [ef, et]
        by_cases j1 : 1 ≤ j
        · rw [if_pos rfl, if_pos j1]
          have : ((tps n).countP fun r => decide (hds (true :: r) = j) && P r) = ((tps n).countP fun r => decide (hds r = j - 1) && P r) := List.countP_congr fun r hr => by
            rw [hds_t]
            have : (hds r + 1 = j) ↔ hds r = j - 1 := by omega
            rw [decide_eq_decide.mpr this]
          rw [this]
          omega
        · rw [if_pos rfl, if_neg j1]
          have : ((tps n).countP fun r => decide (hds (true :: r) = j) && P r) = 0 := by
            rw [List.countP_eq_zero]
            intro r hr
            rw [hds_t]
            have : ¬ hds r + 1 = j := by omega
            simp [this]
          rw [this]
          omega
      | false =>
        have et : ((tps n).countP fun r => decide (hds (true :: r) = j) && Q (true :: r)) = ((tps n).countP fun r => decide (hds (true :: r) = j) && Q0 (true :: r)) := List.countP_congr fun r hr => by
          have := (h true r (tps_len hr)).1
          simp only [show (true == false) = false from rfl, Bool.false_and, Bool.or_false] at this
          rw [this]
        have ef : ((tps n).countP fun r => decide (hds (false :: r) = j) && Q (false :: r)) = ((tps n).countP fun r => decide (hds (false :: r) = j) && Q0 (false :: r)) + ((tps n).countP fun r => decide (hds (false :: r) = j) && P r) := countP_or _ _ _ _ fun r hr => by
          obtain ⟨h1, h2⟩ := h false r (tps_len hr)
          rw [h1]
          simp only [show (false == false) = true from rfl, Bool.true_and] at h2 ⊢
          cases decide (hds (false :: r) = j)
          · exact ⟨rfl, rfl⟩
          · exact ⟨rfl, h2⟩
        rw [ef, et]
        have : ((tps n).countP fun r => decide (hds (false :: r) = j) && P r) = ((tps n).countP fun r => decide (hds r = j) && P r) := List.countP_congr fun r hr => by
          rw [hds_f]
        rw [this]
        simp
        omega
    rw [key, Int.natCast_add]
    congr 2
    cases b <;> simp <;> split <;> rfl
  · rw [List.getElem?_eq_none (by rw [bump_len]; omega), List.getElem?_eq_none (by rw [cnt_len] at hj ⊢; omega)]
/-- of one length -/
theorem bump_cnt0 {n : Nat} {P Q0 Q : List Bool → Bool} (h : ∀ r, r.length = n → Q r = (Q0 r || P r) ∧ (Q0 r && P r) = false) : bump 0 (cnt n Q0) (cnt n P) = cnt n Q := by
  refine List.ext_getElem? fun j => ?_
  by_cases hj : j < (cnt n Q0).length
  · rw [bump_get hj]
    have hj' : j < n + 1 := by rw [cnt_len] at hj; omega
    have e : (cnt n Q)[j]? = some ((cnt n Q).getD j 0) := by
      rw [List.getD_eq_getElem?_getD, List.getElem?_eq_getElem (by rw [cnt_len]; omega)]
      rfl
    rw [e, cnt_get, cnt_get, if_pos (Nat.zero_le _), Nat.sub_zero, cnt_get]
    have key : ((tps n).countP fun r => decide (hds r = j) && Q r) = ((tps n).countP fun r => decide (hds r = j) && Q0 r) + ((tps n).countP fun r => decide (hds r = j) && P r) := countP_or _ _ _ _ fun r hr => by
      obtain ⟨h1, h2⟩ := h r (tps_len hr)
      rw [h1]
      cases decide (hds r = j) <;> simp at h2 ⊢
      exact h2
    rw [key, Int.natCast_add]
  · rw [List.getElem?_eq_none (by rw [bump_len]; omega), List.getElem?_eq_none (by rw [cnt_len] at hj ⊢; omega)]
end Z

set_option Elab.async false
set_option linter.all false
set_option maxRecDepth 100000
set_option maxHeartbeats 4000000
namespace Z
open PySem PySem.Spec PyProof.Rows L2 GG
abbrev sToss : Stmt := top 10
def Pl.tosses : Pl → Bool
  | .toss _ _ => true
  | _ => false
section
variable {P : Program} {w : World} {K : PySem.W.Frag} {mg : Str → Option Value} {base : Heap}
def spToss : Sp := fun vs H Q _ => ∃ (t : Addr) (p : Pl), vs = [.ref t] ∧ H t = some (.tup p.row) ∧ Q (.bl p.tosses) H
theorem scToss : FnScope ["state"] ["state"] (defScope sToss) := ⟨rfl, rfl, rfl, by decide +kernel, rfl, by decide +kernel, by decide +kernel⟩
theorem ok_toss {f : Addr} {fd : FuncData} (F : Fun K "is_toss" "is_toss" sToss f fd) : FnOk P w K mg base CX0 1 f fd ["state"] spToss := by
  refine F.ok scToss (fun vs H Q E h => ?_) (fun cdv A outer s H vs Q E hr h => ?_)
  · obtain ⟨t, p, rfl, _⟩ := h
    rfl
  · obtain ⟨t, p, rfl, et, q⟩ := h
    refine ⟨_, (pss_one (ps_ret (pe_cmpR op_eq (pe_ix ix_tup (pv 0) pe_int (fun _ _ => rfl)) pe_str (nomark _)))), ?_⟩
    cases p with
    | toss x y =>
      refine ⟨.ref t, rfl, t, _, 0, .str "toss", rfl, rfl, SqT.of et, atI_nat (j := 0) rfl, rfl, ?_⟩
      rw [decide_eq_true rfl]
      exact q
    | fin n =>
      refine ⟨.ref t, rfl, t, _, 0, .str "end", rfl, rfl, SqT.of et, atI_nat (j := 0) rfl, rfl, ?_⟩
      rw [decide_eq_false str_toss_end]
      exact q
    | never =>
      refine ⟨.ref t, rfl, t, _, 0, .str "never", rfl, rfl, SqT.of et, atI_nat (j := 0) rfl, rfl, ?_⟩
      rw [decide_eq_false str_toss_never]
      exact q
end
end Z

set_option Elab.async false
set_option linter.all false
set_option maxRecDepth 100000
set_option maxHeartbeats 4000000
/-! dict comprehensions: as a statement of their own, over any walk; dicts of int keys by a function -/
namespace DCX
open PySem PySem.Spec PyProof.Rows L2 GG
section
variable {X : Cx}
theorem ps_setDc {i : Nat} {y : Str} {py : Pos} {kx vx tg iter : Expr} {ifs : List Expr} {scope : Scope} {own : List (Str × Nat)} {pos spos : Pos} {wi : TI} {g : TG} {tt : TT} {tk tv : TE} (hc : X.calm = true) (hN : X.N.Nodup) (hy : X.N[i]? = some y) (hyl : X.env.scope.names.lookup y = some .local)
    (hsw : swapsWith (.DictComp kx vx [⟨tg, iter, ifs, 0⟩] scope pos) (some (.Name y py)) spos.line X.env = pure true) (hi : PI X tg iter wi) (ok : BlkOk X.N X.env.scope scope own)
    (hg : ∀ (s : Shared) (H : Hp) (C : Addr) (cl : List (Str × Addr)) (fp : List Addr), PG (X.blk s H scope (compEnvC scope cl C X.env) fp) tg g) (ht : ∀ (s : Shared) (H : Hp) (C : Addr) (cl : List (Str × Addr)) (fp : List Addr), PTs (X.blk s H scope (compEnvC scope cl C X.env) fp) ifs tt)
    (hk : ∀ (s : Shared) (H : Hp) (C : Addr) (cl : List (Str × Addr)) (fp : List Addr), PE (X.blk s H scope (compEnvC scope cl C X.env) fp) kx tk)
    (he : ∀ (s : Shared) (H : Hp) (C : Addr) (cl : List (Str × Addr)) (fp : List Addr), PE (X.blk s H scope (compEnvC scope cl C X.env) fp) vx tv) (hs : ∀ x, foldedSetIterable iter X.env x = pure x := by intro _; rfl) :
    PS X (.Assign [.Name y py] (.DictComp kx vx [⟨tg, iter, ifs, 0⟩] scope pos) spos) (tAsg (tDc wi g tt tk tv (own.map (·.2))) (gName i)) := by
  refine ⟨fun pins s σ H D I h => ?_⟩
  rw [exec_Assign_Name_used _ _ _ _ hsw]
  refine wpAny_bind (wpAny_standAt (wpAny_bind ?_))
  show wpAny _ X.A (do let _ ← comprehension (.DictComp kx vx [⟨tg, iter, ifs, 0⟩] scope pos) scope X.env (firstIterPos [⟨tg, iter, ifs, 0⟩] pos) newDict false (eval iter X.env) (some (assign (.Name y py) X.env))) _ _ s
  have h : tDc wi g tt tk tv (own.map (·.2)) σ H (fun x H1 => gName i x σ H1 D.nx) := h
  refine wpAny_bind (thn (dc_core (Qf := fun _ s' => SP X pins D .next s') hc hN I hi ok hg ht hk he hs h fun L C s' m H' I' q hn f => ?_) fun _ s' hq => wpAny_pure (wpAny_pure hq))
  show wpAny _ _ (assign (.Name y py) X.env (.ref L)) _ _ _
  refine wpAny_assign_Name (store_ok2 (v := V.ref L) I' hN hy (.inl hyl) rfl (fun s2 I2 ⟨a, sb, ha⟩ => ?_) (.inr hyl))
  obtain ⟨f0, f1, f2, f3, f4, f5⟩ := f
  have haC : C ≠ a := by
    rcases ha with z | z
    · rw [z]; exact f1
    · exact fun e => f4 y a z e.symm
  refine ⟨m, hn.sameBut sb haC, fun h3 sb3 => ?_⟩
  exact ⟨_, H', I2.turned (t' := s2.toks) (fun b o hb e => (sb3.2 b hb).trans e) f0 f1 f3 f4 f5, q⟩
theorem sw_trueD {kx vx : Expr} {gs : List Comprehension} {scope : Scope} {pos py : Pos} {y : Str} {l : Nat} {env : Env} (hk : env.scope.kind = .function) (hy : env.scope.names.lookup y = some .local) (hl : (py.line == pos.line) = true)
    (ha : (scope.names.any fun (n, k) => n == y && (k == .local || k == .cell)) = false) : swapsWith (.DictComp kx vx gs scope pos) (some (.Name y py)) l env = pure true := by
  have ky : env.kindOf y = some .local := hy
  have hb : env.blockKind = .function := by unfold Env.blockKind; rw [hk]; rfl
  unfold swapsWith
  simp only [hb, ky, ha, Expr.pos, hl]
  rfl
end
section
variable {J : It} {n : Nat} {G : Hp → Prop} {Y : Nat → Hp → V → Hp → Prop}
theorem dc_it (w : Walk J n G Y) {g : TG} {tt : TT} {tk tv : TE} {vs : List Nat} {σ : L2.St} {H1 : Hp} {D : Addr} {Qd : Hp → Prop} (Pv : Nat → Hp → Prop) (h0 : Pv 0 (upd H1 D (.dK []))) (hG : ∀ i H, i ≤ n → Pv i H → G H)
    (hs : ∀ i x H H', i < n → Pv i H → Y i H x H' → g x (wipe σ vs) H' fun σ2 H2 => wipe σ2 vs = wipe σ vs ∧ tt σ2 H2 fun b H3 =>
      if b = true then tk σ2 H3 fun y H4 => tv σ2 H4 fun z H5 => ∃ kvs k, y = kV k ∧ H5 D = some (.dK kvs) ∧ kvs.length < sizeLine ∧ Pv (i + 1) (upd H5 D (.dK (putK kvs k z))) else Pv (i + 1) H3) (hd : ∀ H, Pv n H → Qd H) :
    ∃ W : Nat → Nat → Hp → Prop, (∃ m, W 0 m (upd H1 D (.dK []))) ∧ ∀ i m H, W i m H →
      (J.stop i H ∧ Qd H) ∨ (J.go i H ∧ ∃ Nx : Hp → Prop, (∀ H', Nx H' → ∃ m', m' < m ∧ W (i + 1) m' H') ∧ ∀ x H', J.yld i H x H' → g x (wipe σ vs) H' fun σ2 H2 => wipe σ2 vs = wipe σ vs ∧ tt σ2 H2 fun b H3 =>
        if b = true then tk σ2 H3 fun y H4 => tv σ2 H4 fun z H5 => ∃ kvs k, y = kV k ∧ H5 D = some (.dK kvs) ∧ kvs.length < sizeLine ∧ Nx (upd H5 D (.dK (putK kvs k z))) else Nx H3) := by
  refine ⟨fun i m H => m = n - i ∧ i ≤ n ∧ Pv i H, ⟨n, by simp, Nat.zero_le _, h0⟩, ?_⟩
  rintro i m H ⟨rfl, hi, p⟩
  have q := hG i H hi p
  by_cases hlt : i < n
  · refine .inr ⟨w.goes i H hlt q, Pv (i + 1), fun H' p' => ⟨n - (i + 1), by omega, rfl, hlt, p'⟩, fun x H' y => hs i x H H' hlt p (w.yields i H x H' hlt q y)⟩
  · have e : i = n := by omega
    subst e
    exact .inl ⟨w.stops H q, hd H p⟩
end
/-! dicts of int keys -/
def kd (ks : List Int) (f : Int → V) : List (Key × V) := ks.map fun k => ((.inl k : Key), f k)
theorem kd_len (ks : List Int) (f : Int → V) : (kd ks f).length = ks.length := by simp [kd]
theorem kd_congr {ks : List Int} {f g : Int → V} (h : ∀ k ∈ ks, f k = g k) : kd ks f = kd ks g := List.map_congr_left fun k hk => by rw [h k hk]
theorem kd_get {ks : List Int} {f : Int → V} {i : Nat} {k : Key} {v : V} (h : (kd ks f)[i]? = some (k, v)) : ∃ z, ks[i]? = some z ∧ k = .inl z ∧ v = f z := by
  unfold kd at h
  rw [List.getElem?_map] at h
  obtain ⟨z, hz, e⟩ := Option.map_eq_some_iff.mp h
  cases e
  exact ⟨z, hz, rfl, rfl⟩
theorem kd_val (z : Int) (f : Int → V) : ∀ ks : List Int, valV (kd ks f) (.inl z) = if z ∈ ks then some (f z) else none
  | [] => rfl
  | k :: r => by
    by_cases e : k = z
    · subst e
      rw [if_pos List.mem_cons_self]
      exact valV_pos (p := ((.inl k : Key), f k)) rfl
    · show valV (((.inl k : Key), f k) :: kd r f) _ = _
      rw [valV_neg (p := ((.inl k : Key), f k)) (fun h => e (Sum.inl.inj h)), kd_val z f r]
      by_cases m : z ∈ r
      · rw [if_pos m, if_pos (List.mem_cons_of_mem _ m)]
      · rw [if_neg m, if_neg (fun h => by rcases List.mem_cons.mp h with h | h; exact e h.symm; exact m h)]
def ov (z : Int) (v : V) (f : Int → V) : Int → V := fun k => if k = z then v else f k
theorem kd_new {ks : List Int} {f : Int → V} {z : Int} {v : V} (h : z ∉ ks) : putK (kd ks f) (.inl z) v = kd (ks ++ [z]) (ov z v f) := by
  rw [putK_new v (by rw [kd_val, if_neg h])]
  unfold kd
  rw [List.map_append]
  congr 1
  · refine List.map_congr_left fun k hk => ?_
    unfold ov
    rw [if_neg (fun e => h (by rw [← e]; exact hk))]
  · show [((.inl z : Key), v)] = [((.inl z : Key), ov z v f z)]
    unfold ov
    rw [if_pos rfl]
theorem kd_old {ks : List Int} {f : Int → V} {z : Int} {v : V} (h : z ∈ ks) : putK (kd ks f) (.inl z) v = kd ks (ov z v f) := by
  unfold putK
  rw [valV_any, kd_val, if_pos h, if_pos (show (some (f z)).isSome = true from rfl)]
  unfold kd
  rw [List.map_map]
  refine List.map_congr_left fun k _ => ?_
  unfold ov
  by_cases e : k = z
  · subst e
    simp
  · show (if (Sum.inl k : Key) = Sum.inl z then _ else _) = _
    rw [if_neg (fun q => e (Sum.inl.inj q)), if_neg e]
theorem kd_put (ks : List Int) (f : Int → V) (z : Int) (v : V) : putK (kd ks f) (.inl z) v = kd (if z ∈ ks then ks else ks ++ [z]) (ov z v f) := by
  by_cases h : z ∈ ks
  · rw [if_pos h, kd_old h]
  · rw [if_neg h, kd_new h]
end DCX

set_option Elab.async false
set_option linter.all false
set_option maxRecDepth 100000
set_option maxHeartbeats 4000000
/-! operators and calls that the layer has for fewer numbers -/
namespace OPS
open PySem PySem.Spec PyProof.Rows L2
section
variable {X : Cx}
/-- a divisor of either sign -/
def CDivZ (_ j : Int) : Prop := j ≠ 0 ∧ j.natAbs.log2 < 9000
theorem op_fdivZ : OpR X (binaryOp .FloorDiv) (rI CDivZ fun i j => .int (i.fdiv j)) := opI fun _ _ _ _ _ _ _ c q => floordiv_int c.1 q (.inl (PyProof.noPylong_of_log2 c.2))
theorem call_divmodZ : CallR X (.builtin "divmod") (fun vs H Q => ∃ i j : Int, vs = [.int i, .int j] ∧ CDivZ i j ∧ ∀ p, H p = none → Q (.ref p) (upd H p (.tup [.int (i.fdiv j), .int (i.fmod j)]))) := by
  intro pins s σ H vs us Q I r h
  obtain ⟨i, j, ev, c, q⟩ := h
  subst ev
  obtain ⟨u, v, eu, ⟨t, et⟩, ⟨t', et'⟩⟩ := vals2 r
  subst eu et et'
  apply divmod_int c.1 _ (.inl (PyProof.noPylong_of_log2 c.2))
  have free : H s.heap.objs.size = none := I.hok.fresh (Nat.le_refl _)
  refine ⟨.ref s.heap.objs.size, _, I.laid (fun b o e => Heap.get?_push_of_some _ e) (Nat.le_refl _) ?_, rfl, q _ free⟩
  exact ⟨by show 2 ≤ sizeLine; decide, [.int (i.fdiv j) s.toks, .int (i.fmod j) (s.toks + 1)], .cons ⟨_, rfl⟩ (.cons ⟨_, rfl⟩ .nil), ⟨_, Heap.get?_push_size s.heap rfl, rfl, 0, rfl⟩⟩
/-- xs[i] as read ahead of xs[i] op= .. -/
theorem get_list : PGet X (fun o i H Q => ∃ (p : Addr) (xs : List V) (k : Nat) (v : V), o = .ref p ∧ i = .int (k : Int) ∧ SqL X.K H p xs ∧ xs[k]? = some v ∧ Q v H) := by
  intro pins s σ H o i ov iv Q I ro ri h
  obtain ⟨p, xs, k, v, eo, ei, hq, hv, q⟩ := h
  subst eo ei
  have eov : ov = Value.ref p := ro
  subst eov
  obtain ⟨t, et⟩ := ri
  subst et
  obtain ⟨its, r, pl, hz⟩ := I.list hq
  obtain ⟨u, hu, ru⟩ := r.get hv
  have lt : k < its.length := (List.getElem?_eq_some_iff.mp hu).1
  have hl := r.length
  have hn := line63
  refine wpAny_getItem_list pl.isList (by omega) (by omega) (x := u) (by simpa using hu) ⟨v, H, I, ru, q⟩
/-- any(xs), xs a list of ints -/
def rAnyI (K : PySem.W.Frag) : List V → Hp → VK → Prop := fun vs H Q => ∃ (a : Addr) (ns : List Int), vs = [.ref a] ∧ SqL K H a (ns.map V.int) ∧ Q (.bl (ns.any fun n => n != 0)) H
theorem dpI {K : PySem.W.Frag} {H : Hp} : ∀ ns : List Int, DpAll K H (ns.map V.int) (ns.map PyData.int)
  | [] => .nil
  | n :: r => .cons (.int n) (dpI r)
theorem plain_ints : ∀ ns : List Int, PyData.plainAll (ns.map PyData.int) = true
  | [] => rfl
  | _ :: r => by simp [PyData.plainAll, PyData.plain, plain_ints r]
theorem any_truthy : ∀ ns : List Int, (ns.map PyData.int).any PyData.truthy = ns.any fun n => n != 0
  | [] => rfl
  | n :: r => by simp [PyData.truthy, List.any_map]; rfl
theorem call_anyI (calm : X.calm = true) : CallR X (.builtin "any") (rAnyI X.K) := by
  intro pins s σ H vs us Q I r h
  obtain ⟨a, ns, ev, hs, q⟩ := h
  subst ev
  rw [Vals.ref1 r]
  obtain ⟨as, reads⟩ := Dp.reads I (.list (ns.map PyData.int)) (.ref a) (.ref a) (.lst hs (dpI ns)) rfl
  obtain ⟨its, rv, hl, _⟩ := I.list hs
  cases reads with
  | list hg hc hd hr =>
    rename_i o vs n bs
    refine PySem.W.any_list_data (vs := vs) (I.ok.hd calm) ⟨_, hg, hc, _, hd⟩ hr (plain_ints ns) (fun x hx => ?_) fun h' tk hk => ?_
    · obtain ⟨n, _, rfl⟩ := List.mem_map.mp hx
      trivial
    · exact ⟨.bl _, H, I.kept hk, by rw [any_truthy]; rfl, q⟩
end
end OPS

set_option Elab.async false
set_option linter.all false
set_option maxRecDepth 100000
set_option maxHeartbeats 4000000
/-! rules with the written part named, for use within comprehensions -/
namespace KX
open PySem PySem.Spec PyProof.Rows L2 GG
theorem ix_tupK {X : Cx} {K : PySem.W.Frag} (hK : X.K = K) : IxR X (rIxT K) := by
  subst hK
  exact ix_tup
theorem ix_listK {X : Cx} {K : PySem.W.Frag} (hK : X.K = K) : IxR X (rIxL K) := by
  subst hK
  exact ix_list
theorem call_tupK {X : Cx} {K : PySem.W.Frag} (hK : X.K = K) : CallR X (.type "tuple") (fun vs H Q => ∃ p ys, vs = [.ref p] ∧ ((SqL K H p ys ∧ ∀ l, H l = none → Q (.ref l) (upd H l (.tup ys))) ∨ (SqT K H p ys ∧ Q (.ref p) H))) := by
  subst hK
  exact call_tuple_of
theorem call_listK {X : Cx} {K : PySem.W.Frag} (hK : X.K = K) : CallR X (.type "list") (fun xs H Q => ∃ p ys, xs = [.ref p] ∧ (SqL K H p ys ∨ SqT K H p ys) ∧ ∀ l, H l = none → Q (.ref l) (upd H l (.lst ys))) := by
  subst hK
  exact call_list_of
theorem op_inK {X : Cx} {K : PySem.W.Frag} (hK : X.K = K) : OpR X (compareOp .In) (rIn K false) := by
  subst hK
  exact op_in_seq
theorem op_notInK {X : Cx} {K : PySem.W.Frag} (hK : X.K = K) : OpR X (compareOp .NotIn) (rIn K true) := by
  subst hK
  exact op_notIn_seq
end KX

set_option Elab.async false
set_option linter.all false
set_option maxRecDepth 100000
set_option maxHeartbeats 4000000
namespace KX
open PySem PySem.Spec PyProof.Rows L2 GG
theorem pi_listK {X : Cx} {K : PySem.W.Frag} {tg e : Expr} {te : TE} (hK : X.K = K) (he : PE X e te) : PI X tg e (iList K te) := by
  subst hK
  exact pi_list he
theorem pi_tupK {X : Cx} {K : PySem.W.Frag} {tg e : Expr} {te : TE} (hK : X.K = K) (he : PE X e te) : PI X tg e (iTup K te) := by
  subst hK
  exact pi_tup he
/-- over a list or a tuple -/
def SeqIt (K : PySem.W.Frag) (H : Hp) (a : Addr) (J : It) : Prop := ((∃ xs, SqL K H a xs) ∧ J = Itl K a) ∨ ((∃ xs, SqT K H a xs) ∧ J = Itt K a)
def iSeq (K : PySem.W.Frag) (tl : TE) : TI := fun σ H R => tl σ H fun x H1 => ∃ a J, x = .ref a ∧ SeqIt K H1 a J ∧ R J H1
theorem pi_seqK {X : Cx} {K : PySem.W.Frag} {tg l : Expr} {tl : TE} (hK : X.K = K) (hl : PE X l tl) : PI X tg l (iSeq K tl) := by
  subst hK
  refine ⟨fun pins s σ H R I h => ?_⟩
  refine thn (hl.run pins s σ H _ I h) fun v s1 ⟨x, H1, I1, r1, q1⟩ => ?_
  obtain ⟨a, J, e, hJ, q⟩ := q1
  subst e
  cases r1
  rcases hJ with ⟨⟨xs, hq⟩, rfl⟩ | ⟨⟨xs, hq⟩, rfl⟩
  · obtain ⟨its, rv, p, hz⟩ := I1.list hq
    refine wpAny_pyIter_list p.isList ?_
    refine ⟨s1.heap.objs.size, [s1.heap.objs.size], _, _, H1, rfl, I1.kept (t' := s1.toks) fun b o e => Heap.get?_push_of_some _ e, turn_list a _, ⟨_, Heap.get?_push_size _ rfl, rfl, rfl⟩, fun b hb => ?_, q⟩
    have e : b = s1.heap.objs.size := by simpa using hb
    subst e
    exact I1.fpOk (Nat.le_refl _) (I1.hok.fresh (Nat.le_refl _))
  · obtain ⟨its, rv, p, hz⟩ := I1.tuple hq
    refine wpAny_pyIter_tuple (show s1.heap.IsTuple a its.toArray from p) ?_
    refine ⟨s1.heap.objs.size, [s1.heap.objs.size], _, _, H1, rfl, I1.kept (t' := s1.toks) fun b o e => Heap.get?_push_of_some _ e, turn_tuple a _, ⟨_, Heap.get?_push_size _ rfl, rfl, rfl⟩, fun b hb => ?_, q⟩
    have e : b = s1.heap.objs.size := by simpa using hb
    subst e
    exact I1.fpOk (Nat.le_refl _) (I1.hok.fresh (Nat.le_refl _))
end KX

set_option Elab.async false
set_option linter.all false
set_option maxRecDepth 100000
set_option maxHeartbeats 4000000
namespace Z
open PySem PySem.Spec PyProof.Rows L2 GG DCX
abbrev sOnce : Stmt := top 19
section
variable {P : Program} {w : World} {K : PySem.W.Frag} {mg : Str → Option Value} {base : Heap}
/-! ### one toss of all -/
def gP (ps : List Pl) (z : Int) (r : List Bool) : Bool := decide (ats ps r = some z)
/-- the last toss is one of ds, from its place -/
def via (ps : List Pl) (ds : List (Int × Bool)) : List Bool → Bool
  | [] => false
  | b :: r => match ats ps r with
    | some q => decide ((q, b) ∈ ds)
    | none => false
def dsOf (ks : List Int) : List (Int × Bool) := ks.flatMap fun q => [(q, false), (q, true)]
theorem dsOf_mem {ks : List Int} {q : Int} {b : Bool} : (q, b) ∈ dsOf ks ↔ q ∈ ks := by
  unfold dsOf
  rw [List.mem_flatMap]
  constructor
  · rintro ⟨k, hk, h⟩
    simp only [List.mem_cons, List.not_mem_nil, or_false, Prod.mk.injEq] at h
    rcases h with ⟨rfl, _⟩ | ⟨rfl, _⟩ <;> exact hk
  · intro h
    refine ⟨q, h, ?_⟩
    cases b <;> simp
theorem dsOf_snoc (ks : List Int) (q : Int) : dsOf (ks ++ [q]) = dsOf ks ++ [(q, false), (q, true)] := by
  unfold dsOf
  rw [List.flatMap_append]
  rfl
def Lv (ps : List Pl) (n : Nat) (k : Int) : Prop := ∃ r, r.length = n ∧ ats ps r = some k
def rowV (ps : List Pl) (n : Nat) (ds : List (Int × Bool)) (z : Int) : List Int := cnt (n + 1) fun r => via ps ds r && gP ps z r
theorem via_at {ps : List Pl} {r : List Bool} {k : Int} (e : ats ps r = some k) (ds : List (Int × Bool)) (c : Bool) : via ps ds (c :: r) = decide ((k, c) ∈ ds) := by
  show (match ats ps r with | some q => decide ((q, c) ∈ ds) | none => false) = _
  rw [e]
theorem gP_at {ps : List Pl} {r : List Bool} {k : Int} (e : ats ps r = some k) (z : Int) (c : Bool) : gP ps z (c :: r) = decide (side ps c k = some z) := by
  show decide ((ats ps r).bind (side ps c) = some z) = _
  rw [e]
  rfl
theorem gP_no {ps : List Pl} {r : List Bool} (e : ats ps r = none) (z : Int) (c : Bool) : gP ps z (c :: r) = false := by
  show decide ((ats ps r).bind (side ps c) = some z) = _
  rw [e]
  rfl
theorem row_hit {ps : List Pl} {n : Nat} {ds : List (Int × Bool)} {q z : Int} {b : Bool} (nq : (q, b) ∉ ds) (hz : side ps b q = some z) :
    bump (if b then 1 else 0) (rowV ps n ds z) (cnt n (gP ps q)) = rowV ps n (ds ++ [(q, b)]) z := by
  refine bump_cnt fun c r _ => ?_
  cases e : ats ps r with
  | none =>
    rw [gP_no e]
    unfold gP
    rw [e]
    simp
  | some k =>
    rw [via_at e, via_at e, gP_at e]
    unfold gP
    rw [e]
    by_cases h : k = q ∧ c = b
    · obtain ⟨rfl, rfl⟩ := h
      simp [hz, nq]
    · have h1 : ¬ (k, c) = (q, b) := fun x => h (by cases x; exact ⟨rfl, rfl⟩)
      have h2 : (c == b && decide (some k = some q)) = false := by
        by_cases hc : c = b
        · have : ¬ k = q := fun x => h ⟨x, hc⟩
          simp [this]
        · simp [hc]
      rw [h2, Bool.and_false, Bool.or_false]
      have h3 : (k, c) ∈ ds ++ [(q, b)] ↔ (k, c) ∈ ds := by rw [List.mem_append, List.mem_singleton]; exact ⟨fun x => x.resolve_right h1, .inl⟩
      rw [decide_eq_decide.mpr h3]
      exact ⟨rfl, rfl⟩
theorem row_miss {ps : List Pl} {n : Nat} {ds : List (Int × Bool)} {q z z' : Int} {b : Bool} (hz : side ps b q = some z) (ne : z' ≠ z) : rowV ps n (ds ++ [(q, b)]) z' = rowV ps n ds z' := by
  unfold rowV
  refine cnt_congr fun r _ => ?_
  cases r with
  | nil => rfl
  | cons c r =>
    cases e : ats ps r with
    | none => rw [gP_no e, Bool.and_false, Bool.and_false]
    | some k =>
      rw [via_at e, via_at e, gP_at e]
      by_cases h : (k, c) = (q, b)
      · cases h
        have : ¬ z = z' := fun x => ne x.symm
        simp [hz, this]
      · have h3 : (k, c) ∈ ds ++ [(q, b)] ↔ (k, c) ∈ ds := by rw [List.mem_append, List.mem_singleton]; exact ⟨fun x => x.resolve_right h, .inl⟩
        rw [decide_eq_decide.mpr h3]
theorem row_none {ps : List Pl} {n : Nat} {ds : List (Int × Bool)} {z : Int} (h : ∀ q b, (q, b) ∈ ds → side ps b q ≠ some z) : rowV ps n ds z = List.replicate (n + 2) 0 := by
  refine cnt_zero fun r _ => ?_
  cases r with
  | nil => rfl
  | cons c r =>
    cases e : ats ps r with
    | none => rw [gP_no e, Bool.and_false]
    | some k =>
      rw [via_at e, gP_at e]
      by_cases m : (k, c) ∈ ds
      · simp [h _ _ m]
      · simp [m]
theorem side_isT {ps : List Pl} {b : Bool} {q z : Int} (h : side ps b q = some z) : (place ps q).tosses = true := by
  unfold side at h
  cases e : place ps q with
  | toss x y => rfl
  | fin n => rw [e] at h; cases h
  | never => rw [e] at h; cases h
theorem row_all {ps : List Pl} {n : Nat} {ks : List Int} {z : Int} (h : ∀ k, Lv ps n k → (place ps k).tosses = true → k ∈ ks) : rowV ps n (dsOf ks) z = cnt (n + 1) (gP ps z) := by
  refine cnt_congr fun r hr => ?_
  cases r with
  | nil => cases hr
  | cons c r =>
    cases e : ats ps r with
    | none => rw [gP_no e, Bool.and_false]
    | some k =>
      rw [via_at e, gP_at e]
      by_cases hs : side ps c k = some z
      · have := dsOf_mem (b := c).mpr (h k ⟨r, by simpa using hr, e⟩ (side_isT hs))
        simp [this]
      · simp [hs]
theorem lv_succ {ps : List Pl} {n : Nat} {z : Int} : Lv ps (n + 1) z ↔ ∃ q b, Lv ps n q ∧ side ps b q = some z := by
  constructor
  · rintro ⟨r, hr, e⟩
    cases r with
    | nil => cases hr
    | cons b r =>
      obtain ⟨q, h1, h2⟩ := Option.bind_eq_some_iff.mp e
      exact ⟨q, b, ⟨r, by simpa using hr, h1⟩, h2⟩
  · rintro ⟨q, b, ⟨r, hr, e⟩, h⟩
    refine ⟨b :: r, by simp [hr], ?_⟩
    show (ats ps r).bind (side ps b) = _
    rw [e]
    exact h
theorem Lv.inn {ps : List Pl} (hw : WF ps) {n : Nat} {k : Int} (h : Lv ps n k) : In ps k := by
  obtain ⟨r, _, e⟩ := h
  exact ats_in hw e
/-- a dict of lists of numbers, all new since H0 -/
structure Going (H0 H : Hp) (D : Addr) (ks : List Int) (A : Int → Addr) (row : Int → List Int) : Prop where
  same : Same H0 H
  fD : H0 D = none
  at_ : H D = some (.dK (kd ks fun k => .ref (A k)))
  rows : ∀ k ∈ ks, H (A k) = some (.lst ((row k).map V.int))
  fresh : ∀ k ∈ ks, H0 (A k) = none
  inj : ∀ k ∈ ks, ∀ l ∈ ks, A k = A l → k = l
  nd : ks.Nodup
theorem Going.neD {H0 H : Hp} {D : Addr} {ks : List Int} {A : Int → Addr} {row : Int → List Int} (g : Going H0 H D ks A row) {k : Int} (hk : k ∈ ks) : A k ≠ D := by
  intro e
  have := g.rows k hk
  rw [e, g.at_] at this
  cases this
theorem Going.more {H0 H H' : Hp} {D : Addr} {ks : List Int} {A : Int → Addr} {row : Int → List Int} (g : Going H0 H D ks A row) (s : Same H H') : Going H0 H' D ks A row :=
  ⟨g.same.trans s, g.fD, s _ _ g.at_, fun k hk => s _ _ (g.rows k hk), g.fresh, g.inj, g.nd⟩
theorem Going.put {H0 H : Hp} {D : Addr} {ks : List Int} {A : Int → Addr} {row : Int → List Int} (g : Going H0 H D ks A row) {z : Int} (hz : z ∈ ks) (r : List Int) : Going H0 (upd H (A z) (.lst (r.map V.int))) D ks A (fun k => if k = z then r else row k) := by
  refine ⟨fun b o e => ?_, g.fD, ?_, fun k hk => ?_, g.fresh, g.inj, g.nd⟩
  · rw [upd_ne (ne_of_none e (g.fresh z hz))]
    exact g.same _ _ e
  · rw [upd_ne (g.neD hz).symm]
    exact g.at_
  · by_cases e : k = z
    · subst e
      rw [upd_same, if_pos rfl]
    · rw [upd_ne (fun q => e (g.inj k hk z hz q)), if_neg e]
      exact g.rows k hk
theorem Going.add {H0 H : Hp} {D t : Addr} {ks : List Int} {A : Int → Addr} {row : Int → List Int} (g : Going H0 H D ks A row) {z : Int} (hz : z ∉ ks) (nt : H t = none) {r : List Int} (hr : row z = r) :
    Going H0 (upd (upd H t (.lst (r.map V.int))) D (.dK (putK (kd ks fun k => .ref (A k)) (.inl z) (.ref t)))) D (ks ++ [z]) (fun k => if k = z then t else A k) row := by
  have tD : t ≠ D := (ne_of_none g.at_ nt).symm
  have t0 : H0 t = none := g.same.free nt
  have kz : ∀ k ∈ ks, k ≠ z := fun k hk e => hz (e ▸ hk)
  have kt : ∀ k ∈ ks, A k ≠ t := fun k hk => ne_of_none (g.rows k hk) nt
  refine ⟨fun b o e => ?_, g.fD, ?_, fun k hk => ?_, fun k hk => ?_, fun k hk l hl e => ?_, ?_⟩
  · rw [upd_ne (ne_of_none e g.fD), upd_ne (ne_of_none e t0)]
    exact g.same _ _ e
  · rw [upd_same, kd_new hz]
    refine congrArg (fun x => some (HO.dK x)) (kd_congr fun k _ => ?_)
    unfold ov
    split <;> rfl
  · rcases List.mem_append.mp hk with hk | hk
    · show upd _ D _ (if k = z then t else A k) = _
      rw [if_neg (kz k hk), upd_ne (g.neD hk), upd_ne (kt k hk)]
      exact g.rows k hk
    · rw [List.mem_singleton.mp hk]
      show upd _ D _ (if z = z then t else A z) = _
      rw [if_pos rfl, upd_ne tD, upd_same, hr]
  · rcases List.mem_append.mp hk with hk | hk
    · show H0 (if k = z then t else A k) = none
      rw [if_neg (kz k hk)]
      exact g.fresh k hk
    · rw [List.mem_singleton.mp hk]
      show H0 (if z = z then t else A z) = none
      rw [if_pos rfl]
      exact t0
  · have e : (if k = z then t else A k) = (if l = z then t else A l) := e
    rcases List.mem_append.mp hk with hk | hk
    · rw [if_neg (kz k hk)] at e
      rcases List.mem_append.mp hl with hl | hl
      · rw [if_neg (kz l hl)] at e
        exact g.inj k hk l hl e
      · rw [if_pos (List.mem_singleton.mp hl)] at e
        exact absurd e (kt k hk)
    · rw [if_pos (List.mem_singleton.mp hk)] at e
      rcases List.mem_append.mp hl with hl | hl
      · rw [if_neg (kz l hl)] at e
        exact absurd e.symm (kt l hl)
      · rw [List.mem_singleton.mp hk, List.mem_singleton.mp hl]
  · rw [List.nodup_append]
    refine ⟨g.nd, by simp, fun a ha c hc => ?_⟩
    rw [List.mem_singleton.mp hc]
    exact kz a ha
theorem Going.rowsEq {H0 H : Hp} {D : Addr} {ks : List Int} {A : Int → Addr} {row row' : Int → List Int} (g : Going H0 H D ks A row) (h : ∀ k ∈ ks, row k = row' k) : Going H0 H D ks A row' :=
  ⟨g.same, g.fD, g.at_, fun k hk => by rw [← h k hk]; exact g.rows k hk, g.fresh, g.inj, g.nd⟩
/-- the places that n tosses lead to, with their numbers of tapes, in a dict at D -/
structure Gd (ps : List Pl) (n : Nat) (H : Hp) (D : Addr) (ks : List Int) (A : Int → Addr) : Prop where
  at_ : H D = some (.dK (kd ks fun k => .ref (A k)))
  rows : ∀ k ∈ ks, H (A k) = some (.lst ((cnt n (gP ps k)).map V.int))
  nd : ks.Nodup
def spOnce : Sp := fun vs H Q _ => ∃ (m t : Addr) (n : Nat) (ps : List Pl) (ks : List Int) (A : Int → Addr), vs = [.ref m, .ref t, .int (n : Nat)] ∧ Mach H m ps ∧ WF ps ∧ n ≤ 100 ∧ Gd ps n H t ks A ∧ (∀ k, k ∈ ks ↔ Lv ps n k ∧ (place ps k).tosses = true) ∧
  ∀ (D : Addr) (ks' : List Int) (A' : Int → Addr) H', Same H H' → H D = none → (∀ k ∈ ks', H (A' k) = none) → Gd ps (n + 1) H' D ks' A' → (∀ k, k ∈ ks' ↔ Lv ps (n + 1) k) → Q (.ref D) H'
theorem scOnce : FnScope ["machine", "tossing", "used", "going", "index", "added", "successor", "heads", "count"] ["machine", "tossing", "used"] (defScope sOnce) := ⟨rfl, rfl, rfl, by decide +kernel, rfl, by decide +kernel, by decide +kernel⟩
theorem ok_once {f : Addr} {fd : FuncData} (F : Fun K "toss_once" "toss_once" sOnce f fd) (mE : mg "enumerate" = none) : FnOk P w K mg base CX0 1 f fd ["machine", "tossing", "used"] spOnce := by
  refine F.ok scOnce (fun vs H Q E h => ?_) (fun cdv A outer s H vs Q E hr h => ?_)
  · obtain ⟨m, t, n, ps, ks, A, rfl, _⟩ := h
    rfl
  · obtain ⟨m, t, n, ps, ks, B, rfl, hm, hw, hn, gd, hks, q⟩ := h
    have hu64 : A.units + 3 + 64 < cLine := hr.units
    have hu : A.units + 3 + 1 < cLine := by omega
    refine ⟨_, (pss_cons (ps_set (i := 3) scOnce.nd rfl (.inl rfl) pe_dnewK)
      (pss_cons (ps_lock (ps_for PassesOwn.never rfl (pi_keys (pv 1)) (pg_name (i := 4) scOnce.nd rfl (.inl rfl)) (pss_one (ps_for PassesOwn.never rfl (EN.pi_pairs (by rfl) mE (pa_cons (pe_tup (pa_cons (pe_ix ix_tup (pe_ix ix_tup (pv 0) (pv 4) (fun _ _ => rfl)) pe_int (fun _ _ => rfl)) (pa_cons (pe_ix ix_tup (pe_ix ix_tup (pv 0) (pv 4) (fun _ _ => rfl)) pe_int (fun _ _ => rfl)) pa_nil))) pa_nil)) (pg_tup rfl (pgs_cons (pg_name (i := 5) scOnce.nd rfl (.inl rfl)) (pgs_cons (pg_name (i := 6) scOnce.nd rfl (.inl rfl)) pgs_nil))) (pss_cons (ps_if (pt_cmp (pc_dnotin hu (pv 6) (pv 3))) (pss_one (ps_dput hu (pv 3) (pv 6) (pe_op op_rep (pe_lst (pa_cons pe_int pa_nil)) (pe_op op_add (pv 2) pe_int)) rfl)) pss_nil)
      (pss_one (ps_for PassesOwn.never rfl (pi_enum (by rfl) mE (pa_cons (pe_dget hu (pv 1) (pv 4) (fun _ _ => rfl)) pa_nil)) (pg_tup rfl (pgs_cons (pg_name (i := 7) scOnce.nd rfl (.inl rfl)) (pgs_cons (pg_name (i := 8) scOnce.nd rfl (.inl rfl)) pgs_nil))) (pss_one (ps_augS (pe_dget hu (pv 3) (pv 6) (fun _ _ => rfl)) (pe_op op_add (pv 7) (pv 5)) OPS.get_list (pv 8) ip_add set_list)))))))))
      (pss_one (ps_ret (pv 3))))), ?_⟩
    refine fun D nD => ?_
    have nDt : D ≠ t := (ne_of_none gd.at_ nD).symm
    refine ⟨t, _, (Same.upd nD) _ _ gd.at_, trivial, fun od => ?_⟩
    obtain ⟨HL, eHL⟩ : ∃ HL, HL = upd H t (.frz od (.dK (kd ks fun k => .ref (B k)))) := ⟨_, rfl⟩
    have lt : HL t = some (.frz od (.dK (kd ks fun k => .ref (B k)))) := by rw [eHL]; exact upd_same
    have lne : ∀ b, b ≠ t → HL b = H b := fun b hb => by rw [eHL, upd_ne hb]
    have g0 : Going HL (upd (upd H D (.dK [])) t (.frz od (.dK (kd ks fun k => .ref (B k))))) D [] (fun _ => D) (rowV ps n []) := by
      refine ⟨fun b o e => ?_, by rw [lne D nDt]; exact nD, by rw [upd_ne nDt]; exact upd_same, fun k hk => (List.not_mem_nil hk).elim, fun k hk => (List.not_mem_nil hk).elim, fun k hk => (List.not_mem_nil hk).elim, .nil⟩
      by_cases hb : b = t
      · subst hb
        rw [lt] at e
        rw [upd_same]
        exact e
      · rw [lne b hb] at e
        rw [upd_ne hb, upd_ne (ne_of_none e nD)]
        exact e
    change (_ : Hp → Prop) (upd (upd H D (.dK [])) t (.frz od (.dK (kd ks fun k => .ref (B k)))))
    generalize upd (upd H D (.dK [])) t (.frz od (.dK (kd ks fun k => .ref (B k)))) = H1 at g0 ⊢
    have line : sizeLine = 16777216 := by decide
    have hl := hw.le
    refine ⟨_, rfl, t, od, rfl, .inl ⟨_, g0.same _ _ lt, for_it walk_keys (fun i σ H' => ∃ (v4 v5 v6 v7 v8 : Option V) (ks' : List Int) (A' : Int → Addr), σ = [some (V.ref m), some (V.ref t), some (V.int (n : Nat)), some (V.ref D), v4, v5, v6, v7, v8] ∧ Going HL H' D ks' A' (rowV ps n (dsOf (ks.take i))) ∧ ∀ z, z ∈ ks' ↔ ∃ q b, (q, b) ∈ dsOf (ks.take i) ∧ side ps b q = some z)
      ⟨_, _, _, _, _, [], _, rfl, g0, fun z => ⟨fun h => (List.not_mem_nil h).elim, fun ⟨q, b, h, _⟩ => (List.not_mem_nil h).elim⟩⟩ (fun i σ H' _ ⟨_, _, _, _, _, _, _, _, g, _⟩ => g.same _ _ lt) ?_ ?_⟩⟩
    · rintro i x σ H2 H2' hi ⟨v4, v5, v6, v7, v8, ks', A', rfl, g, hk'⟩ ⟨rfl, kk, vv, hkk, rfl⟩
      obtain ⟨k, hk, rfl, rfl⟩ := kd_get hkk
      have hkm : k ∈ ks := List.mem_of_getElem? hk
      obtain ⟨hlv, htoss⟩ := (hks k).mp hkm
      have hkin := hlv.inn hw
      obtain ⟨x, y, exy⟩ : ∃ x y, place ps k = .toss x y := by
        cases e : place ps k with
        | toss x y => exact ⟨x, y, rfl⟩
        | fin n => rw [e] at htoss; cases htoss
        | never => rw [e] at htoss; cases htoss
      have sx : side ps true k = some x := by unfold side; rw [exy]; rfl
      have sy : side ps false k = some y := by unfold side; rw [exy]; rfl
      have hmL : Mach HL m ps := hm.mono fun b xs e => by
        rw [lne b (by rintro rfl; rw [gd.at_] at e; cases e)]
        exact e
      obtain ⟨rs, tt, em, ea, et⟩ := (hmL.same g.same).at hw hkin.1 hkin.2
      rw [exy] at et
      have hln : ks.length ≤ 30 := Nat.le_trans (nodup_len ps.length ks gd.nd fun k hk => ((hks k).mp hk).1.inn hw) hw.le
      have hB : HL (B k) = some (.lst ((cnt n (gP ps k)).map V.int)) := by
        rw [lne _ (by intro e; have := gd.rows k hkm; rw [e, gd.at_] at this; cases this)]
        exact gd.rows k hkm
      have tk : ks.take (i + 1) = ks.take i ++ [k] := by rw [List.take_succ, hk]; rfl
      have nk : ∀ b, (k, b) ∉ dsOf (ks.take i) := fun b h => by
        have h := dsOf_mem.mp h
        have nd := gd.nd.sublist (List.take_sublist (i + 1) ks)
        rw [tk, List.nodup_append] at nd
        exact nd.2.2 k h k List.mem_cons_self rfl
      refine ⟨_, rfl, _, rfl, m, rs, k, .ref tt, rfl, rfl, SqT.of em, ea, tt, _, 2, .int y, rfl, rfl, SqT.of et, atI_nat (j := 2) rfl, _, rfl, _, rfl, m, rs, k, .ref tt, rfl, rfl, SqT.of em, ea, tt, _, 1, .int x, rfl, rfl, SqT.of et, atI_nat (j := 1) rfl, by show 2 ≤ sizeLine; decide, fun T0 n0 => ?_⟩
      have g1 := g.more (Same.upd (o := .tup [V.int y, .int x]) n0)
      have f0 : upd H2' T0 (.tup [V.int y, .int x]) T0 = some (.tup [V.int y, .int x]) := upd_same
      change (_ : Hp → Prop) (upd H2' T0 (.tup [V.int y, .int x]))
      have n0' : HL T0 = none := g.same.free n0
      have kA : ∀ k ∈ ks', A' k ≠ T0 := fun k hk => ne_of_none (g.rows k hk) n0
      generalize upd H2' T0 (.tup [V.int y, .int x]) = H3 at g1 f0 ⊢
      refine ⟨T0, _, rfl, SqT.of f0, EN.for_pairs (K := K) (xs := [V.int y, .int x]) (fun j σ H' => ∃ (v5 v6 v7 v8 : Option V) (ks' : List Int) (A' : Int → Addr), σ = [some (V.ref m), some (V.ref t), some (V.int (n : Nat)), some (V.ref D), some (V.int k), v5, v6, v7, v8] ∧ Going HL H' D ks' A' (rowV ps n (dsOf (ks.take i) ++ [(k, false), (k, true)].take j)) ∧ (∀ z, z ∈ ks' ↔ ∃ q b, (q, b) ∈ dsOf (ks.take i) ++ [(k, false), (k, true)].take j ∧ side ps b q = some z) ∧ H' T0 = some (.tup [V.int y, .int x]) ∧ ∀ k ∈ ks', A' k ≠ T0)
        ⟨_, _, _, _, ks', A', rfl, by rw [List.take_zero, List.append_nil]; exact g1, by rw [List.take_zero, List.append_nil]; exact hk', f0, kA⟩ (fun j σ H' _ ⟨_, _, _, _, _, _, _, _, _, h, _⟩ => SqT.of h) ?_ ?_⟩
      · rintro j v σ H4 Tj hj ⟨v5, v6, v7, v8, ks', A', rfl, g4, hk4, f4, kA4⟩ nTj
        obtain ⟨b, z, rfl, hside, etk, eoff, hj2⟩ : ∃ (b : Bool) (z : Int), v = .int z ∧ side ps b k = some z ∧ [(k, false), (k, true)].take (j + 1) = [(k, false), (k, true)].take j ++ [(k, b)] ∧ ((j : Nat) : Int) = (if b then 1 else 0 : Nat) ∧ (k, b) ∉ [(k, false), (k, true)].take j := by
          match j, hj with
          | 0, hj =>
            cases hj
            exact ⟨false, y, rfl, sy, rfl, rfl, by simp⟩
          | 1, hj =>
            cases hj
            exact ⟨true, x, rfl, sx, rfl, rfl, by simp⟩
          | j + 2, hj => cases hj
        obtain ⟨ds, eds⟩ : ∃ ds, ds = dsOf (ks.take i) ++ [(k, false), (k, true)].take j := ⟨_, rfl⟩
        have ends : dsOf (ks.take i) ++ [(k, false), (k, true)].take (j + 1) = ds ++ [(k, b)] := by rw [etk, eds, List.append_assoc]
        rw [ends]
        rw [← eds] at g4 hk4
        have nds : (k, b) ∉ ds := by
          rw [eds]
          intro h
          rcases List.mem_append.mp h with h | h
          · exact nk b h
          · exact hj2 h
        have zin := side_in hw hkin hside
        have g5 := g4.more (Same.upd (o := .tup [V.int (j : Nat), .int z]) nTj)
        have f5 := (Same.upd (o := .tup [V.int (j : Nat), .int z]) nTj) _ _ f4
        have e5 : upd H4 Tj (.tup [V.int (j : Nat), .int z]) Tj = some (.tup [V.int (j : Nat), .int z]) := upd_same
        generalize upd H4 Tj (.tup [V.int (j : Nat), .int z]) = H5 at g5 f5 e5 ⊢
        refine ⟨Tj, _, rfl, SqT.of e5, rfl, _, _, rfl, _, _, rfl, rfl, ?_⟩
        have hkl : ks'.length ≤ 30 := Nat.le_trans (nodup_len ps.length ks' g4.nd fun z hz => by
          obtain ⟨q, b, h1, h2⟩ := (hk4 z).mp hz
          rw [eds] at h1
          refine side_in hw ?_ h2
          rcases List.mem_append.mp h1 with h1 | h1
          · exact ((hks q).mp (List.mem_of_mem_take (dsOf_mem.mp h1))).1.inn hw
          · have := List.mem_of_mem_take h1
            simp only [List.mem_cons, List.not_mem_nil, or_false, Prod.mk.injEq] at this
            rcases this with ⟨rfl, _⟩ | ⟨rfl, _⟩ <;> exact hkin) hw.le
        dsimp only
        refine on (if_tail (fun σ H' => ∃ (ks'' : List Int) (A'' : Int → Addr), σ = [some (V.ref m), some (V.ref t), some (V.int (n : Nat)), some (V.ref D), some (V.int k), some (V.int (j : Nat)), some (V.int z), v7, v8] ∧ Going HL H' D ks'' A'' (rowV ps n ds) ∧ z ∈ ks'' ∧ (∀ z', z' ∈ ks'' ↔ z' ∈ ks' ∨ z' = z) ∧ H' T0 = some (.tup [V.int y, .int x]) ∧ ∀ k ∈ ks'', A'' k ≠ T0) ?_ (fun tl => ?_))
        rotate_left
        · refine ⟨_, rfl, _, rfl, D, _, rfl, DGet.k (k := .inl z) g5.at_, _, rfl, ?_⟩
          rw [kd_val]
          by_cases hz : z ∈ ks'
          · rw [if_pos hz]
            exact iteF (tl _ _ ⟨ks', A', rfl, g5, hz, fun z' => ⟨.inl, fun h => by rcases h with h | rfl; exact h; exact hz⟩, f5, kA4⟩)
          · rw [if_neg hz]
            refine iteT ⟨by show 1 ≤ sizeLine; decide, fun L nL => ?_⟩
            have g6 := g5.more (Same.upd (o := .lst [V.int 0]) nL)
            have f6 := (Same.upd (o := .lst [V.int 0]) nL) _ _ f5
            have e6 : upd H5 L (.lst [V.int 0]) L = some (.lst [V.int 0]) := upd_same
            change (_ : Hp → Prop) (upd H5 L (.lst [V.int 0]))
            generalize upd H5 L (.lst [V.int 0]) = H6 at g6 f6 e6 ⊢
            refine ⟨_, rfl, _, _, rfl, rfl, L, _, _, rfl, rfl, e6, by omega, by omega, by show 1 * ((n : Nat) + 2 : Int).toNat ≤ sizeLine; omega, fun p np => ?_⟩
            have n2 : ((n : Nat) + 2 : Int).toNat = n + 2 := by omega
            have er : rowV ps n ds z = List.replicate (n + 2) 0 := row_none fun q b hq hs => hz ((hk4 z).mpr ⟨q, b, hq, hs⟩)
            have ev : (List.replicate ((n : Nat) + 2 : Int).toNat [V.int 0]).flatten = (List.replicate (n + 2) (0 : Int)).map V.int := by
              rw [n2, List.map_replicate]
              generalize n + 2 = k
              induction k with
              | zero => rfl
              | succ k ih => rw [List.replicate_succ, List.flatten_cons, ih]; rfl
            try rw [ev]
            refine ⟨_, rfl, _, rfl, D, _, rfl, DPut.k (k := .inl z) ((Same.upd np) _ _ g6.at_) (by rw [kd_len]; omega), tl _ _ ⟨ks' ++ [z], _, rfl, g6.add hz np er, List.mem_append_right _ List.mem_cons_self, fun z' => by rw [List.mem_append, List.mem_singleton], ?_, fun k' hk' => ?_⟩⟩
            · rw [upd_ne (ne_of f6 g6.at_ (by intro z; cases z)), upd_ne (ne_of_none f6 np)]
              exact f6
            · show (if k' = z then p else A' k') ≠ T0
              rcases List.mem_append.mp hk' with h | h
              · rw [if_neg (show ¬ k' = z from fun e => hz (e ▸ h))]
                exact kA4 k' h
              · rw [if_pos (List.mem_singleton.mp h)]
                exact (ne_of_none f6 np).symm
        · rintro σ H6 ⟨ks'', A'', rfl, g6, hz, hkk6, f6, kA6⟩
          have hz0 := hz
          refine ⟨_, rfl, _, rfl, t, _, rfl, .inl ⟨_, .inl k, .inr ⟨od, g6.same _ _ lt⟩, rfl, by rw [kd_val, if_pos hkm]⟩, B k, _, rfl, SqL.of (g6.same _ _ hB), ?_⟩
          have cl : (cnt n (gP ps k)).length = n + 1 := cnt_len _ _
          have rl : (rowV ps n ds z).length = n + 2 := cnt_len _ _
          refine for_it (walk_enum (K := K) (a := B k) (xs := (cnt n (gP ps k)).map V.int)) (fun l σ H' => ∃ (v7 v8 : Option V), σ = [some (V.ref m), some (V.ref t), some (V.int (n : Nat)), some (V.ref D), some (V.int k), some (V.int (j : Nat)), some (V.int z), v7, v8] ∧ Going HL H' D ks'' A'' (fun k' => if k' = z then bump (if b then 1 else 0) (rowV ps n ds z) ((cnt n (gP ps k)).take l) else rowV ps n ds k') ∧ H' T0 = some (.tup [V.int y, V.int x])) ⟨v7, v8, rfl, g6.rowsEq fun k' _ => ?_, f6⟩ (fun l σ H' _ ⟨_, _, _, h, _⟩ => SqL.of (h.same _ _ hB)) ?_ ?_
          · rw [List.take_zero, bump_nil]
            split
            · rename_i e; rw [e]
            · rfl
          · rintro l xx σ H7 H7' hl' ⟨v7, v8, rfl, g7, f7⟩ ⟨T1, x1, y1, rfl, nT1, rfl, ex1, ey1⟩
            have ex1 := Option.some.inj ex1
            subst ex1
            rw [List.length_map, cl] at hl'
            obtain ⟨c, hc, rfl⟩ : ∃ c, (cnt n (gP ps k))[l]? = some c ∧ V.int c = y1 := by
              replace ey1 : (List.map V.int (cnt n (gP ps k)))[l]? = some y1 := ey1
              rw [List.getElem?_map] at ey1
              obtain ⟨c, h1, h2⟩ := Option.map_eq_some_iff.mp ey1
              exact ⟨c, h1, h2⟩
            have g8 := g7.more (Same.upd (o := .tup [V.int (l : Nat), .int c]) nT1)
            have f8 := (Same.upd (o := .tup [V.int (l : Nat), .int c]) nT1) _ _ f7
            have e8 : upd H7 T1 (.tup [V.int (l : Nat), .int c]) T1 = some (.tup [V.int (l : Nat), .int c]) := upd_same
            generalize upd H7 T1 (.tup [V.int (l : Nat), .int c]) = H8 at g8 f8 e8 ⊢
            have off : l + (if b then 1 else 0) < (rowV ps n ds z).length := by
              rw [rl]
              cases b
              · rw [if_neg (by decide)]; omega
              · rw [if_pos rfl]; omega
            have hrow := g8.rows z hz
            rw [if_pos rfl] at hrow
            obtain ⟨u, hu'⟩ : ∃ u, (bump (if b then 1 else 0) (rowV ps n ds z) ((cnt n (gP ps k)).take l))[l + (if b then 1 else 0)]? = some u := ⟨_, List.getElem?_eq_getElem (by rw [bump_len]; exact off)⟩
            have eidx : ((l : Nat) : Int) + ((j : Nat) : Int) = ((l + (if b then 1 else 0) : Nat) : Int) := by rw [eoff]; omega
            refine ⟨T1, _, rfl, SqT.of e8, rfl, _, _, rfl, _, _, rfl, rfl, _, rfl, _, rfl, D, _, rfl, by rw [show some (V.ref (A'' z)) = valV (kd ks'' fun k => V.ref (A'' k)) (.inl z) by rw [kd_val, if_pos hz]]; exact DGet.k (k := .inl z) g8.at_, _, rfl, _, rfl, _, _, rfl, rfl, ?_⟩
            refine ⟨A'' z, _, _, .int u, rfl, congrArg V.int eidx, SqL.of hrow, by rw [List.getElem?_map, hu']; rfl, _, rfl, _, _, rfl, rfl, A'' z, _, _, l + (if b then 1 else 0), rfl, rfl, hrow, by rw [List.length_map, bump_len, eidx]; exact ixN_nat off, ?_⟩
            have hc' : l < (cnt n (gP ps k)).length := by rw [cl]; exact hl'
            have step := bump_step (off := if b then 1 else 0) (row := rowV ps n ds z) hc off hu'
            refine ⟨_, _, rfl, ?_, by rw [upd_ne (kA6 z hz).symm]; exact f8⟩
            have g9 := g8.put hz ((bump (if b then 1 else 0) (rowV ps n ds z) ((cnt n (gP ps k)).take (l + 1))))
            rw [← step, List.map_set] at g9
            refine g9.rowsEq fun k' _ => ?_
            by_cases e : k' = z
            · subst e
              rw [if_pos rfl, if_pos rfl]
              exact step
            · rw [if_neg e, if_neg e, if_neg e]
          · rintro σ H7 ⟨v7, v8, rfl, g7, f7⟩
            rw [List.length_map, cl, ← cl, List.take_length] at g7
            refine ⟨_, _, _, _, ks'', A'', rfl, g7.rowsEq fun k' _ => ?_, fun z' => ?_, f7, kA6⟩
            · by_cases e : k' = z
              · subst e
                rw [if_pos rfl]
                exact row_hit nds hside
              · rw [if_neg e, row_miss hside e]
            · rw [hkk6, hk4]
              constructor
              · rintro (⟨q, b', h1, h2⟩ | rfl)
                · exact ⟨q, b', List.mem_append_left _ h1, h2⟩
                · exact ⟨k, b, List.mem_append_right _ List.mem_cons_self, hside⟩
              · rintro ⟨q, b', h1, h2⟩
                rcases List.mem_append.mp h1 with h1 | h1
                · exact .inl ⟨q, b', h1, h2⟩
                · cases List.mem_singleton.mp h1
                  rw [hside] at h2
                  exact .inr (Option.some.inj h2).symm
      · rintro σ H4 ⟨v5, v6, v7, v8, ks', A', rfl, g4, hk4, f4, kA4⟩
        have e : dsOf (ks.take (i + 1)) = dsOf (ks.take i) ++ [(k, false), (k, true)].take 2 := by rw [tk, dsOf_snoc]; rfl
        exact ⟨_, _, _, _, _, ks', A', rfl, by rw [e]; exact g4, by rw [e]; exact hk4⟩
    · rintro σ H2 ⟨v4, v5, v6, v7, v8, ks', A', rfl, g, hk'⟩
      rw [kd_len, List.take_length] at g hk'
      have eall : ∀ z, rowV ps n (dsOf ks) z = cnt (n + 1) (gP ps z) := fun z => row_all fun k h1 h2 => (hks k).mpr ⟨h1, h2⟩
      have s2 : Same H (upd H2 t (.dK (kd ks fun k => .ref (B k)))) := fun b o e => by
        by_cases hb : b = t
        · subst hb
          rw [upd_same, ← gd.at_]
          exact e
        · rw [upd_ne hb]
          exact g.same _ _ (by rw [lne b hb]; exact e)
      have nA : ∀ k ∈ ks', A' k ≠ t := fun k hk e => by
        have := g.fresh k hk
        rw [e, lt] at this
        cases this
      refine ⟨g.same _ _ lt, _, rfl, q D ks' A' _ s2 nD (fun k hk => ?_) ⟨?_, fun k hk => ?_, g.nd⟩ fun z => ?_⟩
      · rw [← lne _ (nA k hk)]
        exact g.fresh k hk
      · rw [upd_ne nDt]
        exact g.at_
      · rw [upd_ne (nA k hk), ← eall]
        exact g.rows k hk
      · rw [hk', lv_succ]
        constructor
        · rintro ⟨q, b, h1, h2⟩
          exact ⟨q, b, ((hks q).mp (dsOf_mem.mp h1)).1, h2⟩
        · rintro ⟨q, b, h1, h2⟩
          exact ⟨q, b, dsOf_mem.mpr ((hks q).mpr ⟨h1, side_isT h2⟩), h2⟩
end
end Z

set_option Elab.async false
set_option linter.all false
set_option maxRecDepth 100000
set_option maxHeartbeats 4000000
namespace Z
open PySem PySem.Spec PyProof.Rows L2 GG DCX
abbrev sStop : Stmt := top 18
/-! ### the tapes that are stopped -/
def ansP : Pl → Option Int
  | .fin n => some n
  | .never => some (-1)
  | .toss _ _ => none
structure St (L : Nat) (H : Hp) (D : Addr) (as : List Int) (A : Int → Addr) (B : Int → Nat → Addr) (row : Int → Nat → List Int) : Prop where
  at_ : H D = some (.dK (kd as fun a => .ref (A a)))
  lists : ∀ a ∈ as, H (A a) = some (.lst ((List.range (L + 1)).map fun j => .ref (B a j)))
  rows : ∀ a ∈ as, ∀ j, j ≤ L → H (B a j) = some (.lst ((row a j).map V.int))
  inj : ∀ a ∈ as, ∀ j, j ≤ L → ∀ a' ∈ as, ∀ j', j' ≤ L → B a j = B a' j' → a = a' ∧ j = j'
  nd : as.Nodup
  zero : ∀ a, a ∉ as → ∀ j, row a j = List.replicate (j + 1) 0
  len : ∀ a j, (row a j).length = j + 1
def Fp (L : Nat) (D : Addr) (as : List Int) (A : Int → Addr) (B : Int → Nat → Addr) (b : Addr) : Prop := b = D ∨ ∃ a ∈ as, b = A a ∨ ∃ j, j ≤ L ∧ b = B a j
section
variable {L : Nat} {H H' : Hp} {D : Addr} {as : List Int} {A : Int → Addr} {B : Int → Nat → Addr} {row : Int → Nat → List Int}
theorem St.AB (s : St L H D as A B row) {a a' : Int} (h : a ∈ as) (h' : a' ∈ as) {j : Nat} (hj : j ≤ L) : A a ≠ B a' j := by
  intro e
  have h1 := s.lists a h
  rw [e, s.rows a' h' j hj] at h1
  have h1 := HO.lst.inj (Option.some.inj h1)
  rw [show L + 1 = 0 + 1 + L by omega] at h1
  have hl := s.len a' j
  cases q : row a' j with
  | nil => rw [q] at hl; cases hl
  | cons x r =>
    rw [q] at h1
    have h2 := congrArg List.head? h1
    rw [List.map_cons, List.head?_cons] at h2
    rw [List.head?_map, show 0 + 1 + L = L + 1 by omega, List.range_succ_eq_map, List.head?_cons] at h2
    cases h2
theorem St.AD (s : St L H D as A B row) {a : Int} (h : a ∈ as) : A a ≠ D := ne_of (s.lists a h) s.at_ (by intro z; cases z)
theorem St.BD (s : St L H D as A B row) {a : Int} (h : a ∈ as) {j : Nat} (hj : j ≤ L) : B a j ≠ D := ne_of (s.rows a h j hj) s.at_ (by intro z; cases z)
theorem St.more (s : St L H D as A B row) (f : ∀ b o, H b = some o → Fp L D as A B b → H' b = some o) : St L H' D as A B row :=
  ⟨f _ _ s.at_ (.inl rfl), fun a h => f _ _ (s.lists a h) (.inr ⟨a, h, .inl rfl⟩), fun a h j hj => f _ _ (s.rows a h j hj) (.inr ⟨a, h, .inr ⟨j, hj, rfl⟩⟩), s.inj, s.nd, s.zero, s.len⟩
theorem St.same (s : St L H D as A B row) (f : Same H H') : St L H' D as A B row := s.more fun b o e _ => f b o e
theorem St.live (s : St L H D as A B row) {b : Addr} (f : Fp L D as A B b) : H b ≠ none := by
  intro e
  rcases f with rfl | ⟨a, h, rfl | ⟨j, hj, rfl⟩⟩
  · rw [s.at_] at e; cases e
  · rw [s.lists a h] at e; cases e
  · rw [s.rows a h j hj] at e; cases e
def rowPut (row : Int → Nat → List Int) (a : Int) (j : Nat) (r : List Int) : Int → Nat → List Int := fun a' j' => if a' = a ∧ j' = j then r else row a' j'
theorem St.put (s : St L H D as A B row) {a : Int} (h : a ∈ as) {j : Nat} (hj : j ≤ L) {r : List Int} (hr : r.length = j + 1) : St L (upd H (B a j) (.lst (r.map V.int))) D as A B (rowPut row a j r) := by
  refine ⟨?_, fun a' h' => ?_, fun a' h' j' hj' => ?_, s.inj, s.nd, fun a' h' j' => ?_, fun a' j' => ?_⟩
  · rw [upd_ne (s.BD h hj).symm]
    exact s.at_
  · rw [upd_ne (s.AB h' h hj)]
    exact s.lists a' h'
  · unfold rowPut
    by_cases e : a' = a ∧ j' = j
    · obtain ⟨rfl, rfl⟩ := e
      rw [upd_same, if_pos ⟨rfl, rfl⟩]
    · rw [if_neg e, upd_ne (fun q => e (s.inj a' h' j' hj' a h j hj q))]
      exact s.rows a' h' j' hj'
  · unfold rowPut
    rw [if_neg (show ¬ (a' = a ∧ j' = j) from fun e => h' (e.1 ▸ h))]
    exact s.zero a' h' j'
  · unfold rowPut
    split
    · rename_i e
      rw [hr, e.2]
    · exact s.len a' j'
theorem St.add (s : St L H D as A B row) {a : Int} (h : a ∉ as) {p : Addr} {b : Nat → Addr} (f : Same H H') (np : H p = none) (nb : ∀ j, j ≤ L → H (b j) = none) (ep : H' p = some (.lst ((List.range (L + 1)).map fun j => .ref (b j))))
    (eb : ∀ j, j ≤ L → H' (b j) = some (.lst ((List.replicate (j + 1) (0 : Int)).map V.int))) (bi : ∀ j, j ≤ L → ∀ j', j' ≤ L → b j = b j' → j = j') :
    St L (upd H' D (.dK (putK (kd as fun a => .ref (A a)) (.inl a) (.ref p)))) D (as ++ [a]) (fun k => if k = a then p else A k) (fun k => if k = a then b else B k) row := by
  have pD : p ≠ D := (ne_of_none s.at_ np).symm
  have bD : ∀ j, j ≤ L → b j ≠ D := fun j hj => (ne_of_none s.at_ (nb j hj)).symm
  have ka : ∀ k ∈ as, k ≠ a := fun k hk e => h (e ▸ hk)
  have mem : ∀ k, k ∈ as ++ [a] → k ∈ as ∨ k = a := fun k hk => (List.mem_append.mp hk).imp_right List.mem_singleton.mp
  refine ⟨?_, fun k hk => ?_, fun k hk j hj => ?_, fun k hk j hj k' hk' j' hj' e => ?_, ?_, fun k hk => s.zero k fun q => hk (List.mem_append_left _ q), s.len⟩
  · rw [upd_same, kd_new h]
    refine congrArg (fun x => some (HO.dK x)) (kd_congr fun k _ => ?_)
    unfold ov
    split <;> rfl
  · rcases mem k hk with hk | rfl
    · rw [if_neg (ka k hk), if_neg (ka k hk), upd_ne (s.AD hk)]
      exact f _ _ (s.lists k hk)
    · rw [if_pos rfl, if_pos rfl, upd_ne pD]
      exact ep
  · rcases mem k hk with hk | rfl
    · rw [if_neg (ka k hk), upd_ne (s.BD hk hj)]
      exact f _ _ (s.rows k hk j hj)
    · rw [if_pos rfl, upd_ne (bD j hj), s.zero k h]
      exact eb j hj
  · rcases mem k hk with hk2 | rfl
    · rw [if_neg (ka k hk2)] at e
      rcases mem k' hk' with hk' | rfl
      · rw [if_neg (ka k' hk')] at e
        exact s.inj k hk2 j hj k' hk' j' hj' e
      · rw [if_pos rfl] at e
        have := s.rows k hk2 j hj
        rw [e, nb j' hj'] at this
        cases this
    · rw [if_pos rfl] at e
      rcases mem k' hk' with hk' | rfl
      · rw [if_neg (ka k' hk')] at e
        have := s.rows k' hk' j' hj'
        rw [← e, nb j hj] at this
        cases this
      · rw [if_pos rfl] at e
        exact ⟨rfl, bi j hj j' hj' e⟩
  · rw [List.nodup_append]
    refine ⟨s.nd, by simp, fun x hx c hc => ?_⟩
    rw [List.mem_singleton.mp hc]
    exact ka x hx
theorem rowPut_same (row : Int → Nat → List Int) (a : Int) (j : Nat) : rowPut row a j (row a j) = row := by
  funext a' j'
  unfold rowPut
  split
  · rename_i e
    rw [e.1, e.2]
  · rfl
theorem rowPut_twice (row : Int → Nat → List Int) (a : Int) (j : Nat) (r r' : List Int) : rowPut (rowPut row a j r) a j r' = rowPut row a j r' := by
  funext a' j'
  unfold rowPut
  split <;> rfl
end
section
variable {P : Program} {w : World} {K : PySem.W.Frag} {mg : Str → Option Value} {base : Heap}
def spStop : Sp := fun vs H Q _ => ∃ (D t c : Addr) (L n : Nat) (p : Pl) (a : Int) (xs as : List Int) (A : Int → Addr) (B : Int → Nat → Addr) (row : Int → Nat → List Int), vs = [.ref D, .ref t, .ref c, .int (L : Nat)] ∧ St L H D as A B row ∧ H t = some (.tup p.row) ∧ ansP p = some a ∧
  H c = some (.lst (xs.map V.int)) ∧ xs.length = n + 1 ∧ n ≤ L ∧ L ≤ 100 ∧ as.length ≤ 200 ∧ ¬ Fp L D as A B c ∧
  ∀ (as' : List Int) (A' : Int → Addr) (B' : Int → Nat → Addr) H', (∀ b o, H b = some o → ¬ Fp L D as A B b → H' b = some o) → (∀ b, Fp L D as' A' B' b → Fp L D as A B b ∨ H b = none) → (∀ k, k ∈ as' ↔ k ∈ as ∨ k = a) → St L H' D as' A' B' (rowPut row a n (bump 0 (row a n) xs)) → Q .non H'
theorem scStop : FnScope ["stopped", "state", "counts", "length", "answer", "row", "heads", "count", "used"] ["stopped", "state", "counts", "length"] (defScope sStop) := ⟨rfl, rfl, rfl, by decide +kernel, rfl, by decide +kernel, by decide +kernel⟩
theorem ok_stop {f : Addr} {fd : FuncData} (F : Fun K "add_stopped" "add_stopped" sStop f fd) (T : Names mg) (mE : mg "enumerate" = none) : FnOk P w K mg base CX0 1 f fd ["stopped", "state", "counts", "length"] spStop := by
  refine F.ok scStop (fun vs H Q E h => ?_) (fun cdv A outer s H vs Q E hr h => ?_)
  · obtain ⟨D, t, c, L, n, p, a, xs, as, A, B, row, rfl, _⟩ := h
    rfl
  · obtain ⟨D, t, c, L, n, p, a, xs, as, M, B, row, rfl, st, et, ea, ec, xl, hn, hL, has, nc, q⟩ := h
    have hu64 : A.units + 3 + 64 < cLine := hr.units
    have hu : A.units + 3 + 1 < cLine := by omega
    refine ⟨_, (pss_cons (ps_set (i := 4) scStop.nd rfl (.inl rfl) (pe_ifExp (pt_cmpR op_eq (pe_ix ix_tup (pv 1) pe_int (fun _ _ => rfl)) pe_str (nomark _)) (pe_un un_neg pe_int) (pe_ix ix_tup (pv 1) pe_int (fun _ _ => rfl))))
      (pss_cons (ps_if (pt_cmp (pc_dnotin hu (pv 4) (pv 0))) (pss_one (ps_dput hu (pv 0) (pv 4) (pe_lc (own := [("used", 8)]) (g := gName 8) (tt := tYes) rfl scStop.nd (pi_range1 rfl T.range (pa_cons (pe_op op_add (pv 3) pe_int) pa_nil)) (blkOk_by (N := ["stopped", "state", "counts", "length", "answer", "row", "heads", "count", "used"]) (sc := defScope sStop) (own := [("used", 8)]) (by decide +kernel)) (fun _ _ _ _ _ => (pg_name (i := 8) scStop.nd rfl (.inl rfl))) (fun _ _ _ _ _ => pts_nil) (fun _ _ _ _ _ => (pe_op op_rep (pe_lst (pa_cons pe_int pa_nil)) (pe_op op_add (pv 8) pe_int)))) rfl)) pss_nil)
      (pss_cons (ps_set (i := 5) scStop.nd rfl (.inl rfl) (pe_ix ix_list (pe_dget hu (pv 0) (pv 4) (fun _ _ => rfl)) (pe_op op_sub (pe_callB call_len_seq (by rfl) T.len PySem.boot_len (pa_cons (pv 2) pa_nil)) pe_int) (fun _ _ => rfl)))
      (pss_one (ps_for PassesOwn.never rfl (pi_enum (by rfl) mE (pa_cons (pv 2) pa_nil)) (pg_tup rfl (pgs_cons (pg_name (i := 6) scStop.nd rfl (.inl rfl)) (pgs_cons (pg_name (i := 7) scStop.nd rfl (.inl rfl)) pgs_nil))) (pss_one (ps_augS (pv 5) (pv 6) OPS.get_list (pv 7) ip_add set_list))))))), ?_⟩
    have line : sizeLine = 16777216 := by decide
    refine on (asg_tail (fun v H' => v = .int a ∧ H' = H) ?_ (fun tl => ?_))
    rotate_left
    · cases p with
      | toss x y => cases ea
      | fin m =>
        refine ⟨.ref t, rfl, t, _, 0, .str "end", rfl, rfl, SqT.of et, atI_nat (j := 0) rfl, rfl, _, rfl, ?_⟩
        rw [decide_eq_false str_never_end]
        refine iteF ⟨.ref t, rfl, t, _, 1, .int m, rfl, rfl, SqT.of et, atI_nat (j := 1) rfl, tl _ _ ⟨?_, rfl⟩⟩
        rw [Option.some.inj ea]
      | never =>
        refine ⟨.ref t, rfl, t, _, 0, .str "never", rfl, rfl, SqT.of et, atI_nat (j := 0) rfl, rfl, _, rfl, ?_⟩
        rw [decide_eq_true rfl]
        refine iteT ⟨_, rfl, tl _ _ ⟨?_, rfl⟩⟩
        rw [← Option.some.inj ea]
    · rintro v H0 ⟨rfl, rfl⟩
      dsimp only
      show tSeq _ _ _ ([some (V.ref D), some (V.ref t), some (V.ref c), some (V.int (L : Nat)), some (V.int a), none, none, none, none] : L2.St) _
      refine on (if_tail (fun σ H' => ∃ (as' : List Int) (M' : Int → Addr) (B' : Int → Nat → Addr), σ = [some (V.ref D), some (V.ref t), some (V.ref c), some (V.int (L : Nat)), some (V.int a), none, none, none, none] ∧ St L H' D as' M' B' row ∧ a ∈ as' ∧ (∀ k, k ∈ as' ↔ k ∈ as ∨ k = a) ∧ (∀ b o, H0 b = some o → b ≠ D → H' b = some o) ∧ ∀ b, Fp L D as' M' B' b → Fp L D as M B b ∨ H0 b = none) ?_ (fun tl => ?_))
      rotate_left
      · refine ⟨_, rfl, _, rfl, D, _, rfl, DGet.k (k := .inl a) st.at_, _, rfl, ?_⟩
        rw [kd_val]
        by_cases ha : a ∈ as
        · rw [if_pos ha]
          exact iteF (tl _ _ ⟨as, M, B, rfl, st, ha, fun k => ⟨.inl, fun h => by rcases h with h | rfl; exact h; exact ha⟩, fun b o e _ => e, fun b h => .inl h⟩)
        · rw [if_neg ha]
          refine iteT ⟨_, rfl, _, _, rfl, rfl, _, rfl, by omega, by omega, fun C nC => ?_⟩
          refine lc_range (lo := 0) (n := L + 1) (fun i Hx => ∃ b : Nat → Addr, Same H0 Hx ∧ Hx C = some (.lst ((List.range i).map fun j => .ref (b j))) ∧ ∀ j, j < i → H0 (b j) = none ∧ Hx (b j) = some (.lst ((List.replicate (j + 1) (0 : Int)).map V.int)) ∧ ∀ j', j' < i → b j = b j' → j = j') ⟨fun _ => D, Same.upd nC, upd_same, fun j h => absurd h (Nat.not_lt_zero _)⟩ ?_ ?_
          · rintro i Hx hi ⟨b, sx, eC, hb⟩
            refine ⟨rfl, by show 1 ≤ sizeLine; decide, fun Z nZ => ?_⟩
            have s1 := sx.trans (Same.upd (o := .lst [V.int 0]) nZ)
            have eC1 := (Same.upd (o := .lst [V.int 0]) nZ) _ _ eC
            have hb1 : ∀ j, j < i → upd Hx Z (.lst [V.int 0]) (b j) = some (.lst ((List.replicate (j + 1) (0 : Int)).map V.int)) := fun j hj => (Same.upd (o := .lst [V.int 0]) nZ) _ _ (hb j hj).2.1
            have eZ : upd Hx Z (.lst [V.int 0]) Z = some (.lst [V.int 0]) := upd_same
            change (_ : Hp → Prop) (upd Hx Z (.lst [V.int 0]))
            generalize upd Hx Z (.lst [V.int 0]) = H2 at s1 eC1 hb1 eZ ⊢
            refine ⟨_, rfl, _, _, rfl, rfl, Z, _, _, rfl, rfl, eZ, by omega, by omega, by show 1 * (0 + (i : Nat) + 1 : Int).toNat ≤ sizeLine; omega, fun p np => ?_⟩
            have ev : (List.replicate (0 + (i : Nat) + 1 : Int).toNat [V.int 0]).flatten = (List.replicate (i + 1) (0 : Int)).map V.int := by
              rw [show (0 + (i : Nat) + 1 : Int).toNat = i + 1 by omega, List.map_replicate]
              generalize i + 1 = k
              induction k with
              | zero => rfl
              | succ k ih => rw [List.replicate_succ, List.flatten_cons, ih]; rfl
            have s3 := s1.trans (Same.upd (o := .lst ((List.replicate (i + 1) (0 : Int)).map V.int)) np)
            have eC3 := (Same.upd (o := .lst ((List.replicate (i + 1) (0 : Int)).map V.int)) np) _ _ eC1
            have hb3 := fun j hj => (Same.upd (o := .lst ((List.replicate (i + 1) (0 : Int)).map V.int)) np) _ _ (hb1 j hj)
            have e3 : upd H2 p (.lst ((List.replicate (i + 1) (0 : Int)).map V.int)) p = some (.lst ((List.replicate (i + 1) (0 : Int)).map V.int)) := upd_same
            show ∃ acc, upd H2 p (.lst (List.replicate (0 + (i : Nat) + 1 : Int).toNat [V.int 0]).flatten) C = some (HO.lst acc) ∧ acc.length < sizeLine ∧ ∃ b : Nat → Addr, Same H0 (upd (upd H2 p (.lst (List.replicate (0 + (i : Nat) + 1 : Int).toNat [V.int 0]).flatten)) C (HO.lst (acc ++ [V.ref p]))) ∧ upd (upd H2 p (.lst (List.replicate (0 + (i : Nat) + 1 : Int).toNat [V.int 0]).flatten)) C (HO.lst (acc ++ [V.ref p])) C = some (HO.lst ((List.range (i + 1)).map fun j => V.ref (b j))) ∧ ∀ j, j < i + 1 → H0 (b j) = none ∧ upd (upd H2 p (.lst (List.replicate (0 + (i : Nat) + 1 : Int).toNat [V.int 0]).flatten)) C (HO.lst (acc ++ [V.ref p])) (b j) = some (.lst ((List.replicate (j + 1) (0 : Int)).map V.int)) ∧ ∀ j', j' < i + 1 → b j = b j' → j = j'
            rw [ev]
            have np0 : H0 p = none := s1.free np
            generalize upd H2 p (.lst ((List.replicate (i + 1) (0 : Int)).map V.int)) = H3 at s3 eC3 hb3 e3 ⊢
            have pC : p ≠ C := by
              rintro rfl
              rw [eC1] at np
              cases np
            have bp : ∀ j, j < i → b j ≠ p := fun j hj => ne_of_none (hb1 j hj) np
            have bC : ∀ j, j < i → b j ≠ C := fun j hj e => by
              have h := hb3 j hj
              rw [e, eC3] at h
              have h := HO.lst.inj (Option.some.inj h)
              have := congrArg List.head? h
              rw [List.head?_map, List.head?_map] at this
              cases i with
              | zero => exact absurd hj (Nat.not_lt_zero _)
              | succ i =>
                rw [List.range_succ_eq_map, List.replicate_succ] at this
                cases this
            refine ⟨_, eC3, by rw [List.length_map, List.length_range]; omega, fun j => if j = i then p else b j, fun x o e => ?_, ?_, fun j hj => ?_⟩
            · rw [upd_ne (ne_of_none e nC)]
              exact s3 _ _ e
            · rw [upd_same, List.range_succ, List.map_append]
              congr 3
              · refine List.map_congr_left fun j hj => ?_
                have := List.mem_range.mp hj
                show V.ref (b j) = V.ref (if j = i then p else b j)
                rw [if_neg (by omega)]
              · show [V.ref p] = [V.ref (if i = i then p else b i)]
                rw [if_pos rfl]
            · by_cases e : j = i
              · subst e
                simp only [if_true]
                refine ⟨np0, by rw [upd_ne pC]; exact e3, fun j' hj' e => ?_⟩
                by_cases e' : j' = j
                · exact e'.symm
                · rw [if_neg e'] at e
                  exact absurd e.symm (bp j' (by omega))
              · have hj2 : j < i := by omega
                simp only [if_neg e]
                refine ⟨(hb j hj2).1, by rw [upd_ne (bC j hj2)]; exact hb3 j hj2, fun j' hj' e2 => ?_⟩
                by_cases e' : j' = i
                · rw [if_pos e'] at e2
                  exact absurd e2 (bp j hj2)
                · rw [if_neg e'] at e2
                  exact (hb j hj2).2.2 j' (by omega) e2
          · rintro Hx ⟨b, sx, eC, hb⟩
            have hC0 : H0 C = none := nC
            refine ⟨_, rfl, _, rfl, D, _, rfl, DPut.k (k := .inl a) (sx _ _ st.at_) (by rw [kd_len]; omega), ?_⟩
            have sa := st.add (H' := Hx) ha (p := C) (b := b) sx nC (fun j hj => (hb j (by omega)).1) eC (fun j hj => (hb j (by omega)).2.1) (fun j hj j' hj' e => (hb j (by omega)).2.2 j' (by omega) e)
            refine tl _ _ ⟨as ++ [a], _, _, rfl, sa, List.mem_append_right _ List.mem_cons_self, fun k => by rw [List.mem_append, List.mem_singleton], fun x o e n => ?_, fun x hx => ?_⟩
            · rw [upd_ne n]
              exact sx _ _ e
            · have ka : ∀ k ∈ as, k ≠ a := fun k hk e => ha (e ▸ hk)
              rcases hx with rfl | ⟨k, hk, h⟩
              · exact .inl (.inl rfl)
              · replace h : x = (if k = a then C else M k) ∨ ∃ j, j ≤ L ∧ x = (if k = a then b else B k) j := h
                rcases List.mem_append.mp hk with hk | hk
                · rw [if_neg (ka k hk), if_neg (ka k hk)] at h
                  exact .inl (.inr ⟨k, hk, h⟩)
                · rw [if_pos (List.mem_singleton.mp hk), if_pos (List.mem_singleton.mp hk)] at h
                  rcases h with rfl | ⟨j, hj, rfl⟩
                  · exact .inr nC
                  · exact .inr (hb j (by omega)).1
      · rintro σ H1 ⟨as', M', B', rfl, st1, ha, hk1, fr1, fp1⟩
        have ec1 : H1 c = some (.lst (xs.map V.int)) := fr1 _ _ ec (fun e => nc (.inl e))
        have hI : (((xs.map V.int).length : Nat) : Int) - 1 = ((n : Nat) : Int) := by rw [List.length_map, xl]; omega
        have ncB : ∀ j, j ≤ L → c ≠ B' a j := fun j hj e => by
          rcases fp1 c (.inr ⟨a, ha, .inr ⟨j, hj, e⟩⟩) with h | h
          · exact nc h
          · rw [ec] at h
            cases h
        refine ⟨_, rfl, _, rfl, D, _, rfl, by rw [show some (V.ref (M' a)) = valV (kd as' fun k => V.ref (M' k)) (.inl a) by rw [kd_val, if_pos ha]]; exact DGet.k (k := .inl a) st1.at_, _, rfl, c, _, rfl, .inl (SqL.of ec1), _, _, rfl, rfl, M' a, _, _, .ref (B' a n), rfl, rfl, SqL.of (st1.lists a ha), by rw [hI]; exact atI_nat (by rw [List.getElem?_map, List.getElem?_range (by omega)]; rfl), ?_⟩
        refine ⟨_, rfl, c, _, rfl, SqL.of ec1, ?_⟩
        refine for_it (walk_enum (K := K) (a := c) (xs := xs.map V.int)) (fun l σ H' => ∃ (v6 v7 : Option V), σ = [some (V.ref D), some (V.ref t), some (V.ref c), some (V.int (L : Nat)), some (V.int a), some (V.ref (B' a n)), v6, v7, none] ∧ St L H' D as' M' B' (rowPut row a n (bump 0 (row a n) (xs.take l))) ∧ H' c = some (.lst (xs.map V.int)) ∧ ∀ b o, H0 b = some o → ¬ Fp L D as M B b → H' b = some o)
          ⟨none, none, rfl, by rw [List.take_zero, bump_nil, rowPut_same]; exact st1, ec1, fun b o e nf => fr1 b o e (fun z => nf (.inl z))⟩ (fun l σ H' _ ⟨_, _, _, _, h, _⟩ => SqL.of h) ?_ ?_
        · rintro l xx σ H7 H7' hl' ⟨v6, v7, rfl, g7, f7, fr7⟩ ⟨T1, x1, y1, rfl, nT1, rfl, ex1, ey1⟩
          have ex1 := Option.some.inj ex1
          subst ex1
          rw [List.length_map, xl] at hl'
          obtain ⟨z, hz, rfl⟩ : ∃ z, xs[l]? = some z ∧ V.int z = y1 := by
            replace ey1 : (List.map V.int xs)[l]? = some y1 := ey1
            rw [List.getElem?_map] at ey1
            obtain ⟨z, h1, h2⟩ := Option.map_eq_some_iff.mp ey1
            exact ⟨z, h1, h2⟩
          have sT := Same.upd (o := .tup [V.int (l : Nat), .int z]) nT1
          have g8 := g7.same sT
          have f8 := sT _ _ f7
          have fr8 := fun b o e nf => sT _ _ (fr7 b o e nf)
          have e8 : upd H7 T1 (.tup [V.int (l : Nat), .int z]) T1 = some (.tup [V.int (l : Nat), .int z]) := upd_same
          generalize upd H7 T1 (.tup [V.int (l : Nat), .int z]) = H8 at g8 f8 fr8 e8 ⊢
          have rl : (row a n).length = n + 1 := st.len a n
          have hrow := g8.rows a ha n hn
          rw [show rowPut row a n (bump 0 (row a n) (xs.take l)) a n = bump 0 (row a n) (xs.take l) from if_pos ⟨rfl, rfl⟩] at hrow
          have off : l + 0 < (row a n).length := by omega
          obtain ⟨u, hu'⟩ : ∃ u, (bump 0 (row a n) (xs.take l))[l]? = some u := ⟨_, List.getElem?_eq_getElem (by rw [bump_len]; exact off)⟩
          refine ⟨T1, _, rfl, SqT.of e8, rfl, _, _, rfl, _, _, rfl, rfl, _, rfl, _, rfl, B' a n, _, l, .int u, rfl, rfl, SqL.of hrow, by rw [List.getElem?_map, hu']; rfl, _, rfl, _, _, rfl, rfl, B' a n, _, _, l, rfl, rfl, hrow, by rw [List.length_map, bump_len]; exact ixN_nat off, ?_⟩
          have step := bump_step (off := 0) (row := row a n) hz off hu'
          have g9 := g8.put ha hn (r := bump 0 (row a n) (xs.take (l + 1))) (by rw [bump_len]; exact rl)
          rw [rowPut_twice] at g9
          have es : (List.map V.int (bump 0 (row a n) (xs.take l))).set l (V.int (u + z)) = (bump 0 (row a n) (xs.take (l + 1))).map V.int := by rw [← step, List.map_set]; rfl
          refine ⟨_, _, rfl, ?_, ?_, fun b o e nf => ?_⟩
          · rw [es]
            exact g9
          · rw [upd_ne (ncB n hn)]
            exact f8
          · have : b ≠ B' a n := fun q => by
              rcases fp1 b (.inr ⟨a, ha, .inr ⟨n, hn, q⟩⟩) with h | h
              · exact nf h
              · rw [e] at h
                cases h
            rw [upd_ne this]
            exact fr8 b o e nf
        · rintro σ H7 ⟨v6, v7, rfl, g7, f7, fr7⟩
          rw [List.length_map, List.take_length] at g7
          exact q as' M' B' H7 fr7 fp1 hk1 g7
end
end Z

set_option Elab.async false
set_option linter.all false
set_option maxRecDepth 100000
set_option maxHeartbeats 4000000
namespace Z
open PySem PySem.Spec PyProof.Rows L2 GG DCX
abbrev sCount : Stmt := top 17
/-! ### all tapes counted -/
def stP (ps : List Pl) (a : Int) (r : List Bool) : Bool := match ats ps r with
  | some k => decide (ansP (place ps k) = some a)
  | none => false
def stK (ps : List Pl) (ks : List Int) (a : Int) (r : List Bool) : Bool := match ats ps r with
  | some k => decide (k ∈ ks) && decide (ansP (place ps k) = some a)
  | none => false
theorem stK_nil (ps : List Pl) (n : Nat) (a : Int) : cnt n (stK ps [] a) = List.replicate (n + 1) 0 := cnt_zero fun r _ => by
  unfold stK
  cases ats ps r with
  | none => rfl
  | some k => simp
theorem stK_hit {ps : List Pl} {n : Nat} {ks : List Int} {k a : Int} (hk : k ∉ ks) (ha : ansP (place ps k) = some a) : bump 0 (cnt n (stK ps ks a)) (cnt n (gP ps k)) = cnt n (stK ps (ks ++ [k]) a) := by
  refine bump_cnt0 fun r _ => ?_
  unfold stK gP
  cases e : ats ps r with
  | none => simp
  | some k' =>
    by_cases h : k' = k
    · subst h
      simp [ha, hk]
    · simp [h]
theorem stK_miss {ps : List Pl} {n : Nat} {ks : List Int} {k a : Int} (ha : ansP (place ps k) ≠ some a) : cnt n (stK ps (ks ++ [k]) a) = cnt n (stK ps ks a) := cnt_congr fun r _ => by
  unfold stK
  cases e : ats ps r with
  | none => rfl
  | some k' =>
    by_cases h : k' = k
    · subst h
      simp [ha]
    · simp [h]
theorem stK_all {ps : List Pl} {n : Nat} {ks : List Int} (a : Int) (h : ∀ k, k ∈ ks ↔ Lv ps n k) : cnt n (stK ps ks a) = cnt n (stP ps a) := cnt_congr fun r hr => by
  unfold stK stP
  cases e : ats ps r with
  | none => rfl
  | some k =>
    have := (h k).mpr ⟨r, hr, e⟩
    simp [this]
def rowS (ps : List Pl) (n : Nat) (ks : List Int) (a : Int) (j : Nat) : List Int := if j < n then cnt j (stP ps a) else if j = n then cnt n (stK ps ks a) else List.replicate (j + 1) 0
theorem rowS_zero (ps : List Pl) (a : Int) (j : Nat) : rowS ps 0 [] a j = List.replicate (j + 1) 0 := by
  unfold rowS
  rw [if_neg (Nat.not_lt_zero j)]
  split
  · rename_i e
    rw [e, stK_nil]
  · rfl
theorem rowS_next {ps : List Pl} {n : Nat} {ks : List Int} (h : ∀ k, k ∈ ks ↔ Lv ps n k) : rowS ps n ks = rowS ps (n + 1) [] := by
  funext a j
  unfold rowS
  rcases Nat.lt_trichotomy j n with l | rfl | l
  · rw [if_pos l, if_pos (by omega)]
  · rw [if_neg (Nat.lt_irrefl j), if_pos rfl, if_pos (by omega)]
    exact stK_all a h
  · rw [if_neg (by omega), if_neg (by omega), if_neg (by omega)]
    split
    · rename_i e
      rw [e, stK_nil]
    · rfl
theorem rowS_stop {ps : List Pl} {n : Nat} {ks : List Int} {k a : Int} (hk : k ∉ ks) (ha : ansP (place ps k) = some a) : rowPut (rowS ps n ks) a n (bump 0 (rowS ps n ks a n) (cnt n (gP ps k))) = rowS ps n (ks ++ [k]) := by
  funext a' j
  unfold rowPut
  by_cases e : a' = a ∧ j = n
  · obtain ⟨rfl, rfl⟩ := e
    rw [if_pos ⟨rfl, rfl⟩]
    unfold rowS
    rw [if_neg (Nat.lt_irrefl j), if_pos rfl, if_neg (Nat.lt_irrefl j), if_pos rfl]
    exact stK_hit hk ha
  · rw [if_neg e]
    unfold rowS
    split
    · rfl
    · split
      · rename_i e'
        rw [stK_miss]
        intro q
        rw [ha] at q
        exact e ⟨(Option.some.inj q).symm, e'⟩
      · rfl
theorem rowS_toss {ps : List Pl} {n : Nat} {ks : List Int} {k : Int} (ha : ansP (place ps k) = none) : rowS ps n (ks ++ [k]) = rowS ps n ks := by
  funext a' j
  unfold rowS
  split
  · rfl
  · split
    · rw [stK_miss]
      rw [ha]
      intro q
      cases q
    · rfl
/-- what is told of the tapes of up to L tosses: C the ended, T the going -/
structure Told (ps : List Pl) (L : Nat) (H : Hp) (C T : Addr) (as : List Int) (AC : Int → Addr) (BC : Int → Nat → Addr) (ts : List Int) (AT : Int → Addr) : Prop where
  c : H C = some (.dK (kd as fun a => .ref (AC a)))
  cr : ∀ a ∈ as, H (AC a) = some (.tup ((List.range (L + 1)).map fun j => .ref (BC a j)))
  cb : ∀ a ∈ as, ∀ j, j ≤ L → H (BC a j) = some (.tup ((cnt j (stP ps a)).map V.int))
  cn : as.Nodup
  ck : ∀ a, a ∈ as ↔ ∃ j k, j ≤ L ∧ Lv ps j k ∧ ansP (place ps k) = some a
  t : H T = some (.dK (kd ts fun k => .ref (AT k)))
  tr : ∀ k ∈ ts, H (AT k) = some (.tup ((cnt L (gP ps k)).map V.int))
  tn : ts.Nodup
  tk : ∀ k, k ∈ ts ↔ Lv ps L k ∧ (place ps k).tosses = true
theorem Told.same {ps : List Pl} {L : Nat} {H H' : Hp} {C T : Addr} {as : List Int} {AC : Int → Addr} {BC : Int → Nat → Addr} {ts : List Int} {AT : Int → Addr} (h : Told ps L H C T as AC BC ts AT) (s : Same H H') : Told ps L H' C T as AC BC ts AT :=
  ⟨s _ _ h.c, fun a ha => s _ _ (h.cr a ha), fun a ha j hj => s _ _ (h.cb a ha j hj), h.cn, h.ck, s _ _ h.t, fun k hk => s _ _ (h.tr k hk), h.tn, h.tk⟩
theorem lv_zero {ps : List Pl} {k : Int} : Lv ps 0 k ↔ k = 0 := by
  constructor
  · rintro ⟨r, hr, e⟩
    obtain rfl : r = [] := List.eq_nil_of_length_eq_zero hr
    exact (Option.some.inj e).symm
  · rintro rfl
    exact ⟨[], rfl, rfl⟩
theorem ans_toss {p : Pl} : ansP p = none ↔ p.tosses = true := by
  cases p <;> simp [ansP, Pl.tosses]
theorem cnt_zero_at (ps : List Pl) : cnt 0 (gP ps 0) = [1] := by
  unfold cnt gP tps
  rfl
def ansOk (x : Int) : Prop := -1 ≤ x ∧ x < 100
theorem ans_ok {ps : List Pl} (hw : WF ps) {k x : Int} (hk : In ps k) (h : ansP (place ps k) = some x) : ansOk x := by
  obtain ⟨p, hp, okp⟩ := hw.get hk.1 hk.2
  rw [place_get hp] at h
  cases p with
  | toss a b => cases h
  | fin n =>
    cases h
    exact ⟨by have := okp.1; omega, okp.2⟩
  | never =>
    cases h
    exact ⟨by omega, by omega⟩
theorem ans_few {as : List Int} (nd : as.Nodup) (h : ∀ a ∈ as, ansOk a) : as.length ≤ 101 := by
  have h2 := nodup_len 101 (as.map (· + 1)) (by
    rw [List.nodup_iff_pairwise_ne] at nd ⊢
    exact List.pairwise_map.mpr (nd.imp fun {a b} h e => h (by omega))) fun x hx => by
      obtain ⟨a, ha, rfl⟩ := List.mem_map.mp hx
      have := h a ha
      unfold ansOk at this
      omega
  rwa [List.length_map] at h2
section
variable {P : Program} {w : World} {K : PySem.W.Frag} {mg : Str → Option Value} {base : Heap}
def spCount : Sp := fun vs H Q _ => ∃ (m : Addr) (L : Nat) (ps : List Pl), vs = [.ref m, .int (L : Nat)] ∧ Mach H m ps ∧ WF ps ∧ L ≤ 50 ∧
  ∀ (R C T : Addr) (as : List Int) (AC : Int → Addr) (BC : Int → Nat → Addr) (ts : List Int) (AT : Int → Addr) H', Same H H' → H R = none → H C = none → H T = none → C ≠ T → H' R = some (.tup [.ref C, .ref T]) → Told ps L H' C T as AC BC ts AT → Q (.ref R) H'
theorem scCount : FnScope ["machine", "length", "stopped", "going", "used", "tossing", "index", "counts", "answer", "row"] ["machine", "length"] (defScope sCount) := ⟨rfl, rfl, rfl, by decide +kernel, rfl, by decide +kernel, by decide +kernel⟩
theorem ok_count {f g o a : Addr} {fd gd od ad : FuncData} (F : Fun K "count_tapes" "count_tapes" sCount f fd) (T : Names mg) (GT : FnOk P w K mg base CX0 1 g gd ["state"] spToss) (PT_ : Def K mg "is_toss" g gd ["state"])
    (GO : FnOk P w K mg base CX0 1 o od ["machine", "tossing", "used"] spOnce) (PO_ : Def K mg "toss_once" o od ["machine", "tossing", "used"]) (GA : FnOk P w K mg base CX0 1 a ad ["stopped", "state", "counts", "length"] spStop) (PA_ : Def K mg "add_stopped" a ad ["stopped", "state", "counts", "length"]) :
    FnOk P w K mg base CX0 2 f fd ["machine", "length"] spCount := by
  refine F.ok scCount (fun vs H Q E h => ?_) (fun cdv A outer s H vs Q E hr h => ?_)
  · obtain ⟨m, L, ps, rfl, _⟩ := h
    rfl
  · obtain ⟨m, L, ps, rfl, hm, hw, hL, q⟩ := h
    have hu64 : A.units + 3 + 64 < cLine := hr.units
    have hu : A.units + 3 + 1 < cLine := by omega
    refine ⟨_, (pss_cons (ps_set (i := 2) scCount.nd rfl (.inr rfl) pe_dnewK)
      (pss_cons (ps_set (i := 3) scCount.nd rfl (.inl rfl) (pe_disp (pps_cons pe_int (pe_lst (pa_cons pe_int pa_nil)) pps_nil) (by rfl) (by rfl) (fun z => by cases z) (by decide)))
      (pss_cons (ps_for PassesOwn.never rfl (pi_range1 rfl T.range (pa_cons (pe_op op_add (pv 1) pe_int) pa_nil)) (pg_name (i := 4) scCount.nd rfl (.inl rfl)) (pss_cons (ps_set (i := 5) scCount.nd rfl (.inr rfl) pe_dnewK)
      (pss_cons (ps_lock (ps_for PassesOwn.never rfl (pi_keys (pv 3)) (pg_name (i := 6) scCount.nd rfl (.inl rfl)) (pss_one (ps_if (pt_val (pe_call GT (hr.mono (by first | decide | omega)) (by rfl) PT_.is PT_.kp PT_.bi .nil pass0 (pa_cons (pe_ix ix_tup (pv 0) (pv 6) (fun _ _ => rfl)) pa_nil))) (pss_one (ps_dput hu (pv 5) (pv 6) (pe_dget hu (pv 3) (pv 6) (fun _ _ => rfl)) rfl)) (pss_one (ps_expr (pe_call GA (hr.mono (by first | decide | omega)) (by rfl) PA_.is PA_.kp PA_.bi .nil pass0 (pa_cons (pv 2) (pa_cons (pe_ix ix_tup (pv 0) (pv 6) (fun _ _ => rfl)) (pa_cons (pe_dget hu (pv 3) (pv 6) (fun _ _ => rfl)) (pa_cons (pv 1) pa_nil)))))))))))
      (pss_one (ps_if (pt_cmpR op_lt (pv 4) (pv 1) (nomark _)) (pss_one (ps_set (i := 3) scCount.nd rfl (.inl rfl) (pe_call GO (hr.mono (by first | decide | omega)) (by rfl) PO_.is PO_.kp PO_.bi .nil pass0 (pa_cons (pv 0) (pa_cons (pv 5) (pa_cons (pv 4) pa_nil)))))) pss_nil)))))
      (pss_cons (ps_lock (ps_setDc (i := 7) (own := [("answer", 8)]) (g := gName 8) (tt := tYes) rfl scCount.nd rfl rfl (sw_trueD rfl rfl rfl (by decide +kernel)) (pi_keys (pv 2)) (blkOk_by (N := ["machine", "length", "stopped", "going", "used", "tossing", "index", "counts", "answer", "row"]) (sc := defScope sCount) (own := [("answer", 8)]) (by decide +kernel)) (fun _ _ _ _ _ => (pg_name (i := 8) scCount.nd rfl (.inl rfl))) (fun _ _ _ _ _ => pts_nil) (fun _ _ _ _ _ => (pv 8)) (fun _ _ _ _ _ => (pe_callTy (KX.call_tupK (K := K) rfl) (by rfl) T.tuple (by decide +kernel) (pa_cons (pe_lc (own := [("row", 9)]) (g := gName 9) (tt := tYes) rfl scCount.nd (KX.pi_listK (K := K) rfl (pe_dget hu (pv 2) (pv 8) (fun _ _ => rfl))) (blkOk_by (N := ["machine", "length", "stopped", "going", "used", "tossing", "index", "counts", "answer", "row"]) (own := [("row", 9)]) (by kernel_rfl)) (fun _ _ _ _ _ => (pg_name (i := 9) scCount.nd rfl (.inl rfl))) (fun _ _ _ _ _ => pts_nil) (fun _ _ _ _ _ => (pe_callTy (KX.call_tupK (K := K) rfl) (by rfl) T.tuple (by decide +kernel) (pa_cons (pv 9) pa_nil)))) pa_nil)))))
      (pss_one (ps_ret (pe_tup (pa_cons (pv 7) (pa_cons (pe_lock (pe_dc (own := [("index", 6)]) (g := gName 6) (tt := tYes) rfl scCount.nd (pi_keys (pv 5)) (blkOk_by (N := ["machine", "length", "stopped", "going", "used", "tossing", "index", "counts", "answer", "row"]) (sc := defScope sCount) (own := [("index", 6)]) (by decide +kernel)) (fun _ _ _ _ _ => (pg_name (i := 6) scCount.nd rfl (.inl rfl))) (fun _ _ _ _ _ => pts_nil) (fun _ _ _ _ _ => (pv 6)) (fun _ _ _ _ _ => (pe_callTy (KX.call_tupK (K := K) rfl) (by rfl) T.tuple (by decide +kernel) (pa_cons (pe_dget hu (pv 5) (pv 6) (fun _ _ => rfl)) pa_nil))))) pa_nil))))))))), ?_⟩
    have line : sizeLine = 16777216 := by decide
    have hl := hw.le
    -- stopped = {}; going = {0: [1]}
    refine fun D nD => ?_
    have s1 : Same H (upd H D (.dK [])) := Same.upd nD
    have eD1 : upd H D (.dK []) D = some (.dK []) := upd_same
    change (_ : Hp → Prop) (upd H D (.dK []))
    generalize upd H D (.dK []) = H1 at s1 eD1 ⊢
    refine fun G nG => ⟨by show 1 ≤ sizeLine; decide, fun t nt => ⟨(Same.upd nt) _ _ upd_same, [(.inl 0, .ref t)], rfl, by show 1 ≤ 15; decide, ?_⟩⟩
    have DG : D ≠ G := ne_of_none eD1 nG
    have tG : t ≠ G := by
      rintro rfl
      rw [upd_same] at nt
      cases nt
    have nG0 : H G = none := s1.free nG
    have nt1 : H1 t = none := by rw [upd_ne tG] at nt; exact nt
    have s2 : Same H1 (upd (upd (upd H1 G (.dK [])) t (.lst [V.int 1])) G (.dK (mergeK [] [(.inl 0, .ref t)]))) := fun b o e => by
      rw [upd_ne (ne_of_none e nG), upd_ne (ne_of_none e nt1), upd_ne (ne_of_none e nG)]
      exact e
    have eG2 : upd (upd (upd H1 G (.dK [])) t (.lst [V.int 1])) G (.dK (mergeK [] [(.inl 0, .ref t)])) G = some (.dK (kd [0] fun _ => .ref t)) := by rw [upd_same]; rfl
    have et2 : upd (upd (upd H1 G (.dK [])) t (.lst [V.int 1])) G (.dK (mergeK [] [(.inl 0, .ref t)])) t = some (.lst ([(1 : Int)].map V.int)) := by
      rw [upd_ne tG, upd_same]
      rfl
    change (_ : Hp → Prop) (upd (upd (upd H1 G (.dK [])) t (.lst [V.int 1])) G (.dK (mergeK [] [(.inl 0, .ref t)])))
    have eD2 := s2 _ _ eD1
    replace s2 := s1.trans s2
    generalize upd (upd (upd H1 G (.dK [])) t (.lst [V.int 1])) G (.dK (mergeK [] [(.inl 0, .ref t)])) = H2 at s2 eG2 et2 eD2 ⊢
    have tD : t ≠ D := by
      rintro rfl
      rw [eD1] at nt1
      cases nt1
    have st0 : St L H2 D [] (fun _ => D) (fun _ _ => D) (rowS ps 0 []) := ⟨eD2, fun a h => (List.not_mem_nil h).elim, fun a h => (List.not_mem_nil h).elim, fun a h => (List.not_mem_nil h).elim, .nil, fun a _ j => rowS_zero ps a j, fun a j => by rw [rowS_zero]; simp⟩
    have fp0 : ∀ b, Fp L D [] (fun _ => D) (fun _ _ => D) b → b = D := fun b h => by
      rcases h with h | ⟨a, h, _⟩
      · exact h
      · exact (List.not_mem_nil h).elim
    refine ⟨_, rfl, _, _, rfl, rfl, _, rfl, by omega, by omega, for_range (lo := 0) (n := L + 1) (fun i σ H' => ∃ (v4 v5 v6 : Option V) (G : Addr) (ks : List Int) (Ag : Int → Addr) (as : List Int) (M : Int → Addr) (B : Int → Nat → Addr), σ = [some (V.ref m), some (V.int (L : Nat)), some (V.ref D), some (V.ref G), v4, v5, v6, none, none, none] ∧ Same H H' ∧ St L H' D as M B (rowS ps i []) ∧ (∀ b, Fp L D as M B b → H b = none) ∧ (∀ a, a ∈ as ↔ ∃ j k, j < i ∧ Lv ps j k ∧ ansP (place ps k) = some a) ∧
        (i ≤ L → H G = none ∧ Gd ps i H' G ks Ag ∧ (∀ k, k ∈ ks ↔ Lv ps i k) ∧ ¬ Fp L D as M B G ∧ ∀ k ∈ ks, ¬ Fp L D as M B (Ag k)) ∧
        (i = L + 1 → ∃ (T : Addr) (ts : List Int) (AT : Int → Addr), v5 = some (.ref T) ∧ T ≠ D ∧ H' T = some (.dK (kd ts fun k => .ref (AT k))) ∧ ts.Nodup ∧ (∀ k ∈ ts, H' (AT k) = some (.lst ((cnt L (gP ps k)).map V.int))) ∧ ∀ k, k ∈ ts ↔ Lv ps L k ∧ (place ps k).tosses = true))
      ⟨none, none, none, G, [0], fun _ => t, [], _, _, rfl, s2, st0, fun b h => by rw [fp0 b h]; exact nD, fun a => ⟨fun h => (List.not_mem_nil h).elim, fun ⟨j, k, h, _⟩ => absurd h (Nat.not_lt_zero _)⟩, fun _ => ⟨nG0, ⟨eG2, fun k hk => by rw [List.mem_singleton.mp hk, cnt_zero_at]; exact et2, by simp⟩, fun k => by rw [lv_zero, List.mem_singleton], fun h => DG (fp0 _ h).symm, fun k _ h => tD (fp0 _ h)⟩, fun h => by cases h⟩ ?_ ?_⟩
    · rintro i σ H3 hi ⟨v4, v5, v6, G, ks, Ag, as, M, B, rfl, s3, st3, fp3, as3, hgo, -⟩
      obtain ⟨nG0, gd, hks, nfG, nfA⟩ := hgo (by omega)
      rw [show (0 : Int) + (i : Nat) = ((i : Nat) : Int) from Int.zero_add _]
      refine fun T nT => ?_
      have sT := Same.upd (o := .dK []) nT
      have eT4 : upd H3 T (.dK []) T = some (.dK []) := upd_same
      have nT0 : H T = none := s3.free nT
      have TG : G ≠ T := ne_of_none gd.at_ nT
      have nfT : ¬ Fp L D as M B T := fun h => st3.live h nT
      have nAT : ∀ k ∈ ks, Ag k ≠ T := fun k hk => ne_of_none (gd.rows k hk) nT
      change (_ : Hp → Prop) (upd H3 T (.dK []))
      have s4 := s3.trans sT
      have st4 := st3.same sT
      have gG4 := sT _ _ gd.at_
      have gr4 := fun k hk => sT _ _ (gd.rows k hk)
      generalize upd H3 T (.dK []) = H4 at s4 st4 gG4 gr4 eT4 ⊢
      refine ⟨G, _, gG4, trivial, fun od => ?_⟩
      have nG : ∀ b o, H b = some o → b ≠ G := fun b o e => ne_of_none e nG0
      have AG : ∀ k ∈ ks, Ag k ≠ G := fun k hk => ne_of (gr4 k hk) gG4 (by intro z; cases z)
      have ln := fun b (h : b ≠ G) => upd_ne (H := H4) (o := .frz od (.dK (kd ks fun k => .ref (Ag k)))) h
      have eG5 : upd H4 G (.frz od (.dK (kd ks fun k => .ref (Ag k)))) G = some (.frz od (.dK (kd ks fun k => .ref (Ag k)))) := upd_same
      generalize upd H4 G (.frz od (.dK (kd ks fun k => .ref (Ag k)))) = H5 at ln eG5 ⊢
      have s5 : Same H H5 := fun b o e => by rw [ln b (nG b o e)]; exact s4 _ _ e
      have st5 : St L H5 D as M B (rowS ps i []) := st4.more fun b o e f => by rw [ln b (fun q => nfG (q ▸ f))]; exact e
      have eT5 : H5 T = some (.dK (kd [] fun k => .ref (Ag k))) := by rw [ln T TG.symm]; exact eT4
      have gr5 : ∀ k ∈ ks, H5 (Ag k) = some (.lst ((cnt i (gP ps k)).map V.int)) := fun k hk => by rw [ln _ (AG k hk)]; exact gr4 k hk
      have hln : ks.length ≤ 30 := Nat.le_trans (nodup_len ps.length ks gd.nd fun k hk => ((hks k).mp hk).inn hw) hw.le
      refine ⟨_, rfl, G, od, rfl, .inl ⟨_, eG5, for_it walk_keys (fun l σ H' => ∃ (v6 : Option V) (as' : List Int) (M : Int → Addr) (B : Int → Nat → Addr), σ = [some (V.ref m), some (V.int (L : Nat)), some (V.ref D), some (V.ref G), some (V.int (i : Nat)), some (V.ref T), v6, none, none, none] ∧ Same H H' ∧ H' G = some (.frz od (.dK (kd ks fun k => .ref (Ag k)))) ∧ (∀ k ∈ ks, H' (Ag k) = some (.lst ((cnt i (gP ps k)).map V.int))) ∧ H' T = some (.dK (kd ((ks.take l).filter fun k => (place ps k).tosses) fun k => .ref (Ag k))) ∧ St L H' D as' M B (rowS ps i (ks.take l)) ∧ (∀ b, Fp L D as' M B b → H b = none) ∧ ¬ Fp L D as' M B G ∧ ¬ Fp L D as' M B T ∧ (∀ k ∈ ks, ¬ Fp L D as' M B (Ag k)) ∧ ∀ a, a ∈ as' ↔ a ∈ as ∨ ∃ k ∈ ks.take l, ansP (place ps k) = some a)
        ⟨_, as, M, B, rfl, s5, eG5, gr5, eT5, st5, fp3, nfG, nfT, nfA, fun a => ⟨.inl, fun h => h.elim id fun ⟨k, h, _⟩ => (List.not_mem_nil h).elim⟩⟩ (fun l σ H' _ ⟨_, _, _, _, _, _, h, _⟩ => h) ?_ ?_⟩⟩
      · rintro l x σ H6 H6' hl6 ⟨v6, as', M, B, rfl, s6, eG6, gr6, eT6, st6, fp6, nfG, nfT, nfA, as6⟩ ⟨rfl, kk, vv, hkk, rfl⟩
        obtain ⟨k, hk, rfl, rfl⟩ := kd_get hkk
        have hkm : k ∈ ks := List.mem_of_getElem? hk
        have hlv := (hks k).mp hkm
        have hkin := hlv.inn hw
        obtain ⟨rs, tt, em, ea, et⟩ := (hm.same s6).at hw hkin.1 hkin.2
        have tk : ks.take (l + 1) = ks.take l ++ [k] := by rw [List.take_succ, hk]; rfl
        have nk : k ∉ ks.take l := fun h => by
          have nd := gd.nd.sublist (List.take_sublist (l + 1) ks)
          rw [tk, List.nodup_append] at nd
          exact nd.2.2 k h k List.mem_cons_self rfl
        have dget : DGet H6' G (.int k) (some (.ref (Ag k))) := .inl ⟨_, .inl k, .inr ⟨od, eG6⟩, rfl, by rw [kd_val, if_pos hkm]⟩
        refine ⟨_, rfl, _, rfl, m, rs, k, .ref tt, rfl, rfl, SqT.of em, ea, tt, place ps k, rfl, et, _, rfl, ?_⟩
        cases htos : (place ps k).tosses with
        | true =>
          have ha : ansP (place ps k) = none := ans_toss.mpr htos
          have fl : ((ks.take (l + 1)).filter fun k => (place ps k).tosses) = ((ks.take l).filter fun k => (place ps k).tosses) ++ [k] := by
            rw [tk, List.filter_append]
            congr 1
            exact List.filter_cons_of_pos htos
          refine iteT ⟨_, rfl, _, rfl, G, _, rfl, dget, _, rfl, _, rfl, T, _, rfl, DPut.k (k := .inl k) eT6 (by rw [kd_len]; have := List.length_filter_le (fun k => (place ps k).tosses) (ks.take l); rw [List.length_take] at this; omega), ?_⟩
          refine ⟨_, as', M, B, rfl, fun b o e => ?_, ?_, fun k' hk' => ?_, ?_, ?_, fp6, nfG, nfT, nfA, fun a => ?_⟩
          · rw [upd_ne (ne_of_none e nT0)]
            exact s6 _ _ e
          · rw [upd_ne TG]
            exact eG6
          · rw [upd_ne (nAT k' hk')]
            exact gr6 k' hk'
          · rw [upd_same, kd_new (fun h => nk (List.mem_filter.mp h).1), fl]
            refine congrArg (fun x => some (HO.dK x)) (kd_congr fun z _ => ?_)
            unfold ov
            split
            · rename_i e
              rw [e]
            · rfl
          · rw [tk, rowS_toss ha]
            exact st6.more fun b o e f => by rw [upd_ne (show b ≠ T from fun q => nfT (q ▸ f))]; exact e
          · rw [as6, tk]
            constructor
            · rintro (h | ⟨k', h1, h2⟩)
              · exact .inl h
              · exact .inr ⟨k', List.mem_append_left _ h1, h2⟩
            · rintro (h | ⟨k', h1, h2⟩)
              · exact .inl h
              · rcases List.mem_append.mp h1 with h1 | h1
                · exact .inr ⟨k', h1, h2⟩
                · rw [List.mem_singleton.mp h1, ha] at h2
                  cases h2
        | false =>
          obtain ⟨a, ha⟩ : ∃ a, ansP (place ps k) = some a := Option.ne_none_iff_exists'.mp fun h => by rw [ans_toss.mp h] at htos; cases htos
          have fl : ((ks.take (l + 1)).filter fun k => (place ps k).tosses) = ((ks.take l).filter fun k => (place ps k).tosses) := by
            rw [tk, List.filter_append, List.filter_cons_of_neg (by rw [htos]; decide)]
            exact List.append_nil _
          have asok : ∀ a ∈ as', ansOk a := fun a h => by
            rcases (as6 a).mp h with h | ⟨k, h1, h2⟩
            · obtain ⟨j, k, _, h1, h2⟩ := (as3 a).mp h
              exact ans_ok hw (h1.inn hw) h2
            · exact ans_ok hw (((hks k).mp (List.mem_of_mem_take h1)).inn hw) h2
          have few := ans_few st6.nd asok
          refine iteF ⟨_, rfl, _, rfl, _, rfl, m, rs, k, .ref tt, rfl, rfl, SqT.of em, ea, _, rfl, _, rfl, G, _, rfl, dget, _, rfl, D, tt, Ag k, L, i, place ps k, a, cnt i (gP ps k), as', M, B, rowS ps i (ks.take l), rfl, st6, et, ha, gr6 k hkm, cnt_len _ _, by omega, by omega, by omega, nfA k hkm, fun as2 M2 B2 H7 fr fp hk2 st7 => ?_⟩
          rw [rowS_stop nk ha] at st7
          have live : ∀ {b : Addr} {o : HO}, H6' b = some o → ¬ Fp L D as' M B b → ¬ Fp L D as2 M2 B2 b := fun e n f => by
            rcases fp _ f with h | h
            · exact n h
            · rw [e] at h
              cases h
          refine ⟨_, as2, M2, B2, rfl, fun b o e => fr b o (s6 _ _ e) (fun f => ?_), fr _ _ eG6 nfG, fun k' hk' => fr _ _ (gr6 k' hk') (nfA k' hk'), ?_, ?_, fun b f => ?_, live eG6 nfG, live eT6 nfT, fun k' hk' => live (gr6 k' hk') (nfA k' hk'), fun x => ?_⟩
          · rw [fp6 b f] at e
            cases e
          · rw [fl]
            exact fr _ _ eT6 nfT
          · rw [tk]
            exact st7
          · rcases fp b f with h | h
            · exact fp6 b h
            · exact s6.free h
          · rw [hk2, as6, tk]
            constructor
            · rintro ((h | ⟨k', h1, h2⟩) | rfl)
              · exact .inl h
              · exact .inr ⟨k', List.mem_append_left _ h1, h2⟩
              · exact .inr ⟨k, List.mem_append_right _ List.mem_cons_self, ha⟩
            · rintro (h | ⟨k', h1, h2⟩)
              · exact .inl (.inl h)
              · rcases List.mem_append.mp h1 with h1 | h1
                · exact .inl (.inr ⟨k', h1, h2⟩)
                · rw [List.mem_singleton.mp h1, ha] at h2
                  exact .inr (Option.some.inj h2).symm
      · rintro σ H6 ⟨v6, as', M, B, rfl, s6, eG6, gr6, eT6, st6, fp6, nfG, nfT, nfA, as6⟩
        rw [kd_len, List.take_length] at eT6 st6 as6
        refine ⟨eG6, ?_⟩
        have ln6 := fun b (h : b ≠ G) => upd_ne (H := H6) (o := .dK (kd ks fun k => .ref (Ag k))) h
        dsimp only
        generalize upd H6 G (.dK (kd ks fun k => .ref (Ag k))) = H7 at ln6 ⊢
        have s7 : Same H H7 := fun b o e => by rw [ln6 b (nG b o e)]; exact s6 _ _ e
        have st7 : St L H7 D as' M B (rowS ps (i + 1) []) := by
          rw [← rowS_next hks]
          exact st6.more fun b o e f => by rw [ln6 b (show b ≠ G from fun q => nfG (q ▸ f))]; exact e
        have eT7 := (ln6 T TG.symm).trans eT6
        have gr7 : ∀ k ∈ ks, H7 (Ag k) = some (.lst ((cnt i (gP ps k)).map V.int)) := fun k hk => (ln6 _ (AG k hk)).trans (gr6 k hk)
        have tm : ∀ k, k ∈ (ks.filter fun k => (place ps k).tosses) ↔ Lv ps i k ∧ (place ps k).tosses = true := fun k => by rw [List.mem_filter, hks]
        have tn : (ks.filter fun k => (place ps k).tosses).Nodup := gd.nd.filter _
        have tr : ∀ k ∈ (ks.filter fun k => (place ps k).tosses), H7 (Ag k) = some (.lst ((cnt i (gP ps k)).map V.int)) := fun k hk => gr7 k (List.mem_filter.mp hk).1
        have as7 : ∀ a, a ∈ as' ↔ ∃ j k, j < i + 1 ∧ Lv ps j k ∧ ansP (place ps k) = some a := fun a => by
          rw [as6, as3]
          constructor
          · rintro (⟨j, k, h1, h2⟩ | ⟨k, h1, h2⟩)
            · exact ⟨j, k, by omega, h2⟩
            · exact ⟨i, k, by omega, (hks k).mp h1, h2⟩
          · rintro ⟨j, k, h1, h2, h3⟩
            by_cases e : j < i
            · exact .inl ⟨j, k, e, h2, h3⟩
            · have e : j = i := by omega
              subst e
              exact .inr ⟨k, (hks k).mpr h2, h3⟩
        refine ⟨_, rfl, _, rfl, _, _, rfl, rfl, _, rfl, ite2 (fun hlt => ?_) (fun hlt => ?_)⟩
        · have hlt : ((i : Nat) : Int) < (L : Nat) := of_decide_eq_true hlt
          refine ⟨_, rfl, _, rfl, _, rfl, m, T, i, ps, _, Ag, rfl, hm.same s7, hw, by omega, ⟨eT7, tr, tn⟩, tm, fun G' ks' A' H8 s8 nG' nA' gd8 hk8 => ?_⟩
          have f8 : ∀ b, H7 b = none → ¬ Fp L D as' M B b := fun b n f => st7.live f n
          exact ⟨_, _, _, G', ks', A', as', M, B, rfl, s7.trans s8, st7.same s8, fp6, as7, fun _ => ⟨s7.free nG', gd8, hk8, f8 _ nG', fun k hk => f8 _ (nA' k hk)⟩, fun h => by omega⟩
        · have hlt : ¬ ((i : Nat) : Int) < (L : Nat) := of_decide_eq_false (by simpa using hlt)
          have eiL : i = L := by omega
          subst eiL
          exact ⟨_, _, _, G, ks, Ag, as', M, B, rfl, s7, st7, fp6, as7, fun h => by omega, fun _ => ⟨T, _, Ag, rfl, fun e => nfT (.inl e), eT7, tn, tr, tm⟩⟩
    · rintro σ H3 ⟨v4, v5, v6, G, ks, Ag, as, M, B, rfl, s3, st3, fp3, as3, -, hT⟩
      obtain ⟨T, ts, AT, rfl, TD, eT, tn, tr, tk⟩ := hT rfl
      have nD0 : H D = none := fp3 D (.inl rfl)
      have asok : ∀ a ∈ as, ansOk a := fun a h => by
        obtain ⟨j, k, _, h1, h2⟩ := (as3 a).mp h
        exact ans_ok hw (h1.inn hw) h2
      have few := ans_few st3.nd asok
      have tfew : ts.length ≤ 30 := Nat.le_trans (nodup_len ps.length ts tn fun k hk => ((tk k).mp hk).1.inn hw) hw.le
      -- counts = {..}
      refine ⟨D, _, st3.at_, trivial, fun od => ?_⟩
      have ln := fun b (h : b ≠ D) => upd_ne (H := H3) (o := .frz od (.dK (kd as fun a => .ref (M a)))) h
      have eD4 : upd H3 D (.frz od (.dK (kd as fun a => .ref (M a)))) D = some (.frz od (.dK (kd as fun a => .ref (M a)))) := upd_same
      generalize upd H3 D (.frz od (.dK (kd as fun a => .ref (M a)))) = H4 at ln eD4 ⊢
      have sM : ∀ a ∈ as, H4 (M a) = some (.lst ((List.range (L + 1)).map fun j => .ref (B a j))) := fun a h => (ln _ (st3.AD h)).trans (st3.lists a h)
      have sB : ∀ a ∈ as, ∀ j, j ≤ L → H4 (B a j) = some (.lst ((cnt j (stP ps a)).map V.int)) := fun a h j hj => by
        rw [ln _ (st3.BD h hj), st3.rows a h j hj]
        unfold rowS
        rw [if_pos (by omega)]
      refine ⟨_, rfl, D, od, rfl, .inl ⟨_, eD4, fun C nC => ?_⟩⟩
      refine dc_it walk_keys (fun l Hx => ∃ (AC : Int → Addr) (BC : Int → Nat → Addr), Same H4 Hx ∧ Hx C = some (.dK (kd (as.take l) fun a => .ref (AC a))) ∧ ∀ a ∈ as.take l, Hx (AC a) = some (.tup ((List.range (L + 1)).map fun j => .ref (BC a j))) ∧ ∀ j, j ≤ L → Hx (BC a j) = some (.tup ((cnt j (stP ps a)).map V.int)))
        ⟨fun _ => C, fun _ _ => C, Same.upd nC, upd_same, fun a h => (List.not_mem_nil h).elim⟩ (fun l Hx _ ⟨_, _, s, _⟩ => s _ _ eD4) ?_ ?_
      · rintro l x Hx Hx' hl ⟨AC, BC, sx, eC, rx⟩ ⟨rfl, kk, vv, hkk, rfl⟩
        obtain ⟨a, ha, rfl, rfl⟩ := kd_get hkk
        have ham : a ∈ as := List.mem_of_getElem? ha
        have tka : as.take (l + 1) = as.take l ++ [a] := by rw [List.take_succ, ha]; rfl
        have na : a ∉ as.take l := fun h => by
          have nd := st3.nd.sublist (List.take_sublist (l + 1) as)
          rw [tka, List.nodup_append] at nd
          exact nd.2.2 a h a List.mem_cons_self rfl
        refine ⟨rfl, _, rfl, _, rfl, _, rfl, D, _, rfl, .inl ⟨_, .inl a, .inr ⟨od, sx _ _ eD4⟩, rfl, by rw [kd_val, if_pos ham]⟩, M a, rfl, ⟨_, SqL.of (sx _ _ (sM a ham))⟩, fun Z nZ => ?_⟩
        have nZ4 : H4 Z = none := sx.free nZ
        refine lc_list (K := K) (a := M a) (xs := (List.range (L + 1)).map fun j => V.ref (B a j)) (fun j Hy => ∃ b : Nat → Addr, Same Hx' Hy ∧ Hy Z = some (.lst ((List.range j).map fun j => .ref (b j))) ∧ ∀ j', j' < j → Hy (b j') = some (.tup ((cnt j' (stP ps a)).map V.int))) ⟨fun _ => Z, Same.upd nZ, upd_same, fun j h => absurd h (Nat.not_lt_zero _)⟩ (fun j Hy _ ⟨_, s, _⟩ => SqL.of (s _ _ (sx _ _ (sM a ham)))) ?_ ?_
        · rintro j v Hy hj0 ⟨b, sy, eZ, hb⟩
          have hj : j < L + 1 := by
            have := (List.getElem?_eq_some_iff.mp hj0).1
            rwa [List.length_map, List.length_range] at this
          rw [List.getElem?_map, List.getElem?_range hj] at hj0
          have hj0 := Option.some.inj hj0
          subst hj0
          have eB := sy _ _ (sx _ _ (sB a ham j (by omega)))
          refine ⟨rfl, _, rfl, B a j, _, rfl, .inl ⟨SqL.of eB, fun p np => ?_⟩⟩
          have sp := Same.upd (o := .tup ((cnt j (stP ps a)).map V.int)) np
          have pZ : p ≠ Z := (ne_of_none eZ np).symm
          have bZ : ∀ j', j' < j → b j' ≠ Z := fun j' h => ne_of (hb j' h) eZ (by intro z; cases z)
          refine ⟨_, sp _ _ eZ, by rw [List.length_map, List.length_range]; omega, fun j' => if j' = j then p else b j', fun x o e => ?_, ?_, fun j' hj' => ?_⟩
          · rw [upd_ne (ne_of_none e nZ)]
            exact sp _ _ (sy _ _ e)
          · rw [upd_same, List.range_succ, List.map_append]
            congr 3
            · refine List.map_congr_left fun x hx => ?_
              have := List.mem_range.mp hx
              show V.ref (b x) = V.ref (if x = j then p else b x)
              rw [if_neg (by omega)]
            · show [V.ref p] = [V.ref (if j = j then p else b j)]
              rw [if_pos rfl]
          · show upd _ Z _ (if j' = j then p else b j') = _
            by_cases e : j' = j
            · rw [if_pos e, upd_ne pZ, upd_same, e]
            · rw [if_neg e, upd_ne (bZ j' (by omega))]
              exact sp _ _ (hb j' (by omega))
        · rintro Hy ⟨b, sy, eZ, hb⟩
          rw [List.length_map, List.length_range] at eZ hb
          refine ⟨Z, _, rfl, .inl ⟨SqL.of eZ, fun p np => ?_⟩⟩
          have sp := Same.upd (o := .tup ((List.range (L + 1)).map fun j => V.ref (b j))) np
          have s12 := sy.trans sp
          have ep : upd Hy p (.tup ((List.range (L + 1)).map fun j => V.ref (b j))) p = some (.tup ((List.range (L + 1)).map fun j => V.ref (b j))) := upd_same
          have hb2 := fun j h => sp _ _ (hb j h)
          generalize upd Hy p (.tup ((List.range (L + 1)).map fun j => V.ref (b j))) = Hz at s12 ep hb2 ⊢
          have ek : ∀ k ∈ as.take l, k ≠ a := fun k hk e => na (e ▸ hk)
          have eC2 := s12 _ _ eC
          refine ⟨_, .inl a, rfl, eC2, by rw [kd_len, List.length_take]; omega, fun k => if k = a then p else AC k, fun k => if k = a then b else BC k, fun x o e => ?_, ?_, fun k hk => ?_⟩
          · rw [upd_ne (ne_of_none e nC)]
            exact s12 _ _ (sx _ _ e)
          · rw [upd_same, tka, kd_new na]
            refine congrArg (fun x => some (HO.dK x)) (kd_congr fun z _ => ?_)
            show (if z = a then V.ref p else V.ref (AC z)) = V.ref (if z = a then p else AC z)
            split <;> rfl
          · show upd _ C _ (if k = a then p else AC k) = some (.tup ((List.range (L + 1)).map fun j => .ref ((if k = a then b else BC k) j))) ∧ ∀ j, j ≤ L → upd _ C _ ((if k = a then b else BC k) j) = _
            have nt : ∀ {q : Addr} {ys : List V}, Hz q = some (.tup ys) → q ≠ C := fun e => ne_of e eC2 (by intro z; cases z)
            rw [tka] at hk
            rcases List.mem_append.mp hk with hk | hk
            · rw [if_neg (ek k hk), if_neg (ek k hk)]
              have h1 := s12 _ _ (rx k hk).1
              refine ⟨by rw [upd_ne (nt h1)]; exact h1, fun j hj => ?_⟩
              have h2 := s12 _ _ ((rx k hk).2 j hj)
              rw [upd_ne (nt h2)]
              exact h2
            · rw [if_pos (List.mem_singleton.mp hk), if_pos (List.mem_singleton.mp hk), List.mem_singleton.mp hk]
              refine ⟨by rw [upd_ne (nt ep)]; exact ep, fun j hj => ?_⟩
              have h2 := hb2 j (by omega)
              rw [upd_ne (nt h2)]
              exact h2
      · rintro Hx ⟨AC, BC, sx, eC, rx⟩
        rw [kd_len, List.take_length] at eC rx
        refine ⟨sx _ _ eD4, ?_⟩
        dsimp only
        have lnx := fun b (h : b ≠ D) => upd_ne (H := Hx) (o := .dK (kd as fun a => .ref (M a))) h
        generalize upd Hx D (.dK (kd as fun a => .ref (M a))) = H5 at lnx ⊢
        have s5 : Same H H5 := fun b o e => by
          have n := ne_of_none e nD0
          rw [lnx b n]
          refine sx _ _ ?_
          rw [ln b n]
          exact s3 _ _ e
        have CD : C ≠ D := (ne_of_none eD4 nC).symm
        have nCH : H C = none := s3.free (by rw [← ln C CD]; exact nC)
        have eC5 : H5 C = some (.dK (kd as fun a => .ref (AC a))) := (lnx C CD).trans eC
        have tupD : ∀ {q : Addr} {ys : List V}, Hx q = some (.tup ys) → q ≠ D := fun e => ne_of e (sx _ _ eD4) (by intro z; cases z)
        have rx5 : ∀ a ∈ as, H5 (AC a) = some (.tup ((List.range (L + 1)).map fun j => .ref (BC a j))) ∧ ∀ j, j ≤ L → H5 (BC a j) = some (.tup ((cnt j (stP ps a)).map V.int)) := fun a h => ⟨by rw [lnx _ (tupD (rx a h).1)]; exact (rx a h).1, fun j hj => by rw [lnx _ (tupD ((rx a h).2 j hj))]; exact (rx a h).2 j hj⟩
        have eT5 : H5 T = some (.dK (kd ts fun k => .ref (AT k))) := by
          rw [lnx T TD]
          refine sx _ _ ?_
          rw [ln T TD]
          exact eT
        have tr5 : ∀ k ∈ ts, H5 (AT k) = some (.lst ((cnt L (gP ps k)).map V.int)) := fun k hk => by
          have n : AT k ≠ D := ne_of (tr k hk) st3.at_ (by intro z; cases z)
          rw [lnx _ n]
          refine sx _ _ ?_
          rw [ln _ n]
          exact tr k hk
        refine ⟨_, rfl, T, _, eT5, trivial, fun od2 => ?_⟩
        have l5 := fun b (h : b ≠ T) => upd_ne (H := H5) (o := .frz od2 (.dK (kd ts fun k => .ref (AT k)))) h
        have eT6 : upd H5 T (.frz od2 (.dK (kd ts fun k => .ref (AT k)))) T = some (.frz od2 (.dK (kd ts fun k => .ref (AT k)))) := upd_same
        generalize upd H5 T (.frz od2 (.dK (kd ts fun k => .ref (AT k)))) = H6 at l5 eT6 ⊢
        have tr6 : ∀ k ∈ ts, H6 (AT k) = some (.lst ((cnt L (gP ps k)).map V.int)) := fun k hk => by
          rw [l5 _ (ne_of (tr5 k hk) eT5 (by intro z; cases z))]
          exact tr5 k hk
        refine ⟨_, rfl, T, od2, rfl, .inl ⟨_, eT6, fun Z nZ => ?_⟩⟩
        refine dc_it walk_keys (fun l Hy => ∃ (AZ : Int → Addr), Same H6 Hy ∧ Hy Z = some (.dK (kd (ts.take l) fun k => .ref (AZ k))) ∧ ∀ k ∈ ts.take l, Hy (AZ k) = some (.tup ((cnt L (gP ps k)).map V.int)))
          ⟨fun _ => Z, Same.upd nZ, upd_same, fun a h => (List.not_mem_nil h).elim⟩ (fun l Hy _ ⟨_, s, _⟩ => s _ _ eT6) ?_ ?_
        · rintro l x Hy Hy' hl ⟨AZ, sy, eZ, ry⟩ ⟨rfl, kk, vv, hkk, rfl⟩
          obtain ⟨k, hk, rfl, rfl⟩ := kd_get hkk
          have hkm : k ∈ ts := List.mem_of_getElem? hk
          have tkk : ts.take (l + 1) = ts.take l ++ [k] := by rw [List.take_succ, hk]; rfl
          have nk : k ∉ ts.take l := fun h => by
            have nd := tn.sublist (List.take_sublist (l + 1) ts)
            rw [tkk, List.nodup_append] at nd
            exact nd.2.2 k h k List.mem_cons_self rfl
          refine ⟨rfl, _, rfl, _, rfl, _, rfl, T, _, rfl, .inl ⟨_, .inl k, .inr ⟨od2, sy _ _ eT6⟩, rfl, by rw [kd_val, if_pos hkm]⟩, AT k, _, rfl, .inl ⟨SqL.of (sy _ _ (tr6 k hkm)), fun p np => ?_⟩⟩
          have sp := Same.upd (o := .tup ((cnt L (gP ps k)).map V.int)) np
          have s12 := sy.trans sp
          have ep : upd Hy' p (.tup ((cnt L (gP ps k)).map V.int)) p = some (.tup ((cnt L (gP ps k)).map V.int)) := upd_same
          have eZ2 := sp _ _ eZ
          have ry2 := fun k h => sp _ _ (ry k h)
          generalize upd Hy' p (.tup ((cnt L (gP ps k)).map V.int)) = Hz at s12 ep eZ2 ry2 ⊢
          have ek : ∀ k' ∈ ts.take l, k' ≠ k := fun k' hk e => nk (e ▸ hk)
          refine ⟨_, .inl k, rfl, eZ2, by rw [kd_len, List.length_take]; omega, fun k' => if k' = k then p else AZ k', fun x o e => ?_, ?_, fun k' hk' => ?_⟩
          · rw [upd_ne (ne_of_none e nZ)]
            exact s12 _ _ e
          · rw [upd_same, tkk, kd_new nk]
            refine congrArg (fun x => some (HO.dK x)) (kd_congr fun z _ => ?_)
            show (if z = k then V.ref p else V.ref (AZ z)) = V.ref (if z = k then p else AZ z)
            split <;> rfl
          · show upd _ Z _ (if k' = k then p else AZ k') = _
            have nt : ∀ {q : Addr} {ys : List V}, Hz q = some (.tup ys) → q ≠ Z := fun e => ne_of e eZ2 (by intro z; cases z)
            rw [tkk] at hk'
            rcases List.mem_append.mp hk' with hk' | hk'
            · rw [if_neg (ek k' hk'), upd_ne (nt (ry2 k' hk'))]
              exact ry2 k' hk'
            · rw [if_pos (List.mem_singleton.mp hk'), List.mem_singleton.mp hk', upd_ne (nt ep)]
              exact ep
        · rintro Hy ⟨AZ, sy, eZ, ry⟩
          rw [kd_len, List.take_length] at eZ ry
          refine ⟨sy _ _ eT6, ?_⟩
          dsimp only
          have lny := fun b (h : b ≠ T) => upd_ne (H := Hy) (o := .dK (kd ts fun k => .ref (AT k))) h
          have eT7 : upd Hy T (.dK (kd ts fun k => .ref (AT k))) T = some (.dK (kd ts fun k => .ref (AT k))) := upd_same
          refine ⟨by show 2 ≤ sizeLine; decide, fun R nR => ?_⟩
          have ZT : Z ≠ T := (ne_of_none eT6 nZ).symm
          have nZH : H Z = none := s5.free (by rw [← l5 Z ZT]; exact nZ)
          have s7 : Same H5 (upd Hy T (.dK (kd ts fun k => .ref (AT k)))) := fun b o e => by
            by_cases hb : b = T
            · subst hb
              rw [eT7, ← e, eT5]
            · rw [lny b hb]
              refine sy _ _ ?_
              rw [l5 b hb]
              exact e
          have eZ7 := (lny Z ZT).trans eZ
          have ry7 : ∀ k ∈ ts, upd Hy T (.dK (kd ts fun k => .ref (AT k))) (AZ k) = some (.tup ((cnt L (gP ps k)).map V.int)) := fun k hk => by
            rw [lny _ (ne_of (ry k hk) (sy _ _ eT6) (by intro z; cases z))]
            exact ry k hk
          generalize upd Hy T (.dK (kd ts fun k => .ref (AT k))) = H7 at s7 eZ7 ry7 nR ⊢
          have told : Told ps L H7 C Z as AC BC ts AZ := ⟨s7 _ _ eC5, fun a h => s7 _ _ (rx5 a h).1, fun a h j hj => s7 _ _ ((rx5 a h).2 j hj), st3.nd, fun a => by
            rw [as3]
            constructor
            · rintro ⟨j, k, h1, h2⟩
              exact ⟨j, k, by omega, h2⟩
            · rintro ⟨j, k, h1, h2⟩
              exact ⟨j, k, by omega, h2⟩, eZ7, ry7, tn, tk⟩
          have s57 := s5.trans s7
          have CT : C ≠ T := by
            rintro rfl
            rw [ln _ TD, eT] at nC
            cases nC
          have CZ : C ≠ Z := by
            rintro rfl
            rw [l5 _ CT, eC5] at nZ
            cases nZ
          exact q R C Z as AC BC ts AZ _ (s57.trans (Same.upd nR)) (s57.free nR) nCH nZH CZ upd_same (told.same (Same.upd nR))
end
end Z

set_option Elab.async false
set_option maxRecDepth 100000
set_option maxHeartbeats 4000000
/-! a text times a number; the texts of data with words -/
namespace STR
open PySem PySem.Spec PyProof.Rows L2
theorem cps_foldl (x : Array Nat) : ∀ (n : Nat) (acc : Array Nat), ((List.replicate n x).foldl (· ++ ·) acc).toList = acc.toList ++ (List.replicate n x.toList).flatten
  | 0, acc => by simp
  | n + 1, acc => by
    rw [List.replicate_succ, List.foldl_cons, cps_foldl x n, List.replicate_succ, List.flatten_cons, Array.toList_append, List.append_assoc]
def rRepS : R2 := fun x y H Q => ∃ (z : Str) (k : Nat), x = .str z ∧ y = .int (k : Int) ∧ k < 2 ^ 40 ∧ z.length * k ≤ sizeLine ∧ ∀ r : Str, r.cps.toList = (List.replicate k z.cps.toList).flatten → Q (.str r) H
section
variable {X : Cx}
theorem op_repS : OpR X (binaryOp .Mult) rRepS := by
  intro pins s σ H x y v u Q I rx ry h
  obtain ⟨z, k, rfl, rfl, hk, hz, q⟩ := h
  obtain ⟨t, rfl⟩ := rx
  obtain ⟨t', rfl⟩ := ry
  refine PySem.P.mul_str ?_ (fun h1 h2 => ?_) (fun _ _ => ?_) ?_
  · have h1 : ¬ ((k : Nat) : Int) < -(2 ^ 63 : Int) := by omega
    have h2 : ¬ ((k : Nat) : Int) ≥ 2 ^ 63 := by omega
    rw [decide_eq_false h1, decide_eq_false h2]
    rfl
  · have hn : ¬ ((k : Nat) : Int) < 1 := h1
    have zl : z.length ≤ sizeLine := by
      have : z.length * 1 ≤ z.length * k := Nat.mul_le_mul_left _ (by omega)
      omega
    have hs : sizeLine = 16777216 := by decide
    have : (2 ^ 40 : Int) ≤ (2 ^ 63 - 1) / ((k : Nat) : Int) ∨ ((k : Nat) : Int) > 2 ^ 22 := by
      by_cases e : ((k : Nat) : Int) ≤ 2 ^ 22
      · left
        refine (Int.le_ediv_iff_mul_le (by omega)).mpr ?_
        omega
      · right; omega
    rcases this with h | h
    · omega
    · have e2 : (2 ^ 23 : Int) ≤ (2 ^ 63 - 1) / ((k : Nat) : Int) := by
        refine (Int.le_ediv_iff_mul_le (by omega)).mpr ?_
        omega
      have : z.length * 4194304 ≤ z.length * k := Nat.mul_le_mul_left _ (by omega)
      omega
  · show Builtin.Str.tooLong (z.length * ((k : Nat) : Int).toNat) = false
    rw [Int.toNat_natCast]
    unfold Builtin.Str.tooLong
    exact decide_eq_false (by omega)
  · split
    · have e0 : k = 0 := by omega
      subst e0
      exact ⟨by decide, .str _, H, I.tok _, ⟨_, rfl⟩, q _ rfl⟩
    · split
      · rename_i h2 h3
        refine ⟨.str z, H, I, ⟨_, rfl⟩, q _ ?_⟩
        rcases Bool.or_eq_true _ _ ▸ h3 with h4 | h4
        · have e1 : k = 1 := by
            have : ((k : Nat) : Int) = 1 := by simpa using h4
            omega
          subst e1
          simp
        · have e1 : z.cps = #[] := by
            have : z.cps.size = 0 := by simpa [Str.length] using h4
            exact Array.size_eq_zero_iff.mp this
          rw [e1]
          simp
      · have e : (⟨(List.replicate ((k : Nat) : Int).toNat z.cps).foldl (· ++ ·) #[]⟩ : Str).cps.toList = (List.replicate k z.cps.toList).flatten := by
          rw [Int.toNat_natCast]
          have := cps_foldl z.cps k #[]
          simpa using this
        refine ⟨?_, .str _, H, I.tok _, ⟨_, rfl⟩, q _ e⟩
        have e3 : ((⟨(List.replicate ((k : Nat) : Int).toNat z.cps).foldl (· ++ ·) #[]⟩ : Str).length) = z.length * k := by
          show Array.size _ = _
          rw [← Array.length_toList, e, List.length_flatten, List.map_replicate, List.sum_replicate_nat, Nat.mul_comm]
          rfl
        rw [e3]
        exact hz
end
end STR

set_option Elab.async false
set_option linter.all false
set_option maxRecDepth 100000
set_option maxHeartbeats 4000000
namespace Z
open PySem PySem.Spec PyProof.Rows L2 GG
/-! ### what a machine does on a tape -/
inductive Oc where
  | ended (n : Int) (u : Nat)
  | nev (u : Nat)
  | going (a : Int)
def Oc.row : Oc → List V
  | .ended n u => [.str "ended", .int n, .int (u : Nat)]
  | .nev u => [.str "never", .int (u : Nat)]
  | .going a => [.str "going", .int a]
def run (ps : List Pl) : List Bool → Int → Nat → Oc
  | [], a, u => match place ps a with
    | .toss _ _ => .going a
    | .fin n => .ended n u
    | .never => .nev u
  | c :: t, a, u => match place ps a with
    | .toss x y => run ps t (if c then x else y) (u + 1)
    | .fin n => .ended n u
    | .never => .nev u
def tl_ (z : Str) : List Bool := z.cps.toList.map (· == 72)
theorem run_fin {ps : List Pl} {a n : Int} (h : place ps a = .fin n) (t : List Bool) (u : Nat) : run ps t a u = .ended n u := by
  cases t <;> simp [run, h]
theorem run_nev {ps : List Pl} {a : Int} (h : place ps a = .never) (t : List Bool) (u : Nat) : run ps t a u = .nev u := by
  cases t <;> simp [run, h]
theorem run_nil {ps : List Pl} {a x y : Int} (h : place ps a = .toss x y) (u : Nat) : run ps [] a u = .going a := by
  simp [run, h]
theorem run_cons {ps : List Pl} {a x y : Int} (h : place ps a = .toss x y) (c : Bool) (t : List Bool) (u : Nat) : run ps (c :: t) a u = run ps t (if c then x else y) (u + 1) := by
  simp [run, h]
/-- what is behind the end of a run doesn't matter -/
theorem run_cut {ps : List Pl} : ∀ (t : List Bool) (a : Int) (u : Nat), (∃ b, run ps t a u = .going b) ∨ ∃ j, j ≤ t.length ∧ (∀ x, run ps (t.take j ++ x) a u = run ps t a u) ∧ ((∃ n, run ps t a u = .ended n (u + j)) ∨ run ps t a u = .nev (u + j))
  | t, a, u => by
    cases e : place ps a with
    | fin n =>
      right
      exact ⟨0, Nat.zero_le _, fun x => by rw [run_fin e, run_fin e], .inl ⟨n, run_fin e _ _⟩⟩
    | never =>
      right
      exact ⟨0, Nat.zero_le _, fun x => by rw [run_nev e, run_nev e], .inr (run_nev e _ _)⟩
    | toss x y =>
      cases t with
      | nil => exact .inl ⟨a, run_nil e _⟩
      | cons c t =>
        rw [run_cons e]
        rcases run_cut t (if c then x else y) (u + 1) with h | ⟨j, h1, h2, h3⟩
        · exact .inl h
        · right
          refine ⟨j + 1, by simpa using h1, fun z => ?_, ?_⟩
          · rw [List.take_succ_cons, List.cons_append, run_cons e, h2]
          · rw [show u + (j + 1) = u + 1 + j by omega]
            exact h3
theorem wf_next {ps : List Pl} (hw : WF ps) {a x y : Int} (h0 : 0 ≤ a) (h1 : a < ps.length) (e : place ps a = .toss x y) (c : Bool) : 0 ≤ (if c then x else y) ∧ (if c then x else y) < ps.length := by
  obtain ⟨p, hp, okp⟩ := hw.get h0 h1
  rw [place_get hp] at e
  subst e
  obtain ⟨a1, a2, a3, a4⟩ := okp
  cases c
  · exact ⟨a3, a4⟩
  · exact ⟨a1, a2⟩
section
variable {P : Program} {w : World} {K : PySem.W.Frag} {mg : Str → Option Value} {base : Heap}
theorem sign_H (c : Nat) : decide ((V.str ⟨#[c]⟩ : V) = V.str "H") = (c == 72) := by
  by_cases h : c = 72
  · subst h
    rw [decide_eq_true (by decide +kernel)]
    rfl
  · rw [decide_eq_false]
    · simpa using h
    · intro e
      have e2 : (#[c] : Array Nat) = (PySem.Str.ofString "H").cps := congrArg Str.cps (V.str.inj e)
      have e3 : (PySem.Str.ofString "H").cps = #[72] := by decide +kernel
      rw [e3] at e2
      injection e2 with e4
      injection e4 with e5
      exact h e5
def spRun : Sp := fun vs H Q _ => ∃ (m : Addr) (z : Str) (ps : List Pl), vs = [.ref m, .str z] ∧ Mach H m ps ∧ WF ps ∧ z.length ≤ 100000 ∧ ∀ t H', Same H H' → H t = none → H' t = some (.tup (run ps (tl_ z) 0 0).row) → Q (.ref t) H'
theorem tl_len (z : Str) : (tl_ z).length = z.length := by
  unfold tl_
  rw [List.length_map, Array.length_toList]
  rfl
theorem tl_drop {z : Str} {i : Nat} (h : i < z.length) : ∃ c, z.cps.toList[i]? = some c ∧ (tl_ z).drop i = (c == 72) :: (tl_ z).drop (i + 1) := by
  have h' : i < z.cps.toList.length := by rw [Array.length_toList]; exact h
  refine ⟨z.cps.toList[i], List.getElem?_eq_getElem h', ?_⟩
  have h2 : i < (tl_ z).length := by rw [tl_len]; exact h
  rw [List.drop_eq_getElem_cons h2]
  congr 1
  exact List.getElem_map (fun x => x == 72)
end
end Z

set_option Elab.async false
set_option linter.all false
set_option maxRecDepth 100000
set_option maxHeartbeats 4000000
namespace Z
open PySem PySem.Spec PyProof.Rows L2 GG
abbrev sFind : Stmt := top 12
section
variable {P : Program} {w : World} {K : PySem.W.Frag} {mg : Str → Option Value} {base : Heap}
/-! ### tapes to all places that are reached -/
inductive Goes (ps : List Pl) (s : Int) : List Bool → Int → Prop
  | nil : Goes ps s [] s
  | heads {t : List Bool} {k x y : Int} : Goes ps s t k → place ps k = .toss x y → Goes ps s (t ++ [true]) x
  | tails {t : List Bool} {k x y : Int} : Goes ps s t k → place ps k = .toss x y → Goes ps s (t ++ [false]) y
theorem Goes.rch {ps : List Pl} {s k : Int} {t : List Bool} (h : Goes ps s t k) : Rch ps s k := by
  induction h with
  | nil => exact .here
  | heads _ e ih => exact ih.heads e
  | tails _ e ih => exact ih.tails e
def tent (e : Int × List Bool) : Key × V := (.inl e.1, .str (word e.2))
/-- what is found -/
structure Fd (ps : List Pl) (s : Int) (es : List (Int × List Bool)) : Prop where
  nd : (es.map (·.1)).Nodup
  go : ∀ e ∈ es, Goes ps s e.2 e.1
  ln : ∀ e ∈ es, e.2.length ≤ es.length
  hd : s ∈ es.map (·.1)
theorem Fd.len {ps : List Pl} (hw : WF ps) {s : Int} (hs : In ps s) {es : List (Int × List Bool)} (h : Fd ps s es) : es.length ≤ ps.length := by
  have := nodup_len ps.length (es.map (·.1)) h.nd fun x hx => by
    obtain ⟨e, he, rfl⟩ := List.mem_map.mp hx
    exact (h.go e he).rch.inn hw hs
  rwa [List.length_map] at this
theorem val_tents (k : Int) : ∀ es : List (Int × List Bool), valV (es.map tent) (.inl k) = (es.find? fun e => decide (e.1 = k)).map fun e => V.str (word e.2)
  | [] => rfl
  | e :: es => by
    by_cases h : e.1 = k
    · show valV (tent e :: es.map tent) _ = _
      rw [valV_pos (p := tent e) (show (tent e).1 = _ by rw [← h]; rfl), List.find?_cons_of_pos (by simpa using h)]
      rfl
    · show valV (tent e :: es.map tent) _ = _
      rw [valV_neg (p := tent e) (fun z => h (Sum.inl.inj z)), List.find?_cons_of_neg (by simpa using h)]
      exact val_tents k es
theorem val_mem {es : List (Int × List Bool)} (nd : (es.map (·.1)).Nodup) {e : Int × List Bool} (h : e ∈ es) : valV (es.map tent) (.inl e.1) = some (.str (word e.2)) := by
  rw [val_tents]
  induction es with
  | nil => cases h
  | cons f es ih =>
    rw [List.map_cons] at nd
    have nd' := List.nodup_cons.mp nd
    rcases List.mem_cons.mp h with rfl | h
    · rw [List.find?_cons_of_pos (by simp)]
      rfl
    · rw [List.find?_cons_of_neg]
      · exact ih nd'.2 h
      · intro z
        have z : f.1 = e.1 := by simpa using z
        exact nd'.1 (z ▸ List.mem_map_of_mem h)
theorem val_no {es : List (Int × List Bool)} {k : Int} : valV (es.map tent) (.inl k) = none ↔ k ∉ es.map (·.1) := by
  rw [val_tents, Option.map_eq_none_iff, List.find?_eq_none]
  constructor
  · intro h m
    obtain ⟨e, he, rfl⟩ := List.mem_map.mp m
    exact h e he (by simp)
  · intro h e he z
    have z : e.1 = k := by simpa using z
    exact h (z ▸ List.mem_map_of_mem he)
theorem put_new {es : List (Int × List Bool)} {k : Int} {t : List Bool} (h : k ∉ es.map (·.1)) : putK (es.map tent) (.inl k) (.str (word t)) = (es ++ [(k, t)]).map tent := by
  unfold putK
  rw [if_neg, List.map_append]
  · rfl
  · rw [valV_any, val_no.mpr h]
    simp
/-- one more place -/
theorem Fd.more {ps : List Pl} {s : Int} {es : List (Int × List Bool)} (h : Fd ps s es) {k z : Int} {t : List Bool} (b : Bool) (hk : (k, t) ∈ es) (g : Goes ps s (t ++ [b]) z) (nz : z ∉ es.map (·.1)) : Fd ps s (es ++ [(z, t ++ [b])]) where
  nd := by
    rw [List.map_append, List.nodup_append]
    refine ⟨h.nd, by simp, fun a ha c hc => ?_⟩
    rw [List.mem_singleton.mp hc]
    intro e
    subst e
    exact nz ha
  go := fun e he => by
    rcases List.mem_append.mp he with he | he
    · exact h.go e he
    · rw [List.mem_singleton.mp he]
      exact g
  ln := fun e he => by
    rw [List.length_append]
    rcases List.mem_append.mp he with he | he
    · exact Nat.le_trans (h.ln e he) (Nat.le_add_right _ _)
    · rw [List.mem_singleton.mp he]
      show (t ++ [b]).length ≤ _
      rw [List.length_append]
      exact Nat.add_le_add_right (h.ln _ hk) 1
  hd := by
    rw [List.map_append]
    exact List.mem_append_left _ h.hd
def spFind : Sp := fun vs H Q _ => ∃ (m : Addr) (s : Int) (ps : List Pl), vs = [.ref m, .int s] ∧ Mach H m ps ∧ WF ps ∧ In ps s ∧
  ∀ (D : Addr) (es : List (Int × List Bool)) H', Same H H' → H D = none → H' D = some (.dK (es.map tent)) → Fd ps s es → (∀ k, k ∈ es.map (·.1) ↔ Rch ps s k) → Q (.ref D) H'
theorem scFind : FnScope ["machine", "start", "tapes", "waiting", "at", "index", "side", "successor"] ["machine", "start"] (defScope sFind) := ⟨rfl, rfl, rfl, by decide +kernel, rfl, by decide +kernel, by decide +kernel⟩
theorem ok_find {f g : Addr} {fd gd : FuncData} (F : Fun K "find_tapes" "find_tapes" sFind f fd) (T : Names mg) (GT : FnOk P w K mg base CX0 1 g gd ["state"] spToss) (PT_ : Def K mg "is_toss" g gd ["state"]) : FnOk P w K mg base CX0 2 f fd ["machine", "start"] spFind := by
  refine F.ok scFind (fun vs H Q E h => ?_) (fun cdv A outer s H vs Q E hr h => ?_)
  · obtain ⟨m, st, ps, rfl, _⟩ := h
    rfl
  · obtain ⟨m, st, ps, rfl, hm, hw, hs, q⟩ := h
    have hu64 : A.units + 3 + 64 < cLine := hr.units
    have hu : A.units + 3 + 1 < cLine := by omega
    refine ⟨_, (pss_cons (ps_set (i := 2) scFind.nd rfl (.inl rfl) (pe_disp (pps_cons (pv 1) pe_str pps_nil) (by rfl) (by rfl) (fun z => by cases z) (by decide)))
      (pss_cons (ps_set (i := 3) scFind.nd rfl (.inl rfl) (pe_lst (pa_cons (pv 1) pa_nil)))
      (pss_cons (ps_set (i := 4) scFind.nd rfl (.inl rfl) pe_int)
      (pss_cons (ps_while PassesOwn.never (pt_cmpR op_lt (pv 4) (pe_callB call_len_seq (by rfl) T.len PySem.boot_len (pa_cons (pv 3) pa_nil)) (nomark _)) (pss_cons (ps_set (i := 5) scFind.nd rfl (.inl rfl) (pe_ix ix_list (pv 3) (pv 4) (fun _ _ => rfl)))
      (pss_cons (ps_aug (i := 4) scFind.nd rfl (.inl rfl) pe_int ip_add)
      (pss_one (ps_if (pt_val (pe_call GT (hr.mono (by first | decide | omega)) (by rfl) PT_.is PT_.kp PT_.bi .nil pass0 (pa_cons (pe_ix ix_tup (pv 0) (pv 5) (fun _ _ => rfl)) pa_nil))) (pss_one (ps_for PassesOwn.never rfl (pi_tup (pe_tup (pa_cons (pe_tup (pa_cons pe_str (pa_cons (pe_ix ix_tup (pe_ix ix_tup (pv 0) (pv 5) (fun _ _ => rfl)) pe_int (fun _ _ => rfl)) pa_nil))) (pa_cons (pe_tup (pa_cons pe_str (pa_cons (pe_ix ix_tup (pe_ix ix_tup (pv 0) (pv 5) (fun _ _ => rfl)) pe_int (fun _ _ => rfl)) pa_nil))) pa_nil)))) (pg_tup rfl (pgs_cons (pg_name (i := 6) scFind.nd rfl (.inl rfl)) (pgs_cons (pg_name (i := 7) scFind.nd rfl (.inl rfl)) pgs_nil))) (pss_one (ps_if (pt_cmp (pc_dnotin hu (pv 7) (pv 2))) (pss_cons (ps_dput hu (pv 2) (pv 7) (pe_op op_add_str (pe_dget hu (pv 2) (pv 5) (fun _ _ => rfl)) (pv 6)) rfl)
      (pss_one (ps_expr (pe_bm PySem.F.plainAttrs_list PySem.F.slot_list_append PySem.F.type_list_append mt_append (pv 3) (pa_cons (pv 7) pa_nil))))) pss_nil)))) pss_nil)))))
      (pss_one (ps_ret (pv 2))))))), ?_⟩
    have line : sizeLine = 16777216 := by decide
    have hl := hw.le
    refine fun D nD => ⟨_, rfl, upd_same, [(.inl st, .str "")], rfl, by show 1 ≤ 15; decide, ?_⟩
    have eE : PySem.Str.ofString "" = word [] := str_ext (by rw [word_list]; decide +kernel)
    have s1 : Same H (upd (upd H D (.dK [])) D (.dK (mergeK [] [(.inl st, .str "")]))) := fun b o e => by
      rw [upd_ne (ne_of_none e nD), upd_ne (ne_of_none e nD)]
      exact e
    have eD : upd (upd H D (.dK [])) D (.dK (mergeK [] [(.inl st, .str "")])) D = some (.dK ([(st, ([] : List Bool))].map tent)) := by
      rw [upd_same]
      show some (HO.dK [((.inl st : Key), V.str (PySem.Str.ofString ""))]) = _
      rw [eE]
      rfl
    change (_ : Hp → Prop) (upd (upd H D (.dK [])) D (.dK (mergeK [] [(.inl st, .str "")])))
    generalize upd (upd H D (.dK [])) D (.dK (mergeK [] [(.inl st, .str "")])) = H1 at s1 eD ⊢
    refine ⟨_, rfl, by show 1 ≤ sizeLine; decide, fun W nW => ?_⟩
    have DW : D ≠ W := ne_of_none eD nW
    have s2 := s1.trans (Same.upd (o := .lst [V.int st]) nW)
    have eD2 := (Same.upd (o := .lst [V.int st]) nW) _ _ eD
    have eW : upd H1 W (.lst [V.int st]) W = some (.lst (([(st, ([] : List Bool))].map (·.1)).map V.int)) := upd_same
    have nW0 : H W = none := s1.free nW
    change (_ : Hp → Prop) (upd H1 W (.lst [V.int st]))
    generalize upd H1 W (.lst [V.int st]) = H2 at s2 eD2 eW ⊢
    have fd0 : Fd ps st [(st, [])] := ⟨by simp, fun e he => by rw [List.mem_singleton.mp he]; exact .nil, fun e he => by rw [List.mem_singleton.mp he]; exact Nat.zero_le _, by simp⟩
    refine ⟨fun n σ H' => ∃ (i : Nat) (es : List (Int × List Bool)) (v5 v6 v7 : Option V), n = ps.length - i ∧ i ≤ es.length ∧ σ = [some (V.ref m), some (V.int st), some (V.ref D), some (V.ref W), some (V.int (i : Nat)), v5, v6, v7] ∧ Same H H' ∧ H' D = some (.dK (es.map tent)) ∧ H' W = some (.lst ((es.map (·.1)).map V.int)) ∧ Fd ps st es ∧ ∀ j k x y, j < i → (es.map (·.1))[j]? = some k → place ps k = .toss x y → x ∈ es.map (·.1) ∧ y ∈ es.map (·.1),
      ⟨ps.length, 0, [(st, [])], none, none, none, rfl, Nat.zero_le _, rfl, s2, eD2, eW, fd0, fun j k x y hj => absurd hj (Nat.not_lt_zero _)⟩, ?_⟩
    rintro n σ H3 ⟨i, es, v5, v6, v7, rfl, hi, rfl, s3, e3, w3, fd, cl⟩
    have hel := fd.len hw hs
    refine ⟨_, rfl, _, rfl, W, _, rfl, .inl (SqL.of w3), _, _, rfl, rfl, _, rfl, ?_⟩
    rw [List.length_map, List.length_map]
    by_cases lt : i < es.length
    · rw [decide_eq_true (show (i : Int) < (es.length : Nat) by omega)]
      refine iteT ?_
      obtain ⟨⟨k, t⟩, hk⟩ : ∃ e, es[i]? = some e := ⟨es[i], List.getElem?_eq_getElem lt⟩
      have hmem : (k, t) ∈ es := List.mem_of_getElem? hk
      have hgo := fd.go _ hmem
      have hink : In ps k := hgo.rch.inn hw hs
      have hki : (es.map (·.1))[i]? = some k := by rw [List.getElem?_map, hk]; rfl
      obtain ⟨rs, tt, em, ea, et⟩ := (hm.same s3).at hw hink.1 hink.2
      refine ⟨fun σ H' => ∃ (es' : List (Int × List Bool)) (v5 v6 v7 : Option V), i + 1 ≤ es'.length ∧ σ = [some (V.ref m), some (V.int st), some (V.ref D), some (V.ref W), some (V.int ((i + 1 : Nat) : Int)), v5, v6, v7] ∧ Same H H' ∧ H' D = some (.dK (es'.map tent)) ∧ H' W = some (.lst ((es'.map (·.1)).map V.int)) ∧ Fd ps st es' ∧ ∀ j k x y, j < i + 1 → (es'.map (·.1))[j]? = some k → place ps k = .toss x y → x ∈ es'.map (·.1) ∧ y ∈ es'.map (·.1), ?_, ?_⟩
      · rintro σ' H' ⟨es', v5, v6, v7, h1, h2, h3, h4, h5, h6, h7⟩
        exact ⟨ps.length - (i + 1), by omega, i + 1, es', v5, v6, v7, rfl, h1, h2, h3, h4, h5, h6, h7⟩
      · refine ⟨_, rfl, _, rfl, W, _, _, .int k, rfl, rfl, SqL.of w3, atI_nat (by rw [List.getElem?_map, hki]; rfl), _, rfl, _, _, rfl, rfl, ?_⟩
        refine ⟨_, rfl, _, rfl, m, rs, k, .ref tt, rfl, rfl, SqT.of em, ea, tt, _, rfl, et, _, rfl, ?_⟩
        cases e : place ps k with
        | fin n =>
          refine iteF ⟨es, some (.int k), v6, v7, lt, rfl, s3, e3, w3, fd, fun j k' x y hj hk' hp => ?_⟩
          rcases Nat.lt_or_ge j i with l | l
          · exact cl j k' x y l hk' hp
          · have ej : j = i := by omega
            rw [ej, hki] at hk'
            cases hk'
            rw [e] at hp
            cases hp
        | never =>
          refine iteF ⟨es, some (.int k), v6, v7, lt, rfl, s3, e3, w3, fd, fun j k' x y hj hk' hp => ?_⟩
          rcases Nat.lt_or_ge j i with l | l
          · exact cl j k' x y l hk' hp
          · have ej : j = i := by omega
            rw [ej, hki] at hk'
            cases hk'
            rw [e] at hp
            cases hp
        | toss x y =>
          rw [e] at et
          refine iteT ⟨_, rfl, _, rfl, m, rs, k, .ref tt, rfl, rfl, SqT.of em, ea, tt, _, 1, .int x, rfl, rfl, SqT.of et, atI_nat (j := 1) rfl, by show 2 ≤ sizeLine; decide, fun T1 n1 => ?_⟩
          have q1 := Same.upd (o := .tup [V.str (PySem.Str.ofString "H"), .int x]) n1
          have f1 : upd H3 T1 (.tup [V.str (PySem.Str.ofString "H"), .int x]) T1 = some (.tup [V.str (sg true), .int x]) := upd_same
          change (_ : Hp → Prop) (upd H3 T1 (.tup [V.str (PySem.Str.ofString "H"), .int x]))
          generalize upd H3 T1 (.tup [V.str (PySem.Str.ofString "H"), .int x]) = H4 at q1 f1 ⊢
          refine ⟨_, rfl, _, rfl, m, rs, k, .ref tt, rfl, rfl, SqT.of (q1 _ _ em), ea, tt, _, 2, .int y, rfl, rfl, SqT.of (q1 _ _ et), atI_nat (j := 2) rfl, by show 2 ≤ sizeLine; decide, fun T2 n2 => ?_⟩
          have q2 := Same.upd (o := .tup [V.str (PySem.Str.ofString "T"), .int y]) n2
          have f2 : upd H4 T2 (.tup [V.str (PySem.Str.ofString "T"), .int y]) T2 = some (.tup [V.str (sg false), .int y]) := upd_same
          change (_ : Hp → Prop) (upd H4 T2 (.tup [V.str (PySem.Str.ofString "T"), .int y]))
          generalize upd H4 T2 (.tup [V.str (PySem.Str.ofString "T"), .int y]) = H5 at q2 f2 ⊢
          refine ⟨by show 2 ≤ sizeLine; decide, fun T0 n0 => ?_⟩
          have q0 := Same.upd (o := .tup [V.ref T1, .ref T2]) n0
          have f0 : upd H5 T0 (.tup [V.ref T1, .ref T2]) T0 = some (.tup [V.ref T1, .ref T2]) := upd_same
          change (_ : Hp → Prop) (upd H5 T0 (.tup [V.ref T1, .ref T2]))
          have q123 := (q1.trans q2).trans q0
          replace f1 := q0 _ _ (q2 _ _ f1)
          replace f2 := q0 _ _ f2
          generalize upd H5 T0 (.tup [V.ref T1, .ref T2]) = H6 at q123 f0 f1 f2 ⊢
          have q3 := s3.trans q123
          replace e3 := q123 _ _ e3
          replace w3 := q123 _ _ w3
          refine ⟨T0, rfl, ⟨_, SqT.of f0⟩, for_tup (K := K) (a := T0) (xs := [V.ref T1, .ref T2]) (fun j σ H' => ∃ (es' : List (Int × List Bool)) (v6 v7 : Option V), σ = [some (V.ref m), some (V.int st), some (V.ref D), some (V.ref W), some (V.int ((i + 1 : Nat) : Int)), some (V.int k), v6, v7] ∧ Same H H' ∧ H' D = some (.dK (es'.map tent)) ∧ H' W = some (.lst ((es'.map (·.1)).map V.int)) ∧ H' T0 = some (.tup [V.ref T1, .ref T2]) ∧ H' T1 = some (.tup [V.str (sg true), .int x]) ∧ H' T2 = some (.tup [V.str (sg false), .int y]) ∧ Fd ps st es' ∧ (∃ ex, es' = es ++ ex) ∧ (1 ≤ j → x ∈ es'.map (·.1)) ∧ (2 ≤ j → y ∈ es'.map (·.1))) ⟨es, v6, v7, rfl, q3, e3, w3, f0, f1, f2, fd, ⟨[], by simp⟩, fun h => absurd h (by decide), fun h => absurd h (by decide)⟩ (fun j σ H' _ ⟨_, _, _, _, _, _, _, h, _⟩ => SqT.of h) ?_ ?_⟩
          · rintro j v σ H7 hj ⟨es', v6, v7, rfl, s7, e7, w7, g0, g1, g2, fd7, ⟨ex, hex⟩, c1, c2⟩
            have hmem7 : (k, t) ∈ es' := by rw [hex]; exact List.mem_append_left _ hmem
            obtain ⟨Tj, b, z, rfl, gj, goz, nx1, nx2⟩ : ∃ (Tj : Addr) (b : Bool) (z : Int), v = .ref Tj ∧ H7 Tj = some (.tup [V.str (sg b), .int z]) ∧ Goes ps st (t ++ [b]) z ∧ (1 ≤ j + 1 → x = z ∨ x ∈ es'.map (·.1)) ∧ (2 ≤ j + 1 → y = z ∨ y ∈ es'.map (·.1)) := by
              match j, hj with
              | 0, hj =>
                cases hj
                exact ⟨T1, true, x, rfl, g1, hgo.heads e, fun _ => .inl rfl, fun h => absurd h (by decide)⟩
              | 1, hj =>
                cases hj
                exact ⟨T2, false, y, rfl, g2, hgo.tails e, fun _ => .inr (c1 (by decide)), fun _ => .inl rfl⟩
              | j + 2, hj => cases hj
            have hsz : es'.length < sizeLine := by
              have := fd7.len hw hs
              omega
            refine ⟨Tj, _, rfl, SqT.of gj, rfl, _, _, rfl, _, _, rfl, rfl, _, rfl, _, rfl, D, _, rfl, DGet.k (k := .inl z) e7, _, rfl, ?_⟩
            by_cases hz : z ∈ es'.map (·.1)
            · have : valV (es'.map tent) (.inl z) ≠ none := fun h => val_no.mp h hz
              obtain ⟨u, hu'⟩ := Option.ne_none_iff_exists'.mp this
              rw [hu']
              refine iteF ⟨es', _, _, rfl, s7, e7, w7, g0, g1, g2, fd7, ⟨ex, hex⟩, fun h => ?_, fun h => ?_⟩
              · rcases nx1 h with rfl | h
                · exact hz
                · exact h
              · rcases nx2 h with rfl | h
                · exact hz
                · exact h
            · rw [val_no.mpr hz]
              have vk : valV (es'.map tent) (.inl k) = some (.str (word t)) := val_mem fd7.nd hmem7
              have tl : t.length ≤ 30 := by
                have := fd7.ln _ hmem7
                have := fd7.len hw hs
                have h3 : (k, t).2.length = t.length := rfl
                omega
              refine iteT ⟨_, rfl, _, rfl, D, .str (word t), rfl, by rw [← vk]; exact DGet.k (k := .inl k) e7, _, rfl, _, _, rfl, rfl, by rw [word_len, sg_len]; omega, ?_⟩
              rw [word_snoc]
              have w8 : upd H7 D (.dK (putK (es'.map tent) (.inl z) (.str (word (t ++ [b]))))) W = some (.lst ((es'.map (·.1)).map V.int)) := by
                rw [upd_ne DW.symm]
                exact w7
              have nT : ∀ {q : Addr} {xs : List V}, H7 q = some (.tup xs) → q ≠ D ∧ q ≠ W := fun h => ⟨ne_of h e7 (by intro z; cases z), ne_of h w7 (by intro z; cases z)⟩
              refine ⟨_, rfl, _, rfl, D, _, rfl, DPut.k (k := .inl z) e7 (by rw [List.length_map]; exact hsz), _, rfl, .inl ⟨rfl, _, SqL.of w8⟩, _, rfl, W, _, _, rfl, rfl, w8, by rw [List.length_map, List.length_map]; exact hsz, ?_⟩
              refine ⟨es' ++ [(z, t ++ [b])], some (.str (sg b)), some (.int z), rfl, ?_, ?_, ?_, ?_, ?_, ?_, fd7.more b hmem7 goz hz, ⟨ex ++ [(z, t ++ [b])], by rw [hex, List.append_assoc]⟩, fun h => ?_, fun h => ?_⟩
              · intro c o h
                rw [upd_ne (ne_of_none h nW0), upd_ne (ne_of_none h nD)]
                exact s7 _ _ h
              · rw [upd_ne DW, upd_same, put_new hz]
              · rw [upd_same, List.map_append, List.map_append]
                rfl
              · rw [upd_ne (nT g0).2, upd_ne (nT g0).1]
                exact g0
              · rw [upd_ne (nT g1).2, upd_ne (nT g1).1]
                exact g1
              · rw [upd_ne (nT g2).2, upd_ne (nT g2).1]
                exact g2
              · rw [List.map_append]
                rcases nx1 h with rfl | h
                · exact List.mem_append_right _ List.mem_cons_self
                · exact List.mem_append_left _ h
              · rw [List.map_append]
                rcases nx2 h with rfl | h
                · exact List.mem_append_right _ List.mem_cons_self
                · exact List.mem_append_left _ h
          · rintro σ H7 ⟨es', v6, v7, rfl, s7, e7, w7, g0, g1, g2, fd7, ⟨ex, hex⟩, c1, c2⟩
            refine ⟨es', some (.int k), v6, v7, ?_, rfl, s7, e7, w7, fd7, fun j k' a b hj hk' hp => ?_⟩
            · rw [hex, List.length_append]
              omega
            · rcases Nat.lt_or_ge j i with l | l
              · rw [hex, List.map_append, List.getElem?_append_left (by rw [List.length_map]; omega)] at hk'
                obtain ⟨ca, cb⟩ := cl j k' a b l hk' hp
                rw [hex, List.map_append]
                exact ⟨List.mem_append_left _ ca, List.mem_append_left _ cb⟩
              · have ej : j = i := by omega
                rw [ej, hex, List.map_append, List.getElem?_append_left (by rw [List.length_map]; omega), hki] at hk'
                cases hk'
                rw [e] at hp
                cases hp
                exact ⟨c1 (by show 1 ≤ 2; decide), c2 (by show 2 ≤ 2; decide)⟩
    · rw [decide_eq_false (show ¬ (i : Int) < (es.length : Nat) by omega)]
      refine iteF ⟨_, rfl, q D es H3 s3 nD e3 fd fun k => ⟨fun hk => ?_, fun hk => ?_⟩⟩
      · obtain ⟨e, he, rfl⟩ := List.mem_map.mp hk
        exact (fd.go e he).rch
      · refine hk.all (S := fun k => k ∈ es.map (·.1)) fd.hd fun a x y ha hp => ?_
        obtain ⟨j, hj, ej⟩ := List.getElem_of_mem ha
        rw [List.length_map] at hj
        exact cl j a x y (by omega) (by rw [List.getElem?_eq_getElem (by rw [List.length_map]; exact hj), ej]) hp
end
end Z

set_option Elab.async false
set_option linter.all false
set_option maxRecDepth 100000
set_option maxHeartbeats 4000000
namespace Z
open PySem PySem.Spec PyProof.Rows L2 GG
abbrev sReach : Stmt := top 11
abbrev sDist : Stmt := top 13
section
variable {P : Program} {w : World} {K : PySem.W.Frag} {mg : Str → Option Value} {base : Heap}
structure NamesG (mg : Str → Option Value) : Prop extends Names mg where
  sorted : mg "sorted" = none
  enumerate : mg "enumerate" = none
def spReach : Sp := fun vs H Q _ => ∃ (m : Addr) (ps : List Pl), vs = [.ref m] ∧ Mach H m ps ∧ WF ps ∧ ∀ (t : Addr) (ks : List Int) H', Same H H' → H t = none → H' t = some (.tup (ks.map V.int)) → Places ps 0 ks → Q (.ref t) H'
theorem scReach : FnScope ["machine"] ["machine"] (defScope sReach) := ⟨rfl, rfl, rfl, by decide +kernel, rfl, by decide +kernel, by decide +kernel⟩
theorem in_zero {ps : List Pl} (hw : WF ps) : In ps 0 := ⟨by decide, by have := hw.ne; omega⟩
theorem ok_reach {f g : Addr} {fd gd : FuncData} (F : Fun K "reachable_states" "reachable_states" sReach f fd) (T : NamesG mg) (GF : FnOk P w K mg base CX0 2 g gd ["machine", "start"] spFind) (PF_ : Def K mg "find_tapes" g gd ["machine", "start"]) : FnOk P w K mg base CX0 3 f fd ["machine"] spReach := by
  refine F.ok scReach (fun vs H Q E h => ?_) (fun cdv A outer s H vs Q E hr h => ?_)
  · obtain ⟨m, ps, rfl, _⟩ := h
    rfl
  · obtain ⟨m, ps, rfl, hm, hw, q⟩ := h
    refine ⟨_, (pss_one (ps_ret (pe_callTy call_tuple_of (by rfl) T.tuple (by decide +kernel) (pa_cons (pe_callB (call_sortedDI rfl) (by rfl) T.sorted (by decide +kernel) (pa_cons (pe_call GF (hr.mono (by first | decide | omega)) (by rfl) PF_.is PF_.kp PF_.bi .nil pass0 (pa_cons (pv 0) (pa_cons pe_int pa_nil))) pa_nil)) pa_nil)))), ?_⟩
    refine ⟨_, rfl, m, 0, ps, rfl, hm, hw, in_zero hw, fun D es H1 s1 nD eD fd hr => ?_⟩
    have hl := fd.len hw (in_zero hw)
    have h30 := hw.le
    refine ⟨D, _, es.map (·.1), rfl, .inl eD, by rw [List.map_map, List.map_map]; rfl, by rw [List.length_map]; omega, fun ys p pm pw np => ?_⟩
    refine ⟨p, _, rfl, .inl ⟨SqL.of upd_same, fun t nt => ?_⟩⟩
    have s2 := Same.upd (o := .lst (ys.map V.int)) np
    have s3 := Same.upd (o := .tup (ys.map V.int)) nt
    exact q t ys _ ((s1.trans s2).trans s3) ((s1.trans s2).free nt) upd_same (places_of fd.nd hr pm pw)
/-! distances -/
def dV : Option Nat → V
  | some j => .int (j : Nat)
  | none => .non
def dl (ps : List Pl) (n d i : Nat) : List V := (List.range n).map fun k => dV (lvl ps (if k < i then d + 1 else d) ((k : Nat) : Int))
theorem dl_len (ps : List Pl) (n d i : Nat) : (dl ps n d i).length = n := by simp [dl]
theorem dl_get {ps : List Pl} {n d i k : Nat} (h : k < n) : (dl ps n d i)[k]? = some (dV (lvl ps (if k < i then d + 1 else d) ((k : Nat) : Int))) := by
  unfold dl
  rw [List.getElem?_map, List.getElem?_range h]
  rfl
theorem dl_skip {ps : List Pl} {n d i : Nat} (e : lvl ps (d + 1) ((i : Nat) : Int) = lvl ps d ((i : Nat) : Int)) : dl ps n d i = dl ps n d (i + 1) := by
  unfold dl
  refine List.map_congr_left fun k _ => ?_
  rcases Nat.lt_trichotomy k i with a | a | a
  · rw [if_pos a, if_pos (by omega)]
  · subst a
    rw [if_neg (Nat.lt_irrefl _), if_pos (Nat.lt_succ_self _), e]
  · rw [if_neg (by omega), if_neg (by omega)]
theorem dl_set {ps : List Pl} {n d i : Nat} : (dl ps n d i).set i (dV (lvl ps (d + 1) ((i : Nat) : Int))) = dl ps n d (i + 1) := by
  refine List.ext_getElem? fun k => ?_
  rw [List.getElem?_set]
  rcases Nat.lt_or_ge k n with l | l
  · rcases Nat.lt_trichotomy k i with a | a | a
    · rw [if_neg (by omega), dl_get l, dl_get l, if_pos a, if_pos (by omega)]
    · subst a
      rw [if_pos rfl, dl_len, if_pos l, dl_get l, if_pos (Nat.lt_succ_self _)]
    · rw [if_neg (by omega), dl_get l, dl_get l, if_neg (by omega), if_neg (by omega)]
  · have h1 : (dl ps n d i)[k]? = none := List.getElem?_eq_none (by rw [dl_len]; exact l)
    have h2 : (dl ps n d (i + 1))[k]? = none := List.getElem?_eq_none (by rw [dl_len]; exact l)
    rw [h1, h2, dl_len]
    by_cases a : i = k
    · rw [if_pos a, if_neg (by omega)]
    · rw [if_neg a]
theorem dl_end (ps : List Pl) (n d : Nat) : dl ps n d n = dl ps n (d + 1) 0 := by
  unfold dl
  refine List.map_congr_left fun k hk => ?_
  rw [if_pos (List.mem_range.mp hk), if_neg (Nat.not_lt_zero _)]
theorem dl_flat (ps : List Pl) (n d i : Nat) : (dl ps n d i).all flatV = true := by
  unfold dl
  rw [List.all_map, List.all_eq_true]
  intro k _
  show flatV (dV _) = true
  cases lvl ps (if k < i then d + 1 else d) ((k : Nat) : Int) <;> rfl
theorem pl_at {H : Hp} {rs : List V} {ps : List Pl} (pl : Pls H rs ps) {i : Nat} {x : V} (hx : rs[i]? = some x) : i < ps.length ∧ ∃ t, x = .ref t ∧ H t = some (.tup (place ps ((i : Nat) : Int)).row) := by
  have hi : i < ps.length := by
    have := (List.getElem?_eq_some_iff.mp hx).1
    rwa [pl.len] at this
  have hp : ps[i]? = some ps[i] := List.getElem?_eq_getElem hi
  obtain ⟨t, ht, et⟩ := pl.get hp
  rw [hx] at ht
  refine ⟨hi, t, Option.some.inj ht, ?_⟩
  rw [place_get (p := ps[i]) (by rw [Int.toNat_natCast]; exact hp)]
  exact et
theorem eq_dV (d : Nat) (o : Option Nat) : eqV (dV o) (.int (d : Nat)) = decide (o = some d) := by
  cases o with
  | none => rfl
  | some j =>
    show ((j : Int) == (d : Int)) = _
    by_cases e : j = d
    · subst e
      simp
    · rw [decide_eq_false (by intro z; exact e (Option.some.inj z))]
      have e2 : ((j : Int) == (d : Int)) = false := by
        rw [beq_eq_false_iff_ne]
        omega
      exact e2
theorem in_two (d : Nat) (o u : Option Nat) : inV (.int (d : Nat)) [dV o, dV u] = (decide (o = some d) || decide (u = some d)) := by
  show (eqV _ _ || (eqV _ _ || false)) = _
  rw [eq_dV, eq_dV, Bool.or_false]
theorem place_in {ps : List Pl} {i : Nat} (hi : i < ps.length) : In ps ((i : Nat) : Int) := ⟨by omega, by omega⟩
theorem lvl_same {ps : List Pl} {d : Nat} {k : Int} {j : Nat} (h : lvl ps d k = some j) : lvl ps (d + 1) k = lvl ps d k := by
  rw [lvl_succ, h]
theorem lvl_still {ps : List Pl} {d : Nat} {k : Int} (h : lvl ps d k = none) (e : eB ps (d + 1) k = false) : lvl ps (d + 1) k = lvl ps d k := by
  rw [lvl_succ, h, e]
  rfl
def spDist : Sp := fun vs H Q _ => ∃ (m : Addr) (ps : List Pl), vs = [.ref m] ∧ Mach H m ps ∧ WF ps ∧ ∀ (t : Addr) H', Same H H' → H t = none → H' t = some (.tup (dl ps ps.length (ps.length - 1) 0)) → Q (.ref t) H'
theorem scDist : FnScope ["machine", "distances", "distance", "index", "state"] ["machine"] (defScope sDist) := ⟨rfl, rfl, rfl, by decide +kernel, rfl, by decide +kernel, by decide +kernel⟩
theorem ok_dist {f g : Addr} {fd gd : FuncData} (F : Fun K "end_distances" "end_distances" sDist f fd) (T : NamesG mg) (GT : FnOk P w K mg base CX0 1 g gd ["state"] spToss) (PT_ : Def K mg "is_toss" g gd ["state"]) : FnOk P w K mg base CX0 2 f fd ["machine"] spDist := by
  refine F.ok scDist (fun vs H Q E h => ?_) (fun cdv A outer s H vs Q E hr h => ?_)
  · obtain ⟨m, ps, rfl, _⟩ := h
    rfl
  · obtain ⟨m, ps, rfl, hm, hw, q⟩ := h
    refine ⟨_, (pss_cons (ps_setLc (i := 1) (own := [("state", 4)]) (g := gName 4) (tt := tYes) rfl scDist.nd rfl rfl (sw_true rfl rfl rfl (by decide +kernel)) (pi_tup (pv 0)) (blkOk_by (N := ["machine", "distances", "distance", "index", "state"]) (sc := defScope sDist) (own := [("state", 4)]) (by decide +kernel)) (fun _ _ _ _ _ => (pg_name (i := 4) scDist.nd rfl (.inl rfl))) (fun _ _ _ _ _ => pts_nil) (fun _ _ _ _ _ => (pe_ifExp (pt_cmpR op_eq (pe_ix (KX.ix_tupK (K := K) rfl) (pv 4) pe_int (fun _ _ => rfl)) pe_str (nomark _)) pe_int pe_non)))
      (pss_cons (ps_for PassesOwn.never rfl (pi_range2 rfl T.range (pa_cons pe_int (pa_cons (pe_callB call_len_seq (by rfl) T.len PySem.boot_len (pa_cons (pv 0) pa_nil)) pa_nil))) (pg_name (i := 2) scDist.nd rfl (.inl rfl)) (pss_one (ps_for PassesOwn.never rfl (EN.pi_pairs (by rfl) T.enumerate (pa_cons (pv 0) pa_nil)) (pg_tup rfl (pgs_cons (pg_name (i := 3) scDist.nd rfl (.inl rfl)) (pgs_cons (pg_name (i := 4) scDist.nd rfl (.inl rfl)) pgs_nil))) (pss_one (ps_if (PW.pt (pw_and (pt_cmpR op_isN (pe_ix ix_list (pv 1) (pv 3) (fun _ _ => rfl)) pe_non (nomark _)) (pw_and1 (pt_val (pe_call GT (hr.mono (by first | decide | omega)) (by rfl) PT_.is PT_.kp PT_.bi .nil pass0 (pa_cons (pv 4) pa_nil)))))) (pss_one (ps_if (pt_cmpR op_in_seq (pe_op op_sub (pv 2) pe_int) (pe_tup (pa_cons (pe_ix ix_list (pv 1) (pe_ix ix_tup (pv 4) pe_int (fun _ _ => rfl)) (fun _ _ => rfl)) (pa_cons (pe_ix ix_list (pv 1) (pe_ix ix_tup (pv 4) pe_int (fun _ _ => rfl)) (fun _ _ => rfl)) pa_nil))) (by rfl)) (pss_one (ps_asg (pv 2) (pg_sub (pv 1) (pv 3) set_list))) pss_nil)) pss_nil)))))
      (pss_one (ps_ret (pe_callTy call_tuple_of (by rfl) T.tuple (by decide +kernel) (pa_cons (pv 1) pa_nil)))))), ?_⟩
    have line : sizeLine = 16777216 := by decide
    have hl := hw.le
    obtain ⟨rs, em, pl⟩ := id hm
    have rl := pl.len
    refine ⟨_, rfl, m, rfl, ⟨_, SqT.of em⟩, fun D nD => ?_⟩
    refine lc_tup (K := K) (a := m) (xs := rs) (fun i Hx => Same H Hx ∧ Hx D = some (.lst ((dl ps ps.length 0 0).take i))) ⟨Same.upd nD, upd_same⟩ (fun i Hx _ h => SqT.of (h.1 _ _ em)) ?_ ?_
    · rintro i x H1 hx ⟨s1, e1⟩
      obtain ⟨hi, t, rfl, et⟩ := pl_at pl hx
      refine ⟨rfl, ?_⟩
      dsimp only [tYes]
      refine iteT ?_
      have go : ∀ z : V, z = dV (lvl ps 0 ((i : Nat) : Int)) → ∃ acc, H1 D = some (.lst acc) ∧ acc.length < sizeLine ∧ (Same H (upd H1 D (.lst (acc ++ [z]))) ∧ upd H1 D (.lst (acc ++ [z])) D = some (.lst ((dl ps ps.length 0 0).take (i + 1)))) := fun z hz => by
        refine ⟨_, e1, by rw [List.length_take]; omega, fun b o e => by rw [upd_ne (ne_of_none e nD)]; exact s1 _ _ e, ?_⟩
        rw [upd_same, List.take_succ, dl_get hi, if_neg (Nat.not_lt_zero _), hz]
        rfl
      have l0 : lvl ps 0 ((i : Nat) : Int) = if eB ps 0 ((i : Nat) : Int) then some 0 else none := by
        show List.find? _ [0] = _
        rw [List.find?_cons]
        cases eB ps 0 ((i : Nat) : Int) <;> rfl
      cases e : place ps ((i : Nat) : Int) with
      | fin n =>
        rw [e] at et
        refine ⟨.ref t, rfl, t, _, 0, .str "end", rfl, rfl, SqT.of (s1 _ _ et), atI_nat (j := 0) rfl, rfl, _, rfl, ?_⟩
        rw [decide_eq_true rfl]
        exact iteT (go _ (by rw [l0, eB, e]; rfl))
      | toss x y =>
        rw [e] at et
        refine ⟨.ref t, rfl, t, _, 0, .str "toss", rfl, rfl, SqT.of (s1 _ _ et), atI_nat (j := 0) rfl, rfl, _, rfl, ?_⟩
        rw [decide_eq_false str_end_toss]
        exact iteF (go _ (by rw [l0, eB, e]; rfl))
      | never =>
        rw [e] at et
        refine ⟨.ref t, rfl, t, _, 0, .str "never", rfl, rfl, SqT.of (s1 _ _ et), atI_nat (j := 0) rfl, rfl, _, rfl, ?_⟩
        rw [decide_eq_false str_end_never]
        exact iteF (go _ (by rw [l0, eB, e]; rfl))
    · rintro H1 ⟨s1, e1⟩
      rw [rl, List.take_of_length_le (by rw [dl_len]; exact Nat.le_refl _)] at e1
      have n1 := hw.ne
      refine ⟨_, rfl, m, _, rfl, .inr (SqT.of (s1 _ _ em)), 1, ((ps.length : Nat) : Int), by rw [rl], ⟨by decide, by decide, by omega, by omega⟩, ?_⟩
      rw [show (((ps.length : Nat) : Int) - 1).toNat = ps.length - 1 by omega]
      refine for_range (lo := 1) (n := ps.length - 1) (fun d σ H' => ∃ v2 v3 v4 : Option V, σ = [some (V.ref m), some (V.ref D), v2, v3, v4] ∧ Same H H' ∧ H' D = some (.lst (dl ps ps.length d 0))) ⟨_, _, _, rfl, s1, e1⟩ ?_ ?_
      · rintro d σ H2 hd ⟨v2, v3, v4, rfl, s2, e2⟩
        refine ⟨_, rfl, m, rs, rfl, SqT.of (s2 _ _ em), EN.for_pairs (xs := rs) (fun i σ H' => ∃ v3 v4 : Option V, σ = [some (V.ref m), some (V.ref D), some (V.int (1 + (d : Nat))), v3, v4] ∧ Same H H' ∧ H' D = some (.lst (dl ps ps.length d i))) ⟨_, _, rfl, s2, e2⟩ (fun i σ H' _ ⟨_, _, _, s, _⟩ => SqT.of (s _ _ em)) ?_ ?_⟩
        · rintro i x σ H3 T0 hx ⟨v3, v4, rfl, s3, e3⟩ nT0
          obtain ⟨hi, t, rfl, et⟩ := pl_at pl hx
          refine ⟨T0, _, rfl, SqT.of upd_same, rfl, _, _, rfl, _, _, rfl, rfl, ?_⟩
          have q4 := Same.upd (o := .tup [.int (i : Nat), .ref t]) nT0
          have s4 := s3.trans q4
          have e4 := q4 _ _ e3
          generalize upd H3 T0 (.tup [.int (i : Nat), .ref t]) = H4 at s4 e4 ⊢
          have et4 := s4 _ _ et
          refine ⟨_, rfl, _, rfl, D, _, _, dV (lvl ps d ((i : Nat) : Int)), rfl, rfl, SqL.of e4, atI_nat (by rw [dl_get hi, if_neg (Nat.lt_irrefl _)]), rfl, _, rfl, ?_⟩
          cases hlv : lvl ps d ((i : Nat) : Int) with
          | some j =>
            rw [decide_eq_false (show ¬ dV (some j) = V.non by intro z; cases z)]
            exact iteF (iteF ⟨_, _, rfl, s4, by rw [← dl_skip (lvl_same hlv)]; exact e4⟩)
          | none =>
            rw [decide_eq_true (show dV none = V.non from rfl)]
            refine iteT ⟨_, rfl, t, _, rfl, et4, _, rfl, ?_⟩
            cases e : place ps ((i : Nat) : Int) with
            | fin n =>
              have : eB ps d ((i : Nat) : Int) = true := eB_le (Nat.zero_le d) (by rw [eB, e])
              rw [lvl_none.mp hlv] at this
              cases this
            | never =>
              have : eB ps (d + 1) ((i : Nat) : Int) = false := by
                show (eB ps d ((i : Nat) : Int) || _) = false
                rw [lvl_none.mp hlv, e]
                rfl
              exact iteF ⟨_, _, rfl, s4, by rw [← dl_skip (lvl_still hlv this)]; exact e4⟩
            | toss x y =>
              rw [e] at et4
              have two := lvl_turn e hlv
              obtain ⟨ix, iy⟩ := wf_succ hw (place_in hi) e
              obtain ⟨jx, rfl⟩ : ∃ j : Nat, x = (j : Int) := ⟨x.toNat, by have := ix.1; omega⟩
              obtain ⟨jy, rfl⟩ : ∃ j : Nat, y = (j : Int) := ⟨y.toNat, by have := iy.1; omega⟩
              have hjx : jx < ps.length := by have := ix.2; omega
              have hjy : jy < ps.length := by have := iy.2; omega
              -- what stands at a side, new or old, is d just when it was
              have same : ∀ z : Nat, decide (lvl ps (if z < i then d + 1 else d) ((z : Nat) : Int) = some d) = decide (lvl ps d ((z : Nat) : Int) = some d) := fun z => by
                by_cases l : z < i
                · rw [if_pos l, lvl_succ]
                  cases h : lvl ps d ((z : Nat) : Int) with
                  | some j => rfl
                  | none =>
                    cases eB ps (d + 1) ((z : Nat) : Int)
                    · rfl
                    · rw [decide_eq_false (by intro h; have := Option.some.inj h; omega), decide_eq_false (by intro h; cases h)]
                · rw [if_neg l]
              refine iteT ⟨_, rfl, _, _, rfl, rfl, _, rfl, _, rfl, t, _, 1, .int (jx : Nat), rfl, rfl, SqT.of et4, atI_nat (j := 1) rfl, D, _, _, _, rfl, rfl, SqL.of e4, atI_nat (dl_get hjx), _, rfl, _, rfl, t, _, 2, .int (jy : Nat), rfl, rfl, SqT.of et4, atI_nat (j := 2) rfl, D, _, _, _, rfl, rfl, SqL.of e4, atI_nat (dl_get hjy), by show 2 ≤ sizeLine; decide, fun T2 nT2 => ?_⟩
              have q5 := Same.upd (o := .tup [dV (lvl ps (if jx < i then d + 1 else d) ((jx : Nat) : Int)), dV (lvl ps (if jy < i then d + 1 else d) ((jy : Nat) : Int))]) nT2
              have e5 := q5 _ _ e4
              refine ⟨T2, _, rfl, .inr (SqT.of upd_same), rfl, ?_, _, rfl, ?_⟩
              · show (flatV (dV _) && (flatV (dV _) && true)) = true
                cases lvl ps (if jx < i then d + 1 else d) ((jx : Nat) : Int) <;> cases lvl ps (if jy < i then d + 1 else d) ((jy : Nat) : Int) <;> rfl
              · change (if (inV (V.int ((1 : Int) + (d : Nat) - 1)) _) = true then _ else _ : Prop)
                rw [show (1 : Int) + (d : Nat) - 1 = (d : Nat) by omega, in_two, same jx, same jy, ← two]
                cases he : eB ps (d + 1) ((i : Nat) : Int) with
                | true =>
                  refine iteT ⟨_, rfl, _, rfl, _, rfl, D, _, ((i : Nat) : Int), i, rfl, rfl, e5, ixN_nat (by rw [dl_len]; exact hi), ?_⟩
                  have hD : H D = none := nD
                  refine ⟨some (.int (i : Nat)), some (.ref t), rfl, fun b o h => by rw [upd_ne (ne_of_none h hD)]; exact q5 _ _ (s4 _ _ h), ?_⟩
                  rw [upd_same, ← dl_set, lvl_succ, hlv, he]
                  show _ = some (HO.lst (List.set _ i (V.int ((d + 1 : Nat) : Int))))
                  rw [show ((d + 1 : Nat) : Int) = 1 + (d : Nat) by omega]
                | false => exact iteF ⟨_, _, rfl, s4.trans q5, by rw [← dl_skip (lvl_still hlv he)]; exact e5⟩
        · rintro σ H3 ⟨v3, v4, rfl, s3, e3⟩
          rw [rl, dl_end] at e3
          exact ⟨_, _, _, rfl, s3, e3⟩
      · rintro σ H2 ⟨v2, v3, v4, rfl, s2, e2⟩
        refine ⟨_, rfl, D, _, rfl, .inl ⟨SqL.of e2, fun t nt => ?_⟩⟩
        exact q t _ (s2.trans (Same.upd nt)) (s2.free nt) upd_same
end
end Z

set_option Elab.async false
set_option linter.all false
set_option maxRecDepth 100000
set_option maxHeartbeats 4000000
/-! a comprehension over enumerate of a tuple -/
namespace EN
open PySem PySem.Spec PyProof.Rows L2
theorem lc_pairs {K : PySem.W.Frag} {a : Addr} {xs : List V} {g : TG} {tt : TT} {te : TE} {vs : List Nat} {σ : L2.St} {H1 : Hp} {D : Addr} {Qd : Hp → Prop} (Pv : Nat → Hp → Prop) (h0 : Pv 0 (upd H1 D (.lst []))) (hl : ∀ i H, i ≤ xs.length → Pv i H → SqT K H a xs)
    (turn : ∀ i x H T, xs[i]? = some x → Pv i H → H T = none → g (.ref T) (wipe σ vs) (upd H T (.tup [.int (i : Nat), x])) fun σ2 H2 => wipe σ2 vs = wipe σ vs ∧ tt σ2 H2 fun c H3 =>
      if c = true then te σ2 H3 fun y H4 => ∃ acc, H4 D = some (.lst acc) ∧ acc.length < sizeLine ∧ Pv (i + 1) (upd H4 D (.lst (acc ++ [y]))) else Pv (i + 1) H3) (done : ∀ H, Pv xs.length H → Qd H) :
    ∃ W : Nat → Nat → Hp → Prop, (∃ m, W 0 m (upd H1 D (.lst []))) ∧ ∀ i m H, W i m H →
      ((Pairs K a).stop i H ∧ Qd H) ∨ ((Pairs K a).go i H ∧ ∃ Nx : Hp → Prop, (∀ H', Nx H' → ∃ m', m' < m ∧ W (i + 1) m' H') ∧
        ∀ x H', (Pairs K a).yld i H x H' → g x (wipe σ vs) H' fun σ2 H2 => wipe σ2 vs = wipe σ vs ∧ tt σ2 H2 fun c H3 =>
          if c = true then te σ2 H3 fun y H4 => ∃ acc, H4 D = some (.lst acc) ∧ acc.length < sizeLine ∧ Nx (upd H4 D (.lst (acc ++ [y]))) else Nx H3) := by
  refine ⟨fun i m H => m = xs.length - i ∧ i ≤ xs.length ∧ Pv i H, ⟨_, rfl, Nat.zero_le _, h0⟩, ?_⟩
  rintro i m H ⟨rfl, le, pv⟩
  have qx := hl i H le pv
  rcases Nat.lt_or_ge i xs.length with lt | ge
  · have hx : xs[i]? = some xs[i] := List.getElem?_eq_getElem lt
    refine .inr ⟨⟨xs, _, qx, hx⟩, Pv (i + 1), fun H' n => ⟨xs.length - (i + 1), by omega, rfl, lt, n⟩, ?_⟩
    rintro v H' ⟨T, x, rfl, nT, rfl, f1⟩
    exact turn i x H T (f1 xs qx) pv nT
  · have e : i = xs.length := by omega
    subst e
    exact .inl ⟨⟨xs, qx, Nat.le_refl _⟩, done H pv⟩
end EN

set_option Elab.async false
set_option linter.all false
set_option maxRecDepth 100000
set_option maxHeartbeats 4000000
/-! a loop over a locked dict's keys -/
namespace FS
open PySem PySem.Spec PyProof.Rows L2 GG
theorem for_keys {d : Addr} {o : Obj} {kvs : List (Key × V)} {g : TG} {tb : TS} {D : Ends} {σ : L2.St} {H : Hp} (Pv : Nat → L2.St → Hp → Prop) (h0 : Pv 0 σ H) (hl : ∀ i σ H, Pv i σ H → H d = some (.frz o (.dK kvs)))
    (turn : ∀ i k v σ H, kvs[i]? = some (k, v) → Pv i σ H → g (kV k) σ H fun σ2 H2 => tb { D with nx := Pv (i + 1), ct := Pv (i + 1), bk := D.nx } σ2 H2) (done : ∀ σ H, Pv kvs.length σ H → D.nx σ H) :
    ∃ W : Nat → Nat → L2.St → Hp → Prop, (∃ m, W 0 m σ H) ∧ ∀ i m σ H, W i m σ H →
      ((Itk d o kvs).stop i H ∧ D.nx σ H) ∨ ((Itk d o kvs).go i H ∧ ∃ N : L2.St → Hp → Prop, (∀ σ' H', N σ' H' → ∃ m', m' < m ∧ W (i + 1) m' σ' H') ∧ ∀ x H', (Itk d o kvs).yld i H x H' → g x σ H' fun σ2 H2 => tb { D with nx := N, ct := N, bk := D.nx } σ2 H2) := by
  refine ⟨fun i m σ H => m = kvs.length - i ∧ i ≤ kvs.length ∧ Pv i σ H, ⟨kvs.length, by simp, Nat.zero_le _, h0⟩, ?_⟩
  rintro i m σ H ⟨rfl, le, pv⟩
  have hd := hl i σ H pv
  rcases Nat.lt_or_ge i kvs.length with lt | ge
  · refine .inr ⟨⟨hd, lt⟩, Pv (i + 1), fun σ' H' n => ⟨kvs.length - (i + 1), by omega, rfl, lt, n⟩, ?_⟩
    rintro v H' ⟨rfl, k, u, hk, rfl⟩
    exact turn i k u σ _ hk pv
  · have e : i = kvs.length := by omega
    subst e
    exact .inl ⟨⟨hd, Nat.le_refl _⟩, done σ H pv⟩
end FS

set_option Elab.async false
set_option linter.all false
set_option maxRecDepth 100000
set_option maxHeartbeats 4000000
namespace Z
open PySem PySem.Spec PyProof.Rows L2 GG
abbrev sCheck : Stmt := top 14
section
variable {P : Program} {w : World} {K : PySem.W.Frag} {mg : Str → Option Value} {base : Heap}
/-- what is told of a machine that may run on, and of one that ends -/
def Trap (ps : List Pl) (H : Hp) (t : Addr) : Prop := ∃ (z : List Bool) (k : Int) (a : Addr) (ks : List Int), H t = some (.tup [.str "trap", .str (word z), .ref a]) ∧ Goes ps 0 z k ∧ ¬ Op ps k ∧ H a = some (.tup (ks.map V.int)) ∧ Places ps k ks
def rankV (ps : List Pl) (ks : List Int) : List V := (List.range ps.length).map fun k => if ks.contains ((k : Nat) : Int) then dV (lvl ps (ps.length - 1) ((k : Nat) : Int)) else .non
def EndsT (ps : List Pl) (H : Hp) (t : Addr) : Prop := ∃ (a : Addr) (ks : List Int), H t = some (.tup [.str "ends", .ref a]) ∧ (∀ k, Rch ps 0 k → Op ps k) ∧ (∀ k, k ∈ ks ↔ Rch ps 0 k) ∧ H a = some (.tup (rankV ps ks))
def spCheck : Sp := fun vs H Q _ => ∃ (m : Addr) (ps : List Pl), vs = [.ref m] ∧ Mach H m ps ∧ WF ps ∧ ∀ (t : Addr) H', Same H H' → H t = none → (Trap ps H' t ∨ EndsT ps H' t) → Q (.ref t) H'
theorem scCheck : FnScope ["machine", "tapes", "distances", "index", "k", "found"] ["machine"] (defScope sCheck) := ⟨rfl, rfl, rfl, by decide +kernel, rfl, by decide +kernel, by decide +kernel⟩
theorem ok_check {f g d : Addr} {fd gd dd : FuncData} (F : Fun K "check_termination" "check_termination" sCheck f fd) (T : NamesG mg) (GF : FnOk P w K mg base CX0 2 g gd ["machine", "start"] spFind) (PF_ : Def K mg "find_tapes" g gd ["machine", "start"])
    (GD_ : FnOk P w K mg base CX0 2 d dd ["machine"] spDist) (PD_ : Def K mg "end_distances" d dd ["machine"]) : FnOk P w K mg base CX0 3 f fd ["machine"] spCheck := by
  refine F.ok scCheck (fun vs H Q E h => ?_) (fun cdv A outer s H vs Q E hr h => ?_)
  · obtain ⟨m, ps, rfl, _⟩ := h
    rfl
  · obtain ⟨m, ps, rfl, hm, hw, q⟩ := h
    have hu64 : A.units + 3 + 64 < cLine := hr.units
    have hu : A.units + 3 + 1 < cLine := by omega
    refine ⟨_, (pss_cons (ps_set (i := 1) scCheck.nd rfl (.inr rfl) (pe_call GF (hr.mono (by first | decide | omega)) (by rfl) PF_.is PF_.kp PF_.bi .nil pass0 (pa_cons (pv 0) (pa_cons pe_int pa_nil))))
      (pss_cons (ps_set (i := 2) scCheck.nd rfl (.inl rfl) (pe_call GD_ (hr.mono (by first | decide | omega)) (by rfl) PD_.is PD_.kp PD_.bi .nil pass0 (pa_cons (pv 0) pa_nil)))
      (pss_cons (ps_lock (ps_for PassesOwn.never rfl (pi_keys (pv 1)) (pg_name (i := 3) scCheck.nd rfl (.inl rfl)) (pss_one (ps_if (pt_cmpR op_isN (pe_ix ix_tup (pv 2) (pv 3) (fun _ _ => rfl)) pe_non (nomark _)) (pss_one (ps_ret (pe_tup (pa_cons pe_str (pa_cons (pe_dget hu (pv 1) (pv 3) (fun _ _ => rfl)) (pa_cons (pe_callTy call_tuple_of (by rfl) T.tuple (by decide +kernel) (pa_cons (pe_callB (call_sortedDI rfl) (by rfl) T.sorted (by decide +kernel) (pa_cons (pe_call GF (hr.mono (by first | decide | omega)) (by rfl) PF_.is PF_.kp PF_.bi .nil pass0 (pa_cons (pv 0) (pa_cons (pv 3) pa_nil))) pa_nil)) pa_nil)) pa_nil)))))) pss_nil))))
      (pss_one (ps_ret (pe_tup (pa_cons pe_str (pa_cons (pe_callTy call_tuple_of (by rfl) T.tuple (by decide +kernel) (pa_cons (pe_lc (own := [("k", 4), ("found", 5)]) (g := gTup K 2 (gCons (gName 4) (gCons (gName 5) gNil))) (tt := tYes) rfl scCheck.nd (EN.pi_pairs (by rfl) T.enumerate (pa_cons (pv 2) pa_nil)) (blkOk_by (N := ["machine", "tapes", "distances", "index", "k", "found"]) (sc := defScope sCheck) (own := [("k", 4), ("found", 5)]) (by decide +kernel)) (fun _ _ _ _ _ => (pg_tup rfl (pgs_cons (pg_name (i := 4) scCheck.nd rfl (.inl rfl) (Or.inr rfl)) (pgs_cons (pg_name (i := 5) scCheck.nd rfl (.inl rfl) (Or.inr rfl)) pgs_nil)))) (fun _ _ _ _ _ => pts_nil) (fun _ _ _ _ _ => (pe_ifExp (pt_cmp (pc_din hu (pv 4) (pv 1))) (pv 5) pe_non))) pa_nil)) pa_nil)))))))), ?_⟩
    have line : sizeLine = 16777216 := by decide
    have hl := hw.le
    refine ⟨_, rfl, m, 0, ps, rfl, hm, hw, in_zero hw, fun D es H1 s1 nD eD fd hrc => ?_⟩
    refine ⟨_, rfl, m, ps, rfl, hm.same s1, hw, fun L H2 s2 nL eL => ?_⟩
    have hl2 := fd.len hw (in_zero hw)
    have eD2 := s2 _ _ eD
    have s02 := s1.trans s2
    have LD : L ≠ D := ne_of eL eD2 (by intro z; cases z)
    refine ⟨D, _, eD2, trivial, fun od => ?_⟩
    have eF : upd H2 D (.frz od (.dK (es.map tent))) D = some (.frz od (.dK (es.map tent))) := upd_same
    have sF : Same H (upd H2 D (.frz od (.dK (es.map tent)))) := fun b o e => by
      rw [upd_ne (ne_of_none e nD)]
      exact s02 _ _ e
    have eLF : upd H2 D (.frz od (.dK (es.map tent))) L = some (.tup (dl ps ps.length (ps.length - 1) 0)) := by
      rw [upd_ne LD]
      exact eL
    have back : upd (upd H2 D (.frz od (.dK (es.map tent)))) D (.dK (es.map tent)) = H2 := by
      funext b
      by_cases e : b = D
      · subst e
        rw [upd_same, eD2]
      · rw [upd_ne e, upd_ne e]
    have dist : ∀ {k : Int}, In ps k → atI (dl ps ps.length (ps.length - 1) 0) k = some (dV (lvl ps (ps.length - 1) k)) := fun {k} hk => by
      obtain ⟨j, rfl⟩ : ∃ j : Nat, k = (j : Int) := ⟨k.toNat, by have := hk.1; omega⟩
      exact atI_nat (dl_get (by have := hk.2; omega))
    refine ⟨_, rfl, D, od, rfl, .inl ⟨_, eF, FS.for_keys (fun i σ H' => ∃ v3 : Option V, σ = [some (V.ref m), some (V.ref D), some (V.ref L), v3, none, none] ∧ H' = upd H2 D (.frz od (.dK (es.map tent))) ∧ ∀ j k, j < i → (es.map (·.1))[j]? = some k → Op ps k) ⟨_, rfl, rfl, fun j k hj => absurd hj (Nat.not_lt_zero _)⟩ (fun i σ H' h => by obtain ⟨_, _, rfl, _⟩ := h; exact eF) ?_ ?_⟩⟩
    · rintro i k v σ H' hk ⟨v3, rfl, rfl, hop⟩
      obtain ⟨⟨k0, t⟩, he, hkv⟩ : ∃ e, es[i]? = some e ∧ tent e = (k, v) := by
        rw [List.getElem?_map] at hk
        cases e : es[i]? with
        | none => rw [e] at hk; cases hk
        | some e' => rw [e] at hk; exact ⟨e', rfl, Option.some.inj hk⟩
      have ek : k = .inl k0 := congrArg Prod.fst hkv.symm
      have ev : v = .str (word t) := congrArg Prod.snd hkv.symm
      subst ek ev
      have hmem := List.mem_of_getElem? he
      have hki : (es.map (·.1))[i]? = some k0 := by rw [List.getElem?_map, he]; rfl
      have hgo := fd.go _ hmem
      have hin : In ps k0 := hgo.rch.inn hw (in_zero hw)
      refine ⟨_, rfl, _, rfl, L, _, _, dV (lvl ps (ps.length - 1) k0), rfl, rfl, SqT.of eLF, dist hin, rfl, _, rfl, ?_⟩
      cases hlv : lvl ps (ps.length - 1) k0 with
      | some j =>
        rw [decide_eq_false (show ¬ dV (some j) = V.non by intro z; cases z)]
        refine iteF ⟨_, rfl, rfl, fun j' k' hj' hk' => ?_⟩
        rcases Nat.lt_or_ge j' i with l | l
        · exact hop j' k' l hk'
        · have e : j' = i := by omega
          rw [e, hki] at hk'
          cases hk'
          exact Classical.byContradiction fun no => by
            have := (lvl_op hw hin).mpr no
            rw [hlv] at this
            cases this
      | none =>
        have no := (lvl_op hw hin).mp hlv
        rw [decide_eq_true (show dV none = V.non from rfl)]
        have vk : valV (es.map tent) (.inl k0) = some (.str (word t)) := val_mem fd.nd hmem
        refine iteT ⟨_, rfl, _, rfl, D, .str (word t), rfl, .inl ⟨_, .inl k0, .inr ⟨od, eF⟩, rfl, vk.symm⟩, ?_⟩
        refine ⟨_, rfl, _, rfl, m, k0, ps, rfl, hm.same sF, hw, hin, fun D2 es2 H3 s3 nD2 eD3 fd2 hrc2 => ?_⟩
        have hl3 := fd2.len hw hin
        refine ⟨D2, _, es2.map (·.1), rfl, .inl eD3, by rw [List.map_map, List.map_map]; rfl, by rw [List.length_map]; omega, fun ys p pm pw np => ?_⟩
        refine ⟨p, _, rfl, .inl ⟨SqL.of upd_same, fun u nu => ?_⟩⟩
        have s4 := s3.trans (Same.upd (o := .lst (ys.map V.int)) np)
        have s5 := s4.trans (Same.upd (o := .tup (ys.map V.int)) nu)
        have eu : upd (upd H3 p (.lst (ys.map V.int))) u (.tup (ys.map V.int)) u = some (.tup (ys.map V.int)) := upd_same
        change (_ : Hp → Prop) (upd (upd H3 p (.lst (ys.map V.int))) u (.tup (ys.map V.int)))
        generalize upd (upd H3 p (.lst (ys.map V.int))) u (.tup (ys.map V.int)) = H5 at s5 eu ⊢
        refine ⟨by show 3 ≤ sizeLine; decide, fun r nr => ?_⟩
        have s6 := s5.trans (Same.upd (o := .tup [V.str (PySem.Str.ofString "trap"), .str (word t), .ref u]) nr)
        have e6 := s6 _ _ eF
        refine ⟨e6, ?_⟩
        have uD : u ≠ D := ne_of eu (s5 _ _ eF) (by intro z; cases z)
        have rD : r ≠ D := (ne_of_none (s5 _ _ eF) nr).symm
        refine q r _ ?_ ((sF.trans s5).free nr) (.inl ⟨t, k0, u, ys, ?_, hgo, no, ?_, places_of fd2.nd hrc2 pm pw⟩)
        · intro b o e
          rw [upd_ne (ne_of_none e nD)]
          exact s6 _ _ (sF _ _ e)
        · rw [upd_ne rD, upd_same]
        · rw [upd_ne uD, upd_ne (ne_of_none eu nr)]
          exact eu
    · rintro σ H' ⟨v3, rfl, rfl, hop⟩
      refine ⟨eF, ?_⟩
      rw [back]
      have allop : ∀ k, Rch ps 0 k → Op ps k := fun k hk => by
        obtain ⟨j, hj, ej⟩ := List.getElem_of_mem ((hrc k).mpr hk)
        exact hop j k (by rw [List.length_map] at hj ⊢; exact hj) (by rw [List.getElem?_eq_getElem hj, ej])
      refine ⟨_, rfl, L, _, rfl, SqT.of eL, fun E nE => ?_⟩
      refine EN.lc_pairs (K := K) (a := L) (xs := dl ps ps.length (ps.length - 1) 0) (fun i Hx => Same H2 Hx ∧ Hx E = some (.lst ((rankV ps (es.map (·.1))).take i))) ⟨Same.upd nE, upd_same⟩ (fun i Hx _ h => SqT.of (h.1 _ _ eL)) ?_ ?_
      · rintro i x Hx T0 hx ⟨sx, ex⟩ nT0
        have hi : i < ps.length := by
          have := (List.getElem?_eq_some_iff.mp hx).1
          rwa [dl_len] at this
        rw [dl_get hi, if_neg (Nat.not_lt_zero _)] at hx
        cases hx
        refine ⟨T0, _, rfl, SqT.of upd_same, rfl, _, _, rfl, _, _, rfl, rfl, rfl, ?_⟩
        dsimp only [tYes]
        have q4 := Same.upd (o := .tup [.int (i : Nat), dV (lvl ps (ps.length - 1) ((i : Nat) : Int))]) nT0
        have s4 := sx.trans q4
        have e4 := q4 _ _ ex
        generalize upd Hx T0 (.tup [.int (i : Nat), dV (lvl ps (ps.length - 1) ((i : Nat) : Int))]) = H4 at s4 e4 ⊢
        have go : ∀ z : V, z = (if (es.map (·.1)).contains ((i : Nat) : Int) then dV (lvl ps (ps.length - 1) ((i : Nat) : Int)) else .non) → ∃ acc, H4 E = some (.lst acc) ∧ acc.length < sizeLine ∧ (Same H2 (upd H4 E (.lst (acc ++ [z]))) ∧ upd H4 E (.lst (acc ++ [z])) E = some (.lst ((rankV ps (es.map (·.1))).take (i + 1)))) := fun z hz => by
          refine ⟨_, e4, by rw [List.length_take]; omega, fun b o e => by rw [upd_ne (ne_of_none e nE)]; exact s4 _ _ e, ?_⟩
          rw [upd_same, List.take_succ]
          unfold rankV
          rw [List.getElem?_map, List.getElem?_range hi, hz]
          rfl
        refine iteT ⟨_, rfl, _, rfl, D, _, rfl, DGet.k (k := .inl ((i : Nat) : Int)) (s4 _ _ eD2), _, rfl, ?_⟩
        by_cases hz : ((i : Nat) : Int) ∈ es.map (·.1)
        · have : valV (es.map tent) (.inl ((i : Nat) : Int)) ≠ none := fun h => val_no.mp h hz
          obtain ⟨u, hu'⟩ := Option.ne_none_iff_exists'.mp this
          rw [hu']
          exact iteT ⟨_, rfl, go _ (by rw [List.contains_iff_mem.mpr hz]; rfl)⟩
        · rw [val_no.mpr hz]
          exact iteF (go _ (by rw [show (es.map (·.1)).contains ((i : Nat) : Int) = false by simpa using hz]; rfl))
      · rintro Hx ⟨sx, ex⟩
        rw [dl_len, List.take_of_length_le (by simp [rankV])] at ex
        refine ⟨E, _, rfl, .inl ⟨SqL.of ex, fun a na => ?_⟩⟩
        have s4 := sx.trans (Same.upd (o := .tup (rankV ps (es.map (·.1)))) na)
        have ea : upd Hx a (.tup (rankV ps (es.map (·.1)))) a = some (.tup (rankV ps (es.map (·.1)))) := upd_same
        change (_ : Hp → Prop) (upd Hx a (.tup (rankV ps (es.map (·.1)))))
        generalize upd Hx a (.tup (rankV ps (es.map (·.1)))) = H4 at s4 ea ⊢
        refine ⟨by show 2 ≤ sizeLine; decide, fun r nr => ?_⟩
        have s5 := Same.upd (o := .tup [V.str (PySem.Str.ofString "ends"), .ref a]) nr
        exact q r _ ((s02.trans s4).trans s5) ((s02.trans s4).free nr) (.inr ⟨a, es.map (·.1), upd_same, allop, hrc, s5 _ _ ea⟩)
end
end Z

set_option Elab.async false
set_option linter.all false
set_option maxRecDepth 100000
set_option maxHeartbeats 4000000
namespace Z
open PySem PySem.Spec PyProof.Rows L2 GG
/-! ### places numbered otherwise -/
def idx (os : List Int) (k : Int) : Int := ((os.findIdx (· == k) : Nat) : Int)
theorem idx_at {os : List Int} {k : Int} (h : k ∈ os) : os[os.findIdx (· == k)]? = some k := by
  have lt : os.findIdx (· == k) < os.length := List.findIdx_lt_length_of_exists ⟨k, h, by simp⟩
  have := List.findIdx_getElem (p := (· == k)) (xs := os) (w := lt)
  rw [List.getElem?_eq_getElem lt]
  simp only [beq_iff_eq] at this
  rw [this]
theorem idx_lt {os : List Int} {k : Int} (h : k ∈ os) : 0 ≤ idx os k ∧ idx os k < os.length := by
  have lt : os.findIdx (· == k) < os.length := List.findIdx_lt_length_of_exists ⟨k, h, by simp⟩
  unfold idx
  omega
theorem idx_inj {os : List Int} {j k : Int} (hj : j ∈ os) (hk : k ∈ os) (e : idx os j = idx os k) : j = k := by
  have e : os.findIdx (· == j) = os.findIdx (· == k) := by unfold idx at e; omega
  have h1 := idx_at hj
  have h2 := idx_at hk
  rw [e, h2] at h1
  exact (Option.some.inj h1).symm
theorem idx_find {os : List Int} {k : Int} (h : k ∈ os) : (os.map V.int)[os.findIdx (· == k)]? = some (V.int k) ∧ ∀ (m : Nat) (z : V), m < os.findIdx (· == k) → (os.map V.int)[m]? = some z → eqV z (V.int k) = false := by
  refine ⟨by rw [List.getElem?_map, idx_at h]; rfl, fun m z hm hz => ?_⟩
  have lt : os.findIdx (· == k) < os.length := List.findIdx_lt_length_of_exists ⟨k, h, by simp⟩
  have hm' : m < os.length := by omega
  rw [List.getElem?_map, List.getElem?_eq_getElem hm'] at hz
  cases hz
  have := List.not_of_lt_findIdx hm
  show (os[m] == k) = false
  simpa using this
theorem idx_of_at {os : List Int} (nd : os.Nodup) {i : Nat} {k : Int} (h : os[i]? = some k) : idx os k = (i : Nat) := by
  have hm := List.mem_of_getElem? h
  have h2 := idx_at hm
  have lt : os.findIdx (· == k) < os.length := List.findIdx_lt_length_of_exists ⟨k, hm, by simp⟩
  obtain ⟨hi, e1⟩ := List.getElem?_eq_some_iff.mp h
  obtain ⟨hj, e2⟩ := List.getElem?_eq_some_iff.mp h2
  have := (List.getElem_inj (h₀ := hi) (h₁ := hj) nd).mp (e1.trans e2.symm)
  unfold idx
  omega
def ren (os : List Int) : Pl → Pl
  | .toss a b => .toss (idx os a) (idx os b)
  | .fin n => .fin n
  | .never => .never
def renM (ps : List Pl) (os : List Int) : List Pl := os.map fun k => ren os (place ps k)
theorem ren_isT (os : List Int) (p : Pl) : (ren os p).isT = p.isT := by cases p <;> rfl
theorem ren_tosses (os : List Int) (p : Pl) : (ren os p).tosses = p.tosses := by cases p <;> rfl
theorem ren_ans (os : List Int) (p : Pl) : ansP (ren os p) = ansP p := by cases p <;> rfl
structure Ord2 (n : Nat) (os : List Int) : Prop extends Order n os where
  nd : os.Nodup
section
variable {ps : List Pl} {os : List Int}
theorem Ord2.mem (o : Ord2 ps.length os) {k : Int} (h : In ps k) : k ∈ os := o.all k h.1 h.2
theorem renM_len (o : Ord2 ps.length os) : (renM ps os).length = ps.length := by
  unfold renM
  rw [List.length_map, o.len]
theorem place_ren (o : Ord2 ps.length os) {k : Int} (h : In ps k) : place (renM ps os) (idx os k) = ren os (place ps k) := by
  refine place_get ?_
  unfold renM idx
  rw [List.getElem?_map, Int.toNat_natCast, idx_at (o.mem h)]
  rfl
theorem idx_in (o : Ord2 ps.length os) {k : Int} (h : In ps k) : In (renM ps os) (idx os k) := by
  have := idx_lt (o.mem h)
  unfold In
  rw [renM_len o, ← o.len]
  exact this
theorem In.of_ren (o : Ord2 ps.length os) {z : Int} (h : In (renM ps os) z) : ∃ k, In ps k ∧ z = idx os k := by
  obtain ⟨h0, h1⟩ := h
  rw [renM_len o, ← o.len] at h1
  have hz : z.toNat < os.length := by omega
  have := o.ok os[z.toNat] (List.getElem_mem hz)
  refine ⟨os[z.toNat], this, ?_⟩
  rw [idx_of_at o.nd (List.getElem?_eq_getElem hz)]
  omega
theorem wf_ren (hw : WF ps) (o : Ord2 ps.length os) : WF (renM ps os) := by
  refine ⟨by rw [renM_len o]; exact hw.ne, by rw [renM_len o]; exact hw.le, fun p hp => ?_⟩
  unfold renM at hp
  obtain ⟨k, hk, rfl⟩ := List.mem_map.mp hp
  have hin := o.ok k hk
  obtain ⟨p, hp, okp⟩ := hw.get hin.1 hin.2
  rw [place_get hp, renM_len o]
  cases p with
  | toss a b =>
    obtain ⟨a0, a1, b0, b1⟩ := okp
    have h1 := idx_lt (o.all a a0 a1)
    have h2 := idx_lt (o.all b b0 b1)
    rw [o.len] at h1 h2
    exact ⟨h1.1, h1.2, h2.1, h2.2⟩
  | fin n => exact okp
  | never => trivial
/-! what is reached -/
theorem rch_ren (hw : WF ps) (o : Ord2 ps.length os) {a b : Int} (ha : In ps a) (h : Rch ps a b) : Rch (renM ps os) (idx os a) (idx os b) := by
  induction h with
  | here => exact .here
  | @heads k x y r e ih =>
    have hk := Rch.inn hw ha r
    have e2 := place_ren o hk
    rw [e] at e2
    exact .heads ih e2
  | @tails k x y r e ih =>
    have hk := Rch.inn hw ha r
    have e2 := place_ren o hk
    rw [e] at e2
    exact .tails ih e2
theorem ren_toss {p : Pl} {x y : Int} (h : ren os p = .toss x y) : ∃ a b, p = .toss a b ∧ x = idx os a ∧ y = idx os b := by
  cases p with
  | toss a b =>
    cases h
    exact ⟨a, b, rfl, rfl, rfl⟩
  | fin n => cases h
  | never => cases h
theorem rch_of_ren (hw : WF ps) (o : Ord2 ps.length os) {a z : Int} (ha : In ps a) (h : Rch (renM ps os) (idx os a) z) : ∃ b, z = idx os b ∧ Rch ps a b := by
  refine Rch.all (ps := renM ps os) (S := fun z => ∃ b, z = idx os b ∧ Rch ps a b) ⟨a, rfl, .here⟩ ?_ h
  rintro k x y ⟨b, rfl, r⟩ e
  rw [place_ren o (r.inn hw ha)] at e
  obtain ⟨x', y', e', rfl, rfl⟩ := ren_toss e
  exact ⟨⟨x', rfl, .heads r e'⟩, ⟨y', rfl, .tails r e'⟩⟩
theorem idx_zero (h : os[0]? = some 0) : idx os 0 = 0 := by
  unfold idx
  cases os with
  | nil => cases h
  | cons x r =>
    cases h
    rw [List.findIdx_cons]
    rfl
theorem op_ren (hw : WF ps) (o : Ord2 ps.length os) {k : Int} (hk : In ps k) : Op (renM ps os) (idx os k) ↔ Op ps k := by
  constructor
  · rintro ⟨e, n, r, pe⟩
    obtain ⟨b, rfl, rb⟩ := rch_of_ren hw o hk r
    rw [place_ren o (rb.inn hw hk)] at pe
    refine ⟨b, n, rb, ?_⟩
    cases q : place ps b with
    | toss a c => rw [q] at pe; cases pe
    | fin m => rw [q] at pe; cases pe; rfl
    | never => rw [q] at pe; cases pe
  · rintro ⟨e, n, r, pe⟩
    refine ⟨_, n, rch_ren hw o hk r, ?_⟩
    rw [place_ren o (r.inn hw hk), pe]
    rfl
theorem places_ren (hw : WF ps) (o : Ord2 ps.length os) (h0 : os[0]? = some 0) {ks ls ms : List Int} (hk : Places ps 0 ks) (pm : ls.Perm (ks.map (idx os))) (pw : ls.Pairwise (· ≤ ·)) (hm : Places (renM ps os) 0 ms) : ls = ms := by
  have i0 : In ps 0 := ⟨by decide, by have := hw.ne; omega⟩
  have nd : (ks.map (idx os)).Nodup := by
    rw [List.nodup_iff_pairwise_ne, List.pairwise_map]
    refine (List.Pairwise.and_mem.mp (lt_nodup hk.1)).imp ?_
    rintro a b ⟨ha, hb, ne⟩ e
    exact ne (idx_inj (o.mem (((hk.2 a).mp ha).inn hw i0)) (o.mem (((hk.2 b).mp hb).inn hw i0)) e)
  refine Places.eq (places_of nd (fun z => ?_) pm pw) hm
  rw [List.mem_map]
  constructor
  · rintro ⟨k, hk', rfl⟩
    have := rch_ren hw o i0 ((hk.2 k).mp hk')
    rwa [idx_zero h0] at this
  · intro r
    rw [← idx_zero h0] at r
    obtain ⟨b, rfl, rb⟩ := rch_of_ren hw o i0 r
    exact ⟨b, (hk.2 b).mpr rb, rfl⟩
theorem eB_ren (hw : WF ps) (o : Ord2 ps.length os) : ∀ (d : Nat) {k : Int}, In ps k → eB (renM ps os) d (idx os k) = eB ps d k
  | 0, k, hk => by
    unfold eB
    rw [place_ren o hk]
    cases place ps k <;> rfl
  | d + 1, k, hk => by
    unfold eB
    rw [place_ren o hk, eB_ren hw o d hk]
    cases e : place ps k with
    | toss x y =>
      obtain ⟨hx, hy⟩ := wf_succ hw hk e
      show (eB ps d k || (eB (renM ps os) d (idx os x) || eB (renM ps os) d (idx os y))) = _
      rw [eB_ren hw o d hx, eB_ren hw o d hy]
    | fin n => rfl
    | never => rfl
theorem lvl_ren (hw : WF ps) (o : Ord2 ps.length os) (d : Nat) {k : Int} (hk : In ps k) : lvl (renM ps os) d (idx os k) = lvl ps d k := by
  unfold lvl
  congr 1
  funext j
  exact eB_ren hw o j hk
/-! what a machine does -/
def Oc.ren (os : List Int) : Oc → Oc
  | .going a => .going (idx os a)
  | .ended n u => .ended n u
  | .nev u => .nev u
theorem run_ren (hw : WF ps) (o : Ord2 ps.length os) : ∀ (t : List Bool) (a : Int) (u : Nat), In ps a → run (renM ps os) t (idx os a) u = (run ps t a u).ren os
  | [], a, u, ha => by
    unfold run
    rw [place_ren o ha]
    cases place ps a <;> rfl
  | c :: t, a, u, ha => by
    unfold run
    rw [place_ren o ha]
    cases e : place ps a with
    | toss x y =>
      obtain ⟨hx, hy⟩ := wf_succ hw ha e
      show run (renM ps os) t (if c = true then idx os x else idx os y) (u + 1) = (run ps t (if c = true then x else y) (u + 1)).ren os
      cases c
      · exact run_ren hw o t y (u + 1) hy
      · exact run_ren hw o t x (u + 1) hx
    | fin n => rfl
    | never => rfl
/-! the tapes counted -/
theorem side_ren (hw : WF ps) (o : Ord2 ps.length os) {k : Int} (hk : In ps k) (b : Bool) : side (renM ps os) b (idx os k) = (side ps b k).map (idx os) := by
  unfold side
  rw [place_ren o hk]
  cases place ps k with
  | toss x y => cases b <;> rfl
  | fin n => rfl
  | never => rfl
theorem ats_ren (hw : WF ps) (o : Ord2 ps.length os) (h0 : os[0]? = some 0) : ∀ r : List Bool, ats (renM ps os) r = (ats ps r).map (idx os)
  | [] => by
    show some (0 : Int) = some (idx os 0)
    rw [idx_zero h0]
  | b :: r => by
    show (ats (renM ps os) r).bind (side (renM ps os) b) = ((ats ps r).bind (side ps b)).map (idx os)
    rw [ats_ren hw o h0 r]
    cases e : ats ps r with
    | none => rfl
    | some k =>
      show side (renM ps os) b (idx os k) = (side ps b k).map (idx os)
      exact side_ren hw o (ats_in hw e) b
theorem stP_ren (hw : WF ps) (o : Ord2 ps.length os) (h0 : os[0]? = some 0) (a : Int) (r : List Bool) : stP (renM ps os) a r = stP ps a r := by
  unfold stP
  rw [ats_ren hw o h0]
  cases e : ats ps r with
  | none => rfl
  | some k =>
    show decide (ansP (place (renM ps os) (idx os k)) = some a) = decide (ansP (place ps k) = some a)
    rw [place_ren o (ats_in hw e), ren_ans]
theorem lv_ans_ren (hw : WF ps) (o : Ord2 ps.length os) (h0 : os[0]? = some 0) (a : Int) (L : Nat) : (∃ j k, j ≤ L ∧ Lv (renM ps os) j k ∧ ansP (place (renM ps os) k) = some a) ↔ ∃ j k, j ≤ L ∧ Lv ps j k ∧ ansP (place ps k) = some a := by
  constructor
  · rintro ⟨j, k, hj, ⟨r, hr, e⟩, ha⟩
    rw [ats_ren hw o h0] at e
    cases e2 : ats ps r with
    | none => rw [e2] at e; cases e
    | some k' =>
      rw [e2] at e
      cases e
      rw [place_ren o (ats_in hw e2), ren_ans] at ha
      exact ⟨j, k', hj, ⟨r, hr, e2⟩, ha⟩
  · rintro ⟨j, k, hj, ⟨r, hr, e⟩, ha⟩
    refine ⟨j, idx os k, hj, ⟨r, hr, by rw [ats_ren hw o h0, e]; rfl⟩, ?_⟩
    rw [place_ren o (ats_in hw e), ren_ans]
    exact ha
end
end Z

set_option Elab.async false
set_option linter.all false
set_option maxRecDepth 100000
set_option maxHeartbeats 4000000
namespace Z
open PySem PySem.Spec PyProof.Rows L2 GG
abbrev sRun : Stmt := top 15
abbrev sNext : Stmt := top 16
section
variable {P : Program} {w : World} {K : PySem.W.Frag} {mg : Str → Option Value} {base : Heap}
def spNext : Sp := fun vs H Q _ => ∃ (m : Addr) (a : Int) (c : Nat) (ps : List Pl) (x y : Int), vs = [.ref m, .int a, .str ⟨#[c]⟩] ∧ Mach H m ps ∧ WF ps ∧ 0 ≤ a ∧ a < ps.length ∧ place ps a = .toss x y ∧ Q (.int (if c == 72 then x else y)) H
theorem scNext : FnScope ["machine", "index", "side"] ["machine", "index", "side"] (defScope sNext) := ⟨rfl, rfl, rfl, by decide +kernel, rfl, by decide +kernel, by decide +kernel⟩
theorem ok_next {f : Addr} {fd : FuncData} (F : Fun K "next_state" "next_state" sNext f fd) : FnOk P w K mg base CX0 1 f fd ["machine", "index", "side"] spNext := by
  refine F.ok scNext (fun vs H Q E h => ?_) (fun cdv A outer s H vs Q E hr h => ?_)
  · obtain ⟨t, a, c, ps, x, y, rfl, _⟩ := h
    rfl
  · obtain ⟨m, a, c, ps, x, y, rfl, hm, hw, h0, h1, e, q⟩ := h
    refine ⟨_, (pss_one (ps_ret (pe_ifExp (pt_cmpR op_eq (pv 2) pe_str (nomark _)) (pe_ix ix_tup (pe_ix ix_tup (pv 0) (pv 1) (fun _ _ => rfl)) pe_int (fun _ _ => rfl)) (pe_ix ix_tup (pe_ix ix_tup (pv 0) (pv 1) (fun _ _ => rfl)) pe_int (fun _ _ => rfl))))), ?_⟩
    obtain ⟨rs, t, em, er, et⟩ := hm.at hw h0 h1
    rw [e] at et
    refine ⟨_, rfl, rfl, _, rfl, ?_⟩
    rw [sign_H]
    cases ec : (c == 72)
    · rw [ec] at q
      exact iteF ⟨.ref m, rfl, .int a, rfl, m, rs, a, .ref t, rfl, rfl, SqT.of em, er, t, _, 2, .int y, rfl, rfl, SqT.of et, atI_nat (j := 2) rfl, q⟩
    · rw [ec] at q
      exact iteT ⟨.ref m, rfl, .int a, rfl, m, rs, a, .ref t, rfl, rfl, SqT.of em, er, t, _, 1, .int x, rfl, rfl, SqT.of et, atI_nat (j := 1) rfl, q⟩
theorem scRun : FnScope ["machine", "tape", "index", "used"] ["machine", "tape"] (defScope sRun) := ⟨rfl, rfl, rfl, by decide +kernel, rfl, by decide +kernel, by decide +kernel⟩
theorem ok_run {f g n : Addr} {fd gd nd : FuncData} (F : Fun K "run_machine" "run_machine" sRun f fd) (T : Names mg) (GT : FnOk P w K mg base CX0 1 g gd ["state"] spToss) (PT_ : Def K mg "is_toss" g gd ["state"])
    (GN : FnOk P w K mg base CX0 1 n nd ["machine", "index", "side"] spNext) (PN : Def K mg "next_state" n nd ["machine", "index", "side"]) : FnOk P w K mg base CX0 2 f fd ["machine", "tape"] spRun := by
  refine F.ok scRun (fun vs H Q E h => ?_) (fun cdv A outer s H vs Q E hr h => ?_)
  · obtain ⟨m, z, ps, rfl, _⟩ := h
    rfl
  · obtain ⟨m, z, ps, rfl, hm, hw, hz, q⟩ := h
    refine ⟨_, (pss_cons (ps_set (i := 2) scRun.nd rfl (.inl rfl) pe_int)
      (pss_cons (ps_set (i := 3) scRun.nd rfl (.inl rfl) pe_int)
      (pss_cons (ps_while PassesOwn.never (pt_val (pe_call GT (hr.mono (by first | decide | omega)) (by rfl) PT_.is PT_.kp PT_.bi .nil pass0 (pa_cons (pe_ix ix_tup (pv 0) (pv 2) (fun _ _ => rfl)) pa_nil))) (pss_cons (ps_if (pt_cmpR op_eq (pv 3) (pe_callB call_len_str (by rfl) T.len PySem.boot_len (pa_cons (pv 1) pa_nil)) (nomark _)) (pss_one (ps_ret (pe_tup (pa_cons pe_str (pa_cons (pv 2) pa_nil))))) pss_nil)
      (pss_cons (ps_set (i := 2) scRun.nd rfl (.inl rfl) (pe_call GN (hr.mono (by first | decide | omega)) (by rfl) PN.is PN.kp PN.bi .nil pass0 (pa_cons (pv 0) (pa_cons (pv 2) (pa_cons (pe_ix ix_str (pv 1) (pv 3) (fun _ _ => rfl)) pa_nil)))))
      (pss_one (ps_aug (i := 3) scRun.nd rfl (.inl rfl) pe_int ip_add)))))
      (pss_cons (ps_if (pt_cmpR op_eq (pe_ix ix_tup (pe_ix ix_tup (pv 0) (pv 2) (fun _ _ => rfl)) pe_int (fun _ _ => rfl)) pe_str (nomark _)) (pss_one (ps_ret (pe_tup (pa_cons pe_str (pa_cons (pv 3) pa_nil))))) pss_nil)
      (pss_one (ps_ret (pe_tup (pa_cons pe_str (pa_cons (pe_ix ix_tup (pe_ix ix_tup (pv 0) (pv 2) (fun _ _ => rfl)) pe_int (fun _ _ => rfl)) (pa_cons (pv 3) pa_nil)))))))))), ?_⟩
    have hsz : z.length ≤ sizeLine := by
      have e : sizeLine = 16777216 := by decide
      omega
    refine ⟨fun n σ H' => ∃ (a : Int) (i : Nat), n = z.length - i ∧ i ≤ z.length ∧ σ = [some (V.ref m), some (V.str z), some (V.int a), some (V.int (i : Nat))] ∧ H' = H ∧ 0 ≤ a ∧ a < ps.length ∧ run ps ((tl_ z).drop i) a i = run ps (tl_ z) 0 0,
      ⟨z.length, 0, 0, by simp, Nat.zero_le _, rfl, rfl, by decide, by have := hw.ne; omega, rfl⟩, ?_⟩
    rintro n σ H' ⟨a, i, rfl, hi, rfl, rfl, a0, a1, er⟩
    obtain ⟨rs, t, em, ea, et⟩ := hm.at hw a0 a1
    refine ⟨.ref m, rfl, .int a, rfl, m, rs, a, .ref t, rfl, rfl, SqT.of em, ea, t, _, rfl, et, _, rfl, ?_⟩
    cases e : place ps a with
    | toss x y =>
      refine iteT ?_
      refine ⟨fun σ H2 => ∃ (b : Int), i < z.length ∧ σ = [some (V.ref m), some (V.str z), some (V.int b), some (V.int ((i + 1 : Nat) : Int))] ∧ H2 = H' ∧ 0 ≤ b ∧ b < ps.length ∧ run ps ((tl_ z).drop (i + 1)) b (i + 1) = run ps (tl_ z) 0 0, ?_, ?_⟩
      · rintro σ H2 ⟨b, lt, e1, e2, e3, e4, e5⟩
        exact ⟨z.length - (i + 1), by omega, b, i + 1, rfl, lt, e1, e2, e3, e4, e5⟩
      · refine ⟨_, rfl, _, rfl, z, rfl, hsz, rfl, _, rfl, ?_⟩
        by_cases lt : i < z.length
        · rw [decide_eq_false (by intro h; have := V.int.inj h; omega)]
          refine iteF ?_
          obtain ⟨c, hc, hd⟩ := tl_drop lt
          refine ⟨.ref m, rfl, .int a, rfl, .str z, rfl, _, rfl, z, _, c, rfl, rfl, hsz, atI_nat hc, m, a, c, ps, x, y, rfl, hm, hw, a0, a1, e, ?_⟩
          obtain ⟨w0, w1⟩ := wf_next hw a0 a1 e (c == 72)
          refine ⟨_, rfl, _, _, rfl, rfl, _, lt, rfl, rfl, w0, w1, ?_⟩
          rw [← er, hd, run_cons e]
        · have ei : i = z.length := by omega
          rw [decide_eq_true (by rw [ei])]
          refine iteT ⟨_, rfl, by show 2 ≤ sizeLine; decide, fun p np => ?_⟩
          refine q p _ (Same.upd np) np ?_
          rw [upd_same, ← er, List.drop_eq_nil_of_le (by rw [tl_len]; omega), run_nil e]
          rfl
    | fin n =>
      refine iteF ?_
      rw [e] at et
      refine ⟨.ref m, rfl, .int a, rfl, m, rs, a, .ref t, rfl, rfl, SqT.of em, ea, t, _, 0, .str "end", rfl, rfl, SqT.of et, atI_nat (j := 0) rfl, rfl, _, rfl, ?_⟩
      rw [decide_eq_false str_never_end]
      refine iteF ⟨.ref m, rfl, .int a, rfl, m, rs, a, .ref t, rfl, rfl, SqT.of em, ea, t, _, 1, .int n, rfl, rfl, SqT.of et, atI_nat (j := 1) rfl, _, rfl, by show 3 ≤ sizeLine; decide, fun p np => ?_⟩
      refine q p _ (Same.upd np) np ?_
      rw [upd_same, ← er, run_fin e]
      rfl
    | never =>
      refine iteF ?_
      rw [e] at et
      refine ⟨.ref m, rfl, .int a, rfl, m, rs, a, .ref t, rfl, rfl, SqT.of em, ea, t, _, 0, .str "never", rfl, rfl, SqT.of et, atI_nat (j := 0) rfl, rfl, _, rfl, ?_⟩
      rw [decide_eq_true rfl]
      refine iteT ⟨_, rfl, by show 2 ≤ sizeLine; decide, fun p np => ?_⟩
      refine q p _ (Same.upd np) np ?_
      rw [upd_same, ← er, run_nev e]
      rfl
end
end Z

set_option Elab.async false
set_option linter.all false
set_option maxRecDepth 100000
set_option maxHeartbeats 4000000
namespace Z
open PySem PySem.Spec PyProof.Rows L2 GG
abbrev sTape : Stmt := top 27
section
variable {P : Program} {w : World} {K : PySem.W.Frag} {mg : Str → Option Value} {base : Heap}
theorem bitStr (d : Int) (h0 : 0 ≤ d) (h1 : d < 2) : ∃ c : Nat, atI (PySem.Str.ofString "HT").cps.toList d = some c := by
  have e : (PySem.Str.ofString "HT").cps.toList = [72, 84] := by decide +kernel
  rw [e]
  rcases (show d = 0 ∨ d = 1 by omega) with rfl | rfl
  · exact ⟨72, rfl⟩
  · exact ⟨84, rfl⟩
theorem sum_ones : ∀ {ys : List Str}, (∀ y ∈ ys, y.length = 1) → (ys.map (·.length)).sum = ys.length
  | [], _ => rfl
  | y :: r, h => by
    rw [List.map_cons, List.sum_cons, sum_ones (fun z hz => h z (List.mem_cons_of_mem _ hz)), h y List.mem_cons_self, List.length_cons]
    omega
def spTape : Sp := fun vs H Q _ => ∃ (a l : Addr) (m : Int), vs = [.ref a, .int m] ∧ Pen H a l ∧ 0 ≤ m ∧ m ≤ 1000 ∧ ∀ (z : Str) H', z.length ≤ m.toNat → But a H H' → Pen H' a l → Q (.str z) H'
theorem scTape : FnScope ["pen", "many", "k"] ["pen", "many"] (defScope sTape) := ⟨rfl, rfl, rfl, by decide +kernel, rfl, by decide +kernel, by decide +kernel⟩
theorem ok_tape {f g : Addr} {fd gd : FuncData} (F : Fun K "_law_tape" "_law_tape" sTape f fd) (T : Names mg) (GD : FnOk P w K mg base CX0 2 g gd ["pen", "many"] spDraw) (PD : Def K mg "_law_draw" g gd ["pen", "many"]) :
    FnOk P w K mg base CX0 3 f fd ["pen", "many"] spTape := by
  refine F.ok scTape (fun vs H Q E h => ?_) (fun cdv A outer s H vs Q E hr h => ?_)
  · obtain ⟨a, l, m, rfl, _⟩ := h
    rfl
  · obtain ⟨a, l, m, rfl, pn, m0, m1, q⟩ := h
    refine ⟨_, (pss_one (ps_ret (pe_join pe_str (pe_lc (own := [("k", 2)]) (g := gName 2) (tt := tYes) rfl scTape.nd (pi_range1 rfl T.range (pa_cons (pv 1) pa_nil)) (blkOk_by (N := ["pen", "many", "k"]) (sc := defScope sTape) (own := [("k", 2)]) (by decide +kernel)) (fun _ _ _ _ _ => (pg_name (i := 2) scTape.nd rfl (.inl rfl))) (fun _ _ _ _ _ => pts_nil) (fun _ _ _ _ _ => (pe_ix ix_str pe_str (pe_call GD (hr.mono (by first | decide | omega)) (by rfl) PD.is PD.kp PD.bi .nil pass0 (pa_cons (pv 0) (pa_cons pe_int pa_nil))) (fun _ _ => rfl))))))), ?_⟩
    refine ⟨⟨_, rfl⟩, _, rfl, _, rfl, by omega, by omega, fun D nD => ?_⟩
    have ap := pn.apart nD
    refine lc_range (lo := 0) (n := m.toNat) (fun i H' => ∃ ys : List Str, H' D = some (.lst (ys.map V.str)) ∧ ys.length = i ∧ (∀ y ∈ ys, y.length = 1) ∧ But a H H' ∧ Pen H' a l) ⟨[], upd_same, rfl, by simp, But.of (Same.upd nD), pn.same (Same.upd nD)⟩ ?_ ?_
    · rintro i H2 hi ⟨ys, hD, hn, hc, b2, p2⟩
      refine ⟨rfl, ?_⟩
      dsimp only [tYes]
      refine iteT ?_
      refine ⟨.ref a, rfl, a, l, 2, rfl, p2, by decide, by decide +kernel, fun d H3 u0 u1 b3 p3 => ?_⟩
      obtain ⟨c, hc2⟩ := bitStr d u0 u1
      refine ⟨_, d, c, rfl, rfl, by decide +kernel, hc2, ys.map V.str, b3.mem ap.1 hD, by rw [List.length_map]; exact small1000 (by omega), ys ++ [⟨#[c]⟩], ?_, by simp [hn], ?_, ?_, ?_⟩
      · rw [upd_same, List.map_append]
        rfl
      · intro y hy
        rcases List.mem_append.mp hy with hy | hy
        · exact hc y hy
        · rw [List.mem_singleton.mp hy]
          rfl
      · intro b o e n
        rw [upd_ne (ne_of_none e nD)]
        exact b3 _ _ (b2 _ _ e n) n
      · obtain ⟨cs, pos, val, h1, h2, h3⟩ := p3
        exact ⟨cs, pos, val, by rw [upd_ne ap.1.symm]; exact h1, by rw [upd_ne ap.2.symm]; exact h2, h3⟩
    · rintro H2 ⟨ys, hD, hn, hc, b2, p2⟩
      have sm := sum_ones hc
      have e0 : (PySem.Str.ofString "").length = 0 := by decide +kernel
      refine ⟨_, D, ys, rfl, rfl, .inl (SqL.of hD), ?_, q _ _ ?_ b2 p2⟩
      · rw [sm, e0]
        omega
      · rw [TL.join_eq]
        refine Nat.le_trans (PySem.StrLaws.join_length_le _ ys) ?_
        rw [sm, e0]
        omega
/-! ### all tapes of a length -/
def Words (n : Nat) (xs : List V) : Prop := ∀ x ∈ xs, ∃ z : Str, x = .str z ∧ z.length ≤ n
theorem Words.app {n : Nat} {xs ys : List V} (h : Words n xs) (g : Words n ys) : Words n (xs ++ ys) := fun x hx => by
  rcases List.mem_append.mp hx with hx | hx
  · exact h x hx
  · exact g x hx
theorem Words.mono {n m : Nat} {xs : List V} (h : Words n xs) (le : n ≤ m) : Words m xs := fun x hx => by
  obtain ⟨z, e, hz⟩ := h x hx
  exact ⟨z, e, Nat.le_trans hz le⟩
theorem small_H : (PySem.Str.ofString "H").length = 1 := by decide +kernel
theorem small_T : (PySem.Str.ofString "T").length = 1 := by decide +kernel
theorem len_app (x y : Str) : (x ++ y).length = x.length + y.length := by
  show (x.cps ++ y.cps).size = _
  rw [Array.size_append]
  rfl
end
end Z

set_option Elab.async false
set_option linter.all false
set_option maxRecDepth 100000
set_option maxHeartbeats 4000000
namespace Z
open PySem PySem.Spec PyProof.Rows L2 GG
abbrev sKI : Stmt := top 1
abbrev sKX : Stmt := top 2
abbrev sKT : Stmt := top 3
abbrev sKB : Stmt := top 4
abbrev sSE : Stmt := top 9
abbrev sME : Stmt := top 8
/-! ### a good machine has no error -/
structure NamesK (mg : Str → Option Value) : Prop extends Names mg where
  isinstance : mg "isinstance" = none
  int : mg "int" = none
  bool : mg "bool" = none
  enumerate : mg "enumerate" = none
section
variable {P : Program} {w : World} {K : PySem.W.Frag} {mg : Str → Option Value} {base : Heap}
def spKI : Sp := fun vs H Q _ => ∃ i : Int, vs = [.int i] ∧ Q (.bl true) H
theorem scKI : FnScope ["value"] ["value"] (defScope sKI) := ⟨rfl, rfl, rfl, by decide +kernel, rfl, by decide +kernel, by decide +kernel⟩
theorem ok_ki {f : Addr} {fd : FuncData} (F : Fun K "is_integer" "is_integer" sKI f fd) (T : NamesK mg) : FnOk P w K mg base CX0 1 f fd ["value"] spKI := by
  refine F.ok scKI (fun vs H Q E h => ?_) (fun cdv A outer s H vs Q E hr h => ?_)
  · obtain ⟨i, rfl, _⟩ := h
    rfl
  · obtain ⟨i, rfl, q⟩ := h
    refine ⟨_, (pss_one (ps_ret (pe_and (pe_callB call_isi (by rfl) T.isinstance (by decide +kernel) (pa_cons (pv 0) (pa_cons (pe_bltn (v := .ty "int") (by rfl) T.int (by decide +kernel) rfl) pa_nil))) (pe_one (pe_not (pe_callB call_isi (by rfl) T.isinstance (by decide +kernel) (pa_cons (pv 0) (pa_cons (pe_bltn (v := .ty "bool") (by rfl) T.bool (by decide +kernel) rfl) pa_nil)))))))), ?_⟩
    refine ⟨_, rfl, _, .ty "int", .type "int", .type "int", true, rfl, .ty "int", .base (.int _), kit_ty (by decide +kernel), true, rfl, ?_⟩
    refine iteT ⟨_, rfl, _, .ty "bool", .type "int", .type "bool", false, rfl, .ty "bool", .base (.int _), kit_ty (by decide +kernel), ?_⟩
    exact ⟨_, rfl, q⟩
def spKX : Sp := fun vs H Q _ => ∃ i n : Int, vs = [.int i, .int n] ∧ Q (.bl (decide (0 ≤ i) && decide (i < n))) H
theorem scKX : FnScope ["value", "size"] ["value", "size"] (defScope sKX) := ⟨rfl, rfl, rfl, by decide +kernel, rfl, by decide +kernel, by decide +kernel⟩
theorem ok_kx {f g : Addr} {fd gd : FuncData} (F : Fun K "is_index" "is_index" sKX f fd) (GI : FnOk P w K mg base CX0 1 g gd ["value"] spKI) (PI_ : Def K mg "is_integer" g gd ["value"]) : FnOk P w K mg base CX0 2 f fd ["value", "size"] spKX := by
  refine F.ok scKX (fun vs H Q E h => ?_) (fun cdv A outer s H vs Q E hr h => ?_)
  · obtain ⟨i, n, rfl, _⟩ := h
    rfl
  · obtain ⟨i, n, rfl, q⟩ := h
    refine ⟨_, (pss_one (ps_ret (pe_and (pe_call GI (hr.mono (by first | decide | omega)) (by rfl) PI_.is PI_.kp PI_.bi .nil pass0 (pa_cons (pv 0) pa_nil)) (pe_one (pe_chain op_le op_lt pe_int (pv 0) (pv 1)))))), ?_⟩
    refine ⟨_, rfl, i, rfl, true, rfl, iteT ⟨_, rfl, _, _, rfl, rfl, _, rfl, ?_⟩⟩
    by_cases h0 : 0 ≤ i
    · rw [decide_eq_true h0] at q ⊢
      exact iteT ⟨_, rfl, _, _, rfl, rfl, q⟩
    · rw [decide_eq_false h0] at q ⊢
      exact iteF q
def spKT : Sp := fun vs H Q _ => ∃ (t : Addr) (xs : List V) (n : Int), vs = [.ref t, .int n] ∧ H t = some (.tup xs) ∧ Q (.bl (decide ((xs.length : Int) = n))) H
theorem scKT : FnScope ["value", "size"] ["value", "size"] (defScope sKT) := ⟨rfl, rfl, rfl, by decide +kernel, rfl, by decide +kernel, by decide +kernel⟩
theorem ok_kt {f : Addr} {fd : FuncData} (F : Fun K "is_tuple" "is_tuple" sKT f fd) (T : NamesK mg) : FnOk P w K mg base CX0 1 f fd ["value", "size"] spKT := by
  refine F.ok scKT (fun vs H Q E h => ?_) (fun cdv A outer s H vs Q E hr h => ?_)
  · obtain ⟨t, xs, n, rfl, _⟩ := h
    rfl
  · obtain ⟨t, xs, n, rfl, et, q⟩ := h
    refine ⟨_, (pss_one (ps_ret (pe_and (pe_callB call_isi (by rfl) T.isinstance (by decide +kernel) (pa_cons (pv 0) (pa_cons (pe_bltn (v := .ty "tuple") (by rfl) T.tuple (by decide +kernel) rfl) pa_nil))) (pe_one (pe_cmpR op_eq (pe_callB call_len_seq (by rfl) T.len PySem.boot_len (pa_cons (pv 0) pa_nil)) (pv 1) (nomark _)))))), ?_⟩
    refine ⟨_, rfl, _, .ty "tuple", .type "tuple", .type "tuple", true, rfl, .ty "tuple", .base (.tup et), kit_ty (by decide +kernel), true, rfl, iteT ⟨_, rfl, t, _, rfl, .inr (SqT.of et), _, rfl, rfl, ?_⟩⟩
    show Q (.bl (decide ((V.int (xs.length : Nat)) = .int n))) H
    have e : (V.int (xs.length : Nat) = .int n) ↔ ((xs.length : Int) = n) := ⟨fun h => V.int.inj h, fun h => by rw [h]⟩
    rw [decide_eq_decide.mpr e]
    exact q
def spKB : Sp := fun vs H Q _ => ∃ (t : Addr) (y x : Str) (xs : List V) (n : Int), vs = [.ref t, .str x, .int n] ∧ H t = some (.tup (.str y :: xs)) ∧ Q (.bl (decide ((xs.length : Int) + 1 = n) && decide (y = x))) H
theorem scKB : FnScope ["value", "word", "size"] ["value", "word", "size"] (defScope sKB) := ⟨rfl, rfl, rfl, by decide +kernel, rfl, by decide +kernel, by decide +kernel⟩
theorem ok_kb {f g : Addr} {fd gd : FuncData} (F : Fun K "begins_with" "begins_with" sKB f fd) (GT : FnOk P w K mg base CX0 1 g gd ["value", "size"] spKT) (PT_ : Def K mg "is_tuple" g gd ["value", "size"]) : FnOk P w K mg base CX0 2 f fd ["value", "word", "size"] spKB := by
  refine F.ok scKB (fun vs H Q E h => ?_) (fun cdv A outer s H vs Q E hr h => ?_)
  · obtain ⟨t, y, x, xs, n, rfl, _⟩ := h
    rfl
  · obtain ⟨t, y, x, xs, n, rfl, et, q⟩ := h
    refine ⟨_, (pss_one (ps_ret (pe_and (pe_call GT (hr.mono (by first | decide | omega)) (by rfl) PT_.is PT_.kp PT_.bi .nil pass0 (pa_cons (pv 0) (pa_cons (pv 2) pa_nil))) (pe_one (pe_cmpR op_eq (pe_ix ix_tup (pv 0) pe_int (fun _ _ => rfl)) (pv 1) (nomark _)))))), ?_⟩
    refine ⟨_, rfl, _, rfl, t, _, n, rfl, et, _, rfl, ?_⟩
    have el : (((V.str y :: xs).length : Nat) : Int) = (xs.length : Int) + 1 := by rw [List.length_cons]; omega
    rw [el]
    by_cases hl : (xs.length : Int) + 1 = n
    · rw [decide_eq_true hl, Bool.true_and] at q
      rw [decide_eq_true hl]
      refine iteT ⟨_, rfl, t, _, 0, .str y, rfl, rfl, SqT.of et, atI_nat (j := 0) rfl, _, rfl, rfl, ?_⟩
      have e : (V.str y = .str x) ↔ (y = x) := ⟨fun h => V.str.inj h, fun h => by rw [h]⟩
      show Q (.bl (decide (V.str y = .str x))) H
      rw [decide_eq_decide.mpr e]
      exact q
    · rw [decide_eq_false hl, Bool.false_and] at q
      rw [decide_eq_false hl]
      exact iteF q
def spSE : Sp := fun vs H Q _ => ∃ (t : Addr) (p : Pl) (m : Nat), vs = [.ref t, .int (m : Nat)] ∧ H t = some (.tup p.row) ∧ p.ok m ∧ Q .non H
theorem scSE : FnScope ["state", "size"] ["state", "size"] (defScope sSE) := ⟨rfl, rfl, rfl, by decide +kernel, rfl, by decide +kernel, by decide +kernel⟩
theorem ok_se {f b i x : Addr} {fd bd id_ xd : FuncData} {tA : Tok} (F : Fun K "state_error" "state_error" sSE f fd) (mA : mg "MAX_ANSWER" = some (.int 99 tA)) (GB : FnOk P w K mg base CX0 2 b bd ["value", "word", "size"] spKB) (PB : Def K mg "begins_with" b bd ["value", "word", "size"])
    (GI : FnOk P w K mg base CX0 1 i id_ ["value"] spKI) (PI_ : Def K mg "is_integer" i id_ ["value"]) (GX : FnOk P w K mg base CX0 2 x xd ["value", "size"] spKX) (PX_ : Def K mg "is_index" x xd ["value", "size"]) : FnOk P w K mg base CX0 3 f fd ["state", "size"] spSE := by
  refine F.ok scSE (fun vs H Q E h => ?_) (fun cdv A outer s H vs Q E hr h => ?_)
  · obtain ⟨t, p, m, rfl, _⟩ := h
    rfl
  · obtain ⟨t, p, m, rfl, et, ok, q⟩ := h
    refine ⟨_, (pss_cons (ps_if (pt_val (pe_call GB (hr.mono (by first | decide | omega)) (by rfl) PB.is PB.kp PB.bi .nil pass0 (pa_cons (pv 0) (pa_cons pe_str (pa_cons pe_int pa_nil))))) (pss_one (ps_ret pe_non)) pss_nil)
      (pss_cons (ps_if (PW.pt (pw_and (pt_val (pe_call GB (hr.mono (by first | decide | omega)) (by rfl) PB.is PB.kp PB.bi .nil pass0 (pa_cons (pv 0) (pa_cons pe_str (pa_cons pe_int pa_nil))))) (pw_and (pt_val (pe_call GI (hr.mono (by first | decide | omega)) (by rfl) PI_.is PI_.kp PI_.bi .nil pass0 (pa_cons (pe_ix ix_tup (pv 0) pe_int (fun _ _ => rfl)) pa_nil))) (pw_and1 (pt_val (pe_call GI (hr.mono (by first | decide | omega)) (by rfl) PI_.is PI_.kp PI_.bi .nil pass0 (pa_cons (pe_ix ix_tup (pv 0) pe_int (fun _ _ => rfl)) pa_nil))))))) (pss_one (ps_ret (pe_ifExp (PW.pt (pw_and (pt_val (pe_call GX (hr.mono (by first | decide | omega)) (by rfl) PX_.is PX_.kp PX_.bi .nil pass0 (pa_cons (pe_ix ix_tup (pv 0) pe_int (fun _ _ => rfl)) (pa_cons (pv 1) pa_nil)))) (pw_and1 (pt_val (pe_call GX (hr.mono (by first | decide | omega)) (by rfl) PX_.is PX_.kp PX_.bi .nil pass0 (pa_cons (pe_ix ix_tup (pv 0) pe_int (fun _ _ => rfl)) (pa_cons (pv 1) pa_nil))))))) pe_non pe_str))) pss_nil)
      (pss_cons (ps_if (PW.pt (pw_and (pt_val (pe_call GB (hr.mono (by first | decide | omega)) (by rfl) PB.is PB.kp PB.bi .nil pass0 (pa_cons (pv 0) (pa_cons pe_str (pa_cons pe_int pa_nil))))) (pw_and1 (pt_val (pe_call GI (hr.mono (by first | decide | omega)) (by rfl) PI_.is PI_.kp PI_.bi .nil pass0 (pa_cons (pe_ix ix_tup (pv 0) pe_int (fun _ _ => rfl)) pa_nil)))))) (pss_one (ps_ret (pe_ifExp (pt_chain op_le op_le pe_int (pe_ix ix_tup (pv 0) pe_int (fun _ _ => rfl)) (pe_glob (v := .int 99) rfl mA ⟨_, rfl⟩)) pe_non pe_str))) pss_nil)
      (pss_one (ps_ret pe_str))))), ?_⟩
    cases p with
    | never =>
      refine ⟨_, rfl, t, "never", "never", [], 1, rfl, et, _, rfl, ?_⟩
      rw [decide_eq_true (by decide), decide_eq_true rfl]
      exact iteT q
    | toss u v =>
      obtain ⟨u0, u1, v0, v1⟩ := ok
      refine ⟨_, rfl, t, "toss", "never", [.int u, .int v], 1, rfl, et, _, rfl, ?_⟩
      rw [decide_eq_false (show ¬ ((([V.int u, .int v] : List V).length : Int) + 1 = 1) by show ¬ ((2 : Int) + 1 = 1); decide), Bool.false_and]
      refine iteF ⟨_, rfl, t, "toss", "toss", [.int u, .int v], 3, rfl, et, _, rfl, ?_⟩
      rw [decide_eq_true (show ((([V.int u, .int v] : List V).length : Int) + 1 = 3) by show ((2 : Int) + 1 = 3); decide), decide_eq_true rfl]
      refine iteT ⟨_, rfl, t, _, 1, .int u, rfl, rfl, SqT.of et, atI_nat (j := 1) rfl, u, rfl, _, rfl, iteT ⟨_, rfl, t, _, 2, .int v, rfl, rfl, SqT.of et, atI_nat (j := 2) rfl, v, rfl, _, rfl, iteT ?_⟩⟩
      refine ⟨_, rfl, t, _, 1, .int u, rfl, rfl, SqT.of et, atI_nat (j := 1) rfl, _, rfl, u, _, rfl, _, rfl, ?_⟩
      rw [decide_eq_true u0, decide_eq_true (show u < ((m : Nat) : Int) by omega)]
      refine iteT ⟨_, rfl, t, _, 2, .int v, rfl, rfl, SqT.of et, atI_nat (j := 2) rfl, _, rfl, v, _, rfl, _, rfl, ?_⟩
      rw [decide_eq_true v0, decide_eq_true (show v < ((m : Nat) : Int) by omega)]
      exact iteT q
    | fin n =>
      obtain ⟨n0, n1⟩ := ok
      refine ⟨_, rfl, t, "end", "never", [.int n], 1, rfl, et, _, rfl, ?_⟩
      rw [decide_eq_false (show ¬ ((([V.int n] : List V).length : Int) + 1 = 1) by show ¬ ((1 : Int) + 1 = 1); decide), Bool.false_and]
      refine iteF ⟨_, rfl, t, "end", "toss", [.int n], 3, rfl, et, _, rfl, ?_⟩
      rw [decide_eq_false (show ¬ ((([V.int n] : List V).length : Int) + 1 = 3) by show ¬ ((1 : Int) + 1 = 3); decide), Bool.false_and]
      refine iteF (iteF ⟨_, rfl, t, "end", "end", [.int n], 2, rfl, et, _, rfl, ?_⟩)
      rw [decide_eq_true (show ((([V.int n] : List V).length : Int) + 1 = 2) by show ((1 : Int) + 1 = 2); decide), decide_eq_true rfl]
      refine iteT ⟨_, rfl, t, _, 1, .int n, rfl, rfl, SqT.of et, atI_nat (j := 1) rfl, n, rfl, _, rfl, iteT ?_⟩
      refine ⟨_, rfl, t, _, 1, .int n, rfl, rfl, SqT.of et, atI_nat (j := 1) rfl, _, _, rfl, rfl, _, rfl, ?_⟩
      rw [decide_eq_true n0]
      refine iteT ⟨_, _, rfl, rfl, _, rfl, ?_⟩
      rw [decide_eq_true (show n ≤ 99 by omega)]
      exact iteT q
def spME : Sp := fun vs H Q _ => ∃ (m : Addr) (ps : List Pl), vs = [.ref m] ∧ Mach H m ps ∧ 0 < ps.length ∧ ps.length ≤ 60 ∧ (∀ p ∈ ps, p.ok ps.length) ∧ ∀ H', Same H H' → Q .non H'
theorem scME : FnScope ["value", "index", "state", "word"] ["value"] (defScope sME) := ⟨rfl, rfl, rfl, by decide +kernel, rfl, by decide +kernel, by decide +kernel⟩
theorem ok_me {f g : Addr} {fd gd : FuncData} {tS : Tok} (F : Fun K "machine_error" "machine_error" sME f fd) (T : NamesK mg) (mS : mg "MAX_STATES" = some (.int 60 tS)) (GS : FnOk P w K mg base CX0 3 g gd ["state", "size"] spSE) (PS_ : Def K mg "state_error" g gd ["state", "size"]) : FnOk P w K mg base CX0 4 f fd ["value"] spME := by
  refine F.ok scME (fun vs H Q E h => ?_) (fun cdv A outer s H vs Q E hr h => ?_)
  · obtain ⟨m, ps, rfl, _⟩ := h
    rfl
  · obtain ⟨m, ps, rfl, hm, l0, l1, ok, q⟩ := h
    obtain ⟨rs, em, pl⟩ := hm
    have lr := pl.len
    refine ⟨_, (pss_cons (ps_if (PW.pt (pw_or (pt_not (pt_val (pe_callB call_isi (by rfl) T.isinstance (by decide +kernel) (pa_cons (pv 0) (pa_cons (pe_bltn (v := .ty "tuple") (by rfl) T.tuple (by decide +kernel) rfl) pa_nil))))) (pw_or1 (pt_not (pt_chain op_le op_le pe_int (pe_callB call_len_seq (by rfl) T.len PySem.boot_len (pa_cons (pv 0) pa_nil)) (pe_glob (v := .int 60) rfl mS ⟨_, rfl⟩)))))) (pss_one (ps_ret (pe_tup (pa_cons (pe_un un_neg pe_int) (pa_cons pe_str pa_nil))))) pss_nil)
      (pss_cons (ps_for PassesOwn.never rfl (EN.pi_pairs (by rfl) T.enumerate (pa_cons (pv 0) pa_nil)) (pg_tup rfl (pgs_cons (pg_name (i := 1) scME.nd rfl (.inl rfl)) (pgs_cons (pg_name (i := 2) scME.nd rfl (.inl rfl)) pgs_nil))) (pss_cons (ps_set (i := 3) scME.nd rfl (.inl rfl) (pe_call GS (hr.mono (by first | decide | omega)) (by rfl) PS_.is PS_.kp PS_.bi .nil pass0 (pa_cons (pv 2) (pa_cons (pe_callB call_len_seq (by rfl) T.len PySem.boot_len (pa_cons (pv 0) pa_nil)) pa_nil))))
      (pss_one (ps_if (pt_cmpR op_notN (pv 3) pe_non (nomark _)) (pss_one (ps_ret (pe_tup (pa_cons (pv 1) (pa_cons (pv 3) pa_nil))))) pss_nil))))
      (pss_one (ps_ret pe_non)))), ?_⟩
    refine ⟨_, rfl, _, .ty "tuple", .type "tuple", .type "tuple", true, rfl, .ty "tuple", .base (.tup em), kit_ty (by decide +kernel), true, rfl, iteF ?_⟩
    refine ⟨_, rfl, m, rs, rfl, .inr (SqT.of em), _, _, rfl, rfl, _, rfl, ?_⟩
    rw [decide_eq_true (by omega)]
    refine iteT ⟨_, _, rfl, rfl, _, rfl, ?_⟩
    rw [decide_eq_true (by omega)]
    refine iteF ⟨_, rfl, m, rs, rfl, SqT.of em, EN.for_pairs (D := { nx := tRet (tC V.non) { nx := fun x H' => Q V.non H', rt := Q }, rt := Q }) (xs := rs) (fun i σ H' => ∃ v1 v2 v3 : Option V, σ = [some (V.ref m), v1, v2, v3] ∧ Same H H') ⟨none, none, none, rfl, Same.refl _⟩ (fun i σ H' _ ⟨_, _, _, _, h⟩ => SqT.of (h _ _ em)) ?_ ?_⟩
    · rintro i x σ H1 T1 hx ⟨v1, v2, v3, rfl, s1⟩ nT1
      have hi : i < ps.length := by
        have := (List.getElem?_eq_some_iff.mp hx).1
        omega
      obtain ⟨t, ht, et⟩ := pl.get (List.getElem?_eq_getElem hi)
      rw [ht] at hx
      cases hx
      have sT := Same.upd (o := .tup [V.int (i : Nat), .ref t]) nT1
      have eT : upd H1 T1 (.tup [V.int (i : Nat), .ref t]) T1 = some (.tup [V.int (i : Nat), .ref t]) := upd_same
      have s2 := s1.trans sT
      generalize upd H1 T1 (.tup [V.int (i : Nat), .ref t]) = H2 at s2 eT ⊢
      refine ⟨T1, _, rfl, SqT.of eT, rfl, _, _, rfl, _, _, rfl, rfl, ?_⟩
      refine ⟨_, rfl, _, rfl, m, rs, rfl, .inr (SqT.of (s2 _ _ em)), t, ps[i], ps.length, congrArg (fun x : Nat => [V.ref t, V.int (x : Nat)]) lr, s2 _ _ et, ok _ (List.getElem_mem hi), ?_⟩
      refine ⟨_, rfl, rfl, _, rfl, ?_⟩
      rw [decide_eq_true rfl]
      exact iteF ⟨_, _, _, rfl, s2⟩
    · rintro σ H1 ⟨v1, v2, v3, rfl, s1⟩
      exact q H1 s1
end
end Z

set_option Elab.async false
set_option linter.all false
set_option maxRecDepth 100000
set_option maxHeartbeats 4000000
namespace Z
open PySem PySem.Spec PyProof.Rows L2 GG
abbrev sOrder : Stmt := top 28
abbrev sRen : Stmt := top 29
theorem renM_take {ps : List Pl} {os : List Int} {i : Nat} (hi : i < os.length) : (os.take (i + 1)).map (fun k => ren os (place ps k)) = (os.take i).map (fun k => ren os (place ps k)) ++ [ren os (place ps os[i])] := by
  rw [List.take_succ, List.getElem?_eq_getElem hi, List.map_append]
  rfl
def rgI (n : Nat) : List Int := (List.range n).map fun i : Nat => (i : Int)
theorem rgI_len (n : Nat) : (rgI n).length = n := by simp [rgI]
theorem rgI_succ (n : Nat) : rgI (n + 1) = rgI n ++ [(n : Int)] := by
  unfold rgI
  rw [List.range_succ, List.map_append]
  rfl
theorem rgI_mem {n : Nat} {k : Int} : k ∈ rgI n ↔ 0 ≤ k ∧ k < n := by
  unfold rgI
  rw [List.mem_map]
  constructor
  · rintro ⟨i, hi, rfl⟩
    have := List.mem_range.mp hi
    omega
  · rintro ⟨h0, h1⟩
    exact ⟨k.toNat, List.mem_range.mpr (by omega), by omega⟩
theorem rgI_nodup (n : Nat) : (rgI n).Nodup := by
  unfold rgI
  rw [List.nodup_iff_pairwise_ne, List.pairwise_map]
  exact List.nodup_range.imp fun {a b} h e => h (by omega)
theorem rg_perm {n : Nat} {k : Int} (h0 : 0 ≤ k) (h1 : k < n) : ([k] ++ (rgI n).filter fun j => j != k).Perm (rgI n) := by
  have nd := rgI_nodup n
  have hm : k ∈ rgI n := rgI_mem.mpr ⟨h0, h1⟩
  have e := List.Nodup.erase_eq_filter nd k
  rw [List.singleton_append, ← e]
  exact (List.perm_cons_erase hm).symm
theorem erase_perm : ∀ (l : List Int) (j : Nat) (h : j < l.length), ([l[j]] ++ l.eraseIdx j).Perm l
  | x :: r, 0, _ => List.Perm.refl _
  | x :: r, j + 1, h => by
    have hj : j < r.length := by simpa using h
    have ih := erase_perm r j hj
    show (r[j] :: (x :: r.eraseIdx j)).Perm (x :: r)
    exact (List.Perm.swap x r[j] _).trans (List.Perm.cons x ih)
theorem erase_map (f : Int → V) : ∀ (l : List Int) (j : Nat), (l.map f).eraseIdx j = (l.eraseIdx j).map f
  | [], _ => by simp
  | x :: r, 0 => rfl
  | x :: r, j + 1 => by
    show f x :: (r.map f).eraseIdx j = f x :: (r.eraseIdx j).map f
    rw [erase_map f r j]
theorem ord_of_perm {n : Nat} {os : List Int} (h : os.Perm (rgI n)) : Ord2 n os := ⟨⟨by rw [h.length_eq, rgI_len], fun k h0 h1 => h.mem_iff.mpr (rgI_mem.mpr ⟨h0, h1⟩), fun k hk => rgI_mem.mp (h.mem_iff.mp hk)⟩, h.nodup_iff.mpr (rgI_nodup n)⟩
section
variable {P : Program} {w : World} {K : PySem.W.Frag} {mg : Str → Option Value} {base : Heap}
/-! the numbers of the places changed, exactly -/
def spNumX : Sp := fun vs H Q _ => ∃ (m o : Addr) (ps : List Pl) (os : List Int), vs = [.ref m, .ref o] ∧ Mach H m ps ∧ WF ps ∧ H o = some (.lst (os.map V.int)) ∧ Order ps.length os ∧
  ∀ (t : Addr) H', Same H H' → H t = none → Mach H' t (renM ps os) → Q (.ref t) H'
theorem ok_numx {f : Addr} {fd : FuncData} (F : Fun K "_law_numbered" "_law_numbered" sNumb f fd) (T : Names mg) : FnOk P w K mg base CX0 1 f fd ["machine", "order"] spNumX := by
  refine F.ok scNumb (fun vs H Q E h => ?_) (fun cdv A outer s H vs Q E hr h => ?_)
  · obtain ⟨m, o, ps, os, rfl, _⟩ := h
    rfl
  · obtain ⟨m, o, ps, os, rfl, hm, hw, ho, hos, q⟩ := h
    refine ⟨_, (pss_cons (ps_set (i := 2) scNumb.nd rfl (.inl rfl) (pe_lst pa_nil))
      (pss_cons (ps_for PassesOwn.never rfl (pi_list (pv 1)) (pg_name (i := 3) scNumb.nd rfl (.inl rfl)) (pss_cons (ps_set (i := 4) scNumb.nd rfl (.inl rfl) (pe_ix ix_tup (pv 0) (pv 3) (fun _ _ => rfl)))
      (pss_cons (ps_if (pt_cmpR op_eq (pe_ix ix_tup (pv 4) pe_int (fun _ _ => rfl)) pe_str (nomark _)) (pss_one (ps_set (i := 4) scNumb.nd rfl (.inl rfl) (pe_tup (pa_cons pe_str (pa_cons (pe_bm PySem.F.plainAttrs_list PySem.F.slot_list_index PySem.F.type_list_index mt_index (pv 1) (pa_cons (pe_ix ix_tup (pv 4) pe_int (fun _ _ => rfl)) pa_nil)) (pa_cons (pe_bm PySem.F.plainAttrs_list PySem.F.slot_list_index PySem.F.type_list_index mt_index (pv 1) (pa_cons (pe_ix ix_tup (pv 4) pe_int (fun _ _ => rfl)) pa_nil)) pa_nil)))))) pss_nil)
      (pss_one (ps_expr (pe_bm PySem.F.plainAttrs_list PySem.F.slot_list_append PySem.F.type_list_append mt_append (pv 2) (pa_cons (pv 4) pa_nil)))))))
      (pss_one (ps_ret (pe_callTy call_tuple_of (by rfl) T.tuple (by decide +kernel) (pa_cons (pv 2) pa_nil)))))), ?_⟩
    refine ⟨Nat.zero_le _, fun L nL => ?_⟩
    have s1 : Same H (upd H L (.lst [])) := Same.upd nL
    have eL : upd H L (.lst []) L = some (.lst []) := upd_same
    change (_ : Hp → Prop) (upd H L (.lst []))
    generalize upd H L (.lst []) = H1 at s1 eL ⊢
    refine ⟨.ref o, rfl, o, rfl, ⟨_, SqL.of (s1 _ _ ho)⟩, for_list (K := K) (a := o) (xs := os.map V.int) (fun i σ H' => ∃ (v3 v4 : Option V) (rs : List V), σ = [some (V.ref m), some (V.ref o), some (V.ref L), v3, v4] ∧ Same H H' ∧ H' L = some (.lst rs) ∧ Pls H' rs ((os.take i).map fun k => ren os (place ps k)))
      ⟨_, _, [], rfl, s1, eL, .nil⟩ (fun i σ H' _ ⟨_, _, _, _, s, _⟩ => SqL.of (s _ _ ho)) ?_ ?_⟩
    · rintro i x σ H2 hx ⟨v3, v4, rs, rfl, s2, e2, pl⟩
      have hi : i < os.length := by
        have := (List.getElem?_eq_some_iff.mp hx).1
        rwa [List.length_map] at this
      have ex : x = .int os[i] := by
        rw [List.getElem?_map, List.getElem?_eq_getElem hi] at hx
        exact (Option.some.inj hx).symm
      subst ex
      obtain ⟨k0, k1⟩ := hos.ok _ (List.getElem_mem hi)
      obtain ⟨rs0, t, em, ht, et⟩ := (hm.same s2).at hw k0 k1
      have len : rs.length = i := by
        have := pl.len
        rw [List.length_map, List.length_take] at this
        omega
      have hlen : rs.length < sizeLine := by
        have := hos.len
        have := hw.le
        have e : sizeLine = 16777216 := by decide
        omega
      refine ⟨.ref m, rfl, .int os[i], rfl, m, rs0, _, .ref t, rfl, rfl, SqT.of em, ht, ?_⟩
      dsimp only
      refine on (if_tail (fun σ H3 => ∃ t' : Addr, σ = [some (V.ref m), some (V.ref o), some (V.ref L), some (V.int os[i]), some (V.ref t')] ∧ Same H2 H3 ∧ H3 t' = some (.tup (ren os (place ps os[i])).row)) ?_ (fun tl => ?_))
      rotate_left
      · obtain ⟨p, hp, okp⟩ := hw.get k0 k1
        rw [place_get hp] at et tl
        cases p with
        | toss x y =>
          refine ⟨.ref t, rfl, t, _, 0, .str "toss", rfl, rfl, SqT.of et, atI_nat (j := 0) rfl, rfl, _, rfl, ?_⟩
          rw [decide_eq_true rfl]
          refine iteT ?_
          obtain ⟨x0, x1, y0, y1⟩ := okp
          obtain ⟨jx2, jx3⟩ := idx_find (hos.all x x0 x1)
          obtain ⟨jy2, jy3⟩ := idx_find (hos.all y y0 y1)
          have ho2 := s2 _ _ ho
          refine ⟨.ref o, rfl, .inl ⟨rfl, _, SqL.of ho2⟩, .ref t, rfl, t, _, 1, .int x, rfl, rfl, SqT.of et, atI_nat (j := 1) rfl, o, _, .int x, _, .int x, rfl, rfl, SqL.of ho2, rfl, flat_ints os, jx2, by show (x == x) = true; simp, jx3, ?_⟩
          refine ⟨.ref o, rfl, .inl ⟨rfl, _, SqL.of ho2⟩, .ref t, rfl, t, _, 2, .int y, rfl, rfl, SqT.of et, atI_nat (j := 2) rfl, o, _, .int y, _, .int y, rfl, rfl, SqL.of ho2, rfl, flat_ints os, jy2, by show (y == y) = true; simp, jy3, ?_⟩
          refine ⟨by show 3 ≤ sizeLine; decide, fun t' nt => tl _ _ ⟨t', rfl, Same.upd nt, upd_same⟩⟩
        | fin n =>
          refine ⟨.ref t, rfl, t, _, 0, .str "end", rfl, rfl, SqT.of et, atI_nat (j := 0) rfl, rfl, _, rfl, ?_⟩
          rw [decide_eq_false str_toss_end]
          exact iteF (tl _ _ ⟨t, rfl, Same.refl _, et⟩)
        | never =>
          refine ⟨.ref t, rfl, t, _, 0, .str "never", rfl, rfl, SqT.of et, atI_nat (j := 0) rfl, rfl, _, rfl, ?_⟩
          rw [decide_eq_false str_toss_never]
          exact iteF (tl _ _ ⟨t, rfl, Same.refl _, et⟩)
      · rintro σ H3 ⟨t', rfl, s3, et'⟩
        have e3 := s3 _ _ e2
        refine ⟨.ref L, rfl, .inl ⟨rfl, _, SqL.of e3⟩, .ref t', rfl, L, _, _, rfl, rfl, e3, hlen, ?_⟩
        have ntL : ∀ b xs, H3 b = some (.tup xs) → b ≠ L := by
          rintro b xs e rfl
          rw [e3] at e
          cases e
        refine ⟨_, _, rs ++ [.ref t'], rfl, ?_, upd_same, ?_⟩
        · intro b u e
          rw [upd_ne (ne_of_none e nL)]
          exact s3 _ _ (s2 _ _ e)
        · rw [renM_take hi]
          exact ((pl.mono fun b xs e => s3 _ _ e).snoc et').mono fun b xs e => by rw [upd_ne (ntL _ _ e)]; exact e
    · rintro σ H2 ⟨v3, v4, rs, rfl, s2, e2, pl⟩
      rw [List.length_map, List.take_length] at pl
      refine ⟨.ref L, rfl, L, _, rfl, .inl ⟨SqL.of e2, fun t nt => ?_⟩⟩
      have s3 := Same.upd (o := .tup rs) nt
      exact q t _ (s2.trans s3) (s2.free nt) ⟨rs, upd_same, pl.mono fun b xs e => s3 _ _ e⟩
/-! an order that begins with a place -/
def spOrder : Sp := fun vs H Q _ => ∃ (p l : Addr) (n : Nat) (k : Int), vs = [.ref p, .int (n : Nat), .int k] ∧ Pen H p l ∧ n ≤ 60 ∧ 0 ≤ k ∧ k < n ∧
  ∀ (t : Addr) (os : List Int) H', But p H H' → Pen H' p l → H t = none → H' t = some (.lst (os.map V.int)) → Ord2 n os → os[0]? = some k → Q (.ref t) H'
theorem scOrder : FnScope ["pen", "many", "first", "rest", "found", "at"] ["pen", "many", "first"] (defScope sOrder) := ⟨rfl, rfl, rfl, by decide +kernel, rfl, by decide +kernel, by decide +kernel⟩
theorem ok_order {f g : Addr} {fd gd : FuncData} (F : Fun K "_law_order" "_law_order" sOrder f fd) (T : Names mg) (GD : FnOk P w K mg base CX0 2 g gd ["pen", "many"] spDraw) (PD : Def K mg "_law_draw" g gd ["pen", "many"]) : FnOk P w K mg base CX0 3 f fd ["pen", "many", "first"] spOrder := by
  refine F.ok scOrder (fun vs H Q E h => ?_) (fun cdv A outer s H vs Q E hr h => ?_)
  · obtain ⟨p, l, n, k, rfl, _⟩ := h
    rfl
  · obtain ⟨p, l, n, k, rfl, pn, n60, k0, kn, q⟩ := h
    have hu64 : A.units + 3 + 64 < cLine := hr.units
    refine ⟨_, (pss_cons (ps_par (i := 3) (j := 4) (by rfl) scOrder.nd rfl rfl (by decide) rfl rfl (pa_cons (pe_lc (own := [("at", 5)]) (g := gName 5) rfl scOrder.nd (pi_range1 rfl T.range (pa_cons (pv 1) pa_nil)) (blkOk_by (N := ["pen", "many", "first", "rest", "found", "at"]) (sc := defScope sOrder) (own := [("at", 5)]) (by decide +kernel)) (fun _ _ _ _ _ => (pg_name (i := 5) scOrder.nd rfl (.inl rfl))) (fun _ _ _ _ _ => (pts_one (pt_cmpR op_ne (pv 5) (pv 2) (nomark _)))) (fun _ _ _ _ _ => (pv 5))) (pa_cons (pe_lst (pa_cons (pv 2) pa_nil)) pa_nil)) (by rfl))
      (pss_cons (ps_while PassesOwn.never (pt_cmpR (op_neD hu64) (pv 3) (pe_lst pa_nil) (nomark _)) (pss_one (ps_expr (pe_bm PySem.F.plainAttrs_list PySem.F.slot_list_append PySem.F.type_list_append mt_append (pv 4) (pa_cons (pe_bm PySem.F.plainAttrs_list PySem.F.slot_list_pop PySem.F.type_list_pop mt_popAt (pv 3) (pa_cons (pe_call GD hr (by rfl) PD.is PD.kp PD.bi .nil pass0 (pa_cons (pv 0) (pa_cons (pe_callB call_len_seq (by rfl) T.len PySem.boot_len (pa_cons (pv 3) pa_nil)) pa_nil))) pa_nil)) pa_nil)))))
      (pss_one (ps_ret (pv 4))))), ?_⟩
    have line : sizeLine = 16777216 := by decide
    have np : ∀ {H' : Hp}, Pen H' p l → H' p ≠ none := fun ⟨_, _, _, h, _⟩ e => by rw [h] at e; cases e
    refine ⟨_, rfl, _, rfl, by omega, by omega, fun D nD => ?_⟩
    have aD := pn.apart nD
    refine lc_range (lo := 0) (n := n) (fun i Hx => Same H Hx ∧ Hx D = some (.lst (((rgI i).filter fun j => j != k).map V.int))) ⟨Same.upd nD, upd_same⟩ ?_ ?_
    · rintro i H1 hi ⟨s1, e1⟩
      refine ⟨rfl, ?_⟩
      refine ⟨_, rfl, _, rfl, rfl, _, rfl, ?_⟩
      have len : (((rgI i).filter fun j => j != k).map V.int).length < sizeLine := by
        rw [List.length_map]
        have := List.length_filter_le (fun j => j != k) (rgI i)
        rw [rgI_len] at this
        omega
      by_cases hk : (0 : Int) + (i : Nat) = k
      · rw [decide_eq_true (congrArg V.int hk)]
        refine iteF ⟨s1, ?_⟩
        rw [rgI_succ, List.filter_append, List.filter_cons_of_neg (by simp; omega)]
        simpa using e1
      · rw [decide_eq_false (fun h => hk (V.int.inj h))]
        refine iteT ⟨_, rfl, _, e1, len, ?_, ?_⟩
        · intro b o e
          rw [upd_ne (ne_of_none e nD)]
          exact s1 _ _ e
        · rw [upd_same, rgI_succ, List.filter_append, List.filter_cons_of_pos (by simp; omega), List.map_append, Int.zero_add]
          rfl
    rintro H1 ⟨s1, e1⟩
    have p1 := pn.same s1
    refine ⟨_, rfl, by show 1 ≤ sizeLine; decide, fun Fd nF => ⟨_, _, rfl, ?_⟩⟩
    have DF : D ≠ Fd := ne_of_none e1 nF
    have aF := p1.apart nF
    have nFH : H Fd = none := s1.free nF
    have s2 := s1.trans (Same.upd (o := .lst [V.int k]) nF)
    have e2 := (Same.upd (o := .lst [V.int k]) nF) _ _ e1
    have f2 : upd H1 Fd (.lst [V.int k]) Fd = some (.lst (([k] : List Int).map V.int)) := upd_same
    have p2 := p1.same (Same.upd (o := .lst [V.int k]) nF)
    change (_ : Hp → Prop) (upd H1 Fd (.lst [V.int k]))
    generalize upd H1 Fd (.lst [V.int k]) = H2 at s2 e2 f2 p2 ⊢
    refine ⟨fun m σ H' => ∃ (rs fs : List Int), m = rs.length ∧ σ = [some (V.ref p), some (V.int (n : Nat)), some (V.int k), some (V.ref D), some (V.ref Fd), none] ∧ But p H H' ∧ Pen H' p l ∧ H' D = some (.lst (rs.map V.int)) ∧ H' Fd = some (.lst (fs.map V.int)) ∧ (fs ++ rs).Perm (rgI n) ∧ fs[0]? = some k,
      ⟨_, _, [k], rfl, rfl, But.of s2, p2, e2, f2, rg_perm k0 kn, rfl⟩, ?_⟩
    rintro m σ H3 ⟨rs, fs, rfl, rfl, b3, p3, e3, f3, pm, hf⟩
    refine ⟨_, rfl, Nat.zero_le _, fun e0 ne0 => ?_⟩
    have s4 : Same H3 (upd H3 e0 (.lst [])) := Same.upd ne0
    have d0 : Dp K (upd H3 e0 (.lst [])) (.ref e0) (.list []) := .lst (SqL.of upd_same) .nil
    have e4 := s4 _ _ e3
    have f4 := s4 _ _ f3
    have p4 := p3.same s4
    generalize upd H3 e0 (.lst []) = H4 at s4 d0 e4 f4 p4 ⊢
    refine ⟨.list (rs.map PyData.int), .list [], .lst (SqL.of e4) (dpInts rs), d0, PySem.W.ke_shaped_ints rs, rfl, _, rfl, ?_⟩
    have b4 := b3.trans (But.of s4)
    have Dp_ := aD.1
    rcases rs with _ | ⟨r0, rs⟩
    · refine iteF ⟨_, rfl, ?_⟩
      rw [List.append_nil] at pm
      exact q Fd fs _ b4 p4 nFH f4 (ord_of_perm pm) hf
    · rw [eqv_nil (by simp)]
      refine iteT ⟨fun σ H' => ∃ (rs2 fs2 : List Int), rs2.length < (r0 :: rs).length ∧ σ = [some (V.ref p), some (V.int (n : Nat)), some (V.int k), some (V.ref D), some (V.ref Fd), none] ∧ But p H H' ∧ Pen H' p l ∧ H' D = some (.lst (rs2.map V.int)) ∧ H' Fd = some (.lst (fs2.map V.int)) ∧ (fs2 ++ rs2).Perm (rgI n) ∧ fs2[0]? = some k, ?_, ?_⟩
      · rintro σ H5 ⟨rs2, fs2, lt, h⟩
        exact ⟨rs2.length, lt, rs2, fs2, rfl, h⟩
      generalize hR : r0 :: rs = rr at *
      have rr0 : 0 < rr.length := by rw [← hR]; simp
      have line2 : sizeLine = 16777216 := line
      clear hR
      have rrn : rr.length ≤ n := by
        have := pm.length_eq
        rw [List.length_append, rgI_len] at this
        omega
      have ffn : fs.length ≤ n := by
        have := pm.length_eq
        rw [List.length_append, rgI_len] at this
        omega
      refine ⟨_, rfl, .inl ⟨rfl, _, SqL.of f4⟩, _, rfl, .inl ⟨rfl, _, SqL.of e4⟩, _, rfl, _, rfl, D, _, rfl, .inl (SqL.of e4), p, l, _, rfl, p4, ?_, ?_, fun d H5 d0' d1 b5 p5 => ?_⟩
      · rw [List.length_map]
        omega
      · rw [List.length_map]
        exact log_le (Nat.lt_of_le_of_lt (show _ ≤ 60 by omega) (by decide))
      rw [List.length_map] at d1
      obtain ⟨j, rfl⟩ : ∃ j : Nat, d = (j : Int) := ⟨d.toNat, by omega⟩
      have hj : j < rr.length := by omega
      have e5 := b5.mem Dp_ e4
      have f5 := b5.mem aF.1 f4
      refine ⟨D, _, j, j, .int rr[j], rfl, rfl, e5, by omega, by omega, ?_, by rw [List.getElem?_map, List.getElem?_eq_getElem hj]; rfl, ?_⟩
      · rw [List.length_map]
        unfold seqIndex?
        have : ¬ ((j : Int) < 0) := by omega
        simp [this, hj]
      · refine ⟨Fd, fs.map V.int, _, rfl, rfl, ?_, by rw [List.length_map]; omega, rr.eraseIdx j, fs ++ [rr[j]], ?_, rfl, ?_, ?_, ?_, ?_, ?_, ?_⟩
        · rw [upd_ne DF.symm]
          exact f5
        · rw [List.length_eraseIdx_of_lt hj]
          omega
        · intro b o e nb
          rw [upd_ne (ne_of_none e nFH), upd_ne (ne_of_none e nD)]
          exact b5 _ _ (b4 _ _ e nb) nb
        · obtain ⟨cs, pos, val, h1, h2, h3⟩ := p5
          exact ⟨cs, pos, val, by rw [upd_ne aF.1.symm, upd_ne aD.1.symm]; exact h1, by rw [upd_ne aF.2.symm, upd_ne aD.2.symm]; exact h2, h3⟩
        · rw [upd_ne DF, upd_same, erase_map]
        · rw [upd_same, List.map_append]
          rfl
        · refine List.Perm.trans ?_ pm
          rw [List.append_assoc]
          refine List.Perm.append_left _ ?_
          exact erase_perm rr j hj
        · rw [List.getElem?_append_left]
          · exact hf
          · exact (List.getElem?_eq_some_iff.mp hf).1
/-! what is told, with its place numbered otherwise -/
def spRen : Sp := fun vs H Q _ => ∃ (t o : Addr) (c : Oc) (os : List Int), vs = [.ref t, .ref o] ∧ H t = some (.tup c.row) ∧ H o = some (.lst (os.map V.int)) ∧ (∀ a, c = .going a → a ∈ os) ∧ ∀ (r : Addr) H', Same H H' → H' r = some (.tup (c.ren os).row) → Q (.ref r) H'
theorem scRen : FnScope ["told", "order"] ["told", "order"] (defScope sRen) := ⟨rfl, rfl, rfl, by decide +kernel, rfl, by decide +kernel, by decide +kernel⟩
theorem oc_going (c : Oc) : ∃ x r, c.row = .str x :: r ∧ (x = "going" ↔ ∃ a, c = .going a) := by
  cases c with
  | ended n u => exact ⟨_, _, rfl, ⟨fun h => absurd h (by decide +kernel), fun ⟨_, h⟩ => by cases h⟩⟩
  | nev u => exact ⟨_, _, rfl, ⟨fun h => absurd h (by decide +kernel), fun ⟨_, h⟩ => by cases h⟩⟩
  | going a => exact ⟨_, _, rfl, ⟨fun _ => ⟨a, rfl⟩, fun _ => rfl⟩⟩
theorem ok_ren {f : Addr} {fd : FuncData} (F : Fun K "_law_renamed" "_law_renamed" sRen f fd) : FnOk P w K mg base CX0 1 f fd ["told", "order"] spRen := by
  refine F.ok scRen (fun vs H Q E h => ?_) (fun cdv A outer s H vs Q E hr h => ?_)
  · obtain ⟨t, o, c, os, rfl, _⟩ := h
    rfl
  · obtain ⟨t, o, c, os, rfl, et, eo, hm, q⟩ := h
    refine ⟨_, (pss_one (ps_ret (pe_ifExp (pt_cmpR op_eq (pe_ix ix_tup (pv 0) pe_int (fun _ _ => rfl)) pe_str (nomark _)) (pe_tup (pa_cons pe_str (pa_cons (pe_bm PySem.F.plainAttrs_list PySem.F.slot_list_index PySem.F.type_list_index mt_index (pv 1) (pa_cons (pe_ix ix_tup (pv 0) pe_int (fun _ _ => rfl)) pa_nil)) pa_nil))) (pv 0)))), ?_⟩
    obtain ⟨x, r, ex, hx⟩ := oc_going c
    have et' := et
    rw [ex] at et'
    refine ⟨.ref t, rfl, t, _, 0, .str x, rfl, rfl, SqT.of et', atI_nat (j := 0) rfl, rfl, _, rfl, ?_⟩
    by_cases hg : x = "going"
    · obtain ⟨a, rfl⟩ := hx.mp hg
      rw [decide_eq_true (congrArg V.str hg)]
      obtain ⟨j1, j2⟩ := idx_find (hm a rfl)
      refine iteT ⟨.ref o, rfl, .inl ⟨rfl, _, SqL.of eo⟩, .ref t, rfl, t, _, 1, .int a, rfl, rfl, SqT.of et, atI_nat (j := 1) rfl, o, _, .int a, _, .int a, rfl, rfl, SqL.of eo, rfl, flat_ints os, j1, by show (a == a) = true; simp, j2, ?_⟩
      exact ⟨by show 2 ≤ sizeLine; decide, fun r nr => q r _ (Same.upd nr) upd_same⟩
    · rw [decide_eq_false (fun h => hg (V.str.inj h))]
      refine iteF ⟨_, rfl, q t H (Same.refl _) ?_⟩
      rw [et]
      cases c with
      | going a => exact absurd (hx.mpr ⟨a, rfl⟩) hg
      | ended n u => rfl
      | nev u => rfl
end
end Z

set_option Elab.async false
set_option linter.all false
set_option maxRecDepth 100000
set_option maxHeartbeats 4000000
/-! d != e for two dicts that hold the same data, in whatever order -/
namespace DNE
open PySem PySem.Spec PyProof.Rows L2 GG
section
variable {X : Cx}
def rNeDk (K : PySem.W.Frag) : R2 := fun x y H Q => ∃ (a b : Addr) (ka kb : List (Key × V)), x = .ref a ∧ y = .ref b ∧ H a = some (.dK ka) ∧ H b = some (.dK kb) ∧ ka.length = kb.length ∧
  (∀ k v, (k, v) ∈ ka → ∃ u d, valV kb k = some u ∧ Dp K H v d ∧ Dp K H u d ∧ SeqAt.shaped d = true ∧ PyData.eqv d d = true) ∧ Q (.bl false) H
theorem op_neDk (hu : X.A.units + 64 + 1 < cLine) : OpR X (compareOp .NotEq) (rNeDk X.K) := by
  intro pins s σ H x y v u Q I rx ry h
  obtain ⟨a, b, ka, kb, rfl, rfl, ea, eb, hl, hk, q⟩ := h
  cases rx
  cases ry
  obtain ⟨z1, y1, va, ra, da⟩ := dk_of I.hok ea
  obtain ⟨z2, y2, vb, rb, db⟩ := dk_of I.hok eb
  have hits : ∀ {kvs : List (Key × V)} {vs : List (Key × Value)}, KV kvs vs → (∀ p ∈ kvs, p ∈ ka) → PySem.W.KeqHits X.A.in1 s vb vs true := by
    intro kvs vs r
    unfold KV at r
    induction r with
    | nil => exact fun _ => .nil
    | @cons p p' ps qs hp t ih =>
      intro hm
      obtain ⟨k, v⟩ := p
      obtain ⟨k', v'⟩ := p'
      obtain ⟨e1, e2⟩ := hp
      have e1 : k = k' := e1
      subst e1
      obtain ⟨u, d, hu2, d1, d2, sd, ed⟩ := hk k v (hm _ List.mem_cons_self)
      have hv := rb.val k
      rw [hu2] at hv
      cases hq : valueAt vb k with
      | none => rw [hq] at hv; exact hv.elim
      | some w =>
        rw [hq] at hv
        obtain ⟨as, r1⟩ := Dp.reads I d v v' d1 e2
        obtain ⟨bs, r2⟩ := Dp.reads I d u w d2 hv
        have e := SeqAt.eqAt_reads d d X.A.in1 s v' w as bs r1 r2 (SeqAt.canLay_of_shaped sd) (SeqAt.canLay_of_shaped sd) (SeqAt.room_of_shaped sd (by show X.A.units + 1 + 64 < cLine; omega))
        rw [ed] at e
        exact .hit (e := true) (b := true) hq e (ih fun p hp => hm p (List.mem_cons_of_mem _ hp))
  refine PySem.W.keq_ne (r := true) y1 y2 da db (by omega) (fun _ => hits ra fun p h => h) ?_
  rw [← ra.length, ← rb.length, hl, beq_self_eq_true]
  exact ⟨.bl _, H, I, rfl, q⟩
end
end DNE

set_option Elab.async false
set_option linter.all false
set_option maxRecDepth 100000
set_option maxHeartbeats 4000000
/-! xs.index(e) within a comprehension -/
namespace KX3
open PySem PySem.Spec PyProof.Rows L2 GG
theorem mt_indexK {X : Cx} {K : PySem.W.Frag} (hK : X.K = K) : MtR X "list.index" (rIndex K) := by
  subst hK
  exact mt_index
theorem pe_indexK {X : Cx} {K : PySem.W.Frag} (hK : X.K = K) {o : Expr} {to : TE} {e : Expr} {es : List Expr} {t : TA} {apos cpos : Pos} (ho : PE X o to) (ha : PA X (e :: es) t)
    (hbase : attributeBase o "index" X.env (eval o X.env) = eval o X.env := by rfl)
    (hfew : ((backTo cpos (starEach (e :: es) X.env)).all (fun x => !x.1) && (backToKw cpos (keywordEach [] X.env)).all (fun x => x.1.isSome)
      && decide ((e :: es).length + ([] : List Keyword).length + (if ([] : List Keyword).isEmpty then 0 else 1) < 30)) = true := by rfl)
    (hline : (apos.endLine == cpos.line) = true := by rfl) (hs : starEach (e :: es) X.env = (false, eval e X.env) :: starEach es X.env := by rfl) (hplain : (backTo cpos (starEach es X.env)).any (·.1) = false := by rfl) :
    PE X (.Call (.Attribute o "index" apos) (e :: es) [] cpos) (tBM K "list" (rIndex K) to t) := by
  subst hK
  exact pe_bm PySem.F.plainAttrs_list PySem.F.slot_list_index PySem.F.type_list_index mt_index ho ha hbase hfew hline hs hplain
end KX3

set_option Elab.async false
set_option linter.all false
set_option maxRecDepth 100000
set_option maxHeartbeats 4000000
/-! data with empty dicts in it, and its text: lists that do not lie at the address of sys.modules -/
namespace TPD
open PySem PySem.Spec PyProof.Rows L2 GG
mutual
inductive Tp (K : PySem.W.Frag) (H : Hp) : V → PyData → Prop
  | non : Tp K H .non .none
  | bl (b : Bool) : Tp K H (.bl b) (.bool b)
  | int (i : Int) : Tp K H (.int i) (.int i)
  | str (x : Str) : Tp K H (.str x) (.str x)
  | lst {a : Addr} {xs : List V} {ds : List PyData} : sysModules < a → SqL K H a xs → TpAll K H xs ds → Tp K H (.ref a) (.list ds)
  | tup {a : Addr} {xs : List V} {ds : List PyData} : SqT K H a xs → TpAll K H xs ds → Tp K H (.ref a) (.tuple ds)
  | dic {a : Addr} : H a = some (.dK []) → Tp K H (.ref a) (.dict [])
inductive TpAll (K : PySem.W.Frag) (H : Hp) : List V → List PyData → Prop
  | nil : TpAll K H [] []
  | cons {v : V} {vs : List V} {d : PyData} {ds : List PyData} : Tp K H v d → TpAll K H vs ds → TpAll K H (v :: vs) (d :: ds)
end
section
variable {X : Cx} {pins : List (Addr × Obj)} {σ : L2.St} {H : Hp} {s : Shared}
mutual
theorem Tp.reads (I : Inv X pins σ H s) : ∀ (d : PyData) (v : V) (u : Value), Tp X.K H v d → RelV v u → ∃ as, Reads s.heap u d as ∧ sysModules ∉ as
  | .none, _, _, h, r => by
    cases h
    cases r
    exact ⟨_, Reads.none, by simp⟩
  | .bool b, _, _, h, r => by
    cases h
    cases r
    exact ⟨_, Reads.bool b, by simp⟩
  | .int i, _, _, h, r => by
    cases h
    obtain ⟨t, rfl⟩ := r
    exact ⟨_, Reads.int i t, by simp⟩
  | .str x, _, _, h, r => by
    cases h
    obtain ⟨t, rfl⟩ := r
    exact ⟨_, Reads.str x t, by simp⟩
  | .list ds, _, _, h, r => by
    cases h with
    | lst hb hs ha =>
      cases r
      obtain ⟨its, rv, ⟨o, n, ho, hc, _, hd⟩, _⟩ := I.list hs
      obtain ⟨as, hr, na⟩ := Tp.readsAll I ds _ its ha rv
      exact ⟨_, Reads.list ho hc hd hr, fun m => by
        rcases List.mem_cons.mp m with e | m
        · rw [← e] at hb
          exact Nat.lt_irrefl _ hb
        · exact na m⟩
  | .tuple ds, _, _, h, r => by
    cases h with
    | tup hs ha =>
      cases r
      obtain ⟨its, rv, ⟨o, ho, hc, n, hd⟩, _⟩ := I.tuple hs
      obtain ⟨as, hr, na⟩ := Tp.readsAll I ds _ its ha rv
      exact ⟨_, Reads.tuple ho hc hd hr, na⟩
  | .dict kvs, _, _, h, r => by
    cases h with
    | @dic a e =>
      cases r
      obtain ⟨_, low, vs, kv, dd⟩ := dk_of I.hok e
      cases kv
      obtain ⟨o, es, ep, ho, ex, hdt, _, pr, _⟩ := dd
      have hl := pr.length
      have e0 : es.toList = [] := List.length_eq_zero_iff.mp hl
      refine ⟨_, Reads.dict ho ex.1 hdt (as := []) (bs := []) (by rw [e0]; exact .nil) (by rw [e0]; exact .nil), fun m => ?_⟩
      have h2 : sysModules = a := by simpa using m
      rw [← h2] at low
      simp at low
theorem Tp.readsAll (I : Inv X pins σ H s) : ∀ (ds : List PyData) (vs : List V) (us : List Value), TpAll X.K H vs ds → Vals vs us → ∃ as, ReadsAll s.heap us ds as ∧ sysModules ∉ as
  | [], _, _, h, r => by
    cases h
    cases r
    exact ⟨_, ReadsAll.nil, by simp⟩
  | d :: ds, _, _, h, r => by
    cases h with
    | cons h1 h2 =>
      cases r with
      | cons r1 r2 =>
        obtain ⟨as, q1, n1⟩ := Tp.reads I d _ _ h1 r1
        obtain ⟨bs, q2, n2⟩ := Tp.readsAll I ds _ _ h2 r2
        exact ⟨_, ReadsAll.cons q1 q2, fun m => by
          rcases List.mem_append.mp m with m | m
          · exact n1 m
          · exact n2 m⟩
end
end
section
variable {X : Cx}
/-- repr of such data -/
structure ShowsT (d : PyData) : Prop where
  s : d.showable = true
  p : d.depth ≤ 50
  z : d.shown.length ≤ sizeLine
def rReprT (K : PySem.W.Frag) : List V → Hp → VK → Prop := fun vs H Q => ∃ (a : Addr) (d : PyData), vs = [.ref a] ∧ Tp K H (.ref a) d ∧ ShowsT d ∧ Q (.str d.shown) H
theorem call_reprT {k : Nat} (hg : X.A.guards = some []) (room : Room k X.A) : CallR X (.builtin "repr") (rReprT X.K) := by
  intro pins s σ H vs us Q I r h
  obtain ⟨a, d, rfl, hd, hs, q⟩ := h
  obtain ⟨u, rfl, ru⟩ := vals1 r
  have eu : u = Value.ref a := ru
  subst eu
  obtain ⟨as, reads, na⟩ := Tp.reads I d (.ref a) (.ref a) hd rfl
  have hu := room.un
  have hp := hs.p
  refine repr_of_reads' reads hs.s (fun _ => na) hg (by omega) (fun _ _ e => e) (fun h' u tk hk => ?_) hs.z
  exact ⟨.str d.shown, H, I.kept hk, ⟨u, rfl⟩, q⟩
/-- [..]: a new list, and where it does not lie -/
def tLstS (t : TA) : TE := fun σ H Q => t σ H fun xs H1 => xs.length ≤ sizeLine ∧ ∀ l, sysModules < l → H1 l = none → Q (.ref l) (upd H1 l (.lst xs))
variable {es : List Expr} {t : TA} {pos : Pos}
theorem pe_lstS (h : PA X es t) : PE X (.List es pos) (tLstS t) := by
  refine ⟨fun pins s σ H Q I hq => ?_⟩
  refine wpAny_List_spliced (thn (h.run pos pins s σ H _ I hq) fun us s1 ⟨xs, H1, I1, r, z, q⟩ => ⟨by rw [← r.length]; exact z, ?_⟩)
  have hf : H1 s1.heap.objs.size = none := I1.hok.fresh (Nat.le_refl _)
  refine ⟨.ref s1.heap.objs.size, upd H1 s1.heap.objs.size (.lst xs), I1.laid (t' := s1.toks) (fun b u e => Heap.get?_push_of_some _ e) (Nat.le_refl _) ?_, rfl, q _ I1.big hf⟩
  exact ⟨z, us, 0, r, Heap.get?_push_size _ rfl⟩
/-- list(x): a new list, and where it does not lie -/
theorem call_listS : CallR X (.type "list") (fun xs H Q => ∃ p ys, xs = [.ref p] ∧ (SqL X.K H p ys ∨ SqT X.K H p ys) ∧ ∀ l, sysModules < l → H l = none → Q (.ref l) (upd H l (.lst ys))) := by
  intro pins s σ H xs us Q I r h
  obtain ⟨p, ys, rfl, hq, q⟩ := h
  obtain ⟨u, rfl, rx⟩ := vals1 r
  cases rx
  have fin : ∀ (its : List Value), Vals ys its → ys.length ≤ sizeLine → ∀ (h' : Heap) (c' : Nat), (∀ b o', s.heap.get? b = some o' → h'.get? b = some o') →
      h'.get? s.heap.objs.size = some { cls := .type "list", dict := none, data := .seq its.toArray c', slots := #[] } → EP X pins σ Q (.ref s.heap.objs.size) { s with heap := h' } := fun its r' hz h' c' kp e =>
    ⟨.ref s.heap.objs.size, _, I.laid (t' := s.toks) kp (Nat.le_refl _) (show ObjOk X.prog X.w _ h' _ (.lst ys) from ⟨hz, its, c', r', e⟩), rfl, q _ I.big (I.hok.fresh (Nat.le_refl _))⟩
  rcases hq with hq | hq
  · obtain ⟨its, r', pl, hz⟩ := I.list hq
    have hlen := r'.length
    obtain ⟨o, ho, hc, n, hd⟩ := pl.isList
    exact call_list_seq p (.inl rfl) ho hc hd (fun h' c' kp e => fin its r' hz h' c' kp e) (by simp only [List.size_toArray] <;> omega)
  · obtain ⟨its, r', pl, hz⟩ := I.tuple hq
    have hlen := r'.length
    obtain ⟨o, ho, hc, n, hd⟩ := pl
    exact call_list_seq p (.inr rfl) ho hc hd (fun h' c' kp e => fin its r' hz h' c' kp e) (by simp only [List.size_toArray] <;> omega)
end
end TPD

set_option Elab.async false
set_option linter.all false
set_option maxRecDepth 100000
set_option maxHeartbeats 4000000
/-! kinds of data -/
namespace TPD
open PySem PySem.Spec PyProof.Rows L2 GG
def tyD : PyData → String
  | .none => "NoneType"
  | .bool _ => "bool"
  | .int _ => "int"
  | .str _ => "str"
  | .list _ => "list"
  | .tuple _ => "tuple"
  | .dict _ => "dict"
theorem kit_int : ∀ d : PyData, kitB (tyD d) "int" = some (match d with | .int _ => true | .bool _ => true | _ => false)
  | .none => by decide +kernel
  | .bool _ => by show kitB "bool" "int" = some true; decide +kernel
  | .int _ => by show kitB "int" "int" = some true; decide +kernel
  | .str _ => by show kitB "str" "int" = some false; decide +kernel
  | .list _ => by show kitB "list" "int" = some false; decide +kernel
  | .tuple _ => by show kitB "tuple" "int" = some false; decide +kernel
  | .dict _ => by show kitB "dict" "int" = some false; decide +kernel
theorem kit_bool : ∀ d : PyData, kitB (tyD d) "bool" = some (match d with | .bool _ => true | _ => false)
  | .none => by decide +kernel
  | .bool _ => by show kitB "bool" "bool" = some true; decide +kernel
  | .int _ => by show kitB "int" "bool" = some false; decide +kernel
  | .str _ => by show kitB "str" "bool" = some false; decide +kernel
  | .list _ => by show kitB "list" "bool" = some false; decide +kernel
  | .tuple _ => by show kitB "tuple" "bool" = some false; decide +kernel
  | .dict _ => by show kitB "dict" "bool" = some false; decide +kernel
theorem kit_tup : ∀ d : PyData, kitB (tyD d) "tuple" = some (match d with | .tuple _ => true | _ => false)
  | .none => by decide +kernel
  | .bool _ => by show kitB "bool" "tuple" = some false; decide +kernel
  | .int _ => by show kitB "int" "tuple" = some false; decide +kernel
  | .str _ => by show kitB "str" "tuple" = some false; decide +kernel
  | .list _ => by show kitB "list" "tuple" = some false; decide +kernel
  | .tuple _ => by show kitB "tuple" "tuple" = some true; decide +kernel
  | .dict _ => by show kitB "dict" "tuple" = some false; decide +kernel
theorem sql_ty {K : PySem.W.Frag} {H : Hp} {a : Addr} {xs : List V} (h : SqL K H a xs) : TyX K H (.ref a) (.type "list") := by
  rcases h with (h | ⟨o, h⟩) | ⟨o, its, n, e, c, _⟩
  · exact .base (.lst h)
  · exact .base (.frz h)
  · exact .kList e c
theorem sqt_ty {K : PySem.W.Frag} {H : Hp} {a : Addr} {xs : List V} (h : SqT K H a xs) : TyX K H (.ref a) (.type "tuple") := by
  rcases h with (h | ⟨o, h⟩) | ⟨o, its, n, e, c, _⟩
  · exact .base (.tup h)
  · exact .fTuple h
  · exact .kTuple e c
theorem Tp.ty {K : PySem.W.Frag} {H : Hp} {v : V} {d : PyData} (h : Tp K H v d) : TyX K H v (.type (tyD d)) := by
  cases h with
  | non => exact .base .non
  | bl b => exact .base (.bl b)
  | int i => exact .base (.int i)
  | str x => exact .base (.str x)
  | lst _ s _ => exact sql_ty s
  | tup s _ => exact sqt_ty s
  | dic e => exact .base (.dK e)
theorem sqt_same {K : PySem.W.Frag} {H H' : Hp} {a : Addr} {xs : List V} (s : Same H H') (h : SqT K H a xs) : SqT K H' a xs := by
  rcases h with (h | ⟨o, h⟩) | h
  · exact .inl (.inl (s _ _ h))
  · exact .inl (.inr ⟨o, s _ _ h⟩)
  · exact .inr h
theorem sql_same {K : PySem.W.Frag} {H H' : Hp} {a : Addr} {xs : List V} (s : Same H H') (h : SqL K H a xs) : SqL K H' a xs := by
  rcases h with (h | ⟨o, h⟩) | h
  · exact .inl (.inl (s _ _ h))
  · exact .inl (.inr ⟨o, s _ _ h⟩)
  · exact .inr h
mutual
theorem Tp.same {K : PySem.W.Frag} {H H' : Hp} (s : Same H H') : ∀ (d : PyData) (v : V), Tp K H v d → Tp K H' v d
  | .none, _, h => by cases h; exact .non
  | .bool b, _, h => by cases h; exact .bl b
  | .int i, _, h => by cases h; exact .int i
  | .str x, _, h => by cases h; exact .str x
  | .list ds, _, h => by
    cases h with
    | lst hb hs ha => exact .lst hb (sql_same s hs) (Tp.sameAll s ds _ ha)
  | .tuple ds, _, h => by
    cases h with
    | tup hs ha => exact .tup (sqt_same s hs) (Tp.sameAll s ds _ ha)
  | .dict _, _, h => by
    cases h with
    | dic e => exact .dic (s _ _ e)
theorem Tp.sameAll {K : PySem.W.Frag} {H H' : Hp} (s : Same H H') : ∀ (ds : List PyData) (vs : List V), TpAll K H vs ds → TpAll K H' vs ds
  | [], _, h => by cases h; exact .nil
  | d :: ds, _, h => by
    cases h with
    | cons h1 h2 => exact .cons (Tp.same s d _ h1) (Tp.sameAll s ds _ h2)
end
end TPD

set_option Elab.async false
set_option linter.all false
set_option maxRecDepth 100000
set_option maxHeartbeats 4000000
/-! data that stands on its own objects, none of them in N; slices and sums of tuples without a split by cases -/
namespace DSD
open PySem PySem.Spec PyProof.Rows L2 GG TPD
/-- all but what is in N stays -/
def BN (N : Addr → Prop) (H H' : Hp) : Prop := ∀ b o, H b = some o → ¬ N b → H' b = some o
mutual
inductive Ds (N : Addr → Prop) (H : Hp) : V → PyData → Prop
  | non : Ds N H .non .none
  | bl (b : Bool) : Ds N H (.bl b) (.bool b)
  | int (i : Int) : Ds N H (.int i) (.int i)
  | str (x : Str) : Ds N H (.str x) (.str x)
  | lst {a : Addr} {xs : List V} {ds : List PyData} : sysModules < a → H a = some (.lst xs) → ¬ N a → DsAll N H xs ds → Ds N H (.ref a) (.list ds)
  | tup {a : Addr} {xs : List V} {ds : List PyData} : H a = some (.tup xs) → ¬ N a → DsAll N H xs ds → Ds N H (.ref a) (.tuple ds)
  | dic {a : Addr} : H a = some (.dK []) → ¬ N a → Ds N H (.ref a) (.dict [])
inductive DsAll (N : Addr → Prop) (H : Hp) : List V → List PyData → Prop
  | nil : DsAll N H [] []
  | cons {v : V} {vs : List V} {d : PyData} {ds : List PyData} : Ds N H v d → DsAll N H vs ds → DsAll N H (v :: vs) (d :: ds)
end
section
variable {N : Addr → Prop} {H H' : Hp}
mutual
theorem Ds.bn (b : BN N H H') : ∀ (d : PyData) (v : V), Ds N H v d → Ds N H' v d
  | .none, _, h => by cases h; exact .non
  | .bool c, _, h => by cases h; exact .bl c
  | .int i, _, h => by cases h; exact .int i
  | .str x, _, h => by cases h; exact .str x
  | .list ds, _, h => by
    cases h with
    | lst h0 h1 h2 h3 => exact .lst h0 (b _ _ h1 h2) h2 (Ds.bnAll b ds _ h3)
  | .tuple ds, _, h => by
    cases h with
    | tup h1 h2 h3 => exact .tup (b _ _ h1 h2) h2 (Ds.bnAll b ds _ h3)
  | .dict _, _, h => by
    cases h with
    | dic h1 h2 => exact .dic (b _ _ h1 h2) h2
theorem Ds.bnAll (b : BN N H H') : ∀ (ds : List PyData) (vs : List V), DsAll N H vs ds → DsAll N H' vs ds
  | [], _, h => by cases h; exact .nil
  | d :: ds, _, h => by
    cases h with
    | cons h1 h2 => exact .cons (Ds.bn b d _ h1) (Ds.bnAll b ds _ h2)
end
mutual
theorem Ds.tp {K : PySem.W.Frag} : ∀ (d : PyData) (v : V), Ds N H v d → Tp K H v d
  | .none, _, h => by cases h; exact .non
  | .bool c, _, h => by cases h; exact .bl c
  | .int i, _, h => by cases h; exact .int i
  | .str x, _, h => by cases h; exact .str x
  | .list ds, _, h => by
    cases h with
    | lst h0 h1 h2 h3 => exact .lst h0 (SqL.of h1) (Ds.tpAll ds _ h3)
  | .tuple ds, _, h => by
    cases h with
    | tup h1 h2 h3 => exact .tup (SqT.of h1) (Ds.tpAll ds _ h3)
  | .dict _, _, h => by
    cases h with
    | dic h1 h2 => exact .dic h1
theorem Ds.tpAll {K : PySem.W.Frag} : ∀ (ds : List PyData) (vs : List V), DsAll N H vs ds → TpAll K H vs ds
  | [], _, h => by cases h; exact .nil
  | d :: ds, _, h => by
    cases h with
    | cons h1 h2 => exact .cons (Ds.tp d _ h1) (Ds.tpAll ds _ h2)
end
theorem DsAll.len : ∀ {vs : List V} {ds : List PyData}, DsAll N H vs ds → vs.length = ds.length
  | _, _, .nil => rfl
  | _, _, .cons _ t => congrArg Nat.succ t.len
theorem DsAll.app : ∀ {vs ws : List V} {ds es : List PyData}, DsAll N H vs ds → DsAll N H ws es → DsAll N H (vs ++ ws) (ds ++ es)
  | _, _, _, _, .nil, h => h
  | _, _, _, _, .cons a t, h => .cons a (t.app h)
theorem DsAll.drop : ∀ {vs : List V} {ds : List PyData} (n : Nat), DsAll N H vs ds → DsAll N H (vs.drop n) (ds.drop n)
  | _, _, 0, h => h
  | _, _, n + 1, .nil => .nil
  | _, _, n + 1, .cons a t => t.drop n
theorem DsAll.take : ∀ {vs : List V} {ds : List PyData} (n : Nat), DsAll N H vs ds → DsAll N H (vs.take n) (ds.take n)
  | _, _, 0, h => .nil
  | _, _, n + 1, .nil => .nil
  | _, _, n + 1, .cons a t => .cons a (t.take n)
end
section
variable {X : Cx}
def rCutU : V → Option Int → Option Int → Hp → VK → Prop := fun x lo hi H Q => ∃ (a : Addr) (xs : List V), x = .ref a ∧ H a = some (.tup xs) ∧ ∀ (p : Addr) H', Same H H' → H' p = some (.tup (cutV xs lo hi)) → (p = a ∨ H p = none) → Q (.ref p) H'
theorem sl_cutU : SlR X rCutU := by
  intro pins s σ H x v vl vu lo hi sl Q I rx hs pl pu h
  obtain ⟨a, xs, rfl, ha, q⟩ := h
  refine sl_tupA pins s σ H _ v vl vu lo hi sl Q I rx hs pl pu ⟨a, xs, rfl, SqT.of ha, fun w => ?_, fun _ p np => ?_⟩
  · refine q a H (Same.refl _) ?_ (.inl rfl)
    rw [ha]
    unfold cutV
    rw [w.1, w.2, List.drop_zero, Nat.sub_zero, List.take_length]
  · exact q p _ (fun b o e => by rw [upd_ne (ne_of_none e np)]; exact e) upd_same (.inr np)
def rCatU : R2 := fun x y H Q => ∃ (a b : Addr) (xs ys : List V), x = .ref a ∧ y = .ref b ∧ H a = some (.tup xs) ∧ H b = some (.tup ys) ∧ xs.length + ys.length ≤ sizeLine ∧ ∀ (p : Addr) H', Same H H' → H' p = some (.tup (xs ++ ys)) → (p = a ∨ p = b ∨ H p = none) → Q (.ref p) H'
theorem op_catU : OpR X (binaryOp .Add) rCatU := by
  intro pins s σ H x y v u Q I rx ry h
  obtain ⟨a, b, xs, ys, rfl, rfl, ha, hb, hz, q⟩ := h
  refine op_catA pins s σ H _ _ v u Q I rx ry ⟨a, b, xs, ys, rfl, rfl, SqT.of ha, SqT.of hb, hz, fun e => ?_, fun _ e => ?_, fun _ _ p np => ?_⟩
  · subst e
    exact q b H (Same.refl _) hb (.inr (.inl rfl))
  · subst e
    exact q a H (Same.refl _) (by rw [List.append_nil]; exact ha) (.inl rfl)
  · exact q p _ (fun b o e => by rw [upd_ne (ne_of_none e np)]; exact e) upd_same (.inr (.inr np))
end
end DSD

set_option Elab.async false
set_option linter.all false
set_option maxRecDepth 100000
set_option maxHeartbeats 4000000
namespace Z
open PySem PySem.Spec PyProof.Rows L2 GG DCX
abbrev sLaw : Stmt := top 30
structure NamesM (mg : Str → Option Value) : Prop extends NamesG mg where
  max : mg "max" = none
  min : mg "min" = none
def Oc.add (k : Nat) : Oc → Oc
  | .going a => .going a
  | .ended n u => .ended n (u + k)
  | .nev u => .nev (u + k)
theorem run_add {ps : List Pl} (k : Nat) : ∀ (t : List Bool) (a : Int) (u : Nat), run ps t a (u + k) = (run ps t a u).add k
  | [], a, u => by
    unfold run
    cases place ps a <;> rfl
  | c :: t, a, u => by
    unfold run
    cases place ps a with
    | toss x y =>
      show run ps t (if c = true then x else y) (u + k + 1) = (run ps t (if c = true then x else y) (u + 1)).add k
      rw [show u + k + 1 = u + 1 + k by omega]
      exact run_add k t _ (u + 1)
    | fin n => rfl
    | never => rfl
theorem run_app {ps : List Pl} (x : List Bool) {b : Int} : ∀ (t : List Bool) (a : Int) (u : Nat), run ps t a u = .going b → run ps (t ++ x) a u = run ps x b (u + t.length)
  | [], a, u, h => by
    unfold run at h
    cases e : place ps a with
    | toss p q =>
      rw [e] at h
      cases h
      rfl
    | fin n => rw [e] at h; cases h
    | never => rw [e] at h; cases h
  | c :: t, a, u, h => by
    cases e : place ps a with
    | toss p q =>
      rw [run_cons e] at h
      rw [List.cons_append, run_cons e, run_app x t _ (u + 1) h, List.length_cons, show u + 1 + t.length = u + (t.length + 1) by omega]
    | fin n => rw [run_fin e] at h; cases h
    | never => rw [run_nev e] at h; cases h
theorem run_in {ps : List Pl} (hw : WF ps) {b : Int} : ∀ (t : List Bool) (a : Int) (u : Nat), In ps a → run ps t a u = .going b → In ps b
  | [], a, u, ha, h => by
    unfold run at h
    cases e : place ps a with
    | toss p q =>
      rw [e] at h
      cases h
      exact ha
    | fin n => rw [e] at h; cases h
    | never => rw [e] at h; cases h
  | c :: t, a, u, ha, h => by
    unfold run at h
    cases e : place ps a with
    | toss p q =>
      rw [e] at h
      obtain ⟨hx, hy⟩ := wf_succ hw ha e
      cases c
      · exact run_in hw t q (u + 1) hy h
      · exact run_in hw t p (u + 1) hx h
    | fin n => rw [e] at h; cases h
    | never => rw [e] at h; cases h
theorem idx_first {os : List Int} {k : Int} (h : os[0]? = some k) : idx os k = 0 := by
  unfold idx
  cases os with
  | nil => cases h
  | cons x r =>
    cases h
    rw [List.findIdx_cons]
    simp
theorem tl_app (x y : Str) : tl_ (x ++ y) = tl_ x ++ tl_ y := by
  unfold tl_
  show ((x.cps ++ y.cps).toList.map _) = _
  rw [Array.toList_append, List.map_append]
theorem told_word {ps : List Pl} {H : Hp} {t : Addr} (h : Trap ps H t ∨ EndsT ps H t) : ∃ (x : Str) (r : List V), H t = some (.tup (.str x :: r)) ∧ ((x = "trap" ∧ ∃ k, Rch ps 0 k ∧ ¬ Op ps k) ∨ (x = "ends" ∧ ∀ k, Rch ps 0 k → Op ps k)) := by
  rcases h with ⟨z, k, a, ks, e, g, no, _⟩ | ⟨a, ks, e, al, _⟩
  · exact ⟨_, _, e, .inl ⟨rfl, k, g.rch, no⟩⟩
  · exact ⟨_, _, e, .inr ⟨rfl, al⟩⟩
theorem told_same {ps : List Pl} {os : List Int} (hw : WF ps) (o : Ord2 ps.length os) (h0 : os[0]? = some 0) {x y : Str} (hx : (x = "trap" ∧ ∃ k, Rch (renM ps os) 0 k ∧ ¬ Op (renM ps os) k) ∨ (x = "ends" ∧ ∀ k, Rch (renM ps os) 0 k → Op (renM ps os) k))
    (hy : (y = "trap" ∧ ∃ k, Rch ps 0 k ∧ ¬ Op ps k) ∨ (y = "ends" ∧ ∀ k, Rch ps 0 k → Op ps k)) : x = y := by
  have i0 : In ps 0 := ⟨by decide, by have := hw.ne; omega⟩
  rcases hx with ⟨rfl, k, r, no⟩ | ⟨rfl, al⟩ <;> rcases hy with ⟨rfl, j, s, no2⟩ | ⟨rfl, al2⟩
  · rfl
  · rw [← idx_zero h0] at r
    obtain ⟨b, rfl, rb⟩ := rch_of_ren hw o i0 r
    exact absurd ((op_ren hw o (rb.inn hw i0)).mpr (al2 b rb)) no
  · have := rch_ren hw o i0 s
    rw [idx_zero h0] at this
    exact absurd ((op_ren hw o (s.inn hw i0)).mp (al _ this)) no2
  · rfl
def dD : Option Nat → PyData
  | none => .none
  | some d => .int (d : Nat)
theorem dp_dV {K : PySem.W.Frag} {H : Hp} (o : Option Nat) : Dp K H (dV o) (dD o) := by
  cases o with
  | none => exact .non
  | some d => exact .int _
theorem dps_dV {K : PySem.W.Frag} {H : Hp} : ∀ l : List (Option Nat), DpAll K H (l.map dV) (l.map dD)
  | [] => .nil
  | o :: r => .cons (dp_dV o) (dps_dV r)
theorem shaped_dV (l : List (Option Nat)) : SeqAt.shaped (.list (l.map dD)) = true := by
  have h1 : ∀ l : List (Option Nat), PyData.canLayAll0 (l.map dD) = true ∧ PyData.depthAll (l.map dD) = 0 := fun l => by
    induction l with
    | nil => exact ⟨rfl, rfl⟩
    | cons o r ih =>
      cases o <;> simp [PyData.canLayAll0, PyData.canLay0, PyData.depthAll, PyData.depth, dD, ih.1, ih.2]
  obtain ⟨a, b⟩ := h1 l
  simp [SeqAt.shaped, PyData.canLay0, PyData.depth, a, b]
theorem eqv_dV : ∀ l : List (Option Nat), PyData.eqv (.list (l.map dD)) (.list (l.map dD)) = true
  | [] => rfl
  | o :: r => by
    show (PyData.eqv (dD o) (dD o) && PyData.eqv (.list (r.map dD)) (.list (r.map dD))) = true
    rw [eqv_dV r, Bool.and_true]
    cases o with
    | none => rfl
    | some d => exact beq_self_eq_true _
theorem eqv_intsL : ∀ xs : List Int, PyData.eqv (.list (xs.map PyData.int)) (.list (xs.map PyData.int)) = true
  | [] => rfl
  | x :: r => by
    show ((x == x) && PyData.eqv (.list (r.map PyData.int)) (.list (r.map PyData.int))) = true
    rw [eqv_intsL r, Bool.and_true]
    exact beq_self_eq_true x
def ocD : Oc → PyData
  | .ended n u => .tuple [.str "ended", .int n, .int (u : Nat)]
  | .nev u => .tuple [.str "never", .int (u : Nat)]
  | .going a => .tuple [.str "going", .int a]
theorem dp_oc {K : PySem.W.Frag} {H : Hp} {t : Addr} {c : Oc} (e : H t = some (.tup c.row)) : Dp K H (.ref t) (ocD c) := by
  cases c with
  | ended n u => exact .tup (SqT.of e) (.cons (.str _) (.cons (.int _) (.cons (.int _) .nil)))
  | nev u => exact .tup (SqT.of e) (.cons (.str _) (.cons (.int _) .nil))
  | going a => exact .tup (SqT.of e) (.cons (.str _) (.cons (.int _) .nil))
theorem shaped_oc (c : Oc) : SeqAt.shaped (ocD c) = true := by
  cases c <;> simp [SeqAt.shaped, PyData.canLayAll0, PyData.canLay0, PyData.depthAll, PyData.depth, ocD] <;> decide +kernel
theorem eqv_oc (c : Oc) : PyData.eqv (ocD c) (ocD c) = true := by
  cases c with
  | ended n u =>
    show ((Str.ofString "ended" == Str.ofString "ended") && ((n == n) && ((((u : Nat) : Int) == ((u : Nat) : Int)) && true))) = true
    simp
  | nev u =>
    show ((Str.ofString "never" == Str.ofString "never") && ((((u : Nat) : Int) == ((u : Nat) : Int)) && true)) = true
    simp
  | going a =>
    show ((Str.ofString "going" == Str.ofString "going") && ((a == a) && true)) = true
    simp
/-! the rows of tapes counted, as data -/
def rowsD (L : Nat) (f : Nat → List Int) : PyData := .tuple ((List.range (L + 1)).map fun j => .tuple ((f j).map PyData.int))
theorem dp_rows {K : PySem.W.Frag} {H : Hp} {t : Addr} {L : Nat} {B : Nat → Addr} {f : Nat → List Int} (e : H t = some (.tup ((List.range (L + 1)).map fun j => V.ref (B j)))) (h : ∀ j, j ≤ L → H (B j) = some (.tup ((f j).map V.int))) : Dp K H (.ref t) (rowsD L f) := by
  refine .tup (SqT.of e) ?_
  have : ∀ l : List Nat, (∀ j ∈ l, j ≤ L) → DpAll K H (l.map fun j => V.ref (B j)) (l.map fun j => PyData.tuple ((f j).map PyData.int)) := fun l => by
    induction l with
    | nil => exact fun _ => .nil
    | cons j r ih => exact fun hl => .cons (.tup (SqT.of (h j (hl j List.mem_cons_self))) (dpInts _)) (ih fun k hk => hl k (List.mem_cons_of_mem _ hk))
  exact this _ fun j hj => by have := List.mem_range.mp hj; omega
theorem shaped_rows (L : Nat) (f : Nat → List Int) : SeqAt.shaped (rowsD L f) = true := by
  have h1 : ∀ l : List Nat, PyData.canLayAll0 (l.map fun j => PyData.tuple ((f j).map PyData.int)) = true ∧ PyData.depthAll (l.map fun j => PyData.tuple ((f j).map PyData.int)) ≤ 1 := fun l => by
    induction l with
    | nil => exact ⟨rfl, Nat.zero_le _⟩
    | cons j r ih =>
      rw [List.map_cons]
      simp only [PyData.canLayAll0, PyData.canLay0, PyData.depthAll, PyData.depth, PySem.W.ke_canLayAll0, PySem.W.ke_depthAll, ih.1]
      exact ⟨rfl, by have := ih.2; omega⟩
  obtain ⟨a, b⟩ := h1 (List.range (L + 1))
  unfold SeqAt.shaped
  have d : (rowsD L f).depth ≤ 64 := by
    unfold rowsD
    simp only [PyData.depth]
    omega
  have c : (rowsD L f).canLay0 = true := by
    unfold rowsD
    simp only [PyData.canLay0]
    exact a
  rw [c, decide_eq_true d]
  rfl
theorem eqv_rows (L : Nat) (f : Nat → List Int) : PyData.eqv (rowsD L f) (rowsD L f) = true := by
  have h1 : ∀ l : List Nat, PyData.eqv (.tuple (l.map fun j => PyData.tuple ((f j).map PyData.int))) (.tuple (l.map fun j => PyData.tuple ((f j).map PyData.int))) = true := fun l => by
    induction l with
    | nil => rfl
    | cons j r ih =>
      show (PyData.eqv (.tuple ((f j).map PyData.int)) (.tuple ((f j).map PyData.int)) && PyData.eqv (.tuple (r.map _)) (.tuple (r.map _))) = true
      rw [ih, Bool.and_true]
      exact eqv_intsL (f j)
  exact h1 _
theorem dl_ren {ps : List Pl} {os : List Int} (hw : WF ps) (o : Ord2 ps.length os) : dl (renM ps os) (renM ps os).length ((renM ps os).length - 1) 0 = (os.map fun k => lvl ps (ps.length - 1) k).map dV := by
  rw [renM_len o]
  refine List.ext_getElem? fun i => ?_
  rcases Nat.lt_or_ge i ps.length with lt | ge
  · have hi : i < os.length := by rw [o.len]; exact lt
    rw [dl_get lt, List.getElem?_map, List.getElem?_map, List.getElem?_eq_getElem hi, if_neg (Nat.not_lt_zero i)]
    have hin := o.ok os[i] (List.getElem_mem hi)
    have e := idx_of_at o.nd (List.getElem?_eq_getElem hi)
    rw [← e, lvl_ren hw o _ hin]
    rfl
  · rw [List.getElem?_eq_none (by rw [dl_len]; exact ge), List.getElem?_eq_none (by rw [List.length_map, List.length_map, o.len]; exact ge)]
theorem kd_at {as : List Int} {A : Int → Addr} {k : Int} (h : k ∈ as) : valV (kd as fun a => V.ref (A a)) (.inl k) = some (.ref (A k)) := by
  rw [kd_val, if_pos h]
section
variable {P : Program} {w : World} {K : PySem.W.Frag} {mg : Str → Option Value} {base : Heap}
def spLaw (K : PySem.W.Frag) : Sp := fun vs H Q _ => ∃ (a : Addr) (ns : List Int), vs = [.ref a] ∧ SqL K H a (ns.map V.int) ∧ ns.length ≤ 63 ∧ ∀ H', Q (.bl true) H'
theorem scLaw : FnScope ["script", "pen", "turn", "machine", "order", "other", "often", "tape", "more", "told", "later", "rest", "due", "at", "old"] ["script"] (defScope sLaw) := ⟨rfl, rfl, rfl, by decide +kernel, rfl, by decide +kernel, by decide +kernel⟩
theorem ok_law {f fP fD fM fN fO fT fR fE fC fS fB fK fW : Addr} {fd dP dD dM dN dO dT dR dE dC dS dB dK dW : FuncData} (F : Fun K "law" "law" sLaw f fd) (T : NamesM mg)
    (GP : FnOk P w K mg base CX0 1 fP dP ["script"] (spPen K)) (P1 : Def K mg "_law_pen" fP dP ["script"])
    (GD : FnOk P w K mg base CX0 2 fD dD ["pen", "many"] spDraw) (P2 : Def K mg "_law_draw" fD dD ["pen", "many"])
    (GM : FnOk P w K mg base CX0 4 fM dM ["pen", "most", "answers"] spMach) (P3 : Def K mg "_law_machine" fM dM ["pen", "most", "answers"])
    (GN : FnOk P w K mg base CX0 1 fN dN ["machine", "order"] spNumX) (P4 : Def K mg "_law_numbered" fN dN ["machine", "order"])
    (GO : FnOk P w K mg base CX0 3 fO dO ["pen", "many", "first"] spOrder) (P5 : Def K mg "_law_order" fO dO ["pen", "many", "first"])
    (GT : FnOk P w K mg base CX0 3 fT dT ["pen", "many"] spTape) (P6 : Def K mg "_law_tape" fT dT ["pen", "many"])
    (GR : FnOk P w K mg base CX0 1 fR dR ["told", "order"] spRen) (P7 : Def K mg "_law_renamed" fR dR ["told", "order"])
    (GE : FnOk P w K mg base CX0 4 fE dE ["value"] spME) (P8 : Def K mg "machine_error" fE dE ["value"])
    (GC : FnOk P w K mg base CX0 3 fC dC ["machine"] spCheck) (P9 : Def K mg "check_termination" fC dC ["machine"])
    (GS : FnOk P w K mg base CX0 3 fS dS ["machine"] spReach) (P10 : Def K mg "reachable_states" fS dS ["machine"])
    (GB : FnOk P w K mg base CX0 2 fB dB ["machine"] spDist) (P11 : Def K mg "end_distances" fB dB ["machine"])
    (GK : FnOk P w K mg base CX0 2 fK dK ["machine", "length"] spCount) (P12 : Def K mg "count_tapes" fK dK ["machine", "length"])
    (GW : FnOk P w K mg base CX0 2 fW dW ["machine", "tape"] spRun) (P13 : Def K mg "run_machine" fW dW ["machine", "tape"]) :
    FnG P w K mg base 5 f fd ["script"] (spLaw K) := by
  refine fnG_of F scLaw (fun vs H Q E h => ?_) (fun cdv A outer s H vs Q E hg hr h => ?_)
  · obtain ⟨a, ns, rfl, _⟩ := h
    rfl
  · obtain ⟨a, ns, rfl, hS, hlen, q⟩ := h
    have hu : A.units + 3 + 64 < cLine := hr.units
    have hu1 : A.units + 3 + 64 + 1 < cLine := by have h : A.units + 3 + 16 * 4 + 200 < cLine := hr.un; omega
    have line : sizeLine = 16777216 := by decide
    refine ⟨_, (pss_cons (ps_set (i := 1) scLaw.nd rfl (.inl rfl) (pe_call GP (hr.mono (by first | decide | omega)) (by rfl) P1.is P1.kp P1.bi .nil pass0 (pa_cons (pv 0) pa_nil)))
      (pss_cons (ps_for PassesOwn.never rfl (pi_range1 rfl T.range (pa_cons (pe_callB (call_max2 rfl) (by rfl) T.max (by decide +kernel) (pa_cons pe_int (pa_cons (pe_callB (call_min2 rfl) (by rfl) T.min (by decide +kernel) (pa_cons pe_int (pa_cons (pe_callB call_len_seq (by rfl) T.len PySem.boot_len (pa_cons (pv 0) pa_nil)) pa_nil))) pa_nil))) pa_nil)) (pg_name (i := 2) scLaw.nd rfl (.inl rfl)) (pss_cons (ps_set (i := 3) scLaw.nd rfl (.inr rfl) (pe_call GM (hr.mono (by first | decide | omega)) (by rfl) P3.is P3.kp P3.bi .nil pass0 (pa_cons (pv 1) (pa_cons pe_int (pa_cons (pe_lst (pa_cons pe_int (pa_cons pe_int (pa_cons pe_int pa_nil)))) pa_nil)))))
      (pss_cons (ps_set (i := 4) scLaw.nd rfl (.inr rfl) (pe_call GO (hr.mono (by first | decide | omega)) (by rfl) P5.is P5.kp P5.bi .nil pass0 (pa_cons (pv 1) (pa_cons (pe_callB call_len_seq (by rfl) T.len PySem.boot_len (pa_cons (pv 3) pa_nil)) (pa_cons pe_int pa_nil)))))
      (pss_cons (ps_set (i := 5) scLaw.nd rfl (.inl rfl) (pe_call GN (hr.mono (by first | decide | omega)) (by rfl) P4.is P4.kp P4.bi .nil pass0 (pa_cons (pv 3) (pa_cons (pv 4) pa_nil))))
      (pss_cons (ps_if (PW.pt (pw_or (pt_cmpR op_notN (pe_call GE (hr.mono (by first | decide | omega)) (by rfl) P8.is P8.kp P8.bi .nil pass0 (pa_cons (pv 5) pa_nil)) pe_non (nomark _)) (pw_or1 (pt_cmpR op_ne (pe_ix ix_tup (pe_call GC (hr.mono (by first | decide | omega)) (by rfl) P9.is P9.kp P9.bi .nil pass0 (pa_cons (pv 5) pa_nil)) pe_int (fun _ _ => rfl)) (pe_ix ix_tup (pe_call GC (hr.mono (by first | decide | omega)) (by rfl) P9.is P9.kp P9.bi .nil pass0 (pa_cons (pv 3) pa_nil)) pe_int (fun _ _ => rfl)) (nomark _))))) (pss_one (ps_ret pe_bl)) pss_nil)
      (pss_cons (ps_if (pt_cmpR (op_neD hu) (pe_callB cr_sorted (by rfl) T.sorted (by decide +kernel) (pa_cons (pe_lc (own := [("at", 13)]) (g := gName 13) (tt := tYes) rfl scLaw.nd (pi_tup (pe_call GS (hr.mono (by first | decide | omega)) (by rfl) P10.is P10.kp P10.bi .nil pass0 (pa_cons (pv 3) pa_nil))) (blkOk_by (N := ["script", "pen", "turn", "machine", "order", "other", "often", "tape", "more", "told", "later", "rest", "due", "at", "old"]) (sc := defScope sLaw) (own := [("at", 13)]) (by decide +kernel)) (fun _ _ _ _ _ => (pg_name (i := 13) scLaw.nd rfl (.inl rfl))) (fun _ _ _ _ _ => pts_nil) (fun _ _ _ _ _ => (KX3.pe_indexK (K := K) rfl (pv 4) (pa_cons (pv 13) pa_nil)))) pa_nil)) (pe_callTy call_list_of (by rfl) T.list (by decide +kernel) (pa_cons (pe_call GS (hr.mono (by first | decide | omega)) (by rfl) P10.is P10.kp P10.bi .nil pass0 (pa_cons (pv 5) pa_nil)) pa_nil)) (nomark _)) (pss_one (ps_ret pe_bl)) pss_nil)
      (pss_cons (ps_if (pt_cmpR (op_neD hu) (pe_lc (own := [("old", 14)]) (g := gName 14) (tt := tYes) rfl scLaw.nd (pi_list (pv 4)) (blkOk_by (N := ["script", "pen", "turn", "machine", "order", "other", "often", "tape", "more", "told", "later", "rest", "due", "at", "old"]) (sc := defScope sLaw) (own := [("old", 14)]) (by decide +kernel)) (fun _ _ _ _ _ => (pg_name (i := 14) scLaw.nd rfl (.inl rfl))) (fun _ _ _ _ _ => pts_nil) (fun _ _ _ _ _ => (pe_ix (KX.ix_tupK (K := K) rfl) (pe_call GB (hr.mono (by first | decide | omega)) (by rfl) P11.is P11.kp P11.bi .nil pass0 (pa_cons (pv 3) pa_nil)) (pv 14) (fun _ _ => rfl)))) (pe_callTy call_list_of (by rfl) T.list (by decide +kernel) (pa_cons (pe_call GB (hr.mono (by first | decide | omega)) (by rfl) P11.is P11.kp P11.bi .nil pass0 (pa_cons (pv 5) pa_nil)) pa_nil)) (nomark _)) (pss_one (ps_ret pe_bl)) pss_nil)
      (pss_cons (ps_if (pt_cmpR (DNE.op_neDk hu1) (pe_ix ix_tup (pe_call GK (hr.mono (by first | decide | omega)) (by rfl) P12.is P12.kp P12.bi .nil pass0 (pa_cons (pv 3) (pa_cons pe_int pa_nil))) pe_int (fun _ _ => rfl)) (pe_ix ix_tup (pe_call GK (hr.mono (by first | decide | omega)) (by rfl) P12.is P12.kp P12.bi .nil pass0 (pa_cons (pv 5) (pa_cons pe_int pa_nil))) pe_int (fun _ _ => rfl)) (nomark _)) (pss_one (ps_ret pe_bl)) pss_nil)
      (pss_one (ps_for PassesOwn.never rfl (pi_range1 rfl T.range (pa_cons pe_int pa_nil)) (pg_name (i := 6) scLaw.nd rfl (.inl rfl)) (pss_cons (ps_par (i := 7) (j := 8) (by rfl) scLaw.nd rfl rfl (by decide) rfl rfl (pa_cons (pe_call GT (hr.mono (by first | decide | omega)) (by rfl) P6.is P6.kp P6.bi .nil pass0 (pa_cons (pv 1) (pa_cons (pe_call GD (hr.mono (by first | decide | omega)) (by rfl) P2.is P2.kp P2.bi .nil pass0 (pa_cons (pv 1) (pa_cons pe_int pa_nil))) pa_nil))) (pa_cons (pe_call GT (hr.mono (by first | decide | omega)) (by rfl) P6.is P6.kp P6.bi .nil pass0 (pa_cons (pv 1) (pa_cons (pe_call GD (hr.mono (by first | decide | omega)) (by rfl) P2.is P2.kp P2.bi .nil pass0 (pa_cons (pv 1) (pa_cons pe_int pa_nil))) pa_nil))) pa_nil)) (by rfl))
      (pss_cons (ps_set (i := 9) scLaw.nd rfl (.inl rfl) (pe_call GW (hr.mono (by first | decide | omega)) (by rfl) P13.is P13.kp P13.bi .nil pass0 (pa_cons (pv 3) (pa_cons (pv 7) pa_nil))))
      (pss_cons (ps_if (pt_cmpR (op_neD hu) (pe_call GW (hr.mono (by first | decide | omega)) (by rfl) P13.is P13.kp P13.bi .nil pass0 (pa_cons (pv 5) (pa_cons (pv 7) pa_nil))) (pe_call GR (hr.mono (by first | decide | omega)) (by rfl) P7.is P7.kp P7.bi .nil pass0 (pa_cons (pv 9) (pa_cons (pv 4) pa_nil))) (nomark _)) (pss_one (ps_ret pe_bl)) pss_nil)
      (pss_one (ps_if (pt_cmpR op_eq (pe_ix ix_tup (pv 9) pe_int (fun _ _ => rfl)) pe_str (nomark _)) (pss_cons (ps_set (i := 10) scLaw.nd rfl (.inl rfl) (pe_call GO (hr.mono (by first | decide | omega)) (by rfl) P5.is P5.kp P5.bi .nil pass0 (pa_cons (pv 1) (pa_cons (pe_callB call_len_seq (by rfl) T.len PySem.boot_len (pa_cons (pv 3) pa_nil)) (pa_cons (pe_ix ix_tup (pv 9) pe_int (fun _ _ => rfl)) pa_nil)))))
      (pss_cons (ps_par (i := 11) (j := 12) (by rfl) scLaw.nd rfl rfl (by decide) rfl rfl (pa_cons (pe_call GW (hr.mono (by first | decide | omega)) (by rfl) P13.is P13.kp P13.bi .nil pass0 (pa_cons (pe_call GN (hr.mono (by first | decide | omega)) (by rfl) P4.is P4.kp P4.bi .nil pass0 (pa_cons (pv 3) (pa_cons (pv 10) pa_nil))) (pa_cons (pv 8) pa_nil))) (pa_cons (pe_call GW (hr.mono (by first | decide | omega)) (by rfl) P13.is P13.kp P13.bi .nil pass0 (pa_cons (pv 3) (pa_cons (pe_op op_add_str (pv 7) (pv 8)) pa_nil))) pa_nil)) (by rfl))
      (pss_cons (ps_if (pt_cmpR op_eq (pe_ix ix_tup (pv 11) pe_int (fun _ _ => rfl)) pe_str (nomark _)) (pss_one (ps_set (i := 11) scLaw.nd rfl (.inl rfl) (pe_tup (pa_cons pe_str (pa_cons (pe_ix ix_list (pv 10) (pe_ix ix_tup (pv 11) pe_int (fun _ _ => rfl)) (fun _ _ => rfl)) pa_nil))))) (pss_one (ps_set (i := 11) scLaw.nd rfl (.inl rfl) (pe_op DSD.op_catU (pe_slice DSD.sl_cutU (pv 11) po_none (po_some (pe_un un_neg pe_int))) (pe_tup (pa_cons (pe_op op_add (pe_ix ix_tup (pv 11) (pe_un un_neg pe_int) (fun _ _ => rfl)) (pe_callB call_len_str (by rfl) T.len PySem.boot_len (pa_cons (pv 7) pa_nil))) pa_nil))))))
      (pss_one (ps_if (pt_cmpR (op_neD hu) (pv 11) (pv 12) (nomark _)) (pss_one (ps_ret pe_bl)) pss_nil))))) pss_nil)))))))))))))))
      (pss_one (ps_ret pe_bl)))), ?_⟩
    -- pen
    refine ⟨.ref a, rfl, a, ns, rfl, hS, hlen, fun p l H1 s1 np nl p1 => ?_⟩
    have hS1 := s1.seq hS
    refine ⟨.ref a, rfl, a, _, rfl, .inl hS1, _, _, rfl, _, _, rfl, _, rfl, ?_, ?_, for_range (lo := 0) (fun i σ H' => ∃ v2 v3 v4 v5 v6 v7 v8 v9 v10 v11 v12 : Option V, σ = [some (V.ref a), some (V.ref p), v2, v3, v4, v5, v6, v7, v8, v9, v10, v11, v12, none, none] ∧ Pen H' p l) ⟨none, none, none, none, none, none, none, none, none, none, none, rfl, p1⟩ ?_ ?_⟩
    · show -(2 ^ 62) ≤ _
      repeat' split
      all_goals omega
    · show _ < (2 : Int) ^ 62
      repeat' split
      all_goals omega
    · rintro i₀ σ H' hi ⟨v2, v3, v4, v5, v6, v7, v8, v9, v10, v11, v12, rfl, pn⟩
      refine ⟨.ref p, rfl, by show 3 ≤ sizeLine; decide, fun e ne => ?_⟩
      have eE : upd H' e (.lst [.int 0, .int 1, .int 4]) e = some (.lst (([0, 1, 4] : List Int).map V.int)) := upd_same
      have pn2 := pn.same (Same.upd (o := .lst [.int 0, .int 1, .int 4]) ne)
      generalize upd H' e (.lst [.int 0, .int 1, .int 4]) = H2 at eE pn2 ⊢
      refine ⟨p, l, e, 7, [0, 1, 4], rfl, pn2, by decide, by decide, eE, by decide, by decide, by decide, fun m ps H3 b3 nm hm hw p3 le10 _ => ?_⟩
      have hl10 : ps.length ≤ 10 := by omega
      have i0 : In ps 0 := in_zero hw
      have lenm : ∀ {Hx : Hp}, Mach Hx m ps → ∃ rs, Hx m = some (.tup rs) ∧ rs.length = ps.length := fun ⟨rs, em, pl⟩ => ⟨rs, em, pl.len⟩
      -- the order
      obtain ⟨rs0, em0, len0⟩ := lenm hm
      refine ⟨_, rfl, _, rfl, m, rs0, rfl, .inr (SqT.of em0), p, l, ps.length, 0, by rw [len0]; rfl, p3, by omega, by decide, by have := hw.ne; omega, fun O os H4 b4 p4 nO eO o2 o0 => ?_⟩
      have hm4 := hm.but p3 b4
      have aO := p3.apart nO
      -- the other machine
      refine ⟨_, rfl, _, rfl, m, O, ps, os, rfl, hm4, hw, eO, o2.toOrder, fun N H5 s5 nN hn => ?_⟩
      have hm5 := hm4.same s5
      have eO5 := s5 _ _ eO
      have p5 := p4.same s5
      have hwN := wf_ren hw o2
      refine ⟨_, rfl, N, renM ps os, rfl, hn, hwN.ne, by have := hwN.le; omega, hwN.ok, fun H6 s6 => ⟨rfl, _, rfl, ?_⟩⟩
      rw [decide_eq_true rfl]
      refine iteF ?_
      have hm6 := hm5.same s6
      have hn6 := hn.same s6
      have eO6 := s6 _ _ eO5
      have p6 := p5.same s6
      refine ⟨_, rfl, N, renM ps os, rfl, hn6, hwN, fun t1 H7 s7 n1 tt1 => ?_⟩
      obtain ⟨x1, r1, et1, hx1⟩ := told_word tt1
      refine ⟨t1, _, 0, .str x1, rfl, rfl, SqT.of et1, atI_nat (j := 0) rfl, ?_⟩
      refine ⟨_, rfl, m, ps, rfl, hm6.same s7, hw, fun t2 H8 s8 n2 tt2 => ?_⟩
      obtain ⟨x2, r2, et2, hx2⟩ := told_word tt2
      refine ⟨t2, _, 0, .str x2, rfl, rfl, SqT.of et2, atI_nat (j := 0) rfl, ?_⟩
      have e12 := told_same hw o2 o0 hx1 hx2
      subst e12
      refine ⟨rfl, _, rfl, iteNS rfl ?_⟩
      have s68 := s7.trans s8
      have hm8 := hm6.same s68
      have hn8 := hn6.same s68
      have eO8 := s68 _ _ eO6
      have p8 := p6.same s68
      clear tt1 tt2 et1 et2 s6 s7 s8 s68
      -- what is reached
      refine ⟨_, rfl, m, ps, rfl, hm8, hw, fun t3 ks H9 s9 n3 et3 hk => ?_⟩
      have hkl := hk.len hw i0
      refine ⟨t3, rfl, ⟨_, SqT.of et3⟩, fun D nD => ?_⟩
      refine lc_tup (K := K) (a := t3) (xs := ks.map V.int) (fun j Hx => Same H9 Hx ∧ Hx D = some (.lst (((ks.take j).map (idx os)).map V.int))) ⟨Same.upd nD, upd_same⟩ (fun j Hx _ h => SqT.of (h.1 _ _ et3)) ?_ ?_
      · rintro j x H10 hx ⟨s10, e10⟩
        obtain ⟨k, hk2, rfl⟩ : ∃ k, ks[j]? = some k ∧ V.int k = x := by
          rw [List.getElem?_map] at hx
          cases e : ks[j]? with
          | none => rw [e] at hx; cases hx
          | some z => rw [e] at hx; exact ⟨z, rfl, Option.some.inj hx⟩
        have hko : k ∈ os := o2.mem (((hk.2 k).mp (List.mem_of_getElem? hk2)).inn hw i0)
        obtain ⟨j1, j2⟩ := idx_find hko
        have eO10 := s10 _ _ (s9 _ _ eO8)
        refine ⟨rfl, ?_⟩
        dsimp only [tYes]
        refine iteT ⟨_, rfl, .inl ⟨rfl, _, SqL.of eO10⟩, _, rfl, O, _, .int k, _, .int k, rfl, rfl, SqL.of eO10, rfl, flat_ints os, j1, by show (k == k) = true; simp, j2, _, e10, ?_, ?_, ?_⟩
        · rw [List.length_map, List.length_map, List.length_take]
          omega
        · intro b o h
          rw [upd_ne (ne_of_none h nD)]
          exact s10 _ _ h
        · rw [upd_same, List.take_succ, hk2, List.map_append, List.map_append]
          rfl
      rintro H10 ⟨s10, e10⟩
      rw [List.length_map, List.take_length] at e10
      have s910 := s9.trans s10
      have hn10 := hn8.same s910
      have hm10 := hm8.same s910
      have eO10 := s910 _ _ eO8
      have p10 := p8.same s910
      refine ⟨D, ks.map (idx os), rfl, SqL.of e10, by rw [List.length_map]; omega, fun ls S pm pw nS => ?_⟩
      have gS := Same.upd (o := .lst (ls.map V.int)) nS
      have eS : upd H10 S (.lst (ls.map V.int)) S = some (.lst (ls.map V.int)) := upd_same
      have hn11 := hn10.same gS
      have hm11 := hm10.same gS
      have eO11 := gS _ _ eO10
      have p11 := p10.same gS
      generalize upd H10 S (.lst (ls.map V.int)) = H11 at gS eS hn11 hm11 eO11 p11 ⊢
      refine ⟨_, rfl, N, renM ps os, rfl, hn11, hwN, fun t4 ks2 H12 s12 n4 et4 hk4 => ?_⟩
      have els := places_ren hw o2 o0 hk pm pw hk4
      subst els
      refine ⟨t4, _, rfl, .inr (SqT.of et4), fun L nL => ?_⟩
      have gL := Same.upd (o := .lst (ls.map V.int)) nL
      have eL : upd H12 L (.lst (ls.map V.int)) L = some (.lst (ls.map V.int)) := upd_same
      have s1112 := s12.trans gL
      have eS12 := s1112 _ _ eS
      have hn12 := hn11.same s1112
      have hm12 := hm11.same s1112
      have eO12 := s1112 _ _ eO11
      have p12 := p11.same s1112
      generalize upd H12 L (.lst (ls.map V.int)) = H13 at gL eL s1112 eS12 hn12 hm12 eO12 p12 ⊢
      refine ⟨_, _, .lst (SqL.of eS12) (dpInts ls), .lst (SqL.of eL) (dpInts ls), PySem.W.ke_shaped_ints _, PySem.W.ke_shaped_ints _, _, rfl, ?_⟩
      rw [eqv_intsL]
      refine iteF ?_
      clear et4 hk4 s12 gL s1112 eS12 eL gS eS e10 s10 s9 et3 hm8 hn8 eO8 p8 hm10 hn10 eO10 p10 hm11 hn11 eO11 p11 nL nS nD
      -- the distances
      refine ⟨_, rfl, O, rfl, ⟨_, SqL.of eO12⟩, fun D2 nD2 => ?_⟩
      refine lc_list (K := K) (a := O) (xs := os.map V.int) (fun j Hx => Same H13 Hx ∧ Hx D2 = some (.lst (((os.take j).map fun k => lvl ps (ps.length - 1) k).map dV))) ⟨Same.upd nD2, upd_same⟩ (fun j Hx _ h => SqL.of (h.1 _ _ eO12)) ?_ ?_
      · rintro j x H14 hx ⟨s14, e14⟩
        obtain ⟨k, hk2, rfl⟩ : ∃ k, os[j]? = some k ∧ V.int k = x := by
          rw [List.getElem?_map] at hx
          cases e : os[j]? with
          | none => rw [e] at hx; cases hx
          | some z => rw [e] at hx; exact ⟨z, rfl, Option.some.inj hx⟩
        have hki := o2.ok k (List.mem_of_getElem? hk2)
        obtain ⟨kn, rfl⟩ : ∃ kn : Nat, k = (kn : Int) := ⟨k.toNat, by omega⟩
        have hkn : kn < ps.length := by omega
        refine ⟨rfl, ?_⟩
        dsimp only [tYes]
        refine iteT ⟨_, rfl, m, ps, rfl, hm12.same s14, hw, fun t5 H15 s15 n5 et5 => ?_⟩
        have at5 := dl_get (ps := ps) (n := ps.length) (d := ps.length - 1) (i := 0) hkn
        rw [if_neg (Nat.not_lt_zero kn)] at at5
        refine ⟨_, rfl, t5, _, _, _, rfl, rfl, SqT.of et5, atI_nat at5, _, s15 _ _ e14, ?_, ?_, ?_⟩
        · rw [List.length_map, List.length_map, List.length_take]
          have := o2.len
          omega
        · intro b o h
          rw [upd_ne (ne_of_none h nD2)]
          exact s15 _ _ (s14 _ _ h)
        · rw [upd_same, List.take_succ, hk2, List.map_append, List.map_append]
          rfl
      rintro H14 ⟨s14, e14⟩
      rw [List.length_map, List.take_length] at e14
      refine ⟨_, rfl, N, renM ps os, rfl, hn12.same s14, hwN, fun t6 H15 s15 n6 et6 => ?_⟩
      rw [dl_ren hw o2] at et6
      refine ⟨t6, _, rfl, .inr (SqT.of et6), fun L nL => ?_⟩
      generalize hlv : (os.map fun k => lvl ps (ps.length - 1) k) = lv at e14 et6
      have gL := Same.upd (o := .lst (lv.map dV)) nL
      have eL : upd H15 L (.lst (lv.map dV)) L = some (.lst (lv.map dV)) := upd_same
      have s1316 := (s14.trans s15).trans gL
      have e16 := (s15.trans gL) _ _ e14
      have hn16 := hn12.same s1316
      have hm16 := hm12.same s1316
      have eO16 := s1316 _ _ eO12
      have p16 := p12.same s1316
      generalize upd H15 L (.lst (lv.map dV)) = H16 at gL eL s1316 e16 hn16 hm16 eO16 p16 ⊢
      refine ⟨_, _, .lst (SqL.of e16) (dps_dV lv), .lst (SqL.of eL) (dps_dV lv), shaped_dV lv, shaped_dV lv, _, rfl, ?_⟩
      rw [eqv_dV]
      refine iteF ?_
      clear et6 s14 s15 gL s1316 e16 eL e14 nL nD2 hlv hm12 hn12 eO12 p12
      -- the tapes counted
      refine ⟨_, rfl, m, 6, ps, rfl, hm16, hw, by decide, fun R C Tt as AC BC ts AT H17 s17 nR nC nT nCT eR told => ?_⟩
      refine ⟨R, _, 0, .ref C, rfl, rfl, SqT.of eR, atI_nat (j := 0) rfl, ?_⟩
      refine ⟨_, rfl, N, 6, renM ps os, rfl, hn16.same s17, hwN, by decide, fun R2 C2 Tt2 as2 AC2 BC2 ts2 AT2 H18 s18 nR2 nC2 nT2 nCT2 eR2 told2 => ?_⟩
      refine ⟨R2, _, 0, .ref C2, rfl, rfl, SqT.of eR2, atI_nat (j := 0) rfl, ?_⟩
      have told' := told.same s18
      have same_ : ∀ a, a ∈ as ↔ a ∈ as2 := fun a => by rw [told.ck, told2.ck, lv_ans_ren hw o2 o0]
      have ll : as.length = as2.length := ((List.perm_ext_iff_of_nodup told.cn told2.cn).mpr same_).length_eq
      refine ⟨C, C2, _, _, rfl, rfl, told'.c, told2.c, ?_, ?_, _, rfl, ?_⟩
      · unfold kd
        rw [List.length_map, List.length_map]
        exact ll
      · intro k v hkv
        unfold kd at hkv
        obtain ⟨x, hx, e⟩ := List.mem_map.mp hkv
        cases e
        have hx2 := (same_ x).mp hx
        refine ⟨.ref (AC2 x), rowsD 6 (fun j => cnt j (stP ps x)), kd_at hx2, dp_rows (told'.cr x hx) (told'.cb x hx), dp_rows (told2.cr x hx2) (fun j hj => ?_), shaped_rows _ _, eqv_rows _ _⟩
        rw [told2.cb x hx2 j hj, show stP (renM ps os) x = stP ps x from funext fun r => stP_ren hw o2 o0 x r]
      refine iteF ?_
      have s1618 := s17.trans s18
      have hm18 := hm16.same s1618
      have hn18 := hn16.same s1618
      have eO18 := s1618 _ _ eO16
      have p18 := p16.same s1618
      clear told told' told2 eR eR2 s17 s18 s1618 hm16 hn16 eO16 p16
      -- eight tapes
      refine ⟨8, rfl, by decide, by decide, for_range (lo := 0) (n := 8) (fun i σ Hx => ∃ w6 w7 w8 w9 w10 w11 w12 : Option V, σ = [some (V.ref a), some (V.ref p), some (V.int (0 + (i₀ : Nat))), some (V.ref m), some (V.ref O), some (V.ref N), w6, w7, w8, w9, w10, w11, w12, none, none] ∧ But p H18 Hx ∧ Pen Hx p l) ⟨_, _, _, _, _, _, _, rfl, But.refl _ _, p18⟩ ?_ ?_⟩
      · rintro i σ J0 hi8 ⟨w6, w7, w8, w9, w10, w11, w12, rfl, bJ, pJ⟩
        refine ⟨.ref p, rfl, .ref p, rfl, p, l, 12, rfl, pJ, by decide, by decide +kernel, fun d1 J1 d10 d11 b1 p1 => ⟨p, l, d1, rfl, p1, d10, by omega, fun z J2 hz b2 p2 => ?_⟩⟩
        refine ⟨.ref p, rfl, .ref p, rfl, p, l, 12, rfl, p2, by decide, by decide +kernel, fun d2 J3 d20 d21 b3 p3' => ⟨p, l, d2, rfl, p3', d20, by omega, fun x J4 hx b4' p4' => ?_⟩⟩
        refine ⟨_, _, rfl, ?_⟩
        have b04 := (((bJ.trans b1).trans b2).trans b3).trans b4'
        have hmJ := hm18.but p18 b04
        have hnJ := hn18.but p18 b04
        have eOJ := b04.mem aO.1 eO18
        clear b1 b2 b3 b4' p1 p2 p3' bJ pJ
        have hzl : z.length ≤ 12 := by omega
        have hxl : x.length ≤ 12 := by omega
        -- what is told
        refine ⟨.ref m, rfl, _, rfl, m, z, ps, rfl, hmJ, hw, by omega, fun t J5 s5' nt et => ?_⟩
        refine ⟨.ref N, rfl, _, rfl, N, z, renM ps os, rfl, hnJ.same s5', hwN, by omega, fun t2 J6 s6' nt2 et2 => ?_⟩
        refine ⟨_, rfl, _, rfl, t, O, run ps (tl_ z) 0 0, os, rfl, s6' _ _ et, s6' _ _ (s5' _ _ eOJ), fun b hb => o2.mem (run_in hw _ _ _ i0 hb), fun r J7 s7' er => ?_⟩
        have rn := run_ren hw o2 (tl_ z) 0 0 i0
        rw [idx_zero o0] at rn
        rw [rn] at et2
        refine ⟨_, _, dp_oc (s7' _ _ et2), dp_oc er, shaped_oc _, shaped_oc _, _, rfl, ?_⟩
        rw [eqv_oc]
        refine iteF ?_
        have s47 := s5'.trans (s6'.trans s7')
        have et7 := (s6'.trans s7') _ _ et
        have hm7 := hmJ.same s47
        have p7 := p4'.same s47
        have b7 := b04.trans (But.of s47)
        clear et et2 er rn s5' s6' s7' s47 hmJ hnJ eOJ
        -- if it is going
        obtain ⟨y, ry, ey, hy⟩ := oc_going (run ps (tl_ z) 0 0)
        have et7' := et7
        rw [ey] at et7'
        refine ⟨_, rfl, t, _, 0, .str y, rfl, rfl, SqT.of et7', atI_nat (j := 0) rfl, rfl, _, rfl, ?_⟩
        by_cases hg : y = "going"
        · obtain ⟨b, hb⟩ := hy.mp hg
          rw [decide_eq_true (congrArg V.str hg)]
          rw [hb] at et7
          have hbi := run_in hw _ _ _ i0 hb
          obtain ⟨rs7, em7, len7⟩ := lenm hm7
          refine iteT ⟨_, rfl, _, rfl, m, rs7, rfl, .inr (SqT.of em7), _, rfl, t, _, 1, .int b, rfl, rfl, SqT.of et7, atI_nat (j := 1) rfl, p, l, ps.length, b, by rw [len7]; rfl, p7, by omega, hbi.1, hbi.2, fun O2 os2 J8 b8 p8' nO2 eO2 o22 ob => ?_⟩
          have hm8' := hm7.but p7 b8
          have et8 := b8.mem (p7.notTup et7) et7
          refine ⟨_, rfl, _, rfl, m, O2, ps, os2, rfl, hm8', hw, eO2, o22.toOrder, fun N2 J9 s9' nN2 hn2 => ?_⟩
          refine ⟨_, rfl, N2, x, renM ps os2, rfl, hn2, wf_ren hw o22, by omega, fun r1 JA sA nr1 er1 => ?_⟩
          have hzx : (z ++ x).length ≤ 100000 := by
            have : (z ++ x).length = z.length + x.length := by
              show (z.cps ++ x.cps).size = _
              rw [Array.size_append]
              rfl
            omega
          refine ⟨_, rfl, _, rfl, _, rfl, z, x, rfl, rfl, by omega, m, z ++ x, ps, rfl, (hm8'.same s9').same sA, hw, hzx, fun r2 JB sB nr2 er2 => ?_⟩
          refine ⟨_, _, rfl, ?_⟩
          have rn2 := run_ren hw o22 (tl_ x) b 0 hbi
          rw [idx_first ob] at rn2
          rw [rn2] at er1
          rw [tl_app, run_app _ _ _ _ hb, show 0 + (tl_ z).length = 0 + z.length by rw [tl_len], run_add] at er2
          have er1B := sB _ _ er1
          have s8B := (s9'.trans sA).trans sB
          have eO2B := s8B _ _ eO2
          have etB := s8B _ _ et8
          have pB := p8'.same s8B
          have bB := (b7.trans b8).trans (But.of s8B)
          clear er1 s9' sA sB s8B rn2
          generalize hc : run ps (tl_ x) b 0 = c at er1B er2
          dsimp only
          refine on (if_tail (fun σ Jx => ∃ r3, σ = [some (V.ref a), some (V.ref p), some (V.int (0 + (i₀ : Nat))), some (V.ref m), some (V.ref O), some (V.ref N), some (V.int (0 + (i : Nat))), some (V.str z), some (V.str x), some (V.ref t), some (V.ref O2), some (V.ref r3), some (V.ref r2), none, none] ∧ Same JB Jx ∧ Jx r3 = some (.tup (c.add z.length).row)) ?_ (fun tl => ?_))
          rotate_left
          · cases c with
            | going a' =>
              have hin := run_in hw _ _ _ hbi hc
              obtain ⟨g1, _⟩ := idx_find (o22.mem hin)
              have er1B : JB r1 = some (.tup [.str "going", .int (idx os2 a')]) := er1B
              refine ⟨_, rfl, r1, _, 0, .str "going", rfl, rfl, SqT.of er1B, atI_nat (j := 0) rfl, rfl, _, rfl, ?_⟩
              rw [decide_eq_true rfl]
              exact iteT ⟨_, rfl, _, rfl, r1, _, 1, .int (idx os2 a'), rfl, rfl, SqT.of er1B, atI_nat (j := 1) rfl, O2, _, _, .int a', rfl, rfl, SqL.of eO2B, atI_nat g1, by show 2 ≤ sizeLine; decide, fun r3 nr3 => tl _ _ ⟨r3, rfl, Same.upd nr3, upd_same⟩⟩
            | ended n u =>
              have er1B : JB r1 = some (.tup [.str "ended", .int n, .int (u : Nat)]) := er1B
              refine ⟨_, rfl, r1, _, 0, .str "ended", rfl, rfl, SqT.of er1B, atI_nat (j := 0) rfl, rfl, _, rfl, ?_⟩
              rw [decide_eq_false (show ¬ (V.str "ended" : V) = V.str "going" from fun h => absurd (V.str.inj h) (by decide +kernel))]
              refine iteF ⟨_, rfl, ?_⟩
              dsimp only [tNoPart, tPart]
              refine ⟨1, rfl, -1, rfl, r1, _, rfl, er1B, fun q1 JC sC eC fC => ?_⟩
              have eC : JC q1 = some (.tup [.str "ended", .int n]) := eC
              refine ⟨_, rfl, 1, rfl, r1, _, -1, .int (u : Nat), rfl, rfl, SqT.of (sC _ _ er1B), rfl, _, rfl, z, rfl, by omega, _, _, rfl, rfl, by show 1 ≤ sizeLine; decide, fun q2 nq2 => ?_⟩
              have gq := Same.upd (o := .tup [V.int ((u : Nat) + (z.length : Nat))]) nq2
              have eC2 := gq _ _ eC
              refine ⟨q1, q2, _, _, rfl, rfl, eC2, upd_same, by show 3 ≤ sizeLine; decide, fun q3 JD sD eD fD => tl _ _ ⟨q3, rfl, (sC.trans gq).trans sD, ?_⟩⟩
              rw [eD]
              show some (HO.tup [.str "ended", .int n, .int ((u : Nat) + (z.length : Nat))]) = some (HO.tup [.str "ended", .int n, .int ((u + z.length : Nat) : Int)])
              rw [Int.natCast_add]
            | nev u =>
              have er1B : JB r1 = some (.tup [.str "never", .int (u : Nat)]) := er1B
              refine ⟨_, rfl, r1, _, 0, .str "never", rfl, rfl, SqT.of er1B, atI_nat (j := 0) rfl, rfl, _, rfl, ?_⟩
              rw [decide_eq_false (show ¬ (V.str "never" : V) = V.str "going" from fun h => absurd (V.str.inj h) (by decide +kernel))]
              refine iteF ⟨_, rfl, ?_⟩
              dsimp only [tNoPart, tPart]
              refine ⟨1, rfl, -1, rfl, r1, _, rfl, er1B, fun q1 JC sC eC fC => ?_⟩
              have eC : JC q1 = some (.tup [.str "never"]) := eC
              refine ⟨_, rfl, 1, rfl, r1, _, -1, .int (u : Nat), rfl, rfl, SqT.of (sC _ _ er1B), rfl, _, rfl, z, rfl, by omega, _, _, rfl, rfl, by show 1 ≤ sizeLine; decide, fun q2 nq2 => ?_⟩
              have gq := Same.upd (o := .tup [V.int ((u : Nat) + (z.length : Nat))]) nq2
              have eC2 := gq _ _ eC
              refine ⟨q1, q2, _, _, rfl, rfl, eC2, upd_same, by show 2 ≤ sizeLine; decide, fun q3 JD sD eD fD => tl _ _ ⟨q3, rfl, (sC.trans gq).trans sD, ?_⟩⟩
              rw [eD]
              show some (HO.tup [.str "never", .int ((u : Nat) + (z.length : Nat))]) = some (HO.tup [.str "never", .int ((u + z.length : Nat) : Int)])
              rw [Int.natCast_add]
          · rintro σ JC ⟨r3, rfl, sC, er3⟩
            refine ⟨_, rfl, _, rfl, _, _, dp_oc er3, dp_oc (sC _ _ er2), shaped_oc _, shaped_oc _, _, rfl, ?_⟩
            rw [eqv_oc]
            exact iteF ⟨_, _, _, _, _, _, _, rfl, bB.trans (But.of sC), pB.same sC⟩
        · rw [decide_eq_false (fun h => hg (V.str.inj h))]
          exact iteF ⟨_, _, _, _, _, _, _, rfl, b7, p7⟩
      · rintro σ J0 ⟨w6, w7, w8, w9, w10, w11, w12, rfl, bJ, pJ⟩
        exact ⟨_, _, _, _, _, _, _, _, _, _, _, rfl, pJ⟩
    · rintro σ H5 ⟨v2, v3, v4, v5, v6, v7, v8, v9, v10, v11, v12, rfl, pn⟩
      exact q _
end
theorem all_mk {w : World} {K : PySem.W.Frag} {h : Heap} {mg : Str → Option Value} {fa f0 f1 f2 f3 f4 f5 f6 f7 f8 f9 f10 f11 f12 f13 f14 f15 f16 f17 f18 f19 f20 f21 f22 f23 f24 f25 : Addr} (X : K.In h) (G : h.Ns mainGlobals mg) (hfa : mg "law" = some (.ref fa))
    {od0 an0 od1 an1 od2 an2 od3 an3 od4 an4 od5 an5 od6 an6 od7 an7 od8 an8 od9 an9 od10 an10 od11 an11 od12 an12 od13 an13 od14 an14 od15 an15 od16 an16 od17 an17 od18 an18 od19 an19 od20 an20 od21 an21 od22 an22 od23 an23 od24 an24 od25 an25 : Option Addr} {sl0 sl1 sl2 sl3 sl4 sl5 sl6 sl7 sl8 sl9 sl10 sl11 sl12 sl13 sl14 sl15 sl16 sl17 sl18 sl19 sl20 sl21 sl22 sl23 sl24 sl25 : Array (Option Value)} {oc0 kV0 dc0 pm0 cd0 ct0 oc1 kV1 dc1 pm1 cd1 ct1 oc2 kV2 dc2 pm2 cd2 ct2 oc3 kV3 dc3 pm3 cd3 ct3 oc4 kV4 dc4 pm4 cd4 ct4 oc5 kV5 dc5 pm5 cd5 ct5 oc6 kV6 dc6 pm6 cd6 ct6 oc7 kV7 dc7 pm7 cd7 ct7 oc8 kV8 dc8 pm8 cd8 ct8 oc9 kV9 dc9 pm9 cd9 ct9 oc10 kV10 dc10 pm10 cd10 ct10 oc11 kV11 dc11 pm11 cd11 ct11 oc12 kV12 dc12 pm12 cd12 ct12 oc13 kV13 dc13 pm13 cd13 ct13 oc14 kV14 dc14 pm14 cd14 ct14 oc15 kV15 dc15 pm15 cd15 ct15 oc16 kV16 dc16 pm16 cd16 ct16 oc17 kV17 dc17 pm17 cd17 ct17 oc18 kV18 dc18 pm18 cd18 ct18 oc19 kV19 dc19 pm19 cd19 ct19 oc20 kV20 dc20 pm20 cd20 ct20 oc21 kV21 dc21 pm21 cd21 ct21 oc22 kV22 dc22 pm22 cd22 ct22 oc23 kV23 dc23 pm23 cd23 ct23 oc24 kV24 dc24 pm24 cd24 ct24 oc25 kV25 dc25 pm25 cd25 ct25 : Value}
    {tA tS : Tok}
    (a0 : PySem.W.nsIn K mainGlobals "_law_pen" = some (some (.ref f0))) (l0 : K.lookup f0 = some ⟨oc0, od0, .func (PySem.W.fnOf "_law_pen" "_law_pen" (defArgs sPen) (defBody sPen) (defScope sPen) .none kV0 dc0 pm0 an0 cd0 ct0), sl0⟩) (c0 : PySem.W.codeIn K cd0 "_law_pen" = true) (k0 : PySem.W.keepIn K (.ref f0) = true)
    (a1 : PySem.W.nsIn K mainGlobals "_law_fresh" = some (some (.ref f1))) (l1 : K.lookup f1 = some ⟨oc1, od1, .func (PySem.W.fnOf "_law_fresh" "_law_fresh" (defArgs sFresh) (defBody sFresh) (defScope sFresh) .none kV1 dc1 pm1 an1 cd1 ct1), sl1⟩) (c1 : PySem.W.codeIn K cd1 "_law_fresh" = true) (k1 : PySem.W.keepIn K (.ref f1) = true)
    (a2 : PySem.W.nsIn K mainGlobals "_law_draw" = some (some (.ref f2))) (l2 : K.lookup f2 = some ⟨oc2, od2, .func (PySem.W.fnOf "_law_draw" "_law_draw" (defArgs sDraw) (defBody sDraw) (defScope sDraw) .none kV2 dc2 pm2 an2 cd2 ct2), sl2⟩) (c2 : PySem.W.codeIn K cd2 "_law_draw" = true) (k2 : PySem.W.keepIn K (.ref f2) = true)
    (a3 : PySem.W.nsIn K mainGlobals "_law_ends" = some (some (.ref f3))) (l3 : K.lookup f3 = some ⟨oc3, od3, .func (PySem.W.fnOf "_law_ends" "_law_ends" (defArgs sEnds) (defBody sEnds) (defScope sEnds) .none kV3 dc3 pm3 an3 cd3 ct3), sl3⟩) (c3 : PySem.W.codeIn K cd3 "_law_ends" = true) (k3 : PySem.W.keepIn K (.ref f3) = true)
    (a4 : PySem.W.nsIn K mainGlobals "_law_machine" = some (some (.ref f4))) (l4 : K.lookup f4 = some ⟨oc4, od4, .func (PySem.W.fnOf "_law_machine" "_law_machine" (defArgs sMach) (defBody sMach) (defScope sMach) .none kV4 dc4 pm4 an4 cd4 ct4), sl4⟩) (c4 : PySem.W.codeIn K cd4 "_law_machine" = true) (k4 : PySem.W.keepIn K (.ref f4) = true)
    (a5 : PySem.W.nsIn K mainGlobals "_law_numbered" = some (some (.ref f5))) (l5 : K.lookup f5 = some ⟨oc5, od5, .func (PySem.W.fnOf "_law_numbered" "_law_numbered" (defArgs sNumb) (defBody sNumb) (defScope sNumb) .none kV5 dc5 pm5 an5 cd5 ct5), sl5⟩) (c5 : PySem.W.codeIn K cd5 "_law_numbered" = true) (k5 : PySem.W.keepIn K (.ref f5) = true)
    (a6 : PySem.W.nsIn K mainGlobals "is_integer" = some (some (.ref f6))) (l6 : K.lookup f6 = some ⟨oc6, od6, .func (PySem.W.fnOf "is_integer" "is_integer" (defArgs sKI) (defBody sKI) (defScope sKI) .none kV6 dc6 pm6 an6 cd6 ct6), sl6⟩) (c6 : PySem.W.codeIn K cd6 "is_integer" = true) (k6 : PySem.W.keepIn K (.ref f6) = true)
    (a7 : PySem.W.nsIn K mainGlobals "is_index" = some (some (.ref f7))) (l7 : K.lookup f7 = some ⟨oc7, od7, .func (PySem.W.fnOf "is_index" "is_index" (defArgs sKX) (defBody sKX) (defScope sKX) .none kV7 dc7 pm7 an7 cd7 ct7), sl7⟩) (c7 : PySem.W.codeIn K cd7 "is_index" = true) (k7 : PySem.W.keepIn K (.ref f7) = true)
    (a8 : PySem.W.nsIn K mainGlobals "is_tuple" = some (some (.ref f8))) (l8 : K.lookup f8 = some ⟨oc8, od8, .func (PySem.W.fnOf "is_tuple" "is_tuple" (defArgs sKT) (defBody sKT) (defScope sKT) .none kV8 dc8 pm8 an8 cd8 ct8), sl8⟩) (c8 : PySem.W.codeIn K cd8 "is_tuple" = true) (k8 : PySem.W.keepIn K (.ref f8) = true)
    (a9 : PySem.W.nsIn K mainGlobals "begins_with" = some (some (.ref f9))) (l9 : K.lookup f9 = some ⟨oc9, od9, .func (PySem.W.fnOf "begins_with" "begins_with" (defArgs sKB) (defBody sKB) (defScope sKB) .none kV9 dc9 pm9 an9 cd9 ct9), sl9⟩) (c9 : PySem.W.codeIn K cd9 "begins_with" = true) (k9 : PySem.W.keepIn K (.ref f9) = true)
    (a10 : PySem.W.nsIn K mainGlobals "state_error" = some (some (.ref f10))) (l10 : K.lookup f10 = some ⟨oc10, od10, .func (PySem.W.fnOf "state_error" "state_error" (defArgs sSE) (defBody sSE) (defScope sSE) .none kV10 dc10 pm10 an10 cd10 ct10), sl10⟩) (c10 : PySem.W.codeIn K cd10 "state_error" = true) (k10 : PySem.W.keepIn K (.ref f10) = true)
    (a11 : PySem.W.nsIn K mainGlobals "machine_error" = some (some (.ref f11))) (l11 : K.lookup f11 = some ⟨oc11, od11, .func (PySem.W.fnOf "machine_error" "machine_error" (defArgs sME) (defBody sME) (defScope sME) .none kV11 dc11 pm11 an11 cd11 ct11), sl11⟩) (c11 : PySem.W.codeIn K cd11 "machine_error" = true) (k11 : PySem.W.keepIn K (.ref f11) = true)
    (a12 : PySem.W.nsIn K mainGlobals "is_toss" = some (some (.ref f12))) (l12 : K.lookup f12 = some ⟨oc12, od12, .func (PySem.W.fnOf "is_toss" "is_toss" (defArgs sToss) (defBody sToss) (defScope sToss) .none kV12 dc12 pm12 an12 cd12 ct12), sl12⟩) (c12 : PySem.W.codeIn K cd12 "is_toss" = true) (k12 : PySem.W.keepIn K (.ref f12) = true)
    (a13 : PySem.W.nsIn K mainGlobals "find_tapes" = some (some (.ref f13))) (l13 : K.lookup f13 = some ⟨oc13, od13, .func (PySem.W.fnOf "find_tapes" "find_tapes" (defArgs sFind) (defBody sFind) (defScope sFind) .none kV13 dc13 pm13 an13 cd13 ct13), sl13⟩) (c13 : PySem.W.codeIn K cd13 "find_tapes" = true) (k13 : PySem.W.keepIn K (.ref f13) = true)
    (a14 : PySem.W.nsIn K mainGlobals "reachable_states" = some (some (.ref f14))) (l14 : K.lookup f14 = some ⟨oc14, od14, .func (PySem.W.fnOf "reachable_states" "reachable_states" (defArgs sReach) (defBody sReach) (defScope sReach) .none kV14 dc14 pm14 an14 cd14 ct14), sl14⟩) (c14 : PySem.W.codeIn K cd14 "reachable_states" = true) (k14 : PySem.W.keepIn K (.ref f14) = true)
    (a15 : PySem.W.nsIn K mainGlobals "end_distances" = some (some (.ref f15))) (l15 : K.lookup f15 = some ⟨oc15, od15, .func (PySem.W.fnOf "end_distances" "end_distances" (defArgs sDist) (defBody sDist) (defScope sDist) .none kV15 dc15 pm15 an15 cd15 ct15), sl15⟩) (c15 : PySem.W.codeIn K cd15 "end_distances" = true) (k15 : PySem.W.keepIn K (.ref f15) = true)
    (a16 : PySem.W.nsIn K mainGlobals "check_termination" = some (some (.ref f16))) (l16 : K.lookup f16 = some ⟨oc16, od16, .func (PySem.W.fnOf "check_termination" "check_termination" (defArgs sCheck) (defBody sCheck) (defScope sCheck) .none kV16 dc16 pm16 an16 cd16 ct16), sl16⟩) (c16 : PySem.W.codeIn K cd16 "check_termination" = true) (k16 : PySem.W.keepIn K (.ref f16) = true)
    (a17 : PySem.W.nsIn K mainGlobals "toss_once" = some (some (.ref f17))) (l17 : K.lookup f17 = some ⟨oc17, od17, .func (PySem.W.fnOf "toss_once" "toss_once" (defArgs sOnce) (defBody sOnce) (defScope sOnce) .none kV17 dc17 pm17 an17 cd17 ct17), sl17⟩) (c17 : PySem.W.codeIn K cd17 "toss_once" = true) (k17 : PySem.W.keepIn K (.ref f17) = true)
    (a18 : PySem.W.nsIn K mainGlobals "add_stopped" = some (some (.ref f18))) (l18 : K.lookup f18 = some ⟨oc18, od18, .func (PySem.W.fnOf "add_stopped" "add_stopped" (defArgs sStop) (defBody sStop) (defScope sStop) .none kV18 dc18 pm18 an18 cd18 ct18), sl18⟩) (c18 : PySem.W.codeIn K cd18 "add_stopped" = true) (k18 : PySem.W.keepIn K (.ref f18) = true)
    (a19 : PySem.W.nsIn K mainGlobals "count_tapes" = some (some (.ref f19))) (l19 : K.lookup f19 = some ⟨oc19, od19, .func (PySem.W.fnOf "count_tapes" "count_tapes" (defArgs sCount) (defBody sCount) (defScope sCount) .none kV19 dc19 pm19 an19 cd19 ct19), sl19⟩) (c19 : PySem.W.codeIn K cd19 "count_tapes" = true) (k19 : PySem.W.keepIn K (.ref f19) = true)
    (a20 : PySem.W.nsIn K mainGlobals "next_state" = some (some (.ref f20))) (l20 : K.lookup f20 = some ⟨oc20, od20, .func (PySem.W.fnOf "next_state" "next_state" (defArgs sNext) (defBody sNext) (defScope sNext) .none kV20 dc20 pm20 an20 cd20 ct20), sl20⟩) (c20 : PySem.W.codeIn K cd20 "next_state" = true) (k20 : PySem.W.keepIn K (.ref f20) = true)
    (a21 : PySem.W.nsIn K mainGlobals "run_machine" = some (some (.ref f21))) (l21 : K.lookup f21 = some ⟨oc21, od21, .func (PySem.W.fnOf "run_machine" "run_machine" (defArgs sRun) (defBody sRun) (defScope sRun) .none kV21 dc21 pm21 an21 cd21 ct21), sl21⟩) (c21 : PySem.W.codeIn K cd21 "run_machine" = true) (k21 : PySem.W.keepIn K (.ref f21) = true)
    (a22 : PySem.W.nsIn K mainGlobals "_law_tape" = some (some (.ref f22))) (l22 : K.lookup f22 = some ⟨oc22, od22, .func (PySem.W.fnOf "_law_tape" "_law_tape" (defArgs sTape) (defBody sTape) (defScope sTape) .none kV22 dc22 pm22 an22 cd22 ct22), sl22⟩) (c22 : PySem.W.codeIn K cd22 "_law_tape" = true) (k22 : PySem.W.keepIn K (.ref f22) = true)
    (a23 : PySem.W.nsIn K mainGlobals "_law_order" = some (some (.ref f23))) (l23 : K.lookup f23 = some ⟨oc23, od23, .func (PySem.W.fnOf "_law_order" "_law_order" (defArgs sOrder) (defBody sOrder) (defScope sOrder) .none kV23 dc23 pm23 an23 cd23 ct23), sl23⟩) (c23 : PySem.W.codeIn K cd23 "_law_order" = true) (k23 : PySem.W.keepIn K (.ref f23) = true)
    (a24 : PySem.W.nsIn K mainGlobals "_law_renamed" = some (some (.ref f24))) (l24 : K.lookup f24 = some ⟨oc24, od24, .func (PySem.W.fnOf "_law_renamed" "_law_renamed" (defArgs sRen) (defBody sRen) (defScope sRen) .none kV24 dc24 pm24 an24 cd24 ct24), sl24⟩) (c24 : PySem.W.codeIn K cd24 "_law_renamed" = true) (k24 : PySem.W.keepIn K (.ref f24) = true)
    (a25 : PySem.W.nsIn K mainGlobals "law" = some (some (.ref f25))) (l25 : K.lookup f25 = some ⟨oc25, od25, .func (PySem.W.fnOf "law" "law" (defArgs sLaw) (defBody sLaw) (defScope sLaw) .none kV25 dc25 pm25 an25 cd25 ct25), sl25⟩) (c25 : PySem.W.codeIn K cd25 "law" = true) (k25 : PySem.W.keepIn K (.ref f25) = true)
    (z_list : PySem.W.nsIn K mainGlobals "list" = some none)
    (z_tuple : PySem.W.nsIn K mainGlobals "tuple" = some none)
    (z_len : PySem.W.nsIn K mainGlobals "len" = some none)
    (z_range : PySem.W.nsIn K mainGlobals "range" = some none)
    (z_isinstance : PySem.W.nsIn K mainGlobals "isinstance" = some none)
    (z_int : PySem.W.nsIn K mainGlobals "int" = some none)
    (z_bool : PySem.W.nsIn K mainGlobals "bool" = some none)
    (z_min : PySem.W.nsIn K mainGlobals "min" = some none)
    (z_max : PySem.W.nsIn K mainGlobals "max" = some none)
    (z_enumerate : PySem.W.nsIn K mainGlobals "enumerate" = some none)
    (z_sorted : PySem.W.nsIn K mainGlobals "sorted" = some none)
    (x_MAX_ANSWER : PySem.W.nsIn K mainGlobals "MAX_ANSWER" = some (some (.int 99 tA)))
    (x_MAX_STATES : PySem.W.nsIn K mainGlobals "MAX_STATES" = some (some (.int 60 tS)))
    : ∃ fd : FuncData, (∀ (s : Shared) (v : Value), BindsTo s fd ⟨[v], []⟩ [("script", v)]) ∧ ∀ base : Heap, K.In base → base.Ns mainGlobals mg → FnG (PySem.Challenge.rw_bentcoin_k27_whole_places_numbered_other).prog w K mg base 5 fa fd ["script"] (spLaw K) := by
  have e := hfa.symm.trans (PySem.W.mg_of X G a25)
  cases e
  have F0 := fun_mk (st := sPen) l0 c0 k0
  have b0 := F0.binds (ps := ["script"]) fun _ _ _ _ _ _ us hl => match us, hl with | [_], _ => rfl
  have F1 := fun_mk (st := sFresh) l1 c1 k1
  have b1 := F1.binds (ps := ["pen"]) fun _ _ _ _ _ _ us hl => match us, hl with | [_], _ => rfl
  have F2 := fun_mk (st := sDraw) l2 c2 k2
  have b2 := F2.binds (ps := ["pen", "many"]) fun _ _ _ _ _ _ us hl => match us, hl with | [_, _], _ => rfl
  have F3 := fun_mk (st := sEnds) l3 c3 k3
  have b3 := F3.binds (ps := ["pen", "answers"]) fun _ _ _ _ _ _ us hl => match us, hl with | [_, _], _ => rfl
  have F4 := fun_mk (st := sMach) l4 c4 k4
  have b4 := F4.binds (ps := ["pen", "most", "answers"]) fun _ _ _ _ _ _ us hl => match us, hl with | [_, _, _], _ => rfl
  have F5 := fun_mk (st := sNumb) l5 c5 k5
  have b5 := F5.binds (ps := ["machine", "order"]) fun _ _ _ _ _ _ us hl => match us, hl with | [_, _], _ => rfl
  have F6 := fun_mk (st := sKI) l6 c6 k6
  have b6 := F6.binds (ps := ["value"]) fun _ _ _ _ _ _ us hl => match us, hl with | [_], _ => rfl
  have F7 := fun_mk (st := sKX) l7 c7 k7
  have b7 := F7.binds (ps := ["value", "size"]) fun _ _ _ _ _ _ us hl => match us, hl with | [_, _], _ => rfl
  have F8 := fun_mk (st := sKT) l8 c8 k8
  have b8 := F8.binds (ps := ["value", "size"]) fun _ _ _ _ _ _ us hl => match us, hl with | [_, _], _ => rfl
  have F9 := fun_mk (st := sKB) l9 c9 k9
  have b9 := F9.binds (ps := ["value", "word", "size"]) fun _ _ _ _ _ _ us hl => match us, hl with | [_, _, _], _ => rfl
  have F10 := fun_mk (st := sSE) l10 c10 k10
  have b10 := F10.binds (ps := ["state", "size"]) fun _ _ _ _ _ _ us hl => match us, hl with | [_, _], _ => rfl
  have F11 := fun_mk (st := sME) l11 c11 k11
  have b11 := F11.binds (ps := ["value"]) fun _ _ _ _ _ _ us hl => match us, hl with | [_], _ => rfl
  have F12 := fun_mk (st := sToss) l12 c12 k12
  have b12 := F12.binds (ps := ["state"]) fun _ _ _ _ _ _ us hl => match us, hl with | [_], _ => rfl
  have F13 := fun_mk (st := sFind) l13 c13 k13
  have b13 := F13.binds (ps := ["machine", "start"]) fun _ _ _ _ _ _ us hl => match us, hl with | [_, _], _ => rfl
  have F14 := fun_mk (st := sReach) l14 c14 k14
  have b14 := F14.binds (ps := ["machine"]) fun _ _ _ _ _ _ us hl => match us, hl with | [_], _ => rfl
  have F15 := fun_mk (st := sDist) l15 c15 k15
  have b15 := F15.binds (ps := ["machine"]) fun _ _ _ _ _ _ us hl => match us, hl with | [_], _ => rfl
  have F16 := fun_mk (st := sCheck) l16 c16 k16
  have b16 := F16.binds (ps := ["machine"]) fun _ _ _ _ _ _ us hl => match us, hl with | [_], _ => rfl
  have F17 := fun_mk (st := sOnce) l17 c17 k17
  have b17 := F17.binds (ps := ["machine", "tossing", "used"]) fun _ _ _ _ _ _ us hl => match us, hl with | [_, _, _], _ => rfl
  have F18 := fun_mk (st := sStop) l18 c18 k18
  have b18 := F18.binds (ps := ["stopped", "state", "counts", "length"]) fun _ _ _ _ _ _ us hl => match us, hl with | [_, _, _, _], _ => rfl
  have F19 := fun_mk (st := sCount) l19 c19 k19
  have b19 := F19.binds (ps := ["machine", "length"]) fun _ _ _ _ _ _ us hl => match us, hl with | [_, _], _ => rfl
  have F20 := fun_mk (st := sNext) l20 c20 k20
  have b20 := F20.binds (ps := ["machine", "index", "side"]) fun _ _ _ _ _ _ us hl => match us, hl with | [_, _, _], _ => rfl
  have F21 := fun_mk (st := sRun) l21 c21 k21
  have b21 := F21.binds (ps := ["machine", "tape"]) fun _ _ _ _ _ _ us hl => match us, hl with | [_, _], _ => rfl
  have F22 := fun_mk (st := sTape) l22 c22 k22
  have b22 := F22.binds (ps := ["pen", "many"]) fun _ _ _ _ _ _ us hl => match us, hl with | [_, _], _ => rfl
  have F23 := fun_mk (st := sOrder) l23 c23 k23
  have b23 := F23.binds (ps := ["pen", "many", "first"]) fun _ _ _ _ _ _ us hl => match us, hl with | [_, _, _], _ => rfl
  have F24 := fun_mk (st := sRen) l24 c24 k24
  have b24 := F24.binds (ps := ["told", "order"]) fun _ _ _ _ _ _ us hl => match us, hl with | [_, _], _ => rfl
  have F25 := fun_mk (st := sLaw) l25 c25 k25
  refine ⟨PySem.W.fnOf "law" "law" (defArgs sLaw) (defBody sLaw) (defScope sLaw) .none kV25 dc25 pm25 an25 cd25 ct25, fun s v => .of_eq rfl, fun base _ _ => ?_⟩
  have N : Names mg := ⟨PySem.W.mg_none_of X G z_list, PySem.W.mg_none_of X G z_tuple, PySem.W.mg_none_of X G z_len, PySem.W.mg_none_of X G z_range⟩
  have NG : NamesG mg := ⟨N, PySem.W.mg_none_of X G z_sorted, PySem.W.mg_none_of X G z_enumerate⟩
  have T : NamesM mg := ⟨NG, PySem.W.mg_none_of X G z_max, PySem.W.mg_none_of X G z_min⟩
  have NK : NamesK mg := ⟨N, PySem.W.mg_none_of X G z_isinstance, PySem.W.mg_none_of X G z_int, PySem.W.mg_none_of X G z_bool, PySem.W.mg_none_of X G z_enumerate⟩
  have zE := PySem.W.mg_none_of X G z_enumerate
  have m : ∀ {x : Str} {u : Value}, PySem.W.nsIn K mainGlobals x = some (some u) → mg x = some u := fun e => PySem.W.mg_of X G e
  have G0 := ok_pen (P := PySem.Challenge.pw_bentcoin_k27_whole_places_numbered_other) (w := w) (mg := mg) (base := base) F0 N
  have G1 := ok_fresh (P := PySem.Challenge.pw_bentcoin_k27_whole_places_numbered_other) (w := w) (mg := mg) (base := base) F1 N
  have G2 := ok_draw F2 G1 (m a1) k1 b1
  have G3 := ok_ends F3 N G2 ⟨m a2, k2, b2⟩
  have G5 := ok_numb (P := PySem.Challenge.pw_bentcoin_k27_whole_places_numbered_other) (w := w) (mg := mg) (base := base) F5 N
  have G5x := ok_numx (P := PySem.Challenge.pw_bentcoin_k27_whole_places_numbered_other) (w := w) (mg := mg) (base := base) F5 N
  have G4 := ok_mach F4 N G2 ⟨m a2, k2, b2⟩ G3 ⟨m a3, k3, b3⟩ G5 ⟨m a5, k5, b5⟩
  have G6 := ok_ki (P := PySem.Challenge.pw_bentcoin_k27_whole_places_numbered_other) (w := w) (mg := mg) (base := base) F6 NK
  have G7 := ok_kx F7 G6 ⟨m a6, k6, b6⟩
  have G8 := ok_kt (P := PySem.Challenge.pw_bentcoin_k27_whole_places_numbered_other) (w := w) (mg := mg) (base := base) F8 NK
  have G9 := ok_kb F9 G8 ⟨m a8, k8, b8⟩
  have G10 := ok_se F10 (m x_MAX_ANSWER) G9 ⟨m a9, k9, b9⟩ G6 ⟨m a6, k6, b6⟩ G7 ⟨m a7, k7, b7⟩
  have G11 := ok_me F11 NK (m x_MAX_STATES) G10 ⟨m a10, k10, b10⟩
  have G12 := ok_toss (P := PySem.Challenge.pw_bentcoin_k27_whole_places_numbered_other) (w := w) (mg := mg) (base := base) F12
  have G13 := ok_find F13 N G12 ⟨m a12, k12, b12⟩
  have G14 := ok_reach F14 NG G13 ⟨m a13, k13, b13⟩
  have G15 := ok_dist F15 NG G12 ⟨m a12, k12, b12⟩
  have G16 := ok_check F16 NG G13 ⟨m a13, k13, b13⟩ G15 ⟨m a15, k15, b15⟩
  have G17 := ok_once (P := PySem.Challenge.pw_bentcoin_k27_whole_places_numbered_other) (w := w) (mg := mg) (base := base) F17 zE
  have G18 := ok_stop (P := PySem.Challenge.pw_bentcoin_k27_whole_places_numbered_other) (w := w) (mg := mg) (base := base) F18 N zE
  have G19 := ok_count F19 N G12 ⟨m a12, k12, b12⟩ G17 ⟨m a17, k17, b17⟩ G18 ⟨m a18, k18, b18⟩
  have G20 := ok_next (P := PySem.Challenge.pw_bentcoin_k27_whole_places_numbered_other) (w := w) (mg := mg) (base := base) F20
  have G21 := ok_run F21 N G12 ⟨m a12, k12, b12⟩ G20 ⟨m a20, k20, b20⟩
  have G22 := ok_tape F22 N G2 ⟨m a2, k2, b2⟩
  have G23 := ok_order F23 N G2 ⟨m a2, k2, b2⟩
  have G24 := ok_ren (P := PySem.Challenge.pw_bentcoin_k27_whole_places_numbered_other) (w := w) (mg := mg) (base := base) F24
  exact ok_law F25 T G0 ⟨m a0, k0, b0⟩ G2 ⟨m a2, k2, b2⟩ G4 ⟨m a4, k4, b4⟩ G5x ⟨m a5, k5, b5⟩ G23 ⟨m a23, k23, b23⟩ G22 ⟨m a22, k22, b22⟩ G24 ⟨m a24, k24, b24⟩ G11 ⟨m a11, k11, b11⟩ G16 ⟨m a16, k16, b16⟩ G14 ⟨m a14, k14, b14⟩ G15 ⟨m a15, k15, b15⟩ G19 ⟨m a19, k19, b19⟩ G21 ⟨m a21, k21, b21⟩
end Z
open PySem PySem.W PyProof.Rows
set_option maxRecDepth 100000 in
set_option maxHeartbeats 0 in
theorem PySem.Challenge.cw_bentcoin_k27_whole_places_numbered_other_holds : PySem.Challenge.rw_bentcoin_k27_whole_places_numbered_other.Holds := by
  w_on; o_law; k_head; (case hw => w_witness2)
  k_fill
  refine GG.walkG (l := PySem.Challenge.rw_bentcoin_k27_whole_places_numbered_other) (n := 63) (k := 5) (x := "script") (sp := Z.spLaw) rfl (by decide) rfl ⟨rfl, by decide, by decide⟩ (fun w h Y => PySem.W.kIn_of Y) ?F (fun _ _ a ns hl hS => ⟨a, ns, rfl, hS, hl, fun _ => rfl⟩)
  case F =>
    intro w mg fa h KX G hmg
    refine' Z.all_mk KX G hmg ?a0 ?l0 ?c0 ?k0 ?a1 ?l1 ?c1 ?k1 ?a2 ?l2 ?c2 ?k2 ?a3 ?l3 ?c3 ?k3 ?a4 ?l4 ?c4 ?k4 ?a5 ?l5 ?c5 ?k5 ?a6 ?l6 ?c6 ?k6 ?a7 ?l7 ?c7 ?k7 ?a8 ?l8 ?c8 ?k8 ?a9 ?l9 ?c9 ?k9 ?a10 ?l10 ?c10 ?k10 ?a11 ?l11 ?c11 ?k11 ?a12 ?l12 ?c12 ?k12 ?a13 ?l13 ?c13 ?k13 ?a14 ?l14 ?c14 ?k14 ?a15 ?l15 ?c15 ?k15 ?a16 ?l16 ?c16 ?k16 ?a17 ?l17 ?c17 ?k17 ?a18 ?l18 ?c18 ?k18 ?a19 ?l19 ?c19 ?k19 ?a20 ?l20 ?c20 ?k20 ?a21 ?l21 ?c21 ?k21 ?a22 ?l22 ?c22 ?k22 ?a23 ?l23 ?c23 ?k23 ?a24 ?l24 ?c24 ?k24 ?a25 ?l25 ?c25 ?k25 ?z_list ?z_tuple ?z_len ?z_range ?z_isinstance ?z_int ?z_bool ?z_min ?z_max ?z_enumerate ?z_sorted ?x_MAX_ANSWER ?x_MAX_STATES
    (case a0 => k_is)
    (case l0 => k_is)
    (case c0 => k_is)
    (case k0 => k_is)
    (case a1 => k_is)
    (case l1 => k_is)
    (case c1 => k_is)
    (case k1 => k_is)
    (case a2 => k_is)
    (case l2 => k_is)
    (case c2 => k_is)
    (case k2 => k_is)
    (case a3 => k_is)
    (case l3 => k_is)
    (case c3 => k_is)
    (case k3 => k_is)
    (case a4 => k_is)
    (case l4 => k_is)
    (case c4 => k_is)
    (case k4 => k_is)
    (case a5 => k_is)
    (case l5 => k_is)
    (case c5 => k_is)
    (case k5 => k_is)
    (case a6 => k_is)
    (case l6 => k_is)
    (case c6 => k_is)
    (case k6 => k_is)
    (case a7 => k_is)
    (case l7 => k_is)
    (case c7 => k_is)
    (case k7 => k_is)
    (case a8 => k_is)
    (case l8 => k_is)
    (case c8 => k_is)
    (case k8 => k_is)
    (case a9 => k_is)
    (case l9 => k_is)
    (case c9 => k_is)
    (case k9 => k_is)
    (case a10 => k_is)
    (case l10 => k_is)
    (case c10 => k_is)
    (case k10 => k_is)
    (case a11 => k_is)
    (case l11 => k_is)
    (case c11 => k_is)
    (case k11 => k_is)
    (case a12 => k_is)
    (case l12 => k_is)
    (case c12 => k_is)
    (case k12 => k_is)
    (case a13 => k_is)
    (case l13 => k_is)
    (case c13 => k_is)
    (case k13 => k_is)
    (case a14 => k_is)
    (case l14 => k_is)
    (case c14 => k_is)
    (case k14 => k_is)
    (case a15 => k_is)
    (case l15 => k_is)
    (case c15 => k_is)
    (case k15 => k_is)
    (case a16 => k_is)
    (case l16 => k_is)
    (case c16 => k_is)
    (case k16 => k_is)
    (case a17 => k_is)
    (case l17 => k_is)
    (case c17 => k_is)
    (case k17 => k_is)
    (case a18 => k_is)
    (case l18 => k_is)
    (case c18 => k_is)
    (case k18 => k_is)
    (case a19 => k_is)
    (case l19 => k_is)
    (case c19 => k_is)
    (case k19 => k_is)
    (case a20 => k_is)
    (case l20 => k_is)
    (case c20 => k_is)
    (case k20 => k_is)
    (case a21 => k_is)
    (case l21 => k_is)
    (case c21 => k_is)
    (case k21 => k_is)
    (case a22 => k_is)
    (case l22 => k_is)
    (case c22 => k_is)
    (case k22 => k_is)
    (case a23 => k_is)
    (case l23 => k_is)
    (case c23 => k_is)
    (case k23 => k_is)
    (case a24 => k_is)
    (case l24 => k_is)
    (case c24 => k_is)
    (case k24 => k_is)
    (case a25 => k_is)
    (case l25 => k_is)
    (case c25 => k_is)
    (case k25 => k_is)
    (case z_list => k_is)
    (case z_tuple => k_is)
    (case z_len => k_is)
    (case z_range => k_is)
    (case z_isinstance => k_is)
    (case z_int => k_is)
    (case z_bool => k_is)
    (case z_min => k_is)
    (case z_max => k_is)
    (case z_enumerate => k_is)
    (case z_sorted => k_is)
    (case x_MAX_ANSWER => k_is)
    (case x_MAX_STATES => k_is)
