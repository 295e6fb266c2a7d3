import PyProof.Rows.All
import Wide.All
import OpenK.AllK
import Wide.FinOn
import HandS.ForMost
import HandS.Defaults
import HandS.Wide
import HandS.Gcd
import HandS.Rev
import HandS.Flow
import PySem.Challenge.RW_bentcoin_k02_worths_of_rows
set_option Elab.async false
set_option maxRecDepth 100000
set_option maxHeartbeats 4000000
/-! Defs that are run where no text of an object is being made: so that repr gives the whole text. -/
namespace GG
open PySem PySem.Spec PyProof.Rows L2
section
variable {P : Program} {w : World} {K : PySem.W.Frag} {mg : Str → Option Value} {base : Heap}
structure FnG (P : Program) (w : World) (K : PySem.W.Frag) (mg : Str → Option Value) (base : Heap) (k : Nat) (f : Addr) (fd : FuncData) (ps : List Str) (sp : Sp) : Prop where
  size : ∀ vs H Q E, sp vs H Q E → vs.length = ps.length
  goes : ∀ (A : Around) (o : List Env) (s : Shared) (H : Hp) (ar : Args) (us : List Value) (vs : List V) (Q : VK) (E : XK),
    A.guards = some [] → Room k A → Env0 P w K mg base A o s H → BindsTo s fd ar (ps.zip us) → Vals vs us → sp vs H Q E →
    codeAny (model P w) A (.call (.ref f) ar) (CR CX0 o P w H s Q E) s

theorem fnG_of {x qual : Str} {st : Stmt} {f : Addr} {fd : FuncData} {N ps : List Str} {k : Nat} {sp : Sp}
    (F : Fun K x qual st f fd) (S : FnScope N ps (defScope st)) (size : ∀ vs H Q E, sp vs H Q E → vs.length = ps.length)
    (body : ∀ (cd : Value) (A : Around) (o : List Env) (s : Shared) (H : Hp) (vs : List V) (Q : VK) (E : XK),
      A.guards = some [] → Room k (A.deeper (envOfC qual (defScope st) s.heap.objs.size f cd)) → sp vs H Q E →
      ∃ t, PSs (cxOf CX0 P w K mg base N qual (defScope st) f cd A o s H E).nox (defBody st) t ∧
        t { nx := fun _ H' => Q .non H', rt := Q } (start N vs) H) :
    FnG P w K mg base (k + 1) f fd ps sp := by
  obtain ⟨oc, od, kV, doc, pm, an, cd, ct, slots, rfl, found, code⟩ := F.ex
  refine ⟨size, ?_⟩
  intro A o s H ar us vs Q E gA room e0 hbind given asked
  have inK : K.In s.heap := e0.mod.kin.keeps fun b u e => (e0.bs b u e).1
  have free : s.heap.NoLimit := e0.mod.nolimit.keeps fun b u e => (e0.bs b u e).1
  have many := size vs H Q E asked
  have kinds : ∀ y ∈ ps.zip us, (defScope st).names.lookup y.1 = some .local ∨ ((defScope st).names.lookup y.1 = some .cell ∧
      ((cellsFrom (s.heap.objs.size + 1) (defScope st).names []).lookup y.1).isSome = true) := by
    rintro ⟨n, v⟩ hy
    cases S.par n (List.of_mem_zip hy).1 with
    | inl q => exact Or.inl q
    | inr q => exact Or.inr ⟨q, PySem.W.cellsFrom_some _ _ _ (Or.inl q)⟩
  apply codeAny_call_function room.depth (inK _ _ found) rfl S.co S.gen rfl (PySem.W.codeRec_of inK code)
  apply hbind
  apply wpAny_newFunctionEnv_cells S.kind kinds
  intro env he s1 ready
  subst he
  refine ⟨free.keeps ready.toInCall.keep, ?_⟩
  apply codeAny_func
  obtain ⟨t, ht, hq⟩ := body cd A o s H vs Q E gA (room.deeper _) asked
  have first := inv_start (E := E) (CX := CX0) S room.hd e0 many given ready
  refine wpAny_mono (ht.nox.run [] s1 (start N vs) H _ first hq) (fun fl s' hs => ?_) (fun e s' hs => hs)
  cases fl with
  | next =>
    obtain ⟨σ', H', J, q⟩ := hs
    exact ⟨V.non, H', J.os, J.bare, J.base, J.hok, rfl, q⟩
  | ret u =>
    obtain ⟨v, σ', H', J, rv, q⟩ := hs
    exact ⟨v, H', J.os, J.bare, J.base, J.hok, rv, q⟩
  | brk => exact hs.elim fun _ z => z.elim fun _ z => z.elim fun _ z => z.elim
  | cont => exact hs.elim fun _ z => z.elim fun _ z => z.elim fun _ z => z.elim

/-- what is left of the heap when the script stands alone in it -/
def one (a : Addr) (o : HO) : Hp := fun b => if b = a then some o else none
theorem one_at {a : Addr} {o : HO} : one a o a = some o := if_pos rfl
theorem one_no {a b : Addr} {o : HO} (h : b ≠ a) : one a o b = none := if_neg h

section
variable {mb : Str → Option Value} {k : Nat} {fa a : Addr} {fd : FuncData} {x : Str} {sp : Sp} {s₁ : Shared} {vs : List Value} {ns : List Int}
abbrev Fine (s₁ : Shared) (r : Result) (s' : Shared) : Prop := r = .ok (.ret (.bool true)) ∧ OldK s₁.heap s'.heap ∧ s'.os = s₁.os ∧ AllBare s'.gens

/-- from a heap in which at most the script is told of -/
theorem from_heap {H : Hp} (inK : K.In (hidT s₁.heap H)) (names : (hidT s₁.heap H).Ns mainGlobals mg) (blt : (hidT s₁.heap H).Ns builtinsNs mb)
    (known : ∀ y : Str, y ≠ "__name__" → mb y = bootBuiltins y) (free : (hidT s₁.heap H).NoLimit) (none_ : s₁.gens = #[])
    (alone : ∀ b, H b = none ∨ ∃ o xs, H b = some (.frz o (.lst xs))) (hok : HOk P w H s₁.heap) (room : Room k callerA)
    (F : FnG P w K mg (hidT s₁.heap H) k fa fd [x] sp) (binds : ∀ (s : Shared) (u : Value), BindsTo s fd ⟨[u], []⟩ [(x, u)])
    (asked : sp [.ref a] H (fun v _ => v = .bl true) fun _ _ _ => False) :
    codeAny (model P w) callerA (.call (.ref fa) ⟨[.ref a], []⟩) (Fine s₁) s₁ := by
  have entry : Env0 P w K mg (hidT s₁.heap H) callerA [] s₁ H :=
    { frames := rfl, mod := ⟨inK, names, ⟨mb, blt, known⟩, free⟩, bs := fun b u e => of_hidT e, bsz := Nat.le_of_eq (hidT_size _ _), funs := trivial,
      frf := fun b hb => absurd (show b ∈ ([] : List Addr) from hb) (by simp), hok := hok, bare := .of_eq none_ }
  have run := F.goes callerA [] s₁ H ⟨[.ref a], []⟩ [.ref a] [.ref a] _ _ rfl room entry (binds s₁ (.ref a)) (.cons rfl .nil) asked
  refine codeAny_mono run fun r s' got => ?_
  cases r with
  | error e => exact False.elim got
  | ok fl =>
    cases fl with
    | ret u =>
      obtain ⟨v, H', os, bare, un, hok', ru, yes⟩ := got
      have yes' : v = .bl true := yes
      subst yes'
      have eu : u = Value.bool true := ru
      subst eu
      refine ⟨rfl, OldK.of_keep ?_, os, bare⟩
      intro b u e
      rcases alone b with q | ⟨ob, xs, q⟩
      · exact un.keep b u e q (fun z => absurd (show b ∈ ([] : List Addr) from z) (by simp)) (by simp)
      · have e1 := (hok b _ q).1
        have e2 := (hok' b _ (un.frzs b ob _ q)).1
        rw [e] at e1
        cases e1
        exact e2
    | next => exact False.elim got
    | brk => exact False.elim got
    | cont => exact False.elim got
/-- the law's call, its promise once -/
theorem lawG (inK : K.In s₁.heap) (names : s₁.heap.Ns mainGlobals mg) (blt : s₁.heap.Ns builtinsNs mb) (known : ∀ y : Str, y ≠ "__name__" → mb y = bootBuiltins y)
    (free : s₁.heap.NoLimit) (none_ : s₁.gens = #[]) (script : s₁.heap.get? a = some { cls := .type "list", data := .seq vs.toArray }) (nums : IntsAre vs ns)
    (few : ns.length ≤ sizeLine) (room : Room k callerA) (F : ∀ base : Heap, K.In base → base.Ns mainGlobals mg → FnG P w K mg base k fa fd [x] sp)
    (binds : ∀ (s : Shared) (u : Value), BindsTo s fd ⟨[u], []⟩ [(x, u)]) (asked : ∀ H : Hp, SqL K H a (ns.map V.int) → sp [.ref a] H (fun v _ => v = .bl true) fun _ _ _ => False) :
    codeAny (model P w) callerA (.call (.ref fa) ⟨[.ref a], []⟩) (Fine s₁) s₁ := by
  have rel := vals_ints nums
  have len := nums.length
  cases look : K.lookup a with
  | some o =>
    have e := inK a o look
    rw [script] at e
    cases e
    have keep : ∀ {b : Addr} {u : Obj}, s₁.heap.get? b = some u → (hidT s₁.heap fun _ => none).get? b = some u := fun e => hidT_get e rfl
    have ns' : ∀ {b : Addr} {m : Str → Option Value}, s₁.heap.Ns b m → (hidT s₁.heap fun _ => none).Ns b m := fun ⟨o, es, ep, e, d, r⟩ => ⟨o, es, ep, keep e, d, r⟩
    have inK' : K.In (hidT s₁.heap fun _ => none) := fun b u e => keep (inK b u e)
    refine from_heap inK' (ns' names) (ns' blt) known (let ⟨mc, h1, h2⟩ := free; ⟨mc, ns' h1, h2⟩) none_ (fun _ => .inl rfl) (fun b u z => nomatch z) room (F _ inK' (ns' names)) binds ?_
    exact asked _ (.inr ⟨_, vs.toArray, _, look, rfl, rfl, rfl, by rw [List.size_toArray, len]; exact few, by simpa using rel⟩)
  | none =>
    have keep : ∀ {b : Addr} {u : Obj}, b ≠ a → s₁.heap.get? b = some u → (hidT s₁.heap (one a (.frz { cls := .type "list", data := .seq vs.toArray } (.lst (ns.map V.int))))).get? b = some u := fun n e => hidT_get e (one_no n)
    have ns' : ∀ {b : Addr} {m : Str → Option Value}, s₁.heap.Ns b m → (hidT s₁.heap (one a (.frz { cls := .type "list", data := .seq vs.toArray } (.lst (ns.map V.int))))).Ns b m := by
      rintro b m ⟨o, es, ep, e, d, r⟩
      refine ⟨o, es, ep, keep (fun z => ?_) e, d, r⟩
      rw [z, script] at e
      cases e
      cases d
    have inK' : K.In (hidT s₁.heap (one a (.frz { cls := .type "list", data := .seq vs.toArray } (.lst (ns.map V.int))))) := fun b u e => keep (fun z => by rw [z, look] at e; cases e) (inK b u e)
    refine from_heap inK' (ns' names) (ns' blt) known (let ⟨mc, h1, h2⟩ := free; ⟨mc, ns' h1, h2⟩) none_ (fun b => ?_) (fun b u z => ?_) room (F _ inK' (ns' names)) binds (asked _ (.inl (.inr ⟨_, one_at⟩)))
    · by_cases e : b = a
      · exact .inr ⟨_, _, by rw [e]; exact one_at⟩
      · exact .inl (one_no e)
    · by_cases e : b = a
      · subst e
        have z' := one_at.symm.trans z
        cases z'
        exact ⟨script, by rw [List.length_map]; exact few, vs, _, rel, script⟩
      · have z' := (one_no e).symm.trans z
        cases z'
end
end
/-- the end of a proof: as the layer's own, for such a promise -/
theorem walkG {l : PySem.W.OpenLaw} {n k : Nat} {q : Program} {loose : List Str} {XP : (Str → Option Value) → Heap → Prop} {YP : World → Heap → Prop} {d : DefRec} {K : Params → PySem.W.Frag}
    {sp : PySem.W.Frag → Sp} {x : Str} (most : l.most = some n) (few : n ≤ sizeLine) (plain : d.params.defaults = []) (room : Room k callerA) (inY : ∀ (w : World) (h : Heap), YP w h → (K w.params).In h)
    (F : ∀ (w : World) (mg : Str → Option Value) (fa : Addr) (h : Heap), (K w.params).In h → h.Ns mainGlobals mg → mg d.name = some (.ref fa) →
      ∃ fd : FuncData, (∀ (s : Shared) (u : Value), BindsTo s fd ⟨[u], []⟩ [(x, u)]) ∧
        ∀ base : Heap, (K w.params).In base → base.Ns mainGlobals mg → FnG l.prog w (K w.params) mg base k fa fd [x] (sp (K w.params)))
    (asked : ∀ (K : PySem.W.Frag) (H : Hp) (a : Addr) (ns : List Int), ns.length ≤ n → SqL K H a (ns.map V.int) → sp K [.ref a] H (fun v _ => v = .bl true) fun _ _ _ => False) :
    PySem.W.WalkO q loose XP YP l.row.toRowW d [] (fun f vs => PySem.call f vs) := by
  apply Att.attach_call most plain
  intro w s₀ s₁ mg mb fa o pm cd doc a vs ns G Y _ _ _ named script nums size none_
  have inK := inY w _ Y
  obtain ⟨fd, binds, hF⟩ := F w mg fa _ inK G.T.g named
  exact lawG inK G.T.g G.T.b G.T.builtins G.T.nolimit none_ script nums (Nat.le_trans size few) room hF binds fun H hs => asked _ H a ns size hs

/-! the text of data -/
/-- data whose text is made: no dict, no int too long, not too deep, not too many -/
structure Shows (d : PyData) (deep many : Nat) : Prop where
  s : d.showable = true
  l : d.leavesShort 1922 = true
  h : d.hasDict = false
  p : d.depth ≤ deep
  b : d.bulk ≤ many
theorem Shows.mono {d : PyData} {a b a' b' : Nat} (x : Shows d a b) (h1 : a ≤ a') (h2 : b ≤ b') : Shows d a' b' := ⟨x.s, x.l, x.h, Nat.le_trans x.p h1, Nat.le_trans x.b h2⟩
theorem Shows.room {d : PyData} (x : Shows d 50 8000) : d.shown.length ≤ sizeLine := by
  have h := PyData.shown_le_bulk 1922 (by decide) d x.l
  have hb := x.b
  have e : sizeLine = 16777216 := by decide
  have := Nat.mul_le_mul_left 1924 hb
  omega
theorem short_int {i : Int} (h : i.natAbs.log2 < 1920) : (PyData.int i).leavesShort 1922 = true := by
  simp only [PyData.leavesShort, decide_eq_true_eq]
  have e := int_text_length_le (k := 1920) (by decide) h
  rw [PyData.shown_int, PySem.ofString_length]
  omega
theorem ints_show : ∀ {ns : List Int}, (∀ n ∈ ns, n.natAbs.log2 < 1920) → PyData.showableAll (ns.map PyData.int) = true ∧ PyData.leavesShortAll 1922 (ns.map PyData.int) = true ∧ PyData.hasDictAll (ns.map PyData.int) = false ∧ PyData.depthAll (ns.map PyData.int) = 0 ∧ PyData.bulkAll (ns.map PyData.int) = ns.length
  | [], _ => ⟨rfl, rfl, rfl, rfl, rfl⟩
  | n :: r, h => by
    obtain ⟨h1, h2, h3, h4, h5⟩ := ints_show (ns := r) fun m hm => h m (List.mem_cons_of_mem _ hm)
    have hn := h n List.mem_cons_self
    have hs := short_int hn
    refine ⟨?_, ?_, ?_, ?_, ?_⟩
    · simp [PyData.showableAll, PyData.showable, h1, hn]
    · simp [PyData.leavesShortAll, h2, hs]
    · simp [PyData.hasDictAll, PyData.hasDict, h3]
    · simp [PyData.depthAll, PyData.depth, h4]
    · simp [PyData.bulkAll, PyData.bulk, h5]; omega
theorem shows_ints {ns : List Int} (h : ∀ n ∈ ns, n.natAbs.log2 < 1920) : Shows (.tuple (ns.map PyData.int)) 1 ns.length := by
  obtain ⟨h1, h2, h3, h4, h5⟩ := ints_show h
  exact ⟨by simp [PyData.showable, h1], by simp [PyData.leavesShort, h2], by simp [PyData.hasDict, h3], by simp [PyData.depth, h4], by simp [PyData.bulk, h5]⟩
section
variable {X : Cx}
def rRepr (K : PySem.W.Frag) : List V → Hp → VK → Prop := fun vs H Q => ∃ (a : Addr) (d : PyData), vs = [.ref a] ∧ Dp K H (.ref a) d ∧ Shows d 50 8000 ∧ Q (.str d.shown) H
theorem call_repr {k : Nat} (hg : X.A.guards = some []) (room : Room k X.A) : CallR X (.builtin "repr") (rRepr X.K) := by
  intro pins s σ H vs us Q I r h
  obtain ⟨a, d, rfl, hd, hs, q⟩ := h
  obtain ⟨u, rfl, ru⟩ := vals1 r
  have eu : u = Value.ref a := ru
  subst eu
  obtain ⟨as, reads⟩ := Dp.reads I d (.ref a) (.ref a) hd rfl
  have hu := room.un
  have hp := hs.p
  refine repr_of_reads' reads hs.s (fun e => by rw [hs.h] at e; cases e) hg (by omega) (fun _ _ e => e) (fun h' u tk hk => ?_) hs.room
  exact ⟨.str d.shown, H, I.kept hk, ⟨u, rfl⟩, q⟩
/-! x *= e of ints -/
theorem ip_mulW : PIp X .Mult (fun x y H Q => ∃ i j : Int, x = .int i ∧ y = .int j ∧ IntMulOk i j ∧ Q (.int (i * j)) H) := by
  intro pins s σ H x y v u Q I rx ry h
  obtain ⟨i, j, ex, ey, ok, q⟩ := h
  subst ex ey
  obtain ⟨t, et⟩ := rx
  obtain ⟨t', et'⟩ := ry
  subst et et'
  exact imul_int ⟨V.int (i * j), H, I.tok _, ⟨_, rfl⟩, q⟩ ok
/-! f(k = v, ..): all by their names -/
variable {CX : CXT} {k : Nat} {f : Addr} {fd : FuncData} {ps ks : List Str} {sp : Sp} {E : XK} {x : Str} {p pos : Pos} {kws : List Keyword} {t tk : TA}
  {g : List Value → List Value → List Value} {gV : List V → List V → List V}
def tNamed (sp : Sp) (gV : List V → List V → List V) (E : XK) (m : Nat) (tk : TA) : TE := fun σ H Q => tk σ H fun zs H1 => zs.length = m ∧ sp (gV [] zs) H1 Q E
theorem pe_named (F : FnOk X.prog X.w X.K X.mg X.base CX k f fd ps sp) (room : Room k X.A) (glob : Gl X x) (is : X.mg x = some (.ref f)) (keep : PySem.W.keepIn X.K (.ref f) = true)
    (bound : KBn X.K fd ps 0 ks g gV) (pass : Passes CX X E) (args : PK X kws tk) (all : (backToKw pos (keywordEach kws X.env)).all (·.1.isSome) = true := by rfl)
    (names : (backToKw pos (keywordEach kws X.env)).filterMap (·.1) = ks := by rfl) (nodebug : (x == ("__debug__" : Str)) = false := by decide)
    (plain : ((backTo pos (starEach [] X.env)).any (·.1) || (backToKw pos (keywordEach kws X.env)).any (·.1.isNone)) = false := by rfl) :
    PE X (.Call (.Name x p) [] kws pos) (tNamed sp gV E ks.length tk) := by
  constructor
  intro pins s σ H Q I h
  apply wpAny_Call_Name_kw
  refine ld_glob I glob is ?_ nodebug
  apply PySem.W.callWith_KW0 I.ok.mod.kin keep all _ plain
  have run := args.run pos pins s σ H _ I h
  refine thn run fun ws s2 done => ?_
  obtain ⟨zs, H2, I2, rz, many, q⟩ := done
  refine ⟨I2.kIn, ?_⟩
  rw [names]
  have few : ws.length = ks.length := by rw [← rz.length]; exact many
  first
  | exact run_fnN (us := []) (vs := []) F room bound pass I2 .nil rz rfl few q
  | exact run_fnN (us := []) (vs := []) F room bound pass I2 .nil rz rfl many q
def turned {α : Type} : List α → List α
  | [u, v] => [v, u]
  | l => l
theorem turned_vals : ∀ {zs : List V} {ws : List Value}, Vals zs ws → Vals (turned zs) (turned ws)
  | _, _, .nil => .nil
  | _, _, .cons a .nil => .cons a .nil
  | _, _, .cons a (.cons b .nil) => .cons b (.cons a .nil)
  | _, _, .cons a (.cons b (.cons c r)) => .cons a (.cons b (.cons c r))
/-- two parameters, both by name, the second ahead -/
theorem named2 {K : PySem.W.Frag} {x qual : Str} {st : Stmt} {a b : Str} (F : Fun K x qual st f fd)
    (h : ∀ (kV doc pm : Value) (an : Option Addr) (cd ct u v : Value), bindArgs (PySem.W.fnOf x qual (defArgs st) (defBody st) (defScope st) .none kV doc pm an cd ct) ⟨[], [(b, u), (a, v)]⟩ = pure [(a, v), (b, u)]) :
    KBn K fd [a, b] 0 [b, a] (fun _ ws => turned ws) (fun _ zs => turned zs) := by
  obtain ⟨oc, od, kV, doc, pm, an, cd, ct, slots, rfl, found, code⟩ := F.ex
  refine ⟨fun s us ws _ l0 l2 => ?_, fun _ r => turned_vals r⟩
  match us, ws, l0, l2 with
  | [], [u, v], _, _ => exact .of_eq (h kV doc pm an cd ct u v)
end
end GG

namespace M2
/-- Horner's sum from the highest place: for places c0, c1, .. of a row and p = n / d it is the value times d ^ (len - 1) -/
def hor (n d : Int) : List Int → Int
  | [] => 0
  | c :: r => hor n d r * n + c * d ^ r.length
def low (a b : Int) : Int × Int := (a / ((Int.gcd a b : Nat) : Int), b / ((Int.gcd a b : Nat) : Int))
structure Lowest (q : Int × Int) : Prop where
  pos : 0 < q.2
  one : Int.gcd q.1 q.2 = 1
theorem gcd_pos {a b : Int} (hb : 0 < b) : 0 < Int.gcd a b := Nat.gcd_pos_of_pos_right _ (by omega)
theorem low_spec {a b : Int} (hb : 0 < b) : Lowest (low a b) ∧ (low a b).1 * b = (low a b).2 * a := by
  have hg := gcd_pos (a := a) hb
  have h1 : (low a b).1 * ((Int.gcd a b : Nat) : Int) = a := Int.ediv_mul_cancel (Int.gcd_dvd_left a b)
  have h2 : (low a b).2 * ((Int.gcd a b : Nat) : Int) = b := Int.ediv_mul_cancel (Int.gcd_dvd_right a b)
  refine ⟨⟨?_, Int.gcd_ediv_gcd_ediv_gcd hg⟩, ?_⟩
  · have hg' : (0 : Int) < ((Int.gcd a b : Nat) : Int) := by omega
    rcases Int.lt_or_le 0 (low a b).2 with h | h
    · exact h
    · have := Int.mul_nonneg (Int.neg_nonneg_of_nonpos h) (Int.le_of_lt hg')
      rw [Int.neg_mul, h2] at this
      omega
  · generalize hg2 : ((Int.gcd a b : Nat) : Int) = g at h1 h2
    grind
theorem cop_dvd {x y z w : Int} (h : Int.gcd x y = 1) (e : x * z = y * w) : y ∣ z := by
  have h' : Nat.Coprime y.natAbs x.natAbs := by rw [Nat.coprime_comm]; exact h
  have e' : y.natAbs ∣ x.natAbs * z.natAbs := by
    rw [← Int.natAbs_mul, e, Int.natAbs_mul]
    exact Nat.dvd_mul_right _ _
  exact Int.natAbs_dvd_natAbs.mp (h'.dvd_of_dvd_mul_left e')
theorem low_uniq {p q : Int × Int} (hp : Lowest p) (hq : Lowest q) (e : p.1 * q.2 = p.2 * q.1) : p = q := by
  have d1 : p.2 ∣ q.2 := cop_dvd hp.one e
  have d2 : q.2 ∣ p.2 := cop_dvd (z := p.2) (w := p.1) hq.one (by rw [Int.mul_comm, ← e, Int.mul_comm])
  have e2 : p.2 = q.2 := by
    have := Nat.dvd_antisymm (Int.natAbs_dvd_natAbs.mpr d1) (Int.natAbs_dvd_natAbs.mpr d2)
    have := hp.pos
    have := hq.pos
    omega
  have e1 : p.1 = q.1 := by
    rw [← e2, Int.mul_comm] at e
    exact Int.eq_of_mul_eq_mul_left (by have := hp.pos; omega) e
  exact Prod.ext e1 e2
/-- one turn of a sum of fractions, place by place -/
def turn (n d : Int) (s : (Int × Int) × (Int × Int)) (a : Int) : (Int × Int) × (Int × Int) :=
  (low (s.1.1 * s.2.2 + a * s.2.1 * s.1.2) (s.1.2 * s.2.2), low (s.2.1 * n) (s.2.2 * d))
def sums (n d : Int) (r : List Int) : (Int × Int) × (Int × Int) := r.foldl (turn n d) ((0, 1), (1, 1))
theorem hor_snoc (n d : Int) (a : Int) : ∀ r : List Int, hor n d (r ++ [a]) = hor n d r * d + a * n ^ r.length
  | [] => by simp [hor]
  | c :: r => by
    have ih := hor_snoc n d a r
    simp only [List.cons_append, hor, ih, List.length_append, List.length_cons, List.length_nil, Int.pow_succ]
    grind
structure Good (n d : Int) (r : List Int) (s : (Int × Int) × (Int × Int)) : Prop where
  lt : Lowest s.1
  lw : Lowest s.2
  et : s.1.1 * d ^ r.length = s.1.2 * (hor n d r * d)
  ew : s.2.1 * d ^ r.length = s.2.2 * n ^ r.length
theorem good_nil (n d : Int) : Good n d [] ((0, 1), (1, 1)) := ⟨⟨by decide, by decide⟩, ⟨by decide, by decide⟩, by simp [hor], by simp⟩
theorem good_turn {n d a : Int} {r : List Int} {s : (Int × Int) × (Int × Int)} (hd : 0 < d) (g : Good n d r s) : Good n d (r ++ [a]) (turn n d s a) := by
  obtain ⟨⟨t0, t1⟩, ⟨w0, w1⟩⟩ := s
  obtain ⟨lt, lw, et, ew⟩ := g
  have ht1 : 0 < t1 := lt.pos
  have hw1 : 0 < w1 := lw.pos
  have hb : 0 < t1 * w1 := Int.mul_pos ht1 hw1
  have hb2 : 0 < w1 * d := Int.mul_pos hw1 hd
  obtain ⟨l1, q1⟩ := low_spec (a := t0 * w1 + a * w0 * t1) hb
  obtain ⟨l2, q2⟩ := low_spec (a := w0 * n) hb2
  refine ⟨l1, l2, ?_, ?_⟩
  · show (low (t0 * w1 + a * w0 * t1) (t1 * w1)).1 * d ^ (r ++ [a]).length = (low (t0 * w1 + a * w0 * t1) (t1 * w1)).2 * _
    rw [hor_snoc, List.length_append, List.length_singleton, Int.pow_succ]
    generalize low (t0 * w1 + a * w0 * t1) (t1 * w1) = q at q1
    obtain ⟨x, y⟩ := q
    simp only at et ew q1 ⊢
    generalize d ^ r.length = D at *
    generalize n ^ r.length = N at *
    generalize hor n d r = P at *
    have : (t1 * w1) * (x * D) = (t1 * w1) * (y * (P * d + a * N)) := by grind
    have := Int.eq_of_mul_eq_mul_left (by omega) this
    grind
  · show (low (w0 * n) (w1 * d)).1 * d ^ (r ++ [a]).length = (low (w0 * n) (w1 * d)).2 * n ^ (r ++ [a]).length
    rw [List.length_append, List.length_singleton, Int.pow_succ, Int.pow_succ]
    generalize low (w0 * n) (w1 * d) = q at q2
    obtain ⟨x, y⟩ := q
    simp only at ew q2 ⊢
    generalize d ^ r.length = D at *
    generalize n ^ r.length = N at *
    have : w1 * (x * (D * d)) = w1 * (y * (N * n)) := by grind
    exact Int.eq_of_mul_eq_mul_left (by omega) this
theorem sums_snoc (n d a : Int) (r : List Int) : sums n d (r ++ [a]) = turn n d (sums n d r) a := by
  unfold sums
  rw [List.foldl_append]
  rfl
theorem good_sums {n d : Int} (hd : 0 < d) : ∀ (k : Nat) (r : List Int), r.length = k → Good n d r (sums n d r)
  | 0, r, h => by
    obtain rfl : r = [] := List.eq_nil_of_length_eq_zero h
    exact good_nil n d
  | k + 1, r, h => by
    have hne : r ≠ [] := fun e => by rw [e] at h; simp at h
    have e := List.dropLast_concat_getLast hne
    have := good_turn (n := n) (a := r.getLast hne) hd (good_sums hd k r.dropLast (by rw [List.length_dropLast]; omega))
    rw [← sums_snoc, e] at this
    exact this
/-- the two ways agree -/
theorem agree {n d : Int} (hd : 0 < d) (r : List Int) : low (hor n d r * d) (d ^ r.length) = (sums n d r).1 := by
  have g := good_sums (n := n) hd r.length r rfl
  have hp : 0 < d ^ r.length := Int.pow_pos hd
  obtain ⟨l, q⟩ := low_spec (a := hor n d r * d) hp
  refine low_uniq l g.lt ?_
  have et := g.et
  generalize low (hor n d r * d) (d ^ r.length) = z at *
  generalize (sums n d r).1 = t at *
  generalize d ^ r.length = D at *
  generalize hor n d r * d = P at *
  have : D * (z.1 * t.2) = D * (z.2 * t.1) := by grind
  exact Int.eq_of_mul_eq_mul_left (by omega) this
/-! sizes -/
theorem hor_size {n d : Int} (hn : n.natAbs < 2 ^ 30) (hd : d.natAbs < 2 ^ 30) : ∀ r : List Int, (∀ c ∈ r, c.natAbs < 2 ^ 200) → (hor n d r).natAbs < 2 ^ (201 + 31 * r.length)
  | [], _ => by simp [hor]
  | c :: r, h => by
    have ih := hor_size hn hd r fun x hx => h x (List.mem_cons_of_mem _ hx)
    have hc := h c List.mem_cons_self
    show (hor n d r * n + c * d ^ r.length).natAbs < 2 ^ (201 + 31 * (r.length + 1))
    have h1 : (hor n d r * n).natAbs < 2 ^ (201 + 31 * r.length + 30) := by
      rw [Int.natAbs_mul, Nat.pow_add]
      exact Nat.mul_lt_mul'' ih hn
    have h2 : (c * d ^ r.length).natAbs < 2 ^ (201 + 31 * r.length + 30) := by
      rw [Int.natAbs_mul, Int.natAbs_pow]
      have hz : d.natAbs ^ r.length ≤ 2 ^ (30 * r.length) := by
        rw [Nat.pow_mul]
        exact Nat.pow_le_pow_left (Nat.le_of_lt hd) _
      calc c.natAbs * d.natAbs ^ r.length ≤ c.natAbs * 2 ^ (30 * r.length) := Nat.mul_le_mul_left _ hz
        _ < 2 ^ 200 * 2 ^ (30 * r.length) := Nat.mul_lt_mul_of_pos_right hc (Nat.two_pow_pos _)
        _ = 2 ^ (200 + 30 * r.length) := (Nat.pow_add _ _ _).symm
        _ ≤ _ := Nat.pow_le_pow_right (by decide) (by omega)
    have h3 : (2 : Nat) ^ (201 + 31 * (r.length + 1)) = 2 * 2 ^ (201 + 31 * r.length + 30) := by
      rw [show 201 + 31 * (r.length + 1) = (201 + 31 * r.length + 30) + 1 by omega, Nat.pow_succ, Nat.mul_comm]
    have := Int.natAbs_add_le (hor n d r * n) (c * d ^ r.length)
    omega
theorem le_of_dvd {x y : Int} (h : x ∣ y) (hy : y ≠ 0) : x.natAbs ≤ y.natAbs := Nat.le_of_dvd (by omega) (Int.natAbs_dvd_natAbs.mpr h)
theorem pow_size {d : Int} (hd : d.natAbs < 2 ^ 30) (k : Nat) : (d ^ k).natAbs ≤ 2 ^ (30 * k) := by
  rw [Int.natAbs_pow, Nat.pow_mul]
  exact Nat.pow_le_pow_left (Nat.le_of_lt hd) _
structure Sized (s : (Int × Int) × (Int × Int)) : Prop where
  a : s.1.1.natAbs < 2 ^ 1700
  b : s.1.2.natAbs < 2 ^ 1700
  c : s.2.1.natAbs < 2 ^ 1700
  d : s.2.2.natAbs < 2 ^ 1700
theorem good_sized {n d : Int} {r : List Int} {s : (Int × Int) × (Int × Int)} (hd : 0 < d) (hn : n.natAbs < 2 ^ 30) (hd2 : d.natAbs < 2 ^ 30) (hr : r.length ≤ 41) (hc : ∀ c ∈ r, c.natAbs < 2 ^ 200) (g : Good n d r s) : Sized s := by
  have hp0 : 0 < d ^ r.length := Int.pow_pos hd
  have hp : d ^ r.length ≠ 0 := by omega
  have up : ∀ k, k ≤ 1600 → (2 : Nat) ^ k < 2 ^ 1700 := fun k h => Nat.pow_lt_pow_right (by decide) (by omega)
  have hD := pow_size hd2 r.length
  have hN := pow_size hn r.length
  have u1 := up (30 * r.length) (by omega)
  refine ⟨?_, ?_, ?_, ?_⟩
  · by_cases h0 : hor n d r * d = 0
    · have et := g.et
      rw [h0, Int.mul_zero] at et
      rcases Int.mul_eq_zero.mp et with e | e
      · rw [e]; exact Nat.two_pow_pos _
      · exact absurd e hp
    · have dv : s.1.1 ∣ hor n d r * d := cop_dvd (x := s.1.2) (w := d ^ r.length) (by rw [Int.gcd_comm]; exact g.lt.one) (by rw [← g.et])
      have h1 := le_of_dvd dv h0
      have h2 := hor_size hn hd2 r hc
      have h3 : (hor n d r * d).natAbs < 2 ^ (201 + 31 * r.length + 30) := by
        rw [Int.natAbs_mul, Nat.pow_add]
        exact Nat.mul_lt_mul'' h2 hd2
      have := up (201 + 31 * r.length + 30) (by omega)
      omega
  · have dv : s.1.2 ∣ d ^ r.length := cop_dvd g.lt.one g.et
    have := le_of_dvd dv hp
    omega
  · by_cases h0 : n ^ r.length = 0
    · have ew := g.ew
      rw [h0, Int.mul_zero] at ew
      rcases Int.mul_eq_zero.mp ew with e | e
      · rw [e]; exact Nat.two_pow_pos _
      · exact absurd e hp
    · have dv : s.2.1 ∣ n ^ r.length := cop_dvd (x := s.2.2) (w := d ^ r.length) (by rw [Int.gcd_comm]; exact g.lw.one) (by rw [← g.ew])
      have := le_of_dvd dv h0
      omega
  · have dv : s.2.2 ∣ d ^ r.length := cop_dvd g.lw.one g.ew
    have := le_of_dvd dv hp
    omega
end M2

set_option Elab.async false
set_option linter.all false
set_option maxRecDepth 100000
set_option maxHeartbeats 4000000
namespace Z
open PySem PySem.Spec PyProof.Rows L2 GG
def top (i : Nat) : Stmt := PySem.Challenge.pw_bentcoin_k02_worths_of_rows.main.body.getD i (.Pass ⟨0, 0, 0, 0⟩)
abbrev sPen : Stmt := top 5
abbrev sFresh : Stmt := top 6
abbrev sDraw : Stmt := top 7
abbrev sStrip : Stmt := top 8
abbrev sCoef : Stmt := top 9
abbrev sPoly : Stmt := top 10
/-- what follows an if, once for all ways to it -/
theorem if_tail {c : TT} {a b : TS} {D : Ends} {σ : L2.St} {H : Hp} (W : L2.St → Hp → Prop) (tail : ∀ σ H, W σ H → D.nx σ H) (go : (∀ σ H, W σ H → D.nx σ H) → tIfS c a b D σ H) : tIfS c a b D σ H := go tail
theorem on {t u : TS} {D : Ends} {σ : L2.St} {H : Hp} (h : t { D with nx := u D } σ H) : tSeq t u D σ H := h
theorem put_c {v : V} {i : Nat} {D : Ends} {σ : L2.St} {H : Hp} (h : D.nx (σ.set i (some v)) H) : tAsg (tC v) (gName i) D σ H := h
/-! heaps -/
theorem Same.upd {H : Hp} {p : Addr} {o : HO} (h : H p = none) : Same H (L2.upd H p o) := fun b x e => by
  rw [upd_ne (ne_of_none e h)]
  exact e
/-- all that was told of stands, but what is at a -/
def But (a : Addr) (H H' : Hp) : Prop := ∀ b o, H b = some o → b ≠ a → H' b = some o
theorem But.refl (a : Addr) (H : Hp) : But a H H := fun _ _ e _ => e
theorem But.trans {a : Addr} {H H1 H2 : Hp} (x : But a H H1) (y : But a H1 H2) : But a H H2 := fun b o e n => y b o (x b o e n) n
theorem But.of {a : Addr} {H H1 : Hp} (x : Same H H1) : But a H H1 := fun b o e _ => x b o e
theorem But.put {a : Addr} {H : Hp} {o : HO} : But a H (L2.upd H a o) := fun b u e n => by
  rw [upd_ne n]
  exact e
theorem But.free {a : Addr} {H H' : Hp} {l : Addr} (e : But a H H') (n : l ≠ a) (h : H' l = none) : H l = none := by
  cases q : H l with
  | none => rfl
  | some o =>
    rw [e l o q n] at h
    cases h
theorem But.same {a : Addr} {H H0 H' : Hp} (s : Same H0 H) (n : H0 a = none) (b : But a H H') : Same H0 H' := fun c o e => b c o (s c o e) (ne_of_none e n)
theorem But.seq {a c : Addr} {K : PySem.W.Frag} {H H' : Hp} {xs : List V} (e : But a H H') (n : c ≠ a) (h : SqL K H c xs) : SqL K H' c xs := by
  rcases h with (h | ⟨o, h⟩) | h
  · exact .inl (.inl (e _ _ h n))
  · exact .inl (.inr ⟨o, e _ _ h n⟩)
  · exact .inr h
/-- a pen stands at a -/
def Pen (H : Hp) (a l : Addr) : Prop := ∃ (cs : List Int) (pos val : Int), H a = some (.lst [.ref l, .int pos, .int val]) ∧ H l = some (.lst (cs.map V.int)) ∧ 0 ≤ pos
theorem Pen.ne {H : Hp} {a l : Addr} {cs : List Int} {p v : Int} (h : H a = some (.lst [.ref l, .int p, .int v])) (e : H l = some (.lst (cs.map V.int))) : l ≠ a := by
  intro z
  subst z
  rw [h] at e
  cases cs with
  | nil => cases e
  | cons x r => cases e
theorem Pen.put {H : Hp} {a l : Addr} {cs : List Int} {p v q u : Int} (h : H a = some (.lst [.ref l, .int p, .int v])) (e : H l = some (.lst (cs.map V.int))) (hq : 0 ≤ q) : Pen (upd H a (.lst [.ref l, .int q, .int u])) a l :=
  ⟨cs, q, u, upd_same, by rw [upd_ne (Pen.ne h e)]; exact e, hq⟩
theorem Pen.same {H H' : Hp} {a l : Addr} (p : Pen H a l) (s : Same H H') : Pen H' a l := by
  obtain ⟨cs, q, v, h1, h2, h3⟩ := p
  exact ⟨cs, q, v, s _ _ h1, s _ _ h2, h3⟩
theorem dpInts {K : PySem.W.Frag} {H : Hp} : ∀ ns : List Int, DpAll K H (ns.map V.int) (ns.map PyData.int)
  | [] => .nil
  | n :: r => .cons (.int n) (dpInts r)
theorem cut_to {α : Type} (xs : List V) (n : Nat) : ∃ m, cutV xs none (some (n : Int)) = xs.take m := ⟨_, by unfold cutV; rw [HT.sIx_none]; rfl⟩
/-- a row without the zeros at its end -/
def strip (l : List Int) : List Int := (l.reverse.dropWhile (· == 0)).reverse
theorem strip_nil : strip [] = [] := rfl
theorem strip_zero (l : List Int) : strip (l ++ [0]) = strip l := by
  unfold strip
  rw [List.reverse_append]
  rfl
theorem strip_last {l : List Int} {z : Int} (h : z ≠ 0) : strip (l ++ [z]) = l ++ [z] := by
  unfold strip
  rw [List.reverse_append]
  show (List.dropWhile (· == 0) (z :: l.reverse)).reverse = _
  rw [List.dropWhile_cons_of_neg (by simpa using h), List.reverse_cons, List.reverse_reverse]
theorem strip_mem {l : List Int} {c : Int} (h : c ∈ strip l) : c ∈ l := by
  unfold strip at h
  rw [List.mem_reverse] at h
  exact List.mem_reverse.mp ((List.dropWhile_sublist _).subset h)
theorem strip_len (l : List Int) : (strip l).length ≤ l.length := by
  unfold strip
  rw [List.length_reverse]
  have := (List.dropWhile_sublist (· == 0) (l := l.reverse)).length_le
  rwa [List.length_reverse] at this
theorem strip_strip (l : List Int) : strip (strip l) = strip l := by
  rcases List.eq_nil_or_concat (strip l) with e | ⟨r, z, e⟩
  · rw [e]; rfl
  · rw [List.concat_eq_append] at e
    by_cases h : z = 0
    · exfalso
      have e2 : l.reverse.dropWhile (· == 0) = z :: r.reverse := by
        have := congrArg List.reverse e
        unfold strip at this
        rw [List.reverse_reverse, List.reverse_append] at this
        exact this
      have := List.head?_dropWhile_not (p := fun x : Int => x == 0) (l := l.reverse)
      rw [e2] at this
      simp [h] at this
    · rw [e, strip_last h]
theorem eqv_nil : ∀ {xs : List Int}, xs ≠ [] → (!PyData.eqv (.list (xs.map PyData.int)) (.list [])) = true
  | [], h => absurd rfl h
  | _ :: _, _ => rfl
structure Names (mg : Str → Option Value) : Prop where
  list : mg "list" = none
  tuple : mg "tuple" = none
  len : mg "len" = none
  range : mg "range" = none
section
variable {P : Program} {w : World} {K : PySem.W.Frag} {mg : Str → Option Value} {base : Heap}
/-! ### the pen -/
def spPen (K : PySem.W.Frag) : Sp := fun vs H Q _ => ∃ (s : Addr) (ns : List Int), vs = [.ref s] ∧ SqL K H s (ns.map V.int) ∧ ns.length ≤ 63 ∧ ∀ p l H', Same H H' → H p = none → H l = none → Pen H' p l → Q (.ref p) H'
theorem scPen : FnScope ["script"] ["script"] (defScope sPen) := ⟨rfl, rfl, rfl, by decide +kernel, rfl, by decide +kernel, by decide +kernel⟩
theorem ok_pen {f : Addr} {fd : FuncData} (F : Fun K "_law_pen" "_law_pen" sPen f fd) (T : Names mg) : FnOk P w K mg base CX0 1 f fd ["script"] (spPen K) := by
  refine F.ok scPen (fun vs H Q E h => ?_) (fun cdv A outer s H vs Q E hr h => ?_)
  · obtain ⟨a, ns, rfl, _⟩ := h
    rfl
  · obtain ⟨a, ns, rfl, hS, hlen, q⟩ := h
    refine ⟨_, pss_one (ps_ret (pe_lst (pa_cons (pe_callTy call_list_of (by rfl) T.list (by decide +kernel) (pa_cons (pe_slice sl_list (pv 0) po_none (po_some pe_int)) pa_nil)) (pa_cons pe_int (pa_cons pe_int pa_nil))))), ?_⟩
    refine ⟨.ref a, rfl, 63, rfl, a, _, rfl, hS, fun c nc => ?_⟩
    refine ⟨c, _, rfl, .inl (.inl (.inl upd_same)), fun l nl => ?_⟩
    refine ⟨by show 3 ≤ sizeLine; decide, fun p np => ?_⟩
    obtain ⟨m, em⟩ := cut_to (α := Int) (ns.map V.int) 63
    have em : cutV (ns.map V.int) none (some 63) = (ns.map V.int).take m := em
    have lp : l ≠ p := ne_of_none upd_same np
    have h1 := (Same.trans (Same.upd (o := .lst (cutV (ns.map V.int) none (some 63))) nc) (Same.trans (Same.upd (o := .lst (cutV (ns.map V.int) none (some 63))) nl) (Same.upd (o := .lst [.ref l, .int 0, .int 0]) np)))
    refine q p l _ h1 (Same.free (Same.trans (Same.upd nc) (Same.upd nl)) np) (Same.free (Same.upd nc) nl) ⟨ns.take m, 0, 0, upd_same, ?_, by decide⟩
    rw [upd_ne lp, upd_same, em, List.map_take]
/-! ### a fresh number -/
def spFresh : Sp := fun vs H Q _ => ∃ (a l : Addr), vs = [.ref a] ∧ Pen H a l ∧ ∀ (v : Int) H', But a H H' → Pen H' a l → Q (.int v) H'
theorem scFresh : FnScope ["pen", "position", "cell", "modulus", "state", "mixed", "step"] ["pen"] (defScope sFresh) := ⟨rfl, rfl, rfl, by decide +kernel, rfl, by decide +kernel, by decide +kernel⟩
theorem ok_fresh {f : Addr} {fd : FuncData} (F : Fun K "_law_fresh" "_law_fresh" sFresh f fd) (T : Names mg) : FnOk P w K mg base CX0 1 f fd ["pen"] spFresh := by
  refine F.ok scFresh (fun vs H Q E h => ?_) (fun cdv A outer s H vs Q E hr h => ?_)
  · obtain ⟨a, l, rfl, _⟩ := h
    rfl
  · obtain ⟨a, l, rfl, ⟨cs, pos, val, ha, hl, hp⟩, q⟩ := h
    have hu : A.units + 3 + 64 < cLine := hr.units
    refine ⟨_, pss_cons (ps_set (i := 1) scFresh.nd rfl (.inl rfl) (pe_ix ix_list (pv 0) pe_int (fun _ _ => rfl)))
      (pss_cons (ps_asg (pe_op op_add (pv 1) pe_int) (pg_sub (pv 0) pe_int set_list))
      (pss_cons (ps_set (i := 2) scFresh.nd rfl (.inl rfl) pe_int)
      (pss_cons (ps_if (pt_cmpR (op_neD hu) (pe_ix ix_list (pv 0) pe_int (fun _ _ => rfl)) (pe_lst pa_nil) (nomark _))
        (pss_one (ps_set (i := 2) scFresh.nd rfl (.inl rfl) (pe_ix ix_list (pe_ix ix_list (pv 0) pe_int (fun _ _ => rfl)) (pe_op op_mod (pv 1) (pe_callB call_len_seq (by rfl) T.len PySem.boot_len (pa_cons (pe_ix ix_list (pv 0) pe_int (fun _ _ => rfl)) pa_nil))) (fun _ _ => rfl)))) pss_nil)
      (pss_cons (ps_if (PW.pt (pw_and (pt_cmpR op_lt (pv 1) (pe_callB call_len_seq (by rfl) T.len PySem.boot_len (pa_cons (pe_ix ix_list (pv 0) pe_int (fun _ _ => rfl)) pa_nil)) (nomark _)) (pw_and1 (pt_cmpR op_ge (pv 2) (pe_op op_pow pe_int pe_int) (nomark _)))))
        (pss_one (ps_ret (pe_op op_sub (pv 2) (pe_op op_pow pe_int pe_int)))) pss_nil)
      (pss_cons (ps_set (i := 3) scFresh.nd rfl (.inl rfl) pe_int)
      (pss_cons (ps_set (i := 4) scFresh.nd rfl (.inl rfl) (pe_op op_mod (pe_op op_add (pe_op op_add (pe_op op_mul (pv 2) pe_int) (pe_op op_mul pe_int (pv 1))) pe_int) (pv 3)))
      (pss_cons (ps_set (i := 5) scFresh.nd rfl (.inl rfl) (pv 4))
      (pss_cons (ps_for PassesOwn.never rfl (pi_range1 rfl T.range (pa_cons pe_int pa_nil)) (pg_name (i := 6) scFresh.nd rfl (.inl rfl))
        (pss_cons (ps_set (i := 4) scFresh.nd rfl (.inl rfl) (pe_op op_add (pe_op op_mul (pv 4) (pv 4)) (pe_op op_mul (pe_op op_mul pe_int (pe_op op_add (pv 6) pe_int)) (pe_op op_add (pv 1) pe_int))))
        (pss_cons (ps_set (i := 4) scFresh.nd rfl (.inl rfl) (pe_op op_mod (pe_op op_add (pv 4) (pv 2)) (pv 3)))
        (pss_one (ps_set (i := 5) scFresh.nd rfl (.inl rfl) (pe_op op_add (pe_op op_mul (pv 5) (pv 3)) (pv 4)))))))
      (pss_one (ps_ret (pv 5))))))))))), ?_⟩
    -- position = pen[1]; pen[1] = position + 1; cell = 0
    refine ⟨.ref a, rfl, a, _, 1, .int pos, rfl, rfl, SqL.of ha, atI_nat (j := 1) rfl, ?_⟩
    refine ⟨_, rfl, _, _, rfl, rfl, .ref a, rfl, a, _, 1, 1, rfl, rfl, ha, rfl, ?_⟩
    have ha1 : upd H a (.lst [.ref l, .int (pos + 1), .int val]) a = some (.lst [.ref l, .int (pos + 1), .int val]) := upd_same
    have hl1 : upd H a (.lst [.ref l, .int (pos + 1), .int val]) l = some (.lst (cs.map V.int)) := by
      rw [upd_ne (Pen.ne ha hl)]
      exact hl
    have b1 : But a H (upd H a (.lst [.ref l, .int (pos + 1), .int val])) := But.put
    change (_ : Hp → Prop) (upd H a (.lst [.ref l, .int (pos + 1), .int val]))
    generalize upd H a (.lst [.ref l, .int (pos + 1), .int val]) = H1 at ha1 hl1 b1 ⊢
    -- if pen[0] != []
    have ec : cs = [] ∨ ∃ x r, cs = x :: r := by
      cases cs with
      | nil => exact .inl rfl
      | cons x r => exact .inr ⟨x, r, rfl⟩
    dsimp only
    refine on (put_c ?_)
    dsimp only
    refine on (if_tail (fun σ H' => ∃ cell : Int, σ = [some (V.ref a), some (V.int pos), some (V.int cell), none, none, none, none] ∧ Same H1 H') ?_ (fun t => ?_))
    rotate_left
    · refine ⟨.ref a, rfl, a, _, 0, .ref l, rfl, rfl, SqL.of ha1, atI_nat (j := 0) rfl, Nat.zero_le _, fun e0 ne0 => ?_⟩
      have s2 : Same H1 (upd H1 e0 (.lst [])) := Same.upd ne0
      have ha2 := s2 _ _ ha1
      have hl2 := s2 _ _ hl1
      have d0 : Dp K (upd H1 e0 (.lst [])) (.ref e0) (.list []) := .lst (SqL.of upd_same) .nil
      generalize upd H1 e0 (.lst []) = H2 at s2 ha2 hl2 d0 ⊢
      refine ⟨.list (cs.map PyData.int), .list [], .lst (SqL.of hl2) (dpInts cs), d0, PySem.W.ke_shaped_ints cs, rfl, _, rfl, ?_⟩
      rcases ec with rfl | ⟨x, r, rfl⟩
      · exact iteF (t _ _ ⟨0, rfl, s2⟩)
      · refine iteT ?_
        have hpos : pos % (((x :: r).length : Nat) : Int) < ((x :: r).length : Nat) ∧ 0 ≤ pos % (((x :: r).length : Nat) : Int) := by
          have : (0 : Int) < ((x :: r).length : Nat) := by rw [List.length_cons]; omega
          exact ⟨Int.emod_lt_of_pos _ this, Int.emod_nonneg _ (by omega)⟩
        obtain ⟨j, ej⟩ : ∃ j : Nat, pos % (((x :: r).length : Nat) : Int) = (j : Int) := ⟨(pos % (((x :: r).length : Nat) : Int)).toNat, by omega⟩
        have hj : j < (x :: r).length := by omega
        refine ⟨.ref a, rfl, a, _, 0, .ref l, rfl, rfl, SqL.of ha2, atI_nat (j := 0) rfl, .int pos, rfl, .ref a, rfl, a, _, 0, .ref l, rfl, rfl, SqL.of ha2, atI_nat (j := 0) rfl, l, _, rfl, .inl (SqL.of hl2), _, _, rfl, rfl, ?_, ?_⟩
        · show (0 : Int) < _
          rw [List.length_map, List.length_cons]
          omega
        · refine ⟨l, _, _, .int (x :: r)[j], rfl, rfl, SqL.of hl2, ?_, t _ _ ⟨_, rfl, s2⟩⟩
          rw [List.length_map, ej]
          exact atI_nat (by rw [List.getElem?_map, List.getElem?_eq_getElem hj]; rfl)
    · rintro σ H' ⟨cell, rfl, s2⟩
      have ha2 := s2 _ _ ha1
      have hl2 := s2 _ _ hl1
      have b2 : But a H H' := b1.trans (But.of s2)
      have p2 : Pen H' a l := ⟨cs, pos + 1, val, ha2, hl2, by omega⟩
      -- if position < len(pen[0]) and cell >= 10 ** 18: return cell - 10 ** 18
      dsimp only
      refine on (if_tail (fun σ H3 => σ = [some (V.ref a), some (V.int pos), some (V.int cell), none, none, none, none] ∧ H3 = H') ?_ (fun t => ?_))
      rotate_left
      · refine ⟨_, rfl, .ref a, rfl, a, _, 0, .ref l, rfl, rfl, SqL.of ha2, atI_nat (j := 0) rfl, l, _, rfl, .inl (SqL.of hl2), _, _, rfl, rfl, _, rfl, ite2 (fun _ => ?_) (fun _ => iteF (t _ _ ⟨rfl, rfl⟩))⟩
        refine ⟨_, rfl, _, _, rfl, rfl, ⟨by decide, by decide, by decide⟩, _, _, rfl, rfl, _, rfl, ite2 (fun _ => ?_) (fun _ => t _ _ ⟨rfl, rfl⟩)⟩
        exact ⟨_, rfl, _, _, rfl, rfl, ⟨by decide, by decide, by decide⟩, _, _, rfl, rfl, q _ _ b2 p2⟩
      · rintro σ H3 ⟨rfl, rfl⟩
        -- state, mixed, the six turns
        refine ⟨_, rfl, _, _, rfl, rfl, .inr ⟨by decide, by decide⟩, _, rfl, _, _, rfl, rfl, .inl ⟨by decide, by decide⟩, _, _, rfl, rfl, _, _, rfl, rfl, _, rfl, _, _, rfl, rfl, (by show (0 : Int) < 2305843009213693951; decide), _, rfl,
          6, rfl, by decide, by decide, for_range (lo := 0) (n := 6) (fun i σ H4 => ∃ (st mx : Int) (v : Option V), σ = [some (V.ref a), some (V.int pos), some (V.int cell), some (V.int 2305843009213693951), some (V.int st), some (V.int mx), v] ∧ H4 = H3 ∧ 0 ≤ st ∧ st < 2305843009213693951)
            ⟨_, _, none, rfl, rfl, Int.emod_nonneg _ (by decide), Int.emod_lt_of_pos _ (by decide)⟩ ?_ ?_⟩
        · rintro i σ H4 hi ⟨st, mx, v, rfl, rfl, h0, h1⟩
          refine ⟨_, rfl, _, rfl, _, _, rfl, rfl, .inl ⟨by omega, by omega⟩, _, rfl, _, _, rfl, rfl, _, _, rfl, rfl, .inl ⟨by decide, by decide⟩, _, rfl, _, _, rfl, rfl, _, _, rfl, rfl, .inl ⟨by show -(2 ^ 64) < (69621 : Int) * (0 + (i : Int) + 1); omega, by show (69621 : Int) * (0 + (i : Int) + 1) < 2 ^ 64; omega⟩, _, _, rfl, rfl,
            _, rfl, _, rfl, _, _, rfl, rfl, _, rfl, _, _, rfl, rfl, (by show (0 : Int) < 2305843009213693951; decide), _, rfl, _, rfl, _, _, rfl, rfl, .inr ⟨by decide, by decide⟩, _, rfl, _, _, rfl, rfl, ?_⟩
          exact ⟨_, _, _, rfl, rfl, Int.emod_nonneg _ (by decide), Int.emod_lt_of_pos _ (by decide)⟩
        · rintro σ H4 ⟨st, mx, v, rfl, rfl, h0, h1⟩
          exact ⟨_, rfl, q _ _ b2 p2⟩
/-! ### a number below a bound -/
def spDraw : Sp := fun vs H Q _ => ∃ (a l : Addr) (b : Int), vs = [.ref a, .int b] ∧ Pen H a l ∧ 0 < b ∧ b.natAbs.log2 < 9000 ∧ ∀ (d : Int) H', 0 ≤ d → d < b → But a H H' → Pen H' a l → Q (.int d) H'
theorem scDraw : FnScope ["pen", "bound", "digit"] ["pen", "bound"] (defScope sDraw) := ⟨rfl, rfl, rfl, by decide +kernel, rfl, by decide +kernel, by decide +kernel⟩
theorem ok_draw {f g : Addr} {fd gd : FuncData} (F : Fun K "_law_draw" "_law_draw" sDraw f fd) (GF : FnOk P w K mg base CX0 1 g gd ["pen"] spFresh) (mF : mg "_law_fresh" = some (.ref g)) (kF : PySem.W.keepIn K (.ref g) = true) (bF : Binds K gd ["pen"] []) :
    FnOk P w K mg base CX0 2 f fd ["pen", "bound"] spDraw := by
  refine F.ok scDraw (fun vs H Q E h => ?_) (fun cdv A outer s H vs Q E hr h => ?_)
  · obtain ⟨a, l, b, rfl, _⟩ := h
    rfl
  · obtain ⟨a, l, b, rfl, pn, hb, hb2, q⟩ := h
    refine ⟨_, pss_cons (ps_if (pt_cmpR op_lt (pe_ix ix_list (pv 0) pe_int (fun _ _ => rfl)) (pv 1) (nomark _))
        (pss_one (ps_asg (pe_call GF hr (by rfl) mF kF bF .nil pass0 (pa_cons (pv 0) pa_nil)) (pg_sub (pv 0) pe_int set_list))) pss_nil)
      (pss_cons (ps_set (i := 2) scDraw.nd rfl (.inl rfl) (pe_op op_mod (pe_ix ix_list (pv 0) pe_int (fun _ _ => rfl)) (pv 1)))
      (pss_cons (ps_asg (pe_op op_fdivW (pe_ix ix_list (pv 0) pe_int (fun _ _ => rfl)) (pv 1)) (pg_sub (pv 0) pe_int set_list))
      (pss_one (ps_ret (pv 2))))), ?_⟩
    refine on (if_tail (fun σ H' => σ = [some (V.ref a), some (V.int b), none] ∧ Pen H' a l ∧ But a H H') ?_ (fun t => ?_))
    rotate_left
    · obtain ⟨cs, pos, val, ha, hl, hp⟩ := id pn
      refine ⟨.ref a, rfl, a, _, 2, .int val, rfl, rfl, SqL.of ha, atI_nat (j := 2) rfl, _, rfl, _, _, rfl, rfl, _, rfl, ite2 (fun _ => ?_) (fun _ => t _ _ ⟨rfl, pn, But.refl _ _⟩)⟩
      refine ⟨.ref a, rfl, a, l, rfl, pn, fun v H1 b1 p1 => ?_⟩
      obtain ⟨cs, pos, val, ha, hl, hp⟩ := p1
      exact ⟨.ref a, rfl, a, _, 2, 2, rfl, rfl, ha, rfl, t _ _ ⟨rfl, Pen.put ha hl hp, b1.trans But.put⟩⟩
    · rintro σ H1 ⟨rfl, ⟨cs, pos, val, ha, hl, hp⟩, b1⟩
      refine ⟨.ref a, rfl, a, _, 2, .int val, rfl, rfl, SqL.of ha, atI_nat (j := 2) rfl, _, rfl, _, _, rfl, rfl, hb, .ref a, rfl, a, _, 2, .int val, rfl, rfl, SqL.of ha, atI_nat (j := 2) rfl, _, rfl, _, _, rfl, rfl, ⟨hb, hb2⟩, .ref a, rfl, a, _, 2, 2, rfl, rfl, ha, rfl, _, rfl, ?_⟩
      exact q _ _ (Int.emod_nonneg _ (by omega)) (Int.emod_lt_of_pos _ hb) (b1.trans But.put) (Pen.put ha hl hp)
/-! ### zeros at the end -/
def spStrip (K : PySem.W.Frag) : Sp := fun vs H Q _ => ∃ (a : Addr) (ns : List Int), vs = [.ref a] ∧ (SqL K H a (ns.map V.int) ∨ SqT K H a (ns.map V.int)) ∧ ∀ p H', Same H H' → H p = none → H' p = some (.tup ((strip ns).map V.int)) → Q (.ref p) H'
theorem scStrip : FnScope ["numbers", "result"] ["numbers"] (defScope sStrip) := ⟨rfl, rfl, rfl, by decide +kernel, rfl, by decide +kernel, by decide +kernel⟩
theorem ok_strip {f : Addr} {fd : FuncData} (F : Fun K "_law_strip" "_law_strip" sStrip f fd) (T : Names mg) : FnOk P w K mg base CX0 1 f fd ["numbers"] (spStrip K) := by
  refine F.ok scStrip (fun vs H Q E h => ?_) (fun cdv A outer s H vs Q E hr h => ?_)
  · obtain ⟨a, ns, rfl, _⟩ := h
    rfl
  · obtain ⟨a, ns, rfl, hS, q⟩ := h
    have hu : A.units + 3 + 64 < cLine := hr.units
    refine ⟨_, pss_cons (ps_set (i := 1) scStrip.nd rfl (.inl rfl) (pe_callTy call_list_of (by rfl) T.list (by decide +kernel) (pa_cons (pv 0) pa_nil)))
      (pss_cons (ps_while PassesOwn.never (PW.pt (pw_and (pt_cmpR (op_neD hu) (pv 1) (pe_lst pa_nil) (nomark _)) (pw_and1 (pt_cmpR op_eq (pe_ix ix_list (pv 1) (pe_un un_neg pe_int) (fun _ _ => rfl)) pe_int (nomark _)))))
        (pss_one (ps_expr (pe_bm0 PySem.F.plainAttrs_list PySem.F.slot_list_pop PySem.F.type_list_pop mt_pop (pv 1)))))
      (pss_one (ps_ret (pe_callTy call_tuple_of (by rfl) T.tuple (by decide +kernel) (pa_cons (pv 1) pa_nil))))), ?_⟩
    refine ⟨.ref a, rfl, a, _, rfl, hS, fun l nl => ?_⟩
    have s1 : Same H (upd H l (.lst (ns.map V.int))) := Same.upd nl
    refine ⟨fun n σ H' => ∃ xs : List Int, n = xs.length ∧ σ = [some (V.ref a), some (V.ref l)] ∧ Same H H' ∧ H' l = some (.lst (xs.map V.int)) ∧ strip xs = strip ns, ⟨ns.length, ns, rfl, rfl, s1, upd_same, rfl⟩, ?_⟩
    rintro n σ H' ⟨xs, rfl, rfl, s2, hl, ex⟩
    refine ⟨.ref l, rfl, Nat.zero_le _, fun e ne => ?_⟩
    have s3 : Same H' (upd H' e (.lst [])) := Same.upd ne
    have hl3 := s3 _ _ hl
    have de : Dp K (upd H' e (.lst [])) (.ref e) (.list []) := .lst (SqL.of upd_same) .nil
    generalize upd H' e (.lst []) = H3 at s3 hl3 de ⊢
    refine ⟨.list (xs.map PyData.int), .list [], .lst (SqL.of hl3) (dpInts xs), de, PySem.W.ke_shaped_ints xs, rfl, _, rfl, ?_⟩
    have fin : ∀ ys : List Int, H3 l = some (.lst (ys.map V.int)) → strip ns = ys → ∀ p, H3 p = none → Q (.ref p) (upd H3 p (.tup (ys.map V.int))) := fun ys hy e1 p np =>
      q p _ ((s2.trans s3).trans (Same.upd np)) ((s2.trans s3).free np) (by rw [upd_same, e1])
    rcases List.eq_nil_or_concat xs with rfl | ⟨ys, z, rfl⟩
    · exact iteF (iteF ⟨.ref l, rfl, l, _, rfl, .inl ⟨SqL.of hl3, fin [] hl3 (by rw [← ex]; rfl)⟩⟩)
    · rw [List.concat_eq_append] at *
      rw [eqv_nil (by simp)]
      refine iteT ?_
      have em : ((ys ++ [z]).map V.int) = ys.map V.int ++ [V.int z] := by rw [List.map_append]; rfl
      refine ⟨.ref l, rfl, 1, rfl, l, _, -1, .int z, rfl, rfl, SqL.of hl3, by rw [em]; exact atI_last _ _, rfl, _, rfl, ?_⟩
      by_cases hz : z = 0
      · subst hz
        rw [decide_eq_true rfl]
        refine iteT ⟨fun σ H4 => ∃ xs : List Int, xs.length < (ys ++ [(0 : Int)]).length ∧ σ = [some (V.ref a), some (V.ref l)] ∧ Same H H4 ∧ H4 l = some (.lst (xs.map V.int)) ∧ strip xs = strip ns, ?_, ?_⟩
        · rintro σ H4 ⟨xs, lt, e1, e2, e3, e4⟩
          exact ⟨xs.length, lt, xs, rfl, e1, e2, e3, e4⟩
        · refine ⟨.ref l, rfl, .inl ⟨rfl, _, SqL.of hl3⟩, l, _, .int 0, rfl, rfl, hl3, ?_, ys, by simp, rfl, ?_, ?_, by rw [← ex, strip_zero]⟩
          · rw [em]
            simp
          · exact fun b o e => by rw [upd_ne (ne_of_none e nl)]; exact s3 _ _ (s2 _ _ e)
          · rw [upd_same, em, List.dropLast_concat]
      · rw [decide_eq_false (by intro e; exact hz (V.int.inj e))]
        exact iteF ⟨.ref l, rfl, l, _, rfl, .inl ⟨SqL.of hl3, fin _ hl3 (by rw [← ex, strip_last hz])⟩⟩
/-! ### a coefficient, a row of them -/
theorem But.mem {a p : Addr} {H H' : Hp} {o : HO} (b : But a H H') (n : p ≠ a) (e : H p = some o) : H' p = some o := b p o e n
/-- picking one of some ints by a number that is drawn -/
theorem pick {M : Nat} {zs : List Int} (h : ∀ z ∈ zs, z.natAbs < M) {d : Int} (h0 : 0 ≤ d) (h1 : d < zs.length) : ∃ z : Int, atI (zs.map V.int) d = some (.int z) ∧ z ∈ zs ∧ z.natAbs < M := by
  obtain ⟨j, rfl⟩ : ∃ j : Nat, d = (j : Int) := ⟨d.toNat, by omega⟩
  have hj : j < zs.length := by omega
  refine ⟨zs[j], atI_nat (by rw [List.getElem?_map, List.getElem?_eq_getElem hj]; rfl), List.getElem_mem hj, h _ (List.getElem_mem hj)⟩
def spCoef : Sp := fun vs H Q _ => ∃ (a l : Addr), vs = [.ref a] ∧ Pen H a l ∧ ∀ (c : Int) H', c.natAbs < 200 → But a H H' → Pen H' a l → Q (.int c) H'
theorem scCoef : FnScope ["pen", "size"] ["pen"] (defScope sCoef) := ⟨rfl, rfl, rfl, by decide +kernel, rfl, by decide +kernel, by decide +kernel⟩
theorem ok_coef {f g : Addr} {fd gd : FuncData} (F : Fun K "_law_coefficient" "_law_coefficient" sCoef f fd) (GD : FnOk P w K mg base CX0 2 g gd ["pen", "bound"] spDraw) (mD : mg "_law_draw" = some (.ref g)) (kD : PySem.W.keepIn K (.ref g) = true) (bD : Binds K gd ["pen", "bound"] []) :
    FnOk P w K mg base CX0 3 f fd ["pen"] spCoef := by
  refine F.ok scCoef (fun vs H Q E h => ?_) (fun cdv A outer s H vs Q E hr h => ?_)
  · obtain ⟨a, l, rfl, _⟩ := h
    rfl
  · obtain ⟨a, l, rfl, pn, q⟩ := h
    refine ⟨_, pss_cons (ps_set (i := 1) scCoef.nd rfl (.inl rfl) (pe_ix ix_list (pe_lst
        (pa_cons (pe_call GD hr (by rfl) mD kD bD .nil pass0 (pa_cons (pv 0) (pa_cons pe_int pa_nil)))
        (pa_cons (pe_call GD hr (by rfl) mD kD bD .nil pass0 (pa_cons (pv 0) (pa_cons pe_int pa_nil)))
        (pa_cons (pe_call GD hr (by rfl) mD kD bD .nil pass0 (pa_cons (pv 0) (pa_cons pe_int pa_nil)))
        (pa_cons (pe_call GD hr (by rfl) mD kD bD .nil pass0 (pa_cons (pv 0) (pa_cons pe_int pa_nil)))
        (pa_cons pe_int pa_nil)))))) (pe_call GD hr (by rfl) mD kD bD .nil pass0 (pa_cons (pv 0) (pa_cons pe_int pa_nil))) (fun _ _ => rfl)))
      (pss_one (ps_ret (pe_op op_mul (pv 1) (pe_ix ix_list (pe_lst (pa_cons pe_int (pa_cons (pe_un un_neg pe_int) pa_nil))) (pe_call GD hr (by rfl) mD kD bD .nil pass0 (pa_cons (pv 0) (pa_cons pe_int pa_nil))) (fun _ _ => rfl))))), ?_⟩
    refine ⟨.ref a, rfl, a, l, 4, rfl, pn, by decide, by decide +kernel, fun d1 H1 l1 u1 b1 p1 => ?_⟩
    refine ⟨.ref a, rfl, a, l, 3, rfl, p1, by decide, by decide +kernel, fun d2 H2 l2 u2 b2 p2 => ?_⟩
    refine ⟨.ref a, rfl, a, l, 12, rfl, p2, by decide, by decide +kernel, fun d3 H3 l3 u3 b3 p3 => ?_⟩
    refine ⟨.ref a, rfl, a, l, 200, rfl, p3, by decide, by decide +kernel, fun d4 H4 l4 u4 b4 p4 => ?_⟩
    refine ⟨by show 5 ≤ sizeLine; decide, fun e ne => ?_⟩
    have s5 : Same H4 (upd H4 e (.lst [.int d1, .int d2, .int d3, .int d4, .int 0])) := Same.upd ne
    have b5 : But a H (upd H4 e (.lst [.int d1, .int d2, .int d3, .int d4, .int 0])) := (((b1.trans b2).trans b3).trans b4).trans (But.of s5)
    have p5 := p4.same s5
    have nea : e ≠ a := by
      obtain ⟨cs, pos, val, ha, _⟩ := p4
      exact (ne_of_none ha ne).symm
    have he : upd H4 e (.lst [.int d1, .int d2, .int d3, .int d4, .int 0]) e = some (.lst ([d1, d2, d3, d4, 0].map V.int)) := upd_same
    generalize upd H4 e (.lst [.int d1, .int d2, .int d3, .int d4, .int 0]) = H5 at b5 p5 he ⊢
    refine ⟨.ref a, rfl, a, l, 5, rfl, p5, by decide, by decide +kernel, fun d5 H6 l5 u5 b6 p6 => ?_⟩
    obtain ⟨z, hz, _, hz2⟩ := pick (M := 200) (zs := [d1, d2, d3, d4, 0]) (d := d5) (by
      intro z hz
      simp only [List.mem_cons, List.not_mem_nil, or_false] at hz
      omega) l5 (by show d5 < 5; omega)
    refine ⟨e, _, _, .int z, rfl, rfl, SqL.of (b6.mem nea he), hz, ?_⟩
    refine ⟨_, rfl, 1, rfl, by show 2 ≤ sizeLine; decide, fun e2 ne2 => ?_⟩
    have s7 : Same H6 (upd H6 e2 (.lst [.int 1, .int (-1)])) := Same.upd ne2
    have p7 := p6.same s7
    have nea2 : e2 ≠ a := by
      obtain ⟨cs, pos, val, ha, _⟩ := p6
      exact (ne_of_none ha ne2).symm
    have he2 : upd H6 e2 (.lst [.int 1, .int (-1)]) e2 = some (.lst ([1, -1].map V.int)) := upd_same
    generalize hH7 : upd H6 e2 (.lst [.int 1, .int (-1)]) = H7 at s7 p7 he2 ⊢
    refine ⟨.ref a, rfl, a, l, 2, rfl, p7, by decide, by decide +kernel, fun d6 H8 l6 u6 b8 p8 => ?_⟩
    obtain ⟨y, hy, hy1, _⟩ := pick (M := 2) (zs := [1, -1]) (d := d6) (by decide) l6 (by show d6 < 2; omega)
    refine ⟨e2, _, _, .int y, rfl, rfl, SqL.of (b8.mem nea2 he2), hy, _, _, rfl, rfl, .inl ⟨by omega, by omega⟩, ?_⟩
    refine q _ _ ?_ (((b5.trans b6).trans (But.of s7)).trans b8) p8
    simp only [List.mem_cons, List.not_mem_nil, or_false] at hy1
    rcases hy1 with rfl | rfl <;> omega
def spPoly : Sp := fun vs H Q _ => ∃ (a l : Addr) (m : Int), vs = [.ref a, .int m] ∧ Pen H a l ∧ 0 ≤ m ∧ m ≤ 100 ∧
  ∀ (p : Addr) (ns : List Int) H', (ns.length : Int) ≤ m → (∀ c ∈ ns, c.natAbs < 200) → strip ns = ns → But a H H' → H p = none → H' p = some (.tup (ns.map V.int)) → Pen H' a l → Q (.ref p) H'
theorem scPoly : FnScope ["pen", "most", "k"] ["pen", "most"] (defScope sPoly) := ⟨rfl, rfl, rfl, by decide +kernel, rfl, by decide +kernel, by decide +kernel⟩
theorem ok_poly {f g c t : Addr} {fd gd cd td : FuncData} (F : Fun K "_law_polynomial" "_law_polynomial" sPoly f fd) (T : Names mg) (GD : FnOk P w K mg base CX0 2 g gd ["pen", "bound"] spDraw) (mD : mg "_law_draw" = some (.ref g)) (kD : PySem.W.keepIn K (.ref g) = true) (bD : Binds K gd ["pen", "bound"] [])
    (GC : FnOk P w K mg base CX0 3 c cd ["pen"] spCoef) (mC : mg "_law_coefficient" = some (.ref c)) (kC : PySem.W.keepIn K (.ref c) = true) (bC : Binds K cd ["pen"] [])
    (GS : FnOk P w K mg base CX0 1 t td ["numbers"] (spStrip K)) (mS : mg "_law_strip" = some (.ref t)) (kS : PySem.W.keepIn K (.ref t) = true) (bS : Binds K td ["numbers"] []) :
    FnOk P w K mg base CX0 4 f fd ["pen", "most"] spPoly := by
  refine F.ok scPoly (fun vs H Q E h => ?_) (fun cdv A outer s H vs Q E hr h => ?_)
  · obtain ⟨a, l, m, rfl, _⟩ := h
    rfl
  · obtain ⟨a, l, m, rfl, pn, hm0, hm1, q⟩ := h
    refine ⟨_, pss_one (ps_ret (pe_call GS (hr.mono (by decide)) (by rfl) mS kS bS .nil pass0 (pa_cons (pe_lc (own := [("k", 2)]) (g := gName 2) (tt := tYes) rfl scPoly.nd
        (pi_range1 rfl T.range (pa_cons (pe_call GD (hr.mono (by decide)) (by rfl) mD kD bD .nil pass0 (pa_cons (pv 0) (pa_cons (pe_op op_add (pv 1) pe_int) pa_nil))) pa_nil))
        (blkOk_by (N := ["pen", "most", "k"]) (sc := defScope sPoly) (own := [("k", 2)]) (by decide +kernel)) (fun _ _ _ _ _ => pg_name (i := 2) scPoly.nd rfl (Or.inl rfl)) (fun _ _ _ _ _ => pts_nil)
        (fun _ _ _ _ _ => pe_call GC (hr.mono (by decide)) (by rfl) mC kC bC .nil pass0 (pa_cons (pv 0) pa_nil))) pa_nil))), ?_⟩
    refine ⟨.ref a, rfl, _, rfl, _, _, rfl, rfl, a, l, m + 1, rfl, pn, by omega, ?_, fun d H1 h0 h1 b1 p1 => ?_⟩
    · have : (m + 1).natAbs.log2 < 7 ∨ (m + 1).natAbs = 0 := by
        by_cases z : (m + 1).natAbs = 0
        · exact .inr z
        · exact .inl ((Nat.log2_lt z).mpr (by omega))
      rcases this with h | h
      · omega
      · omega
    · refine ⟨d, rfl, by omega, by omega, fun D nD => ?_⟩
      have nDa : D ≠ a := by
        obtain ⟨cs, pos, val, ha, _⟩ := p1
        exact (ne_of_none ha nD).symm
      have lD : l ≠ D := by
        obtain ⟨_, _, _, _, hl, _⟩ := p1
        exact ne_of_none hl nD
      refine lc_range (lo := 0) (n := d.toNat) (fun i H' => ∃ ns : List Int, H' D = some (.lst (ns.map V.int)) ∧ ns.length = i ∧ (∀ c ∈ ns, c.natAbs < 200) ∧ But a H H' ∧ Pen H' a l)
        ⟨[], upd_same, rfl, by simp, b1.trans (But.of (Same.upd nD)), p1.same (Same.upd nD)⟩ ?_ ?_
      · rintro i H2 hi ⟨ns, hD, hn, hc, b2, p2⟩
        refine ⟨rfl, ?_⟩
        dsimp only [tYes]
        refine iteT ?_
        refine ⟨.ref a, rfl, a, l, rfl, p2, fun c H3 hc3 b3 p3 => ⟨ns.map V.int, b3.mem nDa hD, by rw [List.length_map]; exact small1000 (by omega), ns ++ [c], ?_, by simp [hn], ?_, ?_, ?_⟩⟩
        · rw [upd_same, List.map_append]
          rfl
        · intro x hx
          rcases List.mem_append.mp hx with hx | hx
          · exact hc x hx
          · rw [List.mem_singleton.mp hx]
            exact hc3
        · intro b o e n
          have nb : b ≠ D := ne_of_none e (by
            cases q : H D with
            | none => rfl
            | some u => rw [b1 D u q nDa] at nD; cases nD)
          rw [upd_ne nb]
          exact b3 _ _ (b2 _ _ e n) n
        · obtain ⟨cs, pos, val, h1, h2, h3⟩ := p3
          exact ⟨cs, pos, val, by rw [upd_ne (Ne.symm nDa)]; exact h1, by rw [upd_ne lD]; exact h2, h3⟩
      · rintro H2 ⟨ns, hD, hn, hc, b2, p2⟩
        refine ⟨D, ns, rfl, .inl (SqL.of hD), fun p H3 s3 np e3 => ?_⟩
        exact q p (strip ns) H3 (by have := strip_len ns; omega) (fun c hx => hc c (strip_mem hx)) (strip_strip ns) (b2.trans (But.of s3)) (b2.free ((show a ≠ p from by obtain ⟨_, _, _, ha, _⟩ := p2; exact ne_of_none ha np).symm) np) e3 (p2.same s3)
end
end Z

set_option Elab.async false
set_option linter.all false
set_option maxRecDepth 100000
set_option maxHeartbeats 4000000
set_option exponentiation.threshold 20000
namespace Z
open PySem PySem.Spec PyProof.Rows L2 GG M2
abbrev sRed : Stmt := top 2
abbrev sEval : Stmt := top 3
abbrev sGcd : Stmt := top 11
abbrev sFrac : Stmt := top 12
abbrev sPoint : Stmt := top 13
abbrev sValue : Stmt := top 14
abbrev sLaw : Stmt := top 15
theorem Same.tup {K : PySem.W.Frag} {H H' : Hp} {a : Addr} {xs : List V} (e : Same H H') (h : SqT K H a xs) : SqT K H' a xs := by
  rcases h with (h | ⟨o, h⟩) | h
  · exact .inl (.inl (e _ _ h))
  · exact .inl (.inr ⟨o, e _ _ h⟩)
  · exact .inr h
theorem tup_of {K : PySem.W.Frag} {H : Hp} {a : Addr} {xs : List V} (h : H a = some (.tup xs)) : SqT K H a xs := .inl (.inl h)
theorem gcd_step (x y : Int) : Int.gcd y (x % y) = Int.gcd x y := by
  rw [Int.emod_def, Int.gcd_sub_mul_left_right, Int.gcd_comm]
theorem low_small (t b : Int) : (low t b).1.natAbs ≤ t.natAbs ∧ (low t b).2.natAbs ≤ b.natAbs := ⟨Int.natAbs_ediv_le_natAbs _ _, Int.natAbs_ediv_le_natAbs _ _⟩
theorem gcd_div {t b : Int} (hb : 0 < b) (hb2 : b.natAbs < 2 ^ 8000) : CDivW 0 ((Int.gcd t b : Nat) : Int) := by
  have h1 := gcd_pos (a := t) hb
  have h2 : Int.gcd t b ≤ b.natAbs := Nat.gcd_le_right _ (by omega)
  exact wide_div (b := 8000) (by omega) (by rw [Int.natAbs_natCast]; exact Nat.lt_of_le_of_lt h2 hb2) (by decide) (by decide)
theorem div_of {i i' j : Int} (h : CDivW i j) : CDivW i' j := h
section
variable {P : Program} {w : World} {K : PySem.W.Frag} {mg : Str → Option Value} {base : Heap}
/-! ### the program -/
def spRed : Sp := fun vs H Q _ => ∃ (n d : Int), vs = [.int n, .int d] ∧ 0 < d ∧ d.natAbs < 2 ^ 8000 ∧ ∀ p H', Same H H' → H p = none → H' p = some (.tup [.int (low n d).1, .int (low n d).2]) → Q (.ref p) H'
theorem scRed : FnScope ["n", "d", "common"] ["n", "d"] (defScope sRed) := ⟨rfl, rfl, rfl, by decide +kernel, rfl, by decide +kernel, by decide +kernel⟩
theorem ok_red {f : Addr} {fd : FuncData} (F : Fun K "reduce_fraction" "reduce_fraction" sRed f fd) (mG : mg "gcd" = some (.builtin "math.gcd")) : FnOk P w K mg base CX0 1 f fd ["n", "d"] spRed := by
  refine F.ok scRed (fun vs H Q E h => ?_) (fun cdv A outer s H vs Q E hr h => ?_)
  · obtain ⟨n, d, rfl, _⟩ := h
    rfl
  · obtain ⟨n, d, rfl, hd, hd2, q⟩ := h
    refine ⟨_, pss_cons (ps_set (i := 2) scRed.nd rfl (.inl rfl) (pe_callBfun cr_gcd (by rfl) mG (pa_cons (pv 0) (pa_cons (pv 1) pa_nil))))
      (pss_cons (ps_if (pt_cmpR op_lt (pv 1) pe_int (nomark _)) (pss_one (ps_set (i := 2) scRed.nd rfl (.inl rfl) (pe_un un_neg (pv 2)))) pss_nil)
      (pss_one (ps_ret (pe_tup (pa_cons (pe_op op_fdivW (pv 0) (pv 2)) (pa_cons (pe_op op_fdivW (pv 1) (pv 2)) pa_nil)))))), ?_⟩
    refine ⟨_, rfl, _, rfl, n, d, rfl, ?_⟩
    refine ⟨_, rfl, _, _, rfl, rfl, _, rfl, ite2 (fun e => ?_) (fun _ => ?_)⟩
    · exact absurd (of_decide_eq_true e) (by omega)
    · refine ⟨_, rfl, _, rfl, _, _, rfl, rfl, div_of (gcd_div (t := n) hd hd2), _, rfl, _, rfl, _, _, rfl, rfl, div_of (gcd_div (t := n) hd hd2), (by show 2 ≤ sizeLine; decide), fun p np => ?_⟩
      exact q p _ (Same.upd np) np upd_same
def Frac (n d : Int) : Prop := 0 < d ∧ d.natAbs < 2 ^ 30 ∧ n.natAbs < 2 ^ 30
def Row (ns : List Int) : Prop := ns.length ≤ 41 ∧ ∀ c ∈ ns, c.natAbs < 2 ^ 200
def spEval (K : PySem.W.Frag) : Sp := fun vs H Q _ => ∃ (r p : Addr) (ns : List Int) (n d : Int), vs = [.ref r, .ref p] ∧ SqT K H r (ns.map V.int) ∧ SqT K H p [.int n, .int d] ∧ Frac n d ∧ Row ns ∧
  ∀ t H', Same H H' → H t = none → H' t = some (.tup [.int (low (hor n d ns * d) (d ^ ns.length)).1, .int (low (hor n d ns * d) (d ^ ns.length)).2]) → Q (.ref t) H'
theorem scEval : FnScope ["polynomial", "p", "n", "d", "total", "scale", "c"] ["polynomial", "p"] (defScope sEval) := ⟨rfl, rfl, rfl, by decide +kernel, rfl, by decide +kernel, by decide +kernel⟩
theorem pow_lt {d : Int} (h : d.natAbs < 2 ^ 30) {k : Nat} (hk : k ≤ 41) : (d ^ k).natAbs < 2 ^ 1240 :=
  Nat.lt_of_le_of_lt (pow_size h k) (Nat.pow_lt_pow_right (by decide) (by omega))
theorem hor_lt {n d : Int} {ns : List Int} (hn : n.natAbs < 2 ^ 30) (hd : d.natAbs < 2 ^ 30) (hl : ns.length ≤ 41) (hc : ∀ c ∈ ns, c.natAbs < 2 ^ 200) : (hor n d ns).natAbs < 2 ^ 1480 :=
  Nat.lt_of_lt_of_le (hor_size hn hd ns hc) (Nat.pow_le_pow_right (by decide) (by omega))
theorem ok_eval {f g : Addr} {fd gd : FuncData} (F : Fun K "evaluate_polynomial" "evaluate_polynomial" sEval f fd) (mR : mg "reversed" = none) (GR : FnOk P w K mg base CX0 1 g gd ["n", "d"] spRed) (mF : mg "reduce_fraction" = some (.ref g)) (kF : PySem.W.keepIn K (.ref g) = true) (bF : Binds K gd ["n", "d"] []) :
    FnOk P w K mg base CX0 2 f fd ["polynomial", "p"] (spEval K) := by
  refine F.ok scEval (fun vs H Q E h => ?_) (fun cdv A outer s H vs Q E hr h => ?_)
  · obtain ⟨r, p, ns, n, d, rfl, _⟩ := h
    rfl
  · obtain ⟨r, p, ns, n, d, rfl, hS, hP, ⟨hd, hd2, hn⟩, ⟨hl, hc⟩, q⟩ := h
    refine ⟨_, pss_cons (ps_asg (pv 1) (pg_tup rfl (pgs_cons (pg_name (i := 2) scEval.nd rfl (.inl rfl)) (pgs_cons (pg_name (i := 3) scEval.nd rfl (.inl rfl)) pgs_nil))))
      (pss_cons (ps_set (i := 4) scEval.nd rfl (.inl rfl) pe_int)
      (pss_cons (ps_set (i := 5) scEval.nd rfl (.inl rfl) pe_int)
      (pss_cons (ps_for PassesOwn.never rfl (RT.pi_revA (by rfl) mR (pv 0)) (pg_name (i := 6) scEval.nd rfl (.inl rfl))
        (pss_cons (ps_set (i := 4) scEval.nd rfl (.inl rfl) (pe_op op_add (pe_op op_mulW (pv 4) (pv 2)) (pe_op op_mulW (pv 6) (pv 5))))
        (pss_one (ps_aug (i := 5) scEval.nd rfl (.inl rfl) (pv 3) ip_mulW))))
      (pss_one (ps_ret (pe_call GR hr (by rfl) mF kF bF .nil pass0 (pa_cons (pe_op op_mulW (pv 4) (pv 3)) (pa_cons (pv 5) pa_nil)))))))), ?_⟩
    refine ⟨.ref p, rfl, p, _, rfl, hP, rfl, _, _, rfl, _, _, rfl, rfl, ?_⟩
    refine ⟨.ref r, rfl, r, ns.map V.int, rfl, .inr ⟨hS, ?_⟩⟩
    rw [List.length_map]
    refine ⟨fun i m σ H' => ∃ v : Option V, m = ns.length - i ∧ i ≤ ns.length ∧ H' = H ∧ σ = [some (V.ref r), some (V.ref p), some (V.int n), some (V.int d), some (V.int (hor n d (ns.drop (ns.length - i)))), some (V.int (d ^ i)), v],
      ⟨ns.length, none, by simp, Nat.zero_le _, rfl, by simp [hor]; rfl⟩, ?_⟩
    rintro i m σ H' ⟨v, rfl, hi, rfl, rfl⟩
    by_cases lt : i < ns.length
    · have hk : ns.length - 1 - i < ns.length := by omega
      have gx : (ns.map V.int)[ns.length - 1 - i]? = some (.int ns[ns.length - 1 - i]) := by
        rw [List.getElem?_map, List.getElem?_eq_getElem hk]
        rfl
      have ed : ns.drop (ns.length - (i + 1)) = ns[ns.length - 1 - i] :: ns.drop (ns.length - i) := by
        rw [show ns.length - (i + 1) = ns.length - 1 - i by omega, List.drop_eq_getElem_cons hk, show ns.length - 1 - i + 1 = ns.length - i by omega]
      refine .inr ⟨⟨lt, _, _, hS, gx⟩, fun σ H2 => ∃ v : Option V, H2 = H' ∧ σ = [some (V.ref r), some (V.ref p), some (V.int n), some (V.int d), some (V.int (hor n d (ns.drop (ns.length - (i + 1))))), some (V.int (d ^ (i + 1))), v], ?_, ?_⟩
      · rintro σ H2 ⟨v, rfl, rfl⟩
        exact ⟨ns.length - (i + 1), by omega, v, rfl, by omega, rfl, rfl⟩
      · rintro x H2 ⟨rfl, hx⟩
        have ex : x = .int ns[ns.length - 1 - i] := Option.some.inj ((hx _ hS).symm.trans gx)
        subst ex
        have z1 : (hor n d (ns.drop (ns.length - i))).natAbs < 2 ^ 1480 := hor_lt hn hd2 (by rw [List.length_drop]; omega) fun c h => hc c (List.mem_of_mem_drop h)
        have z2 : (d ^ i).natAbs < 2 ^ 1240 := pow_lt hd2 (by omega)
        have z3 : (ns[ns.length - 1 - i]).natAbs < 2 ^ 200 := hc _ (List.getElem_mem hk)
        refine ⟨_, rfl, _, rfl, _, _, rfl, rfl, wide_mul z1 hn (by decide) (by decide) (by decide), _, rfl, _, rfl, _, _, rfl, rfl, wide_mul z3 z2 (by decide) (by decide) (by decide), _, _, rfl, rfl, _, rfl, _, rfl, _, _, rfl, rfl, (wide_mul z2 hd2 (by decide) (by decide) (by decide)).ok, ?_⟩
        refine ⟨some (.int ns[ns.length - 1 - i]), rfl, ?_⟩
        have e1 : hor n d (ns.drop (ns.length - (i + 1))) = hor n d (ns.drop (ns.length - i)) * n + ns[ns.length - 1 - i] * d ^ i := by
          rw [ed]
          show _ = hor n d (ns.drop (ns.length - i)) * n + ns[ns.length - 1 - i] * d ^ i
          show hor n d (ns.drop (ns.length - i)) * n + ns[ns.length - 1 - i] * d ^ (ns.drop (ns.length - i)).length = _
          rw [List.length_drop, show ns.length - (ns.length - i) = i by omega]
        rw [e1, Int.pow_succ]
        rfl
    · have ei : i = ns.length := by omega
      subst ei
      rw [Nat.sub_self, List.drop_zero]
      refine .inl ⟨Nat.le_refl _, ?_⟩
      have z1 := hor_lt hn hd2 hl hc
      refine ⟨_, rfl, _, rfl, _, _, rfl, rfl, wide_mul z1 hd2 (by decide) (by decide) (by decide), _, rfl, _, _, rfl, Int.pow_pos hd, ?_, fun t H2 s2 nt e => q t H2 s2 nt e⟩
      exact Nat.lt_trans (pow_lt hd2 hl) (Nat.pow_lt_pow_right (by decide) (by decide))
/-! ### the law's own fractions -/
def spGcd : Sp := fun vs H Q _ => ∃ (x y : Int), vs = [.int x, .int y] ∧ 0 ≤ y ∧ Q (.int ((Int.gcd x y : Nat) : Int)) H
theorem scGcd : FnScope ["first", "second"] ["first", "second"] (defScope sGcd) := ⟨rfl, rfl, rfl, by decide +kernel, rfl, by decide +kernel, by decide +kernel⟩
theorem ok_gcd {f : Addr} {fd : FuncData} (F : Fun K "_law_gcd" "_law_gcd" sGcd f fd) (mA : mg "abs" = none) : FnOk P w K mg base CX0 1 f fd ["first", "second"] spGcd := by
  refine F.ok scGcd (fun vs H Q E h => ?_) (fun cdv A outer s H vs Q E hr h => ?_)
  · obtain ⟨x, y, rfl, _⟩ := h
    rfl
  · obtain ⟨x, y, rfl, hy, q⟩ := h
    refine ⟨_, pss_cons (ps_while PassesOwn.never (pt_cmpR op_ne (pv 1) pe_int (nomark _))
        (pss_one (ps_par (i := 0) (j := 1) (by rfl) scGcd.nd rfl rfl (by decide) rfl rfl (pa_cons (pv 1) (pa_cons (pe_op op_mod (pv 0) (pv 1)) pa_nil)) (by rfl))))
      (pss_one (ps_ret (pe_callB call_abs (by rfl) mA (by decide +kernel) (pa_cons (pv 0) pa_nil)))), ?_⟩
    refine ⟨fun n σ H' => ∃ a b : Int, n = b.toNat ∧ σ = [some (V.int a), some (V.int b)] ∧ 0 ≤ b ∧ Int.gcd a b = Int.gcd x y ∧ H' = H, ⟨y.toNat, x, y, rfl, rfl, hy, rfl, rfl⟩, ?_⟩
    rintro n σ H' ⟨a, b, rfl, rfl, hb, eg, rfl⟩
    refine ⟨_, rfl, rfl, _, rfl, ?_⟩
    by_cases h : b = 0
    · subst h
      rw [decide_eq_true rfl]
      refine iteF ⟨_, rfl, a, rfl, ?_⟩
      have e : (if a < 0 then -a else a) = ((Int.gcd x y : Nat) : Int) := by
        rw [← eg, Int.gcd_zero_right]
        split <;> omega
      show Q (.int (if a < 0 then -a else a)) _
      rw [e]
      exact q
    · rw [decide_eq_false (by intro e; exact h (V.int.inj e))]
      refine iteT ⟨fun σ H2 => ∃ a' b' : Int, b'.toNat < b.toNat ∧ σ = [some (V.int a'), some (V.int b')] ∧ 0 ≤ b' ∧ Int.gcd a' b' = Int.gcd x y ∧ H2 = H', ?_, ?_⟩
      · rintro σ H2 ⟨a', b', lt, e1, e2, e3, e4⟩
        exact ⟨b'.toNat, lt, a', b', rfl, e1, e2, e3, e4⟩
      · have h1 := Int.emod_nonneg a h
        have h2 := Int.emod_lt_of_pos a (show 0 < b by omega)
        exact ⟨_, rfl, _, rfl, _, rfl, _, _, rfl, rfl, (show 0 < b by omega), _, _, rfl, b, a % b, by omega, rfl, h1, by rw [gcd_step, eg], rfl⟩
def spFrac : Sp := fun vs H Q _ => ∃ (n d : Int), vs = [.int n, .int d] ∧ 0 < d ∧ d.natAbs < 2 ^ 8000 ∧ ∀ p H', Same H H' → H p = none → H' p = some (.tup [.int (low n d).1, .int (low n d).2]) → Q (.ref p) H'
theorem scFrac : FnScope ["top", "bottom", "divisor"] ["top", "bottom"] (defScope sFrac) := ⟨rfl, rfl, rfl, by decide +kernel, rfl, by decide +kernel, by decide +kernel⟩
theorem ok_frac {f g : Addr} {fd gd : FuncData} (F : Fun K "_law_fraction_of" "_law_fraction_of" sFrac f fd) (GG_ : FnOk P w K mg base CX0 1 g gd ["first", "second"] spGcd) (mG : mg "_law_gcd" = some (.ref g)) (kG : PySem.W.keepIn K (.ref g) = true) (bG : Binds K gd ["first", "second"] []) :
    FnOk P w K mg base CX0 2 f fd ["top", "bottom"] spFrac := by
  refine F.ok scFrac (fun vs H Q E h => ?_) (fun cdv A outer s H vs Q E hr h => ?_)
  · obtain ⟨n, d, rfl, _⟩ := h
    rfl
  · obtain ⟨n, d, rfl, hd, hd2, q⟩ := h
    refine ⟨_, pss_cons (ps_set (i := 2) scFrac.nd rfl (.inl rfl) (pe_call GG_ hr (by rfl) mG kG bG .nil pass0 (pa_cons (pv 0) (pa_cons (pv 1) pa_nil))))
      (pss_cons (ps_if (pt_cmpR op_lt (pv 1) pe_int (nomark _)) (pss_one (ps_set (i := 2) scFrac.nd rfl (.inl rfl) (pe_op op_sub pe_int (pv 2)))) pss_nil)
      (pss_one (ps_ret (pe_tup (pa_cons (pe_op op_fdivW (pv 0) (pv 2)) (pa_cons (pe_op op_fdivW (pv 1) (pv 2)) pa_nil)))))), ?_⟩
    refine ⟨_, rfl, _, rfl, n, d, rfl, by omega, ?_⟩
    refine ⟨_, rfl, _, _, rfl, rfl, _, rfl, ite2 (fun e => ?_) (fun _ => ?_)⟩
    · exact absurd (of_decide_eq_true e) (by omega)
    · refine ⟨_, rfl, _, rfl, _, _, rfl, rfl, div_of (gcd_div (t := n) hd hd2), _, rfl, _, rfl, _, _, rfl, rfl, div_of (gcd_div (t := n) hd hd2), (by show 2 ≤ sizeLine; decide), fun p np => ?_⟩
      exact q p _ (Same.upd np) np upd_same
def spPoint : Sp := fun vs H Q _ => ∃ (a l : Addr), vs = [.ref a] ∧ Pen H a l ∧ ∀ (p : Addr) (n d : Int) H', Frac n d → But a H H' → H p = none → H' p = some (.tup [.int n, .int d]) → Pen H' a l → Q (.ref p) H'
theorem scPoint : FnScope ["pen", "bottom", "top"] ["pen"] (defScope sPoint) := ⟨rfl, rfl, rfl, by decide +kernel, rfl, by decide +kernel, by decide +kernel⟩
theorem log_small {b : Int} {k : Nat} (h : b.natAbs < 2 ^ k) (hk : 0 < k) (h9 : k ≤ 9000) : b.natAbs.log2 < 9000 := Nat.lt_of_lt_of_le (PySem.Flt.log2_lt_of hk h) h9
theorem Pen.apart {H : Hp} {a l e : Addr} (p : Pen H a l) (h : H e = none) : e ≠ a ∧ e ≠ l := by
  obtain ⟨cs, pos, val, ha, hl, _⟩ := p
  exact ⟨(ne_of_none ha h).symm, (ne_of_none hl h).symm⟩
theorem ok_point {f g c : Addr} {fd gd cd : FuncData} (F : Fun K "_law_point" "_law_point" sPoint f fd) (GD : FnOk P w K mg base CX0 2 g gd ["pen", "bound"] spDraw) (mD : mg "_law_draw" = some (.ref g)) (kD : PySem.W.keepIn K (.ref g) = true) (bD : Binds K gd ["pen", "bound"] [])
    (GF : FnOk P w K mg base CX0 2 c cd ["top", "bottom"] spFrac) (mF : mg "_law_fraction_of" = some (.ref c)) (kF : PySem.W.keepIn K (.ref c) = true) (bF : Binds K cd ["top", "bottom"] []) :
    FnOk P w K mg base CX0 3 f fd ["pen"] spPoint := by
  refine F.ok scPoint (fun vs H Q E h => ?_) (fun cdv A outer s H vs Q E hr h => ?_)
  · obtain ⟨a, l, rfl, _⟩ := h
    rfl
  · obtain ⟨a, l, rfl, pn, q⟩ := h
    refine ⟨_, pss_cons (ps_set (i := 1) scPoint.nd rfl (.inl rfl) (pe_op op_add pe_int (pe_ix ix_list (pe_lst
        (pa_cons (pe_call GD hr (by rfl) mD kD bD .nil pass0 (pa_cons (pv 0) (pa_cons pe_int pa_nil)))
        (pa_cons (pe_call GD hr (by rfl) mD kD bD .nil pass0 (pa_cons (pv 0) (pa_cons (pe_op op_mul pe_int (pe_op op_pow pe_int pe_int)) pa_nil))) pa_nil)))
        (pe_op op_fdiv (pe_call GD hr (by rfl) mD kD bD .nil pass0 (pa_cons (pv 0) (pa_cons pe_int pa_nil))) pe_int) (fun _ _ => rfl))))
      (pss_cons (ps_set (i := 2) scPoint.nd rfl (.inl rfl) (pe_ix ix_list (pe_lst
        (pa_cons (pe_call GD hr (by rfl) mD kD bD .nil pass0 (pa_cons (pv 0) (pa_cons (pe_op op_add (pv 1) pe_int) pa_nil)))
        (pa_cons (pe_op op_sub (pe_call GD hr (by rfl) mD kD bD .nil pass0 (pa_cons (pv 0) (pa_cons (pe_op op_mul pe_int (pv 1)) pa_nil))) (pv 1)) pa_nil)))
        (pe_call GD hr (by rfl) mD kD bD .nil pass0 (pa_cons (pv 0) (pa_cons pe_int pa_nil))) (fun _ _ => rfl)))
      (pss_one (ps_ret (pe_call GF hr (by rfl) mF kF bF .nil pass0 (pa_cons (pv 2) (pa_cons (pv 1) pa_nil)))))), ?_⟩
    refine ⟨.ref a, rfl, a, l, 12, rfl, pn, by decide, by decide +kernel, fun d1 H1 l1 u1 b1 p1 => ?_⟩
    refine ⟨.ref a, rfl, _, _, rfl, rfl, ⟨by decide, by decide, by decide⟩, _, _, rfl, rfl, .inl ⟨by decide, by decide⟩, a, l, 300000000, rfl, p1, by decide, by decide +kernel, fun d2 H2 l2 u2 b2 p2 => ?_⟩
    refine ⟨by show 2 ≤ sizeLine; decide, fun e ne => ?_⟩
    have ap := p2.apart ne
    have s3 : Same H2 (upd H2 e (.lst [.int d1, .int d2])) := Same.upd ne
    have b3 : But a H (upd H2 e (.lst [.int d1, .int d2])) := (b1.trans b2).trans (But.of s3)
    have p3 := p2.same s3
    have he : upd H2 e (.lst [.int d1, .int d2]) e = some (.lst ([d1, d2].map V.int)) := upd_same
    generalize upd H2 e (.lst [.int d1, .int d2]) = H3 at b3 p3 he ⊢
    refine ⟨.ref a, rfl, a, l, 3, rfl, p3, by decide, by decide +kernel, fun d3 H4 l3 u3 b4 p4 => ?_⟩
    have q0 : 0 ≤ d3 / 2 ∧ d3 / 2 < 2 := by omega
    obtain ⟨z, hz, hzm, _⟩ := pick (M := 300000000) (zs := [d1, d2]) (d := d3 / 2) (by
      intro z hz
      simp only [List.mem_cons, List.not_mem_nil, or_false] at hz
      omega) q0.1 (by show d3 / 2 < 2; omega)
    have hz0 : 0 ≤ z ∧ z < 300000000 := by
      simp only [List.mem_cons, List.not_mem_nil, or_false] at hzm
      omega
    refine ⟨_, _, rfl, rfl, ⟨by decide, by decide⟩, e, _, _, .int z, rfl, rfl, SqL.of (b4.mem ap.1 he), hz, _, _, rfl, rfl, ?_⟩
    have b5 := b3.trans b4
    clear he hz
    -- top
    refine ⟨.ref a, rfl, _, rfl, _, _, rfl, rfl, a, l, _, rfl, p4, (show 0 < 1 + z + 1 by omega), log_small (k := 30) (show (1 + z + 1).natAbs < 2 ^ 30 by omega) (by decide) (by decide), fun e1 H5 l4 u4 b6 p6 => ?_⟩
    refine ⟨.ref a, rfl, _, rfl, _, _, rfl, rfl, .inl ⟨by decide, by decide⟩, a, l, _, rfl, p6, (show 0 < 3 * (1 + z) by omega), log_small (k := 30) (show (3 * (1 + z)).natAbs < 2 ^ 30 by omega) (by decide) (by decide), fun e2 H6 l5 u5 b7 p7 => ?_⟩
    refine ⟨_, rfl, _, _, rfl, rfl, by show 2 ≤ sizeLine; decide, fun k nk => ?_⟩
    have ap2 := p7.apart nk
    have l4' : e1 < 1 + z + 1 := u4
    have l5' : e2 < 3 * (1 + z) := u5
    have s8 : Same H6 (upd H6 k (.lst [.int e1, .int (e2 - (1 + z))])) := Same.upd nk
    have b8 : But a H (upd H6 k (.lst [.int e1, .int (e2 - (1 + z))])) := ((b5.trans b6).trans b7).trans (But.of s8)
    have p8 := p7.same s8
    have hk : upd H6 k (.lst [.int e1, .int (e2 - (1 + z))]) k = some (.lst ([e1, e2 - (1 + z)].map V.int)) := upd_same
    change (_ : Hp → Prop) (upd H6 k (.lst [.int e1, .int (e2 - (1 + z))]))
    generalize upd H6 k (.lst [.int e1, .int (e2 - (1 + z))]) = H8 at b8 p8 hk ⊢
    refine ⟨.ref a, rfl, a, l, 2, rfl, p8, by decide, by decide +kernel, fun d4 H9 l6 u6 b9 p9 => ?_⟩
    obtain ⟨y, hy, hym, hy2⟩ := pick (M := 1000000000) (zs := [e1, e2 - (1 + z)]) (d := d4) (by
      intro y hy
      simp only [List.mem_cons, List.not_mem_nil, or_false] at hy
      omega) l6 (by show d4 < 2; omega)
    refine ⟨k, _, _, .int y, rfl, rfl, SqL.of (b9.mem ap2.1 hk), hy, _, rfl, _, rfl, y, 1 + z, rfl, by omega, ?_, fun p H10 s10 np ep => ?_⟩
    · exact Nat.lt_trans (show (1 + z).natAbs < 2 ^ 30 by omega) (Nat.pow_lt_pow_right (by decide) (by decide))
    · have sm := low_small y (1 + z)
      have hb : 0 < 1 + z := by omega
      have ls := (low_spec (a := y) hb).1.pos
      refine q p _ _ H10 ⟨ls, by omega, by omega⟩ ((b8.trans b9).trans (But.of s10)) ((b8.trans b9).free (p9.apart np).1 np) ep (p9.same s10)
def spValue (K : PySem.W.Frag) : Sp := fun vs H Q _ => ∃ (r p : Addr) (ns : List Int) (n d : Int), vs = [.ref r, .ref p] ∧ SqT K H r (ns.map V.int) ∧ SqT K H p [.int n, .int d] ∧ Frac n d ∧ Row ns ∧
  ∀ t H', Same H H' → H t = none → H' t = some (.tup [.int (sums n d ns).1.1, .int (sums n d ns).1.2]) → Q (.ref t) H'
theorem scValue : FnScope ["row", "point", "total", "power_of", "a", "top"] ["row", "point"] (defScope sValue) := ⟨rfl, rfl, rfl, by decide +kernel, rfl, by decide +kernel, by decide +kernel⟩
theorem ok_value {f c : Addr} {fd cd : FuncData} (F : Fun K "_law_value" "_law_value" sValue f fd)
    (GF : FnOk P w K mg base CX0 2 c cd ["top", "bottom"] spFrac) (mF : mg "_law_fraction_of" = some (.ref c)) (kF : PySem.W.keepIn K (.ref c) = true) (bF : Binds K cd ["top", "bottom"] []) :
    FnOk P w K mg base CX0 3 f fd ["row", "point"] (spValue K) := by
  refine F.ok scValue (fun vs H Q E h => ?_) (fun cdv A outer s H vs Q E hr h => ?_)
  · obtain ⟨r, p, ns, n, d, rfl, _⟩ := h
    rfl
  · obtain ⟨r, p, ns, n, d, rfl, hS, hP, ⟨hd, hd2, hn⟩, ⟨hl, hc⟩, q⟩ := h
    refine ⟨_, pss_cons (ps_asg (pe_tup (pa_cons (pe_tup (pa_cons pe_int (pa_cons pe_int pa_nil))) (pa_cons (pe_tup (pa_cons pe_int (pa_cons pe_int pa_nil))) pa_nil))) (pg_tup rfl (pgs_cons (pg_name (i := 2) scValue.nd rfl (.inl rfl)) (pgs_cons (pg_name (i := 3) scValue.nd rfl (.inl rfl)) pgs_nil))))
      (pss_cons (ps_for PassesOwn.never rfl (pi_tup (pv 0)) (pg_name (i := 4) scValue.nd rfl (.inl rfl))
        (pss_cons (ps_set (i := 5) scValue.nd rfl (.inl rfl) (pe_op op_add (pe_op op_mulW (pe_ix ix_tup (pv 2) pe_int (fun _ _ => rfl)) (pe_ix ix_tup (pv 3) pe_int (fun _ _ => rfl))) (pe_op op_mulW (pe_op op_mulW (pv 4) (pe_ix ix_tup (pv 3) pe_int (fun _ _ => rfl))) (pe_ix ix_tup (pv 2) pe_int (fun _ _ => rfl)))))
        (pss_cons (ps_set (i := 2) scValue.nd rfl (.inl rfl) (pe_call GF hr (by rfl) mF kF bF .nil pass0 (pa_cons (pv 5) (pa_cons (pe_op op_mulW (pe_ix ix_tup (pv 2) pe_int (fun _ _ => rfl)) (pe_ix ix_tup (pv 3) pe_int (fun _ _ => rfl))) pa_nil))))
        (pss_one (ps_set (i := 3) scValue.nd rfl (.inl rfl) (pe_call GF hr (by rfl) mF kF bF .nil pass0 (pa_cons (pe_op op_mulW (pe_ix ix_tup (pv 3) pe_int (fun _ _ => rfl)) (pe_ix ix_tup (pv 1) pe_int (fun _ _ => rfl))) (pa_cons (pe_op op_mulW (pe_ix ix_tup (pv 3) pe_int (fun _ _ => rfl)) (pe_ix ix_tup (pv 1) pe_int (fun _ _ => rfl))) pa_nil))))))))
      (pss_one (ps_ret (pv 2)))), ?_⟩
    refine ⟨by show 2 ≤ sizeLine; decide, fun t0 nt0 => ⟨by show 2 ≤ sizeLine; decide, fun w0 nw0 => ⟨by show 2 ≤ sizeLine; decide, fun b0 nb0 => ⟨b0, _, rfl, tup_of upd_same, rfl, _, _, rfl, _, _, rfl, rfl, ?_⟩⟩⟩⟩
    have s1 : Same H (upd H t0 (.tup [.int 0, .int 1])) := Same.upd nt0
    have s2 : Same (upd H t0 (.tup [.int 0, .int 1])) (upd (upd H t0 (.tup [.int 0, .int 1])) w0 (.tup [.int 1, .int 1])) := Same.upd nw0
    have et := s2 _ _ (upd_same (H := H) (a := t0) (o := .tup [.int 0, .int 1]))
    have ew := upd_same (H := upd H t0 (.tup [.int 0, .int 1])) (a := w0) (o := .tup [.int 1, .int 1])
    have s2' := Same.trans s1 s2
    change (_ : Hp → Prop) (upd (upd (upd H t0 (.tup [.int 0, .int 1])) w0 (.tup [.int 1, .int 1])) b0 (.tup [.ref t0, .ref w0]))
    generalize upd (upd H t0 (.tup [.int 0, .int 1])) w0 (.tup [.int 1, .int 1]) = H1 at *
    have s3 : Same H (upd H1 b0 (.tup [.ref t0, .ref w0])) := Same.trans s2' (Same.upd nb0)
    replace et := Same.upd (o := .tup [.ref t0, .ref w0]) nb0 _ _ et
    replace ew := Same.upd (o := .tup [.ref t0, .ref w0]) nb0 _ _ ew
    refine ⟨.ref r, rfl, r, rfl, ⟨_, Same.tup s3 hS⟩, for_tup (K := K) (a := r) (xs := ns.map V.int) (fun i σ H' => ∃ (T W : Addr) (v4 v5 : Option V), σ = [some (V.ref r), some (V.ref p), some (V.ref T), some (V.ref W), v4, v5] ∧ Same H H' ∧ H T = none ∧
        H' T = some (.tup [.int (sums n d (ns.take i)).1.1, .int (sums n d (ns.take i)).1.2]) ∧ H' W = some (.tup [.int (sums n d (ns.take i)).2.1, .int (sums n d (ns.take i)).2.2]))
      ⟨t0, w0, none, none, rfl, s3, nt0, et, ew⟩ (fun i σ H' _ ⟨_, _, _, _, _, s, _⟩ => Same.tup s hS) ?_ ?_⟩
    · rintro i x σ H' hx ⟨T, W, v4, v5, rfl, sH, nT, eT, eW⟩
      have hi : i < ns.length := by
        rcases Nat.lt_or_ge i ns.length with h | h
        · exact h
        · rw [List.getElem?_eq_none (by rw [List.length_map]; exact h)] at hx
          cases hx
      have ex : x = .int ns[i] := by
        rw [List.getElem?_map, List.getElem?_eq_getElem hi] at hx
        exact (Option.some.inj hx).symm
      subst ex
      have gd := good_sums (n := n) hd (ns.take i).length (ns.take i) rfl
      have zz := good_sized hd hn hd2 (by rw [List.length_take]; omega) (fun c h => hc c (List.mem_of_mem_take h)) gd
      have e1 : sums n d (ns.take (i + 1)) = turn n d (sums n d (ns.take i)) ns[i] := by
        rw [List.take_succ_eq_append_getElem hi, sums_snoc]
      have hci := hc _ (List.getElem_mem hi)
      have hP' := Same.tup sH hP
      generalize hS0 : sums n d (ns.take i) = S at eT eW zz e1 gd
      obtain ⟨⟨t0, t1⟩, ⟨w0, w1⟩⟩ := S
      obtain ⟨za, zb, zc, zd⟩ := zz
      have pt1 : 0 < t1 := gd.lt.pos
      have pw1 : 0 < w1 := gd.lw.pos
      have up : (2 : Nat) ^ (1700 + 1700) < 2 ^ 8000 := Nat.pow_lt_pow_right (by decide) (by decide)
      have up2 : (2 : Nat) ^ (1700 + 30) < 2 ^ 8000 := Nat.pow_lt_pow_right (by decide) (by decide)
      refine ⟨.ref T, rfl, T, _, 0, .int t0, rfl, rfl, tup_of eT, atI_nat (j := 0) rfl, .ref W, rfl, W, _, 1, .int w1, rfl, rfl, tup_of eW, atI_nat (j := 1) rfl, _, _, rfl, rfl, wide_mul za zd (by decide) (by decide) (by decide),
        _, rfl, .ref W, rfl, W, _, 0, .int w0, rfl, rfl, tup_of eW, atI_nat (j := 0) rfl, _, _, rfl, rfl, wide_mul hci zc (by decide) (by decide) (by decide), .ref T, rfl, T, _, 1, .int t1, rfl, rfl, tup_of eT, atI_nat (j := 1) rfl, _, _, rfl, rfl, wide_mul (wide_lt hci zc) zb (by decide) (by decide) (by decide), _, _, rfl, rfl, ?_⟩
      refine ⟨_, rfl, .ref T, rfl, T, _, 1, .int t1, rfl, rfl, tup_of eT, atI_nat (j := 1) rfl, .ref W, rfl, W, _, 1, .int w1, rfl, rfl, tup_of eW, atI_nat (j := 1) rfl, _, _, rfl, rfl, wide_mul zb zd (by decide) (by decide) (by decide), _, _, rfl, Int.mul_pos pt1 pw1, Nat.lt_trans (wide_lt zb zd) up, fun T2 H2 s4 nT2 eT2 => ?_⟩
      have eW2 := s4 _ _ eW
      have hP2 := Same.tup s4 hP'
      refine ⟨.ref W, rfl, W, _, 0, .int w0, rfl, rfl, tup_of eW2, atI_nat (j := 0) rfl, .ref p, rfl, p, _, 0, .int n, rfl, rfl, hP2, atI_nat (j := 0) rfl, _, _, rfl, rfl, wide_mul zc hn (by decide) (by decide) (by decide),
        .ref W, rfl, W, _, 1, .int w1, rfl, rfl, tup_of eW2, atI_nat (j := 1) rfl, .ref p, rfl, p, _, 1, .int d, rfl, rfl, hP2, atI_nat (j := 1) rfl, _, _, rfl, rfl, wide_mul zd hd2 (by decide) (by decide) (by decide), _, _, rfl, Int.mul_pos pw1 hd, Nat.lt_trans (wide_lt zd hd2) up2, fun W2 H3 s5 nW2 eW3 => ?_⟩
      rw [e1]
      exact ⟨T2, W2, _, _, rfl, (sH.trans s4).trans s5, sH.free nT2, s5 _ _ eT2, eW3⟩
    · rintro σ H' ⟨T, W, v4, v5, rfl, sH, nT, eT, eW⟩
      rw [List.length_map, List.take_length] at eT
      exact ⟨_, rfl, q T H' sH nT eT⟩
/-! ### the law -/
def spLaw (K : PySem.W.Frag) : Sp := fun vs H Q _ => ∃ (a : Addr) (ns : List Int), vs = [.ref a] ∧ SqL K H a (ns.map V.int) ∧ ns.length ≤ 63 ∧ ∀ H', Q (.bl true) H'
theorem scLaw : FnScope ["script", "pen", "turn", "row", "point", "expected", "k"] ["script"] (defScope sLaw) := ⟨rfl, rfl, rfl, by decide +kernel, rfl, by decide +kernel, by decide +kernel⟩
structure Names2 (mg : Str → Option Value) : Prop extends Names mg where
  max : mg "max" = none
  min : mg "min" = none
  repr : mg "repr" = none
structure Def (K : PySem.W.Frag) (mg : Str → Option Value) (x : Str) (f : Addr) (fd : FuncData) (ps : List Str) : Prop where
  is : mg x = some (.ref f)
  kp : PySem.W.keepIn K (.ref f) = true
  bi : Binds K fd ps []
/-- a tuple of two ints stands at each item -/
def Points (H : Hp) (xs : List V) : Prop := ∀ x ∈ xs, ∃ (p : Addr) (n d : Int), x = .ref p ∧ Frac n d ∧ H p = some (.tup [.int n, .int d])
theorem two_ints (x y : Int) : ([V.int x, V.int y] : List V) = [x, y].map V.int := rfl
theorem dp_two {H : Hp} {p : Addr} {x y : Int} (h : H p = some (.tup [.int x, .int y])) : Dp K H (.ref p) (.tuple ([x, y].map PyData.int)) := .tup (tup_of h) (dpInts [x, y])
theorem eqv_two (x y : Int) : PyData.eqv (.tuple ([x, y].map PyData.int)) (.tuple ([x, y].map PyData.int)) = true := SeqAt.eqv_refl _ (by rfl)
theorem shaped_two (x y : Int) : SeqAt.shaped (.tuple ([x, y].map PyData.int)) = true := rfl
theorem text_01 : (PyData.tuple ([0, 1].map PyData.int)).shown = ("(0, 1)" : Str) := by decide +kernel
theorem rows_sized {n d : Int} {ns : List Int} (hf : Frac n d) (hr : Row ns) : ∀ z ∈ [(sums n d ns).1.1, (sums n d ns).1.2], z.natAbs.log2 < 1920 := by
  have g := good_sums (n := n) hf.1 ns.length ns rfl
  have z := good_sized hf.1 hf.2.2 hf.2.1 hr.1 hr.2 g
  intro x hx
  simp only [List.mem_cons, List.not_mem_nil, or_false] at hx
  rcases hx with rfl | rfl
  · exact Nat.lt_of_lt_of_le (PySem.Flt.log2_lt_of (by decide) z.a) (by decide)
  · exact Nat.lt_of_lt_of_le (PySem.Flt.log2_lt_of (by decide) z.b) (by decide)
theorem ok_law {f fP fD fY fS fT fV fE : Addr} {fd dP dD dY dS dT dV dE : FuncData} (F : Fun K "law" "law" sLaw f fd) (T : Names2 mg)
    (GP : FnOk P w K mg base CX0 1 fP dP ["script"] (spPen K)) (P1 : Def K mg "_law_pen" fP dP ["script"])
    (GD : FnOk P w K mg base CX0 2 fD dD ["pen", "bound"] spDraw) (P2 : Def K mg "_law_draw" fD dD ["pen", "bound"])
    (GY : FnOk P w K mg base CX0 4 fY dY ["pen", "most"] spPoly) (P3 : Def K mg "_law_polynomial" fY dY ["pen", "most"])
    (GS : FnOk P w K mg base CX0 1 fS dS ["numbers"] (spStrip K)) (P4 : Def K mg "_law_strip" fS dS ["numbers"])
    (GT : FnOk P w K mg base CX0 3 fT dT ["pen"] spPoint) (P5 : Def K mg "_law_point" fT dT ["pen"])
    (GV : FnOk P w K mg base CX0 3 fV dV ["row", "point"] (spValue K)) (P6 : Def K mg "_law_value" fV dV ["row", "point"])
    (GE : FnOk P w K mg base CX0 2 fE dE ["polynomial", "p"] (spEval K)) (P7 : Def K mg "evaluate_polynomial" fE dE ["polynomial", "p"])
    (kE : KBn K dE ["polynomial", "p"] 0 ["p", "polynomial"] (fun _ ws => turned ws) (fun _ zs => turned zs)) :
    FnG P w K mg base 5 f fd ["script"] (spLaw K) := by
  refine fnG_of F scLaw (fun vs H Q E h => ?_) (fun cdv A outer s H vs Q E hg hr h => ?_)
  · obtain ⟨a, ns, rfl, _⟩ := h
    rfl
  · obtain ⟨a, ns, rfl, hS, hlen, q⟩ := h
    have hu : A.units + 3 + 64 < cLine := hr.units
    have cr := call_repr (X := (cxOf CX0 P w K mg base ["script", "pen", "turn", "row", "point", "expected", "k"] "law" (defScope sLaw) f cdv A outer s H E).nox) hg hr
    refine ⟨_, (pss_cons (ps_set (i := 1) scLaw.nd rfl (.inr rfl) (pe_call GP (hr.mono (by decide)) (by rfl) P1.is P1.kp P1.bi .nil pass0 (pa_cons (pv 0) pa_nil)))
      (pss_cons (ps_for PassesOwn.never rfl (pi_range1 rfl T.range (pa_cons (pe_callB (call_max2 rfl) (by rfl) T.max (by decide +kernel) (pa_cons pe_int (pa_cons (pe_callB (call_min2 rfl) (by rfl) T.min (by decide +kernel) (pa_cons pe_int (pa_cons (pe_callB call_len_seq (by rfl) T.len PySem.boot_len (pa_cons (pv 0) pa_nil)) pa_nil))) pa_nil))) pa_nil)) (pg_name (i := 2) scLaw.nd rfl (.inl rfl)) (pss_cons (ps_set (i := 3) scLaw.nd rfl (.inl rfl) (pe_call GY (hr.mono (by decide)) (by rfl) P3.is P3.kp P3.bi .nil pass0 (pa_cons (pv 1) (pa_cons pe_int pa_nil))))
      (pss_cons (ps_if (pt_cmpR op_eq (pe_call GD (hr.mono (by decide)) (by rfl) P2.is P2.kp P2.bi .nil pass0 (pa_cons (pv 1) (pa_cons pe_int pa_nil))) pe_int (nomark _)) (pss_one (ps_set (i := 3) scLaw.nd rfl (.inl rfl) (pe_call GS (hr.mono (by decide)) (by rfl) P4.is P4.kp P4.bi .nil pass0 (pa_cons (pe_lc (own := [("k", 6)]) (g := gName 6) (tt := tYes) rfl scLaw.nd (pi_range1 rfl T.range (pa_cons (pe_call GD (hr.mono (by decide)) (by rfl) P2.is P2.kp P2.bi .nil pass0 (pa_cons (pv 1) (pa_cons pe_int pa_nil))) pa_nil)) (blkOk_by (N := ["script", "pen", "turn", "row", "point", "expected", "k"]) (sc := defScope sLaw) (own := [("k", 6)]) (by decide +kernel)) (fun _ _ _ _ _ => (pg_name (i := 6) scLaw.nd rfl (.inl rfl))) (fun _ _ _ _ _ => pts_nil) (fun _ _ _ _ _ => (pe_op op_sub (pe_call GD (hr.mono (by decide)) (by rfl) P2.is P2.kp P2.bi .nil pass0 (pa_cons (pv 1) (pa_cons (pe_op op_pow pe_int pe_int) pa_nil))) (pe_op op_mul pe_int (pe_op op_pow pe_int pe_int))))) pa_nil)))) pss_nil)
      (pss_one (ps_for PassesOwn.never rfl (pi_list (pe_lst (pa_cons (pe_tup (pa_cons pe_int (pa_cons pe_int pa_nil))) (pa_cons (pe_tup (pa_cons pe_int (pa_cons pe_int pa_nil))) (pa_cons (pe_tup (pa_cons pe_int (pa_cons pe_int pa_nil))) (pa_cons (pe_call GT (hr.mono (by decide)) (by rfl) P5.is P5.kp P5.bi .nil pass0 (pa_cons (pv 1) pa_nil)) (pa_cons (pe_call GT (hr.mono (by decide)) (by rfl) P5.is P5.kp P5.bi .nil pass0 (pa_cons (pv 1) pa_nil)) pa_nil))))))) (pg_name (i := 4) scLaw.nd rfl (.inl rfl)) (pss_cons (ps_set (i := 5) scLaw.nd rfl (.inl rfl) (pe_call GV (hr.mono (by decide)) (by rfl) P6.is P6.kp P6.bi .nil pass0 (pa_cons (pv 3) (pa_cons (pv 4) pa_nil))))
      (pss_cons (ps_if (pt_cmpR op_ne (pe_callB cr (by rfl) T.repr (by decide +kernel) (pa_cons (pe_call GE (hr.mono (by decide)) (by rfl) P7.is P7.kp P7.bi .nil pass0 (pa_cons (pv 3) (pa_cons (pv 4) pa_nil))) pa_nil)) (pe_callB cr (by rfl) T.repr (by decide +kernel) (pa_cons (pv 5) pa_nil)) (nomark _)) (pss_one (ps_ret pe_bl)) pss_nil)
      (pss_one (ps_if (pt_cmpR (op_neD hu) (pe_named GE (hr.mono (by decide)) (by rfl) P7.is P7.kp kE pass0 (pk_cons (pv 4) (pk_cons (pv 3) pk_nil))) (pv 5) (nomark _)) (pss_one (ps_ret pe_bl)) pss_nil)))))))))
      (pss_one (ps_ret (pe_cmpR op_eq (pe_callB cr (by rfl) T.repr (by decide +kernel) (pa_cons (pe_call GE (hr.mono (by decide)) (by rfl) P7.is P7.kp P7.bi .nil pass0 (pa_cons (pe_tup pa_nil) (pa_cons (pe_tup (pa_cons pe_int (pa_cons pe_int pa_nil))) pa_nil))) pa_nil)) pe_str (nomark _)))))), ?_⟩
    -- pen = _law_pen(script)
    refine ⟨.ref a, rfl, a, ns, rfl, hS, hlen, fun p l H1 s1 np nl p1 => ?_⟩
    have hS1 := s1.seq hS
    -- for turn in range(..)
    refine ⟨.ref a, rfl, a, _, rfl, .inl hS1, _, _, rfl, _, _, rfl, _, rfl, ?_, ?_, for_range (lo := 0) (fun i σ H' => ∃ v2 v3 v4 v5 : Option V, σ = [some (V.ref a), some (V.ref p), v2, v3, v4, v5, none] ∧ Pen H' p l) ⟨none, none, none, none, rfl, p1⟩ ?_ ?_⟩
    · show -(2 ^ 62) ≤ _
      repeat' split
      all_goals omega
    · show _ < (2 : Int) ^ 62
      repeat' split
      all_goals omega
    · rintro i σ H' hi ⟨v2, v3, v4, v5, rfl, pn⟩
      -- row = _law_polynomial(pen, 41)
      refine ⟨.ref p, rfl, p, l, 41, rfl, pn, by decide, by decide, fun r ns H2 hl hc hs b1 nr er p1 => ?_⟩
      have hrow : Row ns := ⟨by omega, fun c h => Nat.lt_trans (hc c h) (by decide +kernel)⟩
      have nrp : r ≠ p := by
        obtain ⟨_, _, _, ha, _⟩ := p1
        exact ne_of er ha (by intro z; cases z)
      dsimp only
      refine on (if_tail (fun σ H3 => ∃ (r : Addr) (ns : List Int) (v2 v4 v5 : Option V), σ = [some (V.ref a), some (V.ref p), v2, some (V.ref r), v4, v5, none] ∧ Pen H3 p l ∧ Row ns ∧ H3 r = some (.tup (ns.map V.int))) ?_ (fun t => ?_))
      rotate_left
      · refine ⟨.ref p, rfl, p, l, 3, rfl, p1, by decide, by decide +kernel, fun d H3 l2 u2 b2 p2 => ⟨rfl, _, rfl, ite2 (fun _ => ?_) (fun _ => ?_)⟩⟩
        · refine ⟨.ref p, rfl, p, l, 5, rfl, p2, by decide, by decide +kernel, fun m H4 l3 u3 b3 p3 => ⟨m, rfl, by omega, by omega, fun D nD => ?_⟩⟩
          have ap := p3.apart nD
          refine lc_range (lo := 0) (n := m.toNat) (fun i H' => ∃ ns : List Int, H' D = some (.lst (ns.map V.int)) ∧ ns.length = i ∧ (∀ c ∈ ns, c.natAbs < 2 ^ 200) ∧ Pen H' p l) ⟨[], upd_same, rfl, by simp, p3.same (Same.upd nD)⟩ ?_ ?_
          · rintro i H5 hi ⟨ns, hD, hn, hc, p5⟩
            refine ⟨rfl, ?_⟩
            dsimp only [tYes]
            refine iteT ?_
            refine ⟨.ref p, rfl, _, _, rfl, rfl, ⟨by decide, by decide, by decide⟩, p, l, 10 ^ 60, rfl, p5, by decide, by decide +kernel, fun c H6 l4 u4 b6 p6 => ?_⟩
            refine ⟨_, _, rfl, rfl, ⟨by decide, by decide, by decide⟩, _, _, rfl, rfl, .inl ⟨by decide, by decide⟩, _, _, rfl, rfl, ns.map V.int, b6.mem ap.1 hD, by rw [List.length_map]; exact small1000 (by omega), ns ++ [c - 5 * 10 ^ 59], ?_, by simp [hn], ?_, ?_⟩
            · rw [upd_same, List.map_append]
              rfl
            · intro x hx
              rcases List.mem_append.mp hx with hx | hx
              · exact hc x hx
              · rw [List.mem_singleton.mp hx]
                omega
            · obtain ⟨cs, pos, val, h1, h2, h3⟩ := p6
              exact ⟨cs, pos, val, by rw [upd_ne ap.1.symm]; exact h1, by rw [upd_ne ap.2.symm]; exact h2, h3⟩
          · rintro H5 ⟨ns, hD, hn, hc, p5⟩
            refine ⟨D, ns, rfl, .inl (SqL.of hD), fun r2 H6 s6 nr2 er2 => t _ _ ⟨r2, strip ns, _, _, _, rfl, p5.same s6, ⟨?_, fun c h => hc c (strip_mem h)⟩, er2⟩⟩
            have := strip_len ns
            omega
        · exact t _ _ ⟨r, ns, _, _, _, rfl, p2, hrow, b2.mem nrp er⟩
      · clear er hrow hl hc hs nr nrp b1
        rintro σ H3 ⟨r, ns, v2, v4, v5, rfl, p3, hrow, er⟩
        have nrp : r ≠ p := by
          obtain ⟨_, _, _, ha, _⟩ := p3
          exact ne_of er ha (by intro z; cases z)
        -- the points
        refine ⟨by show 2 ≤ sizeLine; decide, fun t1 n1 => ⟨by show 2 ≤ sizeLine; decide, fun t2 n2 => ⟨by show 2 ≤ sizeLine; decide, fun t3 n3 => ?_⟩⟩⟩
        have a1 := p3.apart n1
        have s1 : Same H3 (upd H3 t1 (.tup [.int 0, .int 1])) := Same.upd n1
        have e1 : upd H3 t1 (.tup [.int 0, .int 1]) t1 = some (.tup [.int 0, .int 1]) := upd_same
        have p4 := p3.same s1
        have er4 := s1 _ _ er
        generalize upd H3 t1 (.tup [.int 0, .int 1]) = H4 at n2 n3 e1 p4 er4 ⊢
        have a2 := p4.apart n2
        have s2 : Same H4 (upd H4 t2 (.tup [.int 1, .int 1])) := Same.upd n2
        have e2 : upd H4 t2 (.tup [.int 1, .int 1]) t2 = some (.tup [.int 1, .int 1]) := upd_same
        have p5 := p4.same s2
        have er5 := s2 _ _ er4
        replace e1 := s2 _ _ e1
        generalize upd H4 t2 (.tup [.int 1, .int 1]) = H5 at n3 e1 e2 p5 er5 ⊢
        have a3 := p5.apart n3
        have s3 : Same H5 (upd H5 t3 (.tup [.int 1, .int 2])) := Same.upd n3
        have e3 : upd H5 t3 (.tup [.int 1, .int 2]) t3 = some (.tup [.int 1, .int 2]) := upd_same
        have p6 := p5.same s3
        have er6 := s3 _ _ er5
        replace e1 := s3 _ _ e1
        replace e2 := s3 _ _ e2
        generalize upd H5 t3 (.tup [.int 1, .int 2]) = H6 at e1 e2 e3 p6 er6 ⊢
        refine ⟨.ref p, rfl, p, l, rfl, p6, fun q1 x1 y1 H7 f1 b7 nq1 g1 p7 => ⟨.ref p, rfl, p, l, rfl, p7, fun q2 x2 y2 H8 f2 b8 nq2 g2 p8 => ⟨by show 5 ≤ sizeLine; decide, fun L nL => ?_⟩⟩⟩
        have b68 := b7.trans b8
        have nq1p : q1 ≠ p := (p6.apart nq1).1
        have s9 : Same H8 (upd H8 L (.lst [.ref t1, .ref t2, .ref t3, .ref q1, .ref q2])) := Same.upd nL
        have pts : Points (upd H8 L (.lst [.ref t1, .ref t2, .ref t3, .ref q1, .ref q2])) [.ref t1, .ref t2, .ref t3, .ref q1, .ref q2] := by
          intro x hx
          simp only [List.mem_cons, List.not_mem_nil, or_false] at hx
          rcases hx with rfl | rfl | rfl | rfl | rfl
          · exact ⟨t1, 0, 1, rfl, ⟨by decide, by decide, by decide⟩, s9 _ _ (b68.mem a1.1 e1)⟩
          · exact ⟨t2, 1, 1, rfl, ⟨by decide, by decide, by decide⟩, s9 _ _ (b68.mem a2.1 e2)⟩
          · exact ⟨t3, 1, 2, rfl, ⟨by decide, by decide, by decide⟩, s9 _ _ (b68.mem a3.1 e3)⟩
          · exact ⟨q1, x1, y1, rfl, f1, s9 _ _ (b8.mem nq1p g1)⟩
          · exact ⟨q2, x2, y2, rfl, f2, s9 _ _ g2⟩
        have er9 := s9 _ _ (b68.mem nrp er6)
        have p9 := p8.same s9
        have hL : upd H8 L (.lst [.ref t1, .ref t2, .ref t3, .ref q1, .ref q2]) L = some (.lst [.ref t1, .ref t2, .ref t3, .ref q1, .ref q2]) := upd_same
        generalize upd H8 L (.lst [.ref t1, .ref t2, .ref t3, .ref q1, .ref q2]) = H9 at pts er9 p9 hL ⊢
        refine ⟨L, rfl, ⟨_, SqL.of hL⟩, for_list (K := K) (a := L) (xs := [.ref t1, .ref t2, .ref t3, .ref q1, .ref q2]) (fun i σ H' => ∃ v4 v5 : Option V, σ = [some (V.ref a), some (V.ref p), v2, some (V.ref r), v4, v5, none] ∧ Same H9 H')
          ⟨_, _, rfl, Same.refl _⟩ (fun i σ H' _ ⟨_, _, _, s⟩ => SqL.of (s _ _ hL)) ?_ ?_⟩
        · rintro i x σ H' hx ⟨v4, v5, rfl, sH⟩
          obtain ⟨pt, n, d, rfl, hf, ep⟩ := pts x (List.mem_of_getElem? hx)
          have sz := rows_sized hf hrow
          have ag := agree (n := n) hf.1 ns
          have erH := sH _ _ er9
          have epH := sH _ _ ep
          refine ⟨.ref r, rfl, .ref pt, rfl, r, pt, ns, n, d, rfl, tup_of erH, tup_of epH, hf, hrow, fun t H10 s10 nt et => ?_⟩
          have er10 := s10 _ _ erH
          have ep10 := s10 _ _ epH
          refine ⟨.ref r, rfl, .ref pt, rfl, r, pt, ns, n, d, rfl, tup_of er10, tup_of ep10, hf, hrow, fun u H11 s11 nu eu => ?_⟩
          rw [ag] at eu
          have et11 := s11 _ _ et
          have er11 := s11 _ _ er10
          have ep11 := s11 _ _ ep10
          refine ⟨u, _, rfl, dp_two eu, (shows_ints sz).mono (by decide) (show 2 ≤ 8000 by decide), .ref t, rfl, t, _, rfl, dp_two et11, (shows_ints sz).mono (by decide) (show 2 ≤ 8000 by decide), rfl, _, rfl, iteNS rfl ?_⟩
          refine ⟨.ref pt, rfl, .ref r, rfl, rfl, r, pt, ns, n, d, rfl, tup_of er11, tup_of ep11, hf, hrow, fun u2 H12 s12 nu2 eu2 => ?_⟩
          rw [ag] at eu2
          refine ⟨.ref t, rfl, _, _, dp_two eu2, dp_two (s12 _ _ et11), shaped_two _ _, shaped_two _ _, _, rfl, ?_⟩
          rw [eqv_two]
          exact iteF ⟨_, _, rfl, ((sH.trans s10).trans s11).trans s12⟩
        · rintro σ H' ⟨v4, v5, rfl, sH⟩
          exact ⟨_, _, _, _, rfl, p9.same sH⟩
    · rintro σ H' ⟨v2, v3, v4, v5, rfl, pn⟩
      refine ⟨Nat.zero_le _, fun e ne => ⟨by show 2 ≤ sizeLine; decide, fun t nt => ?_⟩⟩
      have he : upd (upd H' e (.tup [])) t (.tup [.int 1, .int 3]) e = some (.tup (([] : List Int).map V.int)) := Same.upd nt _ _ upd_same
      refine ⟨e, t, [], 1, 3, rfl, tup_of he, tup_of upd_same, ⟨by decide, by decide, by decide⟩, ⟨by decide, by simp⟩, fun u H2 s2 nu eu => ?_⟩
      have eu' : H2 u = some (.tup [.int 0, .int 1]) := eu
      refine ⟨u, _, rfl, dp_two eu', (shows_ints (ns := [0, 1]) (by decide)).mono (by decide) (by decide), rfl, ?_⟩
      rw [text_01, decide_eq_true rfl]
      exact q _
end
theorem all_mk {w : World} {K : PySem.W.Frag} {h : Heap} {mg : Str → Option Value} {fa f0 f1 f2 f3 f4 f5 f6 f7 f8 f9 f10 f11 f12 : Addr} (X : K.In h) (G : h.Ns mainGlobals mg) (hfa : mg "law" = some (.ref fa))
    {od0 an0 od1 an1 od2 an2 od3 an3 od4 an4 od5 an5 od6 an6 od7 an7 od8 an8 od9 an9 od10 an10 od11 an11 od12 an12 : Option Addr} {sl0 sl1 sl2 sl3 sl4 sl5 sl6 sl7 sl8 sl9 sl10 sl11 sl12 : Array (Option Value)} {oc0 kV0 dc0 pm0 cd0 ct0 oc1 kV1 dc1 pm1 cd1 ct1 oc2 kV2 dc2 pm2 cd2 ct2 oc3 kV3 dc3 pm3 cd3 ct3 oc4 kV4 dc4 pm4 cd4 ct4 oc5 kV5 dc5 pm5 cd5 ct5 oc6 kV6 dc6 pm6 cd6 ct6 oc7 kV7 dc7 pm7 cd7 ct7 oc8 kV8 dc8 pm8 cd8 ct8 oc9 kV9 dc9 pm9 cd9 ct9 oc10 kV10 dc10 pm10 cd10 ct10 oc11 kV11 dc11 pm11 cd11 ct11 oc12 kV12 dc12 pm12 cd12 ct12 : Value}
    (a0 : PySem.W.nsIn K mainGlobals "_law_pen" = some (some (.ref f0))) (l0 : K.lookup f0 = some ⟨oc0, od0, .func (PySem.W.fnOf "_law_pen" "_law_pen" (defArgs sPen) (defBody sPen) (defScope sPen) .none kV0 dc0 pm0 an0 cd0 ct0), sl0⟩) (c0 : PySem.W.codeIn K cd0 "_law_pen" = true) (k0 : PySem.W.keepIn K (.ref f0) = true)
    (a1 : PySem.W.nsIn K mainGlobals "_law_fresh" = some (some (.ref f1))) (l1 : K.lookup f1 = some ⟨oc1, od1, .func (PySem.W.fnOf "_law_fresh" "_law_fresh" (defArgs sFresh) (defBody sFresh) (defScope sFresh) .none kV1 dc1 pm1 an1 cd1 ct1), sl1⟩) (c1 : PySem.W.codeIn K cd1 "_law_fresh" = true) (k1 : PySem.W.keepIn K (.ref f1) = true)
    (a2 : PySem.W.nsIn K mainGlobals "_law_draw" = some (some (.ref f2))) (l2 : K.lookup f2 = some ⟨oc2, od2, .func (PySem.W.fnOf "_law_draw" "_law_draw" (defArgs sDraw) (defBody sDraw) (defScope sDraw) .none kV2 dc2 pm2 an2 cd2 ct2), sl2⟩) (c2 : PySem.W.codeIn K cd2 "_law_draw" = true) (k2 : PySem.W.keepIn K (.ref f2) = true)
    (a3 : PySem.W.nsIn K mainGlobals "_law_strip" = some (some (.ref f3))) (l3 : K.lookup f3 = some ⟨oc3, od3, .func (PySem.W.fnOf "_law_strip" "_law_strip" (defArgs sStrip) (defBody sStrip) (defScope sStrip) .none kV3 dc3 pm3 an3 cd3 ct3), sl3⟩) (c3 : PySem.W.codeIn K cd3 "_law_strip" = true) (k3 : PySem.W.keepIn K (.ref f3) = true)
    (a4 : PySem.W.nsIn K mainGlobals "_law_coefficient" = some (some (.ref f4))) (l4 : K.lookup f4 = some ⟨oc4, od4, .func (PySem.W.fnOf "_law_coefficient" "_law_coefficient" (defArgs sCoef) (defBody sCoef) (defScope sCoef) .none kV4 dc4 pm4 an4 cd4 ct4), sl4⟩) (c4 : PySem.W.codeIn K cd4 "_law_coefficient" = true) (k4 : PySem.W.keepIn K (.ref f4) = true)
    (a5 : PySem.W.nsIn K mainGlobals "_law_polynomial" = some (some (.ref f5))) (l5 : K.lookup f5 = some ⟨oc5, od5, .func (PySem.W.fnOf "_law_polynomial" "_law_polynomial" (defArgs sPoly) (defBody sPoly) (defScope sPoly) .none kV5 dc5 pm5 an5 cd5 ct5), sl5⟩) (c5 : PySem.W.codeIn K cd5 "_law_polynomial" = true) (k5 : PySem.W.keepIn K (.ref f5) = true)
    (a6 : PySem.W.nsIn K mainGlobals "_law_gcd" = some (some (.ref f6))) (l6 : K.lookup f6 = some ⟨oc6, od6, .func (PySem.W.fnOf "_law_gcd" "_law_gcd" (defArgs sGcd) (defBody sGcd) (defScope sGcd) .none kV6 dc6 pm6 an6 cd6 ct6), sl6⟩) (c6 : PySem.W.codeIn K cd6 "_law_gcd" = true) (k6 : PySem.W.keepIn K (.ref f6) = true)
    (a7 : PySem.W.nsIn K mainGlobals "_law_fraction_of" = some (some (.ref f7))) (l7 : K.lookup f7 = some ⟨oc7, od7, .func (PySem.W.fnOf "_law_fraction_of" "_law_fraction_of" (defArgs sFrac) (defBody sFrac) (defScope sFrac) .none kV7 dc7 pm7 an7 cd7 ct7), sl7⟩) (c7 : PySem.W.codeIn K cd7 "_law_fraction_of" = true) (k7 : PySem.W.keepIn K (.ref f7) = true)
    (a8 : PySem.W.nsIn K mainGlobals "_law_point" = some (some (.ref f8))) (l8 : K.lookup f8 = some ⟨oc8, od8, .func (PySem.W.fnOf "_law_point" "_law_point" (defArgs sPoint) (defBody sPoint) (defScope sPoint) .none kV8 dc8 pm8 an8 cd8 ct8), sl8⟩) (c8 : PySem.W.codeIn K cd8 "_law_point" = true) (k8 : PySem.W.keepIn K (.ref f8) = true)
    (a9 : PySem.W.nsIn K mainGlobals "_law_value" = some (some (.ref f9))) (l9 : K.lookup f9 = some ⟨oc9, od9, .func (PySem.W.fnOf "_law_value" "_law_value" (defArgs sValue) (defBody sValue) (defScope sValue) .none kV9 dc9 pm9 an9 cd9 ct9), sl9⟩) (c9 : PySem.W.codeIn K cd9 "_law_value" = true) (k9 : PySem.W.keepIn K (.ref f9) = true)
    (a10 : PySem.W.nsIn K mainGlobals "reduce_fraction" = some (some (.ref f10))) (l10 : K.lookup f10 = some ⟨oc10, od10, .func (PySem.W.fnOf "reduce_fraction" "reduce_fraction" (defArgs sRed) (defBody sRed) (defScope sRed) .none kV10 dc10 pm10 an10 cd10 ct10), sl10⟩) (c10 : PySem.W.codeIn K cd10 "reduce_fraction" = true) (k10 : PySem.W.keepIn K (.ref f10) = true)
    (a11 : PySem.W.nsIn K mainGlobals "evaluate_polynomial" = some (some (.ref f11))) (l11 : K.lookup f11 = some ⟨oc11, od11, .func (PySem.W.fnOf "evaluate_polynomial" "evaluate_polynomial" (defArgs sEval) (defBody sEval) (defScope sEval) .none kV11 dc11 pm11 an11 cd11 ct11), sl11⟩) (c11 : PySem.W.codeIn K cd11 "evaluate_polynomial" = true) (k11 : PySem.W.keepIn K (.ref f11) = true)
    (a12 : PySem.W.nsIn K mainGlobals "law" = some (some (.ref f12))) (l12 : K.lookup f12 = some ⟨oc12, od12, .func (PySem.W.fnOf "law" "law" (defArgs sLaw) (defBody sLaw) (defScope sLaw) .none kV12 dc12 pm12 an12 cd12 ct12), sl12⟩) (c12 : PySem.W.codeIn K cd12 "law" = true) (k12 : PySem.W.keepIn K (.ref f12) = true)
    (z_list : PySem.W.nsIn K mainGlobals "list" = some none)
    (z_tuple : PySem.W.nsIn K mainGlobals "tuple" = some none)
    (z_len : PySem.W.nsIn K mainGlobals "len" = some none)
    (z_range : PySem.W.nsIn K mainGlobals "range" = some none)
    (z_max : PySem.W.nsIn K mainGlobals "max" = some none)
    (z_min : PySem.W.nsIn K mainGlobals "min" = some none)
    (z_repr : PySem.W.nsIn K mainGlobals "repr" = some none)
    (z_abs : PySem.W.nsIn K mainGlobals "abs" = some none)
    (z_reversed : PySem.W.nsIn K mainGlobals "reversed" = some none)
    (x_gcd : PySem.W.nsIn K mainGlobals "gcd" = some (some (.builtin "math.gcd")))
    : ∃ fd : FuncData, (∀ (s : Shared) (v : Value), BindsTo s fd ⟨[v], []⟩ [("script", v)]) ∧ ∀ base : Heap, K.In base → base.Ns mainGlobals mg → FnG (PySem.Challenge.rw_bentcoin_k02_worths_of_rows).prog w K mg base 5 fa fd ["script"] (spLaw K) := by
  have e := hfa.symm.trans (PySem.W.mg_of X G a12)
  cases e
  have F0 := fun_mk (st := sPen) l0 c0 k0
  have b0 := F0.binds (ps := ["script"]) fun _ _ _ _ _ _ us hl => match us, hl with | [_], _ => rfl
  have F1 := fun_mk (st := sFresh) l1 c1 k1
  have b1 := F1.binds (ps := ["pen"]) fun _ _ _ _ _ _ us hl => match us, hl with | [_], _ => rfl
  have F2 := fun_mk (st := sDraw) l2 c2 k2
  have b2 := F2.binds (ps := ["pen", "bound"]) fun _ _ _ _ _ _ us hl => match us, hl with | [_, _], _ => rfl
  have F3 := fun_mk (st := sStrip) l3 c3 k3
  have b3 := F3.binds (ps := ["numbers"]) fun _ _ _ _ _ _ us hl => match us, hl with | [_], _ => rfl
  have F4 := fun_mk (st := sCoef) l4 c4 k4
  have b4 := F4.binds (ps := ["pen"]) fun _ _ _ _ _ _ us hl => match us, hl with | [_], _ => rfl
  have F5 := fun_mk (st := sPoly) l5 c5 k5
  have b5 := F5.binds (ps := ["pen", "most"]) fun _ _ _ _ _ _ us hl => match us, hl with | [_, _], _ => rfl
  have F6 := fun_mk (st := sGcd) l6 c6 k6
  have b6 := F6.binds (ps := ["first", "second"]) fun _ _ _ _ _ _ us hl => match us, hl with | [_, _], _ => rfl
  have F7 := fun_mk (st := sFrac) l7 c7 k7
  have b7 := F7.binds (ps := ["top", "bottom"]) fun _ _ _ _ _ _ us hl => match us, hl with | [_, _], _ => rfl
  have F8 := fun_mk (st := sPoint) l8 c8 k8
  have b8 := F8.binds (ps := ["pen"]) fun _ _ _ _ _ _ us hl => match us, hl with | [_], _ => rfl
  have F9 := fun_mk (st := sValue) l9 c9 k9
  have b9 := F9.binds (ps := ["row", "point"]) fun _ _ _ _ _ _ us hl => match us, hl with | [_, _], _ => rfl
  have F10 := fun_mk (st := sRed) l10 c10 k10
  have b10 := F10.binds (ps := ["n", "d"]) fun _ _ _ _ _ _ us hl => match us, hl with | [_, _], _ => rfl
  have F11 := fun_mk (st := sEval) l11 c11 k11
  have b11 := F11.binds (ps := ["polynomial", "p"]) fun _ _ _ _ _ _ us hl => match us, hl with | [_, _], _ => rfl
  have F12 := fun_mk (st := sLaw) l12 c12 k12
  refine ⟨PySem.W.fnOf "law" "law" (defArgs sLaw) (defBody sLaw) (defScope sLaw) .none kV12 dc12 pm12 an12 cd12 ct12, fun s v => .of_eq rfl, fun base _ _ => ?_⟩
  have T : Names2 mg := ⟨⟨PySem.W.mg_none_of X G z_list, PySem.W.mg_none_of X G z_tuple, PySem.W.mg_none_of X G z_len, PySem.W.mg_none_of X G z_range⟩, PySem.W.mg_none_of X G z_max, PySem.W.mg_none_of X G z_min, PySem.W.mg_none_of X G z_repr⟩
  have m : ∀ {x : Str} {u : Value}, PySem.W.nsIn K mainGlobals x = some (some u) → mg x = some u := fun e => PySem.W.mg_of X G e
  have G0 := ok_pen (P := PySem.Challenge.pw_bentcoin_k02_worths_of_rows) (w := w) (mg := mg) (base := base) F0 T.toNames
  have G1 := ok_fresh (P := PySem.Challenge.pw_bentcoin_k02_worths_of_rows) (w := w) (mg := mg) (base := base) F1 T.toNames
  have G2 := ok_draw F2 G1 (m a1) k1 b1
  have G3 := ok_strip (P := PySem.Challenge.pw_bentcoin_k02_worths_of_rows) (w := w) (mg := mg) (base := base) F3 T.toNames
  have G4 := ok_coef F4 G2 (m a2) k2 b2
  have G5 := ok_poly F5 T.toNames G2 (m a2) k2 b2 G4 (m a4) k4 b4 G3 (m a3) k3 b3
  have G6 := ok_gcd (P := PySem.Challenge.pw_bentcoin_k02_worths_of_rows) (w := w) (mg := mg) (base := base) F6 (PySem.W.mg_none_of X G z_abs)
  have G7 := ok_frac F7 G6 (m a6) k6 b6
  have G8 := ok_point F8 G2 (m a2) k2 b2 G7 (m a7) k7 b7
  have G9 := ok_value F9 G7 (m a7) k7 b7
  have G10 := ok_red (P := PySem.Challenge.pw_bentcoin_k02_worths_of_rows) (w := w) (mg := mg) (base := base) F10 (m x_gcd)
  have G11 := ok_eval F11 (PySem.W.mg_none_of X G z_reversed) G10 (m a10) k10 b10
  exact ok_law F12 T G0 ⟨m a0, k0, b0⟩ G2 ⟨m a2, k2, b2⟩ G5 ⟨m a5, k5, b5⟩ G3 ⟨m a3, k3, b3⟩ G8 ⟨m a8, k8, b8⟩ G9 ⟨m a9, k9, b9⟩ G11 ⟨m a11, k11, b11⟩ (named2 F11 fun _ _ _ _ _ _ _ _ => rfl)
end Z
open PySem PySem.W PyProof.Rows
set_option maxRecDepth 100000 in
set_option maxHeartbeats 0 in
theorem PySem.Challenge.cw_bentcoin_k02_worths_of_rows_holds : PySem.Challenge.rw_bentcoin_k02_worths_of_rows.Holds := by
  w_on; o_law; k_head; (case hw => w_witness2)
  k_fill
  refine GG.walkG (l := PySem.Challenge.rw_bentcoin_k02_worths_of_rows) (n := 63) (k := 5) (x := "script") (sp := Z.spLaw) rfl (by decide) rfl ⟨rfl, by decide, by decide⟩ (fun w h Y => PySem.W.kIn_of Y) ?F (fun _ _ a ns hl hS => ⟨a, ns, rfl, hS, hl, fun _ => rfl⟩)
  case F =>
    intro w mg fa h KX G hmg
    refine' Z.all_mk KX G hmg ?a0 ?l0 ?c0 ?k0 ?a1 ?l1 ?c1 ?k1 ?a2 ?l2 ?c2 ?k2 ?a3 ?l3 ?c3 ?k3 ?a4 ?l4 ?c4 ?k4 ?a5 ?l5 ?c5 ?k5 ?a6 ?l6 ?c6 ?k6 ?a7 ?l7 ?c7 ?k7 ?a8 ?l8 ?c8 ?k8 ?a9 ?l9 ?c9 ?k9 ?a10 ?l10 ?c10 ?k10 ?a11 ?l11 ?c11 ?k11 ?a12 ?l12 ?c12 ?k12 ?z_list ?z_tuple ?z_len ?z_range ?z_max ?z_min ?z_repr ?z_abs ?z_reversed ?x_gcd
    (case a0 => k_is)
    (case l0 => k_is)
    (case c0 => k_is)
    (case k0 => k_is)
    (case a1 => k_is)
    (case l1 => k_is)
    (case c1 => k_is)
    (case k1 => k_is)
    (case a2 => k_is)
    (case l2 => k_is)
    (case c2 => k_is)
    (case k2 => k_is)
    (case a3 => k_is)
    (case l3 => k_is)
    (case c3 => k_is)
    (case k3 => k_is)
    (case a4 => k_is)
    (case l4 => k_is)
    (case c4 => k_is)
    (case k4 => k_is)
    (case a5 => k_is)
    (case l5 => k_is)
    (case c5 => k_is)
    (case k5 => k_is)
    (case a6 => k_is)
    (case l6 => k_is)
    (case c6 => k_is)
    (case k6 => k_is)
    (case a7 => k_is)
    (case l7 => k_is)
    (case c7 => k_is)
    (case k7 => k_is)
    (case a8 => k_is)
    (case l8 => k_is)
    (case c8 => k_is)
    (case k8 => k_is)
    (case a9 => k_is)
    (case l9 => k_is)
    (case c9 => k_is)
    (case k9 => k_is)
    (case a10 => k_is)
    (case l10 => k_is)
    (case c10 => k_is)
    (case k10 => k_is)
    (case a11 => k_is)
    (case l11 => k_is)
    (case c11 => k_is)
    (case k11 => k_is)
    (case a12 => k_is)
    (case l12 => k_is)
    (case c12 => k_is)
    (case k12 => k_is)
    (case z_list => k_is)
    (case z_tuple => k_is)
    (case z_len => k_is)
    (case z_range => k_is)
    (case z_max => k_is)
    (case z_min => k_is)
    (case z_repr => k_is)
    (case z_abs => k_is)
    (case z_reversed => k_is)
    (case x_gcd => k_is)
