import PyProof.Rows.All
import Wide.All
import OpenK.AllK
import Wide.FinOn
import PySem.Challenge.RW_spanshelf_k04_covers_of_two
import HandS.ForMost
import HandS.ForExc
import HandS.IsInst
import HandS.Wide
import HandS.WideBits
import HandS.Flt
import HandS.AnyAll
import HandS.EndTab
import HandS.Strs
import HandS.SetFor
import HandS.SortRule
import HandS.Style
set_option Elab.async false
set_option linter.all false
set_option maxRecDepth 100000
set_option maxHeartbeats 4000000
namespace Sp
open PySem PySem.Spec PyProof.Rows L2
/-! ### heaps -/
theorem same_upd {H : Hp} {p : Addr} {o : HO} (h : H p = none) : Same H (upd H p o) := fun b x e => by
  rw [upd_ne (ne_of_none e h)]
  exact e
theorem upd_at {H : Hp} {p : Addr} {o : HO} (h : H p = none) : (upd H p o) p = some o ∧ Same H (upd H p o) := ⟨upd_same, same_upd h⟩
theorem same_more {H H' : Hp} {p : Addr} {o : HO} (h : Same H H') (n : H p = none) : Same H (upd H' p o) := fun b x e => by
  rw [upd_ne (ne_of_none e n)]
  exact h _ _ e
/-- all but what stands at the addresses of L is kept -/
def Chg (L : List Addr) (H H' : Hp) : Prop := ∀ b o, b ∉ L → H b = some o → H' b = some o
theorem Chg.refl (L : List Addr) (H : Hp) : Chg L H H := fun _ _ _ h => h
theorem Chg.trans {L : List Addr} {H H1 H2 : Hp} (a : Chg L H H1) (b : Chg L H1 H2) : Chg L H H2 := fun c o n h => b c o n (a c o n h)
theorem Chg.of_same {L : List Addr} {H H' : Hp} (a : Same H H') : Chg L H H' := fun c o _ h => a c o h
theorem Chg.same {H H' : Hp} (a : Chg [] H H') : Same H H' := fun c o h => a c o List.not_mem_nil h
theorem Chg.mono {L L' : List Addr} {H H' : Hp} (a : Chg L H H') (h : ∀ x ∈ L, x ∈ L') : Chg L' H H' := fun c o n e => a c o (fun q => n (h c q)) e
theorem Chg.upd {L : List Addr} {H : Hp} {p : Addr} {o : HO} (h : p ∈ L) : Chg L H (upd H p o) := fun b x n e => by
  have hne : b ≠ p := fun z => n (by rw [z]; exact h)
  rw [upd_ne hne]
  exact e
theorem Chg.free {L : List Addr} {H H' : Hp} (a : Chg L H H') {l : Addr} (hl : l ∉ L) (h : H' l = none) : H l = none := by
  cases q : H l with
  | none => rfl
  | some o =>
    rw [a l o hl q] at h
    cases h
theorem Chg.seq {K : PySem.W.Frag} {L : List Addr} {H H' : Hp} {a : Addr} {xs : List V} (e : Chg L H H') (n : a ∉ L) (h : SqL K H a xs) : SqL K H' a xs := by
  rcases h with (h | ⟨o, h⟩) | h
  · exact .inl (.inl (e _ _ n h))
  · exact .inl (.inr ⟨o, e _ _ n h⟩)
  · exact .inr h
theorem same_tup {K : PySem.W.Frag} {H H' : Hp} {a : Addr} {xs : List V} (e : Same H H') (h : SqT K H a xs) : SqT K H' a xs := by
  rcases h with (h | ⟨o, h⟩) | h
  · exact .inl (.inl (e _ _ h))
  · exact .inl (.inr ⟨o, e _ _ h⟩)
  · exact .inr h
theorem nmem1 {a b : Addr} (h : a ≠ b) : a ∉ [b] := fun q => h (List.mem_singleton.mp q)
theorem nmem2 {a b c : Addr} (h : a ≠ b) (h2 : a ≠ c) : a ∉ [b, c] := fun q => by
  rcases List.mem_cons.mp q with q | q
  · exact h q
  · exact h2 (List.mem_singleton.mp q)
theorem small_lt {n : Nat} (h : n ≤ 1000000) : n < sizeLine := Nat.lt_of_le_of_lt h (by decide)
theorem small_le {n : Nat} (h : n ≤ 1000000) : n ≤ sizeLine := Nat.le_of_lt (small_lt h)
/-- a list of whole numbers at p that may be changed -/
def Pu (H : Hp) (p : Addr) (n : Nat) : Prop := ∃ a b c : Int, H p = some (.lst [.int a, .int b, .int c]) ∧ 0 ≤ a ∧ 0 ≤ b ∧ b < 2147483647 ∧ 0 ≤ c ∧ c ≤ n
theorem Pu.chg {L : List Addr} {H H' : Hp} {p : Addr} {n : Nat} (h : Pu H p n) (e : Chg L H H') (hp : p ∉ L) : Pu H' p n := by
  obtain ⟨a, b, c, h1, h2⟩ := h
  exact ⟨a, b, c, e _ _ hp h1, h2⟩
theorem Pu.same {H H' : Hp} {p : Addr} {n : Nat} (h : Pu H p n) (e : Same H H') : Pu H' p n := h.chg (L := []) (Chg.of_same e) List.not_mem_nil
theorem Pu.mono {H : Hp} {p : Addr} {n m : Nat} (h : Pu H p n) (e : n ≤ m) : Pu H p m := by
  obtain ⟨a, b, c, h1, h2, h3, h4, h5, h6⟩ := h
  exact ⟨a, b, c, h1, h2, h3, h4, h5, by omega⟩
theorem Pu.ne {H : Hp} {p q : Addr} {n : Nat} (h : Pu H p n) (e : H q = none) : p ≠ q := by
  obtain ⟨a, b, c, h1, _⟩ := h
  exact ne_of_none h1 e
theorem Pu.at {H : Hp} {p : Addr} {n : Nat} (h : Pu H p n) : ∃ o, H p = some o := by
  obtain ⟨a, b, c, h1, _⟩ := h
  exact ⟨_, h1⟩
/-! ### data: whole numbers, spans, lists of them -/
theorem dpAll_ints {K : PySem.W.Frag} {H : Hp} : ∀ ns : List Int, DpAll K H (ns.map V.int) (ns.map PyData.int)
  | [] => .nil
  | n :: r => .cons (.int n) (dpAll_ints r)
theorem lay_ints : ∀ ns : List Int, PyData.canLayAll0 (ns.map PyData.int) = true ∧ PyData.depthAll (ns.map PyData.int) = 0
  | [] => ⟨rfl, rfl⟩
  | n :: r => by
    obtain ⟨h1, h2⟩ := lay_ints r
    refine ⟨?_, ?_⟩
    · show (PyData.canLay0 (.int n) && PyData.canLayAll0 (r.map PyData.int)) = true
      rw [h1]
      rfl
    · show max (PyData.depth (.int n)) (PyData.depthAll (r.map PyData.int)) = 0
      rw [h2]
      rfl
theorem shaped_ints (ns : List Int) : SeqAt.shaped (.list (ns.map PyData.int)) = true := by
  obtain ⟨h1, h2⟩ := lay_ints ns
  show (PyData.canLayAll0 (ns.map PyData.int) && decide (PyData.depthAll (ns.map PyData.int) + 1 ≤ 64)) = true
  rw [h1, h2]
  rfl
theorem shaped_nil : SeqAt.shaped (.list []) = true := rfl
theorem eqv_ints_nil (ns : List Int) : PyData.eqv (.list (ns.map PyData.int)) (.list []) = decide (ns = []) := by
  cases ns with
  | nil => rfl
  | cons n r => simp [PyData.eqv, PyData.eqvAll]
abbrev Span := Int × Int
def spD (s : Span) : PyData := .tuple [.int s.1, .int s.2]
/-- v is the span s -/
def Spn (H : Hp) (v : V) (s : Span) : Prop := ∃ t, v = .ref t ∧ H t = some (.tup [.int s.1, .int s.2])
inductive Sps (H : Hp) : List V → List Span → Prop where
  | nil : Sps H [] []
  | cons {v : V} {s : Span} {vs : List V} {ss : List Span} : Spn H v s → Sps H vs ss → Sps H (v :: vs) (s :: ss)
theorem Spn.same {H H' : Hp} {v : V} {s : Span} (h : Spn H v s) (e : Same H H') : Spn H' v s := by
  obtain ⟨t, rfl, ht⟩ := h
  exact ⟨t, rfl, e _ _ ht⟩
theorem Sps.same {H H' : Hp} (e : Same H H') : ∀ {vs : List V} {ss : List Span}, Sps H vs ss → Sps H' vs ss
  | _, _, .nil => .nil
  | _, _, .cons h t => .cons (h.same e) (Sps.same e t)
/-- only lists are changed: spans stay -/
def Lsts (L : List Addr) (H : Hp) : Prop := ∀ p ∈ L, ∀ xs, H p ≠ some (.tup xs)
theorem Pu.lsts {H : Hp} {p : Addr} {n : Nat} (h : Pu H p n) : Lsts [p] H := fun b hb xs => by
  obtain ⟨_, _, _, h1, _⟩ := h
  rw [List.mem_singleton.mp hb, h1]
  exact fun z => by cases z
theorem Lsts.of1 {H : Hp} {l : Addr} {ys : List V} (h : H l = some (.lst ys)) : Lsts [l] H := fun b hb xs => by
  rw [List.mem_singleton.mp hb, h]
  exact fun z => by cases z
theorem Lsts.two {H : Hp} {p q : Addr} (h : Lsts [p] H) (h2 : Lsts [q] H) : Lsts [p, q] H := fun b hb xs => by
  rcases List.mem_cons.mp hb with e | e
  · rw [e]
    exact h p List.mem_cons_self xs
  · exact h2 b e xs
theorem Spn.chg {L : List Addr} {H H' : Hp} {v : V} {s : Span} (h : Spn H v s) (e : Chg L H H') (l : Lsts L H) : Spn H' v s := by
  obtain ⟨t, rfl, ht⟩ := h
  exact ⟨t, rfl, e _ _ (fun q => l t q _ ht) ht⟩
theorem Sps.chg {L : List Addr} {H H' : Hp} (e : Chg L H H') (l : Lsts L H) : ∀ {vs : List V} {ss : List Span}, Sps H vs ss → Sps H' vs ss
  | _, _, .nil => .nil
  | _, _, .cons h t => .cons (h.chg e l) (Sps.chg e l t)
theorem Sps.len {H : Hp} : ∀ {vs : List V} {ss : List Span}, Sps H vs ss → vs.length = ss.length
  | _, _, .nil => rfl
  | _, _, .cons _ t => congrArg (· + 1) t.len
theorem Sps.app {H : Hp} : ∀ {vs ws : List V} {ss ts : List Span}, Sps H vs ss → Sps H ws ts → Sps H (vs ++ ws) (ss ++ ts)
  | _, _, _, _, .nil, h => h
  | _, _, _, _, .cons a t, h => .cons a (Sps.app t h)
theorem Sps.one {H : Hp} {v : V} {s : Span} (h : Spn H v s) : Sps H [v] [s] := .cons h .nil
theorem Sps.get {H : Hp} : ∀ {vs : List V} {ss : List Span} {i : Nat} {v : V}, Sps H vs ss → vs[i]? = some v → ∃ s, ss[i]? = some s ∧ Spn H v s
  | _, _, _, _, .nil, e => by simp at e
  | _, _, 0, v, .cons (s := s) h t, e => ⟨s, rfl, by
      have q := Option.some.inj (show some _ = some v from e)
      rw [← q]
      exact h⟩
  | _, _, i + 1, v, .cons h t, e => Sps.get (i := i) t e
theorem Sps.get' {H : Hp} : ∀ {vs : List V} {ss : List Span} {i : Nat} {s : Span}, Sps H vs ss → ss[i]? = some s → ∃ v, vs[i]? = some v ∧ Spn H v s
  | _, _, _, _, .nil, e => by simp at e
  | _, _, 0, s, .cons (v := v) h t, e => ⟨v, rfl, by
      have q := Option.some.inj (show some _ = some s from e)
      rw [← q]
      exact h⟩
  | _, _, i + 1, v, .cons h t, e => Sps.get' (i := i) t e
theorem Spn.dp {K : PySem.W.Frag} {H : Hp} {v : V} {s : Span} (h : Spn H v s) : Dp K H v (spD s) := by
  obtain ⟨t, rfl, ht⟩ := h
  exact .tup (SqT.of ht) (.cons (.int _) (.cons (.int _) .nil))
theorem Sps.dpAll {K : PySem.W.Frag} {H : Hp} : ∀ {vs : List V} {ss : List Span}, Sps H vs ss → DpAll K H vs (ss.map spD)
  | _, _, .nil => .nil
  | _, _, .cons h t => .cons h.dp t.dpAll
theorem Sps.dp {K : PySem.W.Frag} {H : Hp} {a : Addr} {vs : List V} {ss : List Span} (h : Sps H vs ss) (q : SqL K H a vs) : Dp K H (.ref a) (.list (ss.map spD)) := .lst q h.dpAll
theorem lay_spans : ∀ ss : List Span, PyData.canLayAll0 (ss.map spD) = true ∧ PyData.depthAll (ss.map spD) ≤ 1
  | [] => ⟨rfl, by decide⟩
  | s :: r => by
    obtain ⟨h1, h2⟩ := lay_spans r
    refine ⟨?_, ?_⟩
    · show (PyData.canLay0 (spD s) && PyData.canLayAll0 (r.map spD)) = true
      rw [h1]
      rfl
    · show max (PyData.depth (spD s)) (PyData.depthAll (r.map spD)) ≤ 1
      have e : PyData.depth (spD s) = 1 := rfl
      rw [e]
      omega
theorem shaped_spans (ss : List Span) : SeqAt.shaped (.list (ss.map spD)) = true := by
  obtain ⟨h1, h2⟩ := lay_spans ss
  show (PyData.canLayAll0 (ss.map spD) && decide (PyData.depthAll (ss.map spD) + 1 ≤ 64)) = true
  rw [h1, decide_eq_true (by omega)]
  rfl
theorem eqv_span (s t : Span) : PyData.eqv (spD s) (spD t) = decide (s = t) := by
  obtain ⟨a, b⟩ := s
  obtain ⟨c, d⟩ := t
  simp [PyData.eqv, PyData.eqvAll, spD, Bool.beq_eq_decide_eq]
theorem eqvAll_spans : ∀ ss ts : List Span, PyData.eqvAll (ss.map spD) (ts.map spD) = decide (ss = ts)
  | [], [] => rfl
  | [], _ :: _ => rfl
  | _ :: _, [] => rfl
  | s :: ss, t :: ts => by
    show (PyData.eqv (spD s) (spD t) && PyData.eqvAll (ss.map spD) (ts.map spD)) = _
    rw [eqv_span, eqvAll_spans ss ts]
    by_cases h : s = t <;> by_cases h2 : ss = ts <;> simp [h, h2]
theorem eqv_spans (ss ts : List Span) : PyData.eqv (.list (ss.map spD)) (.list (ts.map spD)) = decide (ss = ts) := eqvAll_spans ss ts
theorem eqv_spans_nil (ss : List Span) : PyData.eqv (.list (ss.map spD)) (.list []) = decide (ss = []) := eqvAll_spans ss []
/-! ### generator expressions with two names, over pairs -/
/-- an iterator that yields pairs stands ready in s2; s1 is the state ahead of it -/
structure Src (X : Cx) (pins : List (Addr × Obj)) (σ : L2.St) (P : Addr) (H1 : Hp) (s1 s2 : Shared) (I : Addr) (fp wr : List Addr) (n : Nat) (Pt : Nat → Array Value → Prop) (Sn : Nat → Heap → Prop) (Mid : Nat → Addr → Heap → Prop) : Prop where
  inv : Inv X pins σ H1 s1
  tab : GxR.TabG H1 P
  eta : ∃ h2 tk, s2 = { s1 with heap := h2, toks := tk }
  keep : ∀ b o, s1.heap.get? b = some o → s2.heap.get? b = some o
  size : s1.heap.objs.size ≤ s2.heap.objs.size
  walk : ∀ A' : Around, A'.handled = none → WalksU X.prog X.w A' I fp wr n Pt Sn Mid
  two : ∀ i vals, Pt i vals → ∃ va vb, vals = #[va, vb]
  st : Sn 0 s2.heap
  fpl : ∀ b ∈ fp, b < s2.heap.objs.size ∧ b ≠ P
  new : ∀ b ∈ wr, s1.heap.objs.size ≤ b
/-- the generator expression's own scope: its two names -/
structure GenS2 (env : Env) (scope : Scope) (xa xb : Str) : Prop where
  kind : scope.kind = .function
  co : scope.isCoroutine = false
  cell : ∀ y ∈ scope.names, y.2 ≠ .cell
  dot : scope.names.lookup (".0" : Str) = some NameKind.local
  la : scope.names.lookup xa = some .local
  lb : scope.names.lookup xb = some .local
  ne : xa ≠ xb
  free : ∀ y ∈ scope.names, y.2 = .free → ∃ c, env.cells.lookup y.1 = some c
/-- the element of the i-th pair gives what F says; hr: the heap that is read -/
def EltQ (prog : Program) (w : World) (scope : Scope) (xa xb : Str) (elt : Expr) (Pt : Nat → Array Value → Prop) (F : Nat → Value → Prop) (hr : Heap) : Prop :=
  ∀ (cenv : Env) (A' : Around) (E' : Value → Shared → Prop) (i : Nat) (va vb : Value) (s2 : Shared) (m2 : Str → Option Value), cenv.scope = scope → Pt i #[va, vb] → s2.heap.Ns cenv.locals m2 → m2 xa = some va → m2 xb = some vb →
    (∀ b o, hr.get? b = some o → s2.heap.get? b = some o) → wpAny (model prog w) A' (eval elt cenv) (fun y s3 => F i y ∧ Keeps s2 s3) E' s2
/-- the generator g is ready: n elements, by F -/
def Ready2 (X : Cx) (pins : List (Addr × Obj)) (σ : L2.St) (H1 : Hp) (P : Addr) (n : Nat) (F : Nat → Value → Prop) (g : Addr) (s5 : Shared) : Prop :=
  ∃ (fp wr : List Addr) (G : Array GenState → Array GenState → Prop) (Sn : Nat → Shared → Prop), WalksS X.prog X.w X.A.in1 g fp wr G n F Sn ∧ Sn 0 s5 ∧ (∀ b ∈ fp, b < s5.heap.objs.size) ∧ ∀ s', Moved wr G s5 s' → ∃ H2, GxR.Tabbed P H1 H2 ∧ Inv X pins σ H2 s'
theorem walksS_imp {prog : Program} {w : World} {A : Around} {I : Addr} {fp wr : List Addr} {G : Array GenState → Array GenState → Prop} {n : Nat} {P P' : Nat → Value → Prop} {Sn : Nat → Shared → Prop} (W : WalksS prog w A I fp wr G n P Sn) (h : ∀ i v, P i v → P' i v) : WalksS prog w A I fp wr G n P' Sn where
  sub := W.sub
  grefl := W.grefl
  gtrans := W.gtrans
  frame := W.frame
  item := fun i t Q E hi st hq => W.item i t Q E hi st fun v t' hv => hq v t' (h i v hv)
  done := W.done
  self := W.self
section
variable {X : Cx} {pins : List (Addr × Obj)} {σ : L2.St} {H : Hp} {s : Shared}
theorem gen_two {c P : Addr} {elt iter : Expr} {xa xb : Str} {pa pb pt gpos : Pos} {kt k : Nat} {scope : Scope} {Q' : Value → Shared → Prop}
    (hr : Room k X.A) (TB : GxR.TabB X.base X.mg c P) (hcode : X.env.code = .ref c) (S : GenS2 X.env scope xa xb) (hs : ∀ v, genFold iter X.env v = pure v)
    (hi : wpAny (model X.prog X.w) X.A (eval iter X.env) (fun xv t1 => wpAny (model X.prog X.w) X.A (pyIter xv) (fun it t2 => ∃ (H1 : Hp) (s1 : Shared) (I : Addr) (fp wr : List Addr) (n : Nat) (Pt : Nat → Array Value → Prop) (Sn : Nat → Heap → Prop) (Mid : Nat → Addr → Heap → Prop) (F : Nat → Value → Prop),
      it = .ref I ∧ Src X pins σ P H1 s1 t2 I fp wr n Pt Sn Mid ∧ (∃ hr : Heap, (∀ b o, hr.get? b = some o → s1.heap.get? b = some o ∧ b ≠ P) ∧ EltQ X.prog X.w scope xa xb elt Pt F hr) ∧ ∀ g s5, Ready2 X pins σ H1 P n F g s5 → Q' (.ref g) s5) X.xe t1) X.xe s) :
    wpAny (model X.prog X.w) X.A (eval (.GeneratorExp elt [⟨.Tuple [.Name xa pa, .Name xb pb] kt pt, iter, [], 0⟩] scope gpos) X.env) Q' X.xe s := by
  refine wpAny_GeneratorExp_walksQT hr.hd S.co (closure_ok S.free) S.cell S.dot S.la S.lb S.ne S.kind (by have := hr.dp; omega) ?_ hs
  refine wpAny_mono hi (fun xv t1 h1 => wpAny_mono h1 (fun it t2 h2 => ?_) fun _ _ e => e) fun _ _ e => e
  obtain ⟨H1, s1, I, fp, wr, n, Pt, Sn, Mid, F, rfl, R, ⟨rd, rdk, el⟩, fin⟩ := h2
  have I1 := R.inv
  obtain ⟨ps, hP, tr⟩ := R.tab
  obtain ⟨h2, tk2, rfl⟩ := R.eta
  have gP : s1.heap.get? P = some { cls := .none, data := .fields ps } := I1.hok P _ hP
  have gP2 : h2.get? P = some { cls := .none, data := .fields ps } := R.keep _ _ gP
  have cd : PySem.W.CodeHd h2 c P := TB.code.keeps fun b u e => R.keep _ _ (I1.bk b u e)
  have lim : h2.NoLimit := I1.nolimit.keeps R.keep
  refine ⟨lim, ?_⟩
  -- behind the code object: what is left
  have rest : ∀ (code : Value) (h3 : Heap) (tk : Nat) (qs : Array Value), Heap.ExtBut P h2 h3 → h2.objs.size ≤ h3.objs.size → h3.get? P = some { cls := .none, data := .fields qs } → (∃ more, qs = ps ++ more) → TriplesOk qs.toList →
      wpAny (model X.prog X.w) X.A (builtinsFor X.env.globals X.env.builtins) (fun bi t4 => ∃ J fp wr n0 Pt St0 Mid pz F, Value.ref I = .ref J ∧ (∀ A' : Around, A'.handled = none → WalksU X.prog X.w A' J fp wr n0 Pt St0 Mid) ∧ (∀ i vals, Pt i vals → ∃ va vb, vals = #[va, vb]) ∧ St0 0 t4.heap ∧ (∀ b ∈ fp, b < t4.heap.objs.size) ∧ t4.heap.NoLimit ∧ cStatics ∉ wr ∧
        (∀ hf : Heap, (∀ b o, t4.heap.get? b = some o → hf.get? b = some o) → QuietGenT X.prog X.w (genEnv scope (cloFrom X.env.cells scope.names []) t4.heap.objs.size code bi X.env) xa xb [] elt (List.range t4.heap.objs.size) wr Pt pz F hf) ∧
        (∀ a h5 tk gs, gs.bare = true → t4.heap.objs.size < a → h5.objs.size = a + 1 → (∀ b o, t4.heap.get? b = some o → h5.get? b = some o) →
          WalksS X.prog X.w X.A.in4 a (a :: t4.heap.objs.size :: List.range t4.heap.objs.size) (t4.heap.objs.size :: wr) (GenOnlyQ t4.gens.size) (passing pz n0 0).length
            (fun j y => ∃ i, (passing pz n0 0)[j]? = some i ∧ F i y) (GenAt X.prog X.w X.A.in4 a t4.gens.size t4.heap.objs.size (List.range t4.heap.objs.size) wr pz n0 F) →
          GenAt X.prog X.w X.A.in4 a t4.gens.size t4.heap.objs.size (List.range t4.heap.objs.size) wr pz n0 F 0 { t4 with gens := t4.gens.push gs, toks := tk, heap := h5 } → Q' (.ref a) { t4 with gens := t4.gens.push gs, toks := tk, heap := h5 }))
        X.xe { s1 with heap := h3, toks := tk } := by
    intro code h3 tk qs hx hsz gP3 hmore tr3
    obtain ⟨bm, ob, b1, b2, b3, b4, b5, b6, b7, b8⟩ := TB.bm
    have ncP : cStatics ≠ P := fun e => by
      obtain ⟨_, hns, _⟩ := I1.nolimit
      obtain ⟨o', es, ep, ho, hd, _⟩ := hns
      rw [e, gP] at ho
      cases ho
      cases hd
    have ncl : cStatics < s1.heap.objs.size := let ⟨_, hns, _⟩ := I1.nolimit; hns.lt
    have kp3 : ∀ b u, b ≠ P → s1.heap.get? b = some u → h3.get? b = some u := fun b u hb e => hx b u hb (R.keep _ _ e)
    refine wpAny_builtinsFor (m := X.mg) (by rw [I1.ok.glob]; exact ((I1.mod.glob.keeps I1.bk).keeps R.keep).extBut hx TB.gP) b1 b2 (kp3 _ _ b4 (I1.bk _ _ b5)) b6 b7 b8 ?_
    refine ⟨I, fp, wr, n, Pt, Sn, Mid, (fun _ => true), F, rfl, R.walk, R.two, ?_, ?_, lim.extBut hx ncP, ?_, ?_, ?_⟩
    · exact (R.walk X.A hr.hd).frame _ _ _ R.st fun b hb u e => hx b u (R.fpl b hb).2 e
    · intro b hb
      exact Nat.lt_of_lt_of_le (R.fpl b hb).1 hsz
    · intro z
      exact absurd ncl (Nat.not_lt.mpr (R.new _ z))
    · intro hf hff
      refine ⟨fun A' E' i va vb t m hA hv hn ha hb hk => ?_, fun A' E' i va vb t m hA hv hp hn ha hb hk => ?_⟩
      · simp only [List.forIn_nil]
        exact wpAny_pure ⟨rfl, GxR.keeps_refl _⟩
      · refine el _ A' E' i va vb t m rfl hv hn ha hb fun b o e => ?_
        obtain ⟨e1, nP⟩ := rdk b o e
        have e3 := kp3 b o nP e1
        refine hk b (List.mem_range.mpr (Heap.lt_size e3)) (fun z => ?_) o (hff b o e3)
        have h9 := R.new _ z
        have h10 := Heap.lt_size e1
        exact absurd h10 (Nat.not_lt.mpr h9)
    · intro g h5 tk5 gs gb ga hs5 hk5 W5 hat
      simp only [GxR.passing_true, List.length_range] at W5
      have W6 := walksS_imp (P' := F) W5 fun i v hv => by
        obtain ⟨j, hj, hF⟩ := hv
        obtain ⟨hl, ej⟩ := List.getElem?_eq_some_iff.mp hj
        rw [List.getElem_range] at ej
        rw [ej]
        exact hF
      refine fin g _ ⟨_, _, _, _, W6.in4_1, hat, fun b hb => ?_, fun s' mv => ?_⟩
      · show b < h5.objs.size
        rcases List.mem_cons.mp hb with e | hb
        · rw [e, hs5]
          exact Nat.lt_succ_self _
        · rcases List.mem_cons.mp hb with e | hb
          · rw [e, hs5]
            exact Nat.lt_succ_of_lt ga
          · rw [hs5]
            exact Nat.lt_succ_of_lt (Nat.lt_trans (List.mem_range.mp hb) ga)
      · obtain ⟨more, em⟩ := hmore
        have out : ∀ b u, s1.heap.get? b = some u → b ∉ h3.objs.size :: wr := fun b u e hb => by
          have hl := Heap.lt_size e
          rcases List.mem_cons.mp hb with z | z
          · rw [z] at hl
            exact absurd hl (Nat.not_lt.mpr (Nat.le_trans R.size hsz))
          · exact absurd hl (Nat.not_lt.mpr (R.new _ z))
        have J := GxR.inv_tab (more := more) (h' := s'.heap) (g' := s'.gens) (d' := s'.drawn) (t' := s'.toks) I1 hP (fun b u hb e => mv.heap b u (out b u e) (hk5 b u (kp3 b u hb e)))
          (by rw [← em]; exact mv.heap P _ (out P _ gP) (hk5 P _ gP3)) (AllBare.movedS (I1.bare.push gb) mv)
        rw [GxR.sh_eta s1 s' mv.os] at J
        exact ⟨_, ⟨⟨ps ++ more, upd_same, by rw [← em]; exact tr3⟩, fun b hb => upd_ne hb⟩, J⟩
  cases hf : codeAmong gpos ps.toList with
  | none =>
    refine wpAny_genexprCodeX hcode (cd.code gP2 tr) (cd.tab gP2) hf fun c' h' tk hx hge hlt hco _ htab _ => ?_
    obtain ⟨_, _, _, _, _, _, _, _, _, _, _, _, _, _, _, _, _, _, _, htr, _⟩ := hco
    exact rest _ h' tk _ hx (Nat.le_trans hge (Nat.le_of_lt hlt)) htab.2 ⟨_, rfl⟩ htr
  | some cv =>
    refine wpAny_genexprCode_hit hcode (cd.code gP2 tr) hf ?_
    exact rest cv h2 tk2 ps (Heap.ExtBut.refl _ _) (Nat.le_refl _) gP2 ⟨#[], by simp⟩ tr
end
def genC (scope : Scope) (xa xb : Str) : Bool := decide (scope.kind = .function) && !scope.isCoroutine && scope.names.all (fun y => decide (y.2 ≠ .cell) && decide (y.2 ≠ .free)) && decide (scope.names.lookup (".0" : Str) = some NameKind.local) && decide (scope.names.lookup xa = some .local) && decide (scope.names.lookup xb = some .local) && decide (xa ≠ xb)
theorem genS2_by {env : Env} {scope : Scope} {xa xb : Str} (h : genC scope xa xb = true) : GenS2 env scope xa xb := by
  unfold genC at h
  simp only [Bool.and_eq_true, decide_eq_true_eq, List.all_eq_true, Bool.not_eq_true'] at h
  obtain ⟨⟨⟨⟨⟨⟨h1, h2⟩, h3⟩, h4⟩, h5⟩, h6⟩, h7⟩ := h
  exact ⟨h1, h2, fun y hy => (h3 y hy).1, h4, h5, h6, h7, fun y hy e => absurd e (h3 y hy).2⟩
section
variable {X : Cx} {pins : List (Addr × Obj)} {σ : L2.St} {H : Hp} {s : Shared}
/-! what stands in the machine behind a list of spans -/
theorem sps_objs {vs : List V} {ss : List Span} {its : List Value} (I : Inv X pins σ H s) (h : Sps H vs ss) (rv : Vals vs its) (j : Nat) (hj : j < its.length) :
    ∃ (t : Addr) (a b : Tok), its[j]? = some (.ref t) ∧ IsTup s.heap t #[.int (ss.getD j (0, 0)).1 a, .int (ss.getD j (0, 0)).2 b] ∧ ∃ q, H t = some (.tup q) := by
  have hl := rv.length
  have hl2 := h.len
  have hj2 : j < vs.length := by omega
  obtain ⟨sp, e1, t, e2, e3⟩ := h.get (List.getElem?_eq_getElem hj2)
  obtain ⟨u, e4, ru⟩ := rv.get (List.getElem?_eq_getElem hj2)
  rw [e2] at ru
  cases (show u = Value.ref t from ru)
  obtain ⟨_, ws, rw', p⟩ := (show ObjOk X.prog X.w H s.heap t (.tup [.int sp.1, .int sp.2]) from I.hok t _ e3)
  obtain ⟨u1, u2, rfl, ⟨a, rfl⟩, ⟨b, rfl⟩⟩ := vals2 rw'
  refine ⟨t, a, b, e4, ?_, _, e3⟩
  rw [List.getD_eq_getElem?_getD, e1]
  exact p
/-- what the rest of the machine needs of a list of spans: its items' addresses and their numbers -/
theorem sps_arr {vs : List V} {ss : List Span} {its : List Value} (I : Inv X pins σ H s) (h : Sps H vs ss) (rv : Vals vs its) :
    ∃ (Ts : Nat → Addr) (A B : Nat → Tok), ∀ j, j < its.length → its[j]? = some (.ref (Ts j)) ∧ IsTup s.heap (Ts j) #[.int (ss.getD j (0, 0)).1 (A j), .int (ss.getD j (0, 0)).2 (B j)] ∧ ∃ q, H (Ts j) = some (.tup q) := by
  have key : ∀ j, ∃ (r : Addr × Tok × Tok), j < its.length → its[j]? = some (.ref r.1) ∧ IsTup s.heap r.1 #[.int (ss.getD j (0, 0)).1 r.2.1, .int (ss.getD j (0, 0)).2 r.2.2] ∧ ∃ q, H r.1 = some (.tup q) := fun j => by
    by_cases hj : j < its.length
    · obtain ⟨t, a, b, e⟩ := sps_objs I h rv j hj
      exact ⟨(t, a, b), fun _ => e⟩
    · exact ⟨(0, 0, 0), fun z => absurd z hj⟩
  obtain ⟨f, hf⟩ := Classical.axiomOfChoice key
  exact ⟨fun j => (f j).1, fun j => (f j).2.1, fun j => (f j).2.2, hf⟩
/-! sum(b - a for a, b in spans) -/
def spanSum (ss : List Span) : Int := (ss.map fun s => s.2 - s.1).sum
theorem preSum_spans : ∀ (ss : List Span) (n : Nat), n ≤ ss.length → preSum (fun j => (ss.getD j (0, 0)).2 - (ss.getD j (0, 0)).1) n = spanSum (ss.take n)
  | _, 0, _ => rfl
  | ss, n + 1, h => by
    show preSum _ n + ((ss.getD n (0, 0)).2 - (ss.getD n (0, 0)).1) = _
    rw [preSum_spans ss n (by omega)]
    have hn : n < ss.length := by omega
    unfold spanSum
    rw [List.take_add_one, List.getElem?_eq_getElem hn, List.map_append, List.sum_append, List.getD_eq_getElem?_getD, List.getElem?_eq_getElem hn]
    simp
def tSumP (K : PySem.W.Frag) (P : Addr) (te : TE) : TE := fun σ H Q => te σ H fun v H1 => ∃ (l : Addr) (vs : List V) (ss : List Span), v = .ref l ∧ SqL K H1 l vs ∧ l ≠ P ∧ Sps H1 vs ss ∧ GxR.TabG H1 P ∧ ∀ H2, GxR.Tabbed P H1 H2 → Q (.int (spanSum ss)) H2
theorem pe_sumP {c P : Addr} {iter : Expr} {xa xb : Str} {pa pb pt gpos p pos p1 p2 p3 : Pos} {kt k : Nat} {scope : Scope} {te : TE}
    (hr : Room k X.A) (hg : Gl X "sum") (hm : X.mg "sum" = none) (TB : GxR.TabB X.base X.mg c P) (hcode : X.env.code = .ref c) (S : GenS2 X.env scope xa xb) (hi : PE X iter te) (hs : ∀ v, genFold iter X.env v = pure v)
    (ha : (xa == ("__debug__" : Str)) = false) (hb : (xb == ("__debug__" : Str)) = false)
    (he : starEach [.GeneratorExp (.BinOp (.Name xb p1) .Sub (.Name xa p2) p3) [⟨.Tuple [.Name xa pa, .Name xb pb] kt pt, iter, [], 0⟩] scope gpos] X.env = (false, eval (.GeneratorExp (.BinOp (.Name xb p1) .Sub (.Name xa p2) p3) [⟨.Tuple [.Name xa pa, .Name xb pb] kt pt, iter, [], 0⟩] scope gpos) X.env) :: starEach [] X.env := by rfl) :
    PE X (.Call (.Name "sum" p) [.GeneratorExp (.BinOp (.Name xb p1) .Sub (.Name xa p2) p3) [⟨.Tuple [.Name xa pa, .Name xb pb] kt pt, iter, [], 0⟩] scope gpos] [] pos) (tSumP X.K P te) := by
  constructor
  intro pins s σ H Q I hh
  refine wpAny_Call_Name_kw (ld_blt I hg hm boot_sum ?_)
  refine PyProof.Rows.callWith_builtin1 ?_ he (by rfl)
  rw [he]
  show wpAny _ _ (spliced ((false, eval (.GeneratorExp (.BinOp (.Name xb p1) .Sub (.Name xa p2) p3) [⟨.Tuple [.Name xa pa, .Name xb pb] kt pt, iter, [], 0⟩] scope gpos) X.env) :: backTo pos (starEach [] X.env))) _ _ s
  refine Calls.spliced_cons (gen_two (pins := pins) (σ := σ) hr TB hcode S hs ?_)
  refine thn (hi.run pins s σ H _ I hh) fun v s1 got => ?_
  obtain ⟨x, H1, I1, r1, l, vs, ss, rfl, hq, nlP, hS, tab, q⟩ := got
  cases (show v = Value.ref l from r1)
  obtain ⟨its, rv, pl, hz⟩ := I1.list hq
  obtain ⟨Ts, A, B, hT⟩ := sps_arr I1 hS rv
  have hlen : its.length = ss.length := by rw [← rv.length, hS.len]
  have isl := pl.isList
  refine wpAny_pyIter_list isl ?_
  obtain ⟨ps, hP, _⟩ := id tab
  have gP : s1.heap.get? P = some { cls := .none, data := .fields ps } := I1.hok P _ hP
  have kp : ∀ b o, s1.heap.get? b = some o → (s1.heap.push { cls := .type "list_iterator", data := .fields #[.ref l, .int 0 0] }).get? b = some o := fun b o e => Heap.get?_push_of_some _ e
  have ltT : ∀ j, j < its.length → Ts j < s1.heap.objs.size := fun j hj => by
    obtain ⟨_, ⟨o, ho, _⟩, _⟩ := hT j hj
    exact Heap.lt_size ho
  have llt : l < s1.heap.objs.size := pl.lt
  have size_a : its.toArray.size = its.length := by simp
  have hTP : ∀ j, j < its.length → Ts j ≠ P := fun j hj z => by
    obtain ⟨_, _, w, hw⟩ := hT j hj
    rw [z, hP] at hw
    cases hw
  obtain ⟨hd, _, hd2⟩ := restrict s1.heap fun _ => false
  refine ⟨H1, s1, s1.heap.objs.size, _, _, _, _, _, _, fun j y => j < its.length ∧ ∃ t, y = .int ((ss.getD j (0, 0)).2 - (ss.getD j (0, 0)).1) t, rfl,
    { inv := I1, tab := tab, eta := ⟨_, _, rfl⟩, keep := kp, size := ?_,
      walk := fun A' hA => (WalksU.listOfTuples hA s1.heap.objs.size l (Nat.ne_of_lt llt) its.toArray Ts (fun j => #[.int (ss.getD j (0, 0)).1 (A j), .int (ss.getD j (0, 0)).2 (B j)]) (fun j hj => by rw [size_a] at hj; simpa using (hT j hj).1) (fun j hj => by rw [size_a] at hj; exact Nat.ne_of_lt (ltT j hj))).bound,
      two := fun i vals h => ⟨_, _, h.2⟩, st := ⟨⟨_, Heap.get?_push_size _ rfl, rfl, rfl⟩, isl.push _, fun j hj => ?_⟩, fpl := fun b hb => ?_, new := fun b hb => ?_ }, ⟨hd, fun b o e => ?_, ?_⟩, fun g s5 R => ?_⟩
  · show s1.heap.objs.size ≤ (s1.heap.push _).objs.size
    rw [Heap.size_push]
    exact Nat.le_succ _
  · rw [size_a] at hj
    obtain ⟨_, ⟨o, ho, r⟩, _⟩ := hT j hj
    exact ⟨o, kp _ _ ho, r⟩
  · have sz : (s1.heap.push { cls := .type "list_iterator", data := .fields #[.ref l, .int 0 0] }).objs.size = s1.heap.objs.size + 1 := Heap.size_push ..
    rcases List.mem_cons.mp hb with e | hb
    · refine ⟨?_, fun z => ?_⟩
      · rw [e]
        show s1.heap.objs.size < (s1.heap.push _).objs.size
        rw [sz]
        exact Nat.lt_succ_self _
      · rw [← z, e] at gP
        exact absurd (Heap.lt_size gP) (Nat.lt_irrefl _)
    · rcases List.mem_cons.mp hb with e | hb
      · refine ⟨?_, ?_⟩
        · rw [e]
          show l < (s1.heap.push _).objs.size
          rw [sz]
          exact Nat.lt_succ_of_lt llt
        · rw [e]
          exact nlP
      · obtain ⟨j, hj, e⟩ := List.mem_map.mp hb
        have hj := List.mem_range.mp hj
        rw [size_a] at hj
        refine ⟨?_, ?_⟩
        · rw [← e]
          show Ts j < (s1.heap.push _).objs.size
          rw [sz]
          exact Nat.lt_succ_of_lt (ltT j hj)
        · rw [← e]
          exact hTP j hj
  · rw [List.mem_singleton.mp hb]
    exact Nat.le_refl _
  · rw [hd2 b rfl] at e
    cases e
  · intro cenv A' E' i va vb t m hc hv hn h1 h2 _
    obtain ⟨hi, hv⟩ := hv
    have hv := Array.toList_inj.mpr hv
    simp only [List.cons.injEq, and_true] at hv
    obtain ⟨rfl, rfl⟩ := hv
    rw [size_a] at hi
    refine wpAny_BinOp ?_
    refine wpAny_Name (wpAny_loadName_local (by rw [hc]; exact S.kind) (show cenv.scope.names.lookup xb = some .local by rw [hc]; exact S.lb) hn h2 ?_) hb
    refine wpAny_Name (wpAny_loadName_local (by rw [hc]; exact S.kind) (show cenv.scope.names.lookup xa = some .local by rw [hc]; exact S.la) hn h1 ?_) ha
    exact sub_int ⟨⟨hi, _, rfl⟩, GxR.keeps_tok _ _⟩
  · obtain ⟨fp, wr, G, Sn, W, st, lt, mv⟩ := R
    refine Calls.spliced_nil ?_
    refine call_sum_walkAnyS (W.self 0 _ _ _ st ⟨g, fp, wr, G, its.toArray.size, _, Sn, fun j => (ss.getD j (0, 0)).2 - (ss.getD j (0, 0)).1, rfl, W, st, lt, fun i v hv => hv.2, fun s' t' hm => ?_⟩)
    obtain ⟨H2, hT2, J⟩ := mv s' hm
    refine ⟨.int _, H2, J, ⟨t', rfl⟩, ?_⟩
    rw [size_a, hlen, preSum_spans ss ss.length (Nat.le_refl _), List.take_length]
    exact q H2 hT2
/-! all(a[1] < b[0] for a, b in zip(xs, ys)) -/
def gapAll (ss rs : List Span) : Bool := (List.range (min ss.length rs.length)).all fun i => decide ((ss.getD i (0, 0)).2 < (rs.getD i (0, 0)).1)
def tAllZ (K : PySem.W.Frag) (P : Addr) (ta : TA) : TE := fun σ H Q => ta σ H fun us H1 => ∃ (a b : Addr) (xs ys : List V) (ss rs : List Span), us = [.ref a, .ref b] ∧ SqL K H1 a xs ∧ SqL K H1 b ys ∧ a ≠ P ∧ b ≠ P ∧ Sps H1 xs ss ∧ Sps H1 ys rs ∧ GxR.TabG H1 P ∧ ∀ H2, GxR.Tabbed P H1 H2 → Q (.bl (gapAll ss rs)) H2
theorem ev_item {prog : Program} {w : World} {A : Around} {E : Value → Shared → Prop} {Q : Value → Shared → Prop} {cenv : Env} {s : Shared} {m : Str → Option Value} {x : Str} {t : Addr} {u0 u1 : Value} {i : Nat} {v : Value} {j : Nat} {p1 p2 p3 : Pos}
    (hk : cenv.scope.kind = .function) (hl : cenv.scope.names.lookup x = some .local) (hn : s.heap.Ns cenv.locals m) (hm : m x = some (.ref t)) (hd : (x == ("__debug__" : Str)) = false) (ht : IsTup s.heap t #[u0, u1]) (hi : i < 2) (hv : #[u0, u1][i]? = some v) (h : Q v { s with toks := s.toks + 1 }) :
    wpAny (model prog w) A (eval (.Subscript (.Name x p1) (.Constant (.int (i : Int)) j p2) p3) cenv) Q E s := by
  refine Subscript_ (wpAny_Name (wpAny_loadName_local hk hl hn hm (wpAny_Constant_int ?_)) hd)
  refine subscriptTail_builtinR (x := v) (show Shared.TypeIs _ (.ref t) "tuple" from IsTup.typeIs (s := { s with toks := s.toks + 1 }) ht) slot_tuple_getitem.lookup
    (PyProof.Rows.getItem_tuple (j := i) (Q := fun r s' => r = v ∧ Q r s') (s := { s with toks := s.toks + 1 }) ht (by omega) (by omega) (seqIndex_of (by omega) (by show (i : Int) < ((#[u0, u1].size : Nat) : Int); simp; omega)) hv ⟨rfl, h⟩) (by first | rfl | with_unfolding_all rfl)
theorem pe_allZ {c P : Addr} {e1 e2 : Expr} {xa xb : Str} {pa pb pt gpos p pos p1 p2 p3 p4 p5 p6 p7 zp zpos : Pos} {kt k j1 j2 : Nat} {scope : Scope} {ta : TA}
    (hr : Room k X.A) (hg : Gl X "all") (hm : X.mg "all" = none) (hba : bootBuiltins "all" = some (.builtin "all")) (hgz : Gl X "zip") (hmz : X.mg "zip" = none) (TB : GxR.TabB X.base X.mg c P) (hcode : X.env.code = .ref c) (S : GenS2 X.env scope xa xb) (hi : PA X [e1, e2] ta)
    (hs : ∀ v, genFold (.Call (.Name "zip" zp) [e1, e2] [] zpos) X.env v = pure v)
    (ha : (xa == ("__debug__" : Str)) = false) (hb : (xb == ("__debug__" : Str)) = false)
    (hz : starEach [e1, e2] X.env = (false, eval e1 X.env) :: starEach [e2] X.env := by rfl) (hpl : (backTo zpos (starEach [e2] X.env)).any (·.1) = false := by rfl)
    (he : starEach [.GeneratorExp (.Compare (.Subscript (.Name xa p1) (.Constant (.int 1) j1 p2) p3) [.Lt] [.Subscript (.Name xb p4) (.Constant (.int 0) j2 p5) p6] p7) [⟨.Tuple [.Name xa pa, .Name xb pb] kt pt, .Call (.Name "zip" zp) [e1, e2] [] zpos, [], 0⟩] scope gpos] X.env = (false, eval (.GeneratorExp (.Compare (.Subscript (.Name xa p1) (.Constant (.int 1) j1 p2) p3) [.Lt] [.Subscript (.Name xb p4) (.Constant (.int 0) j2 p5) p6] p7) [⟨.Tuple [.Name xa pa, .Name xb pb] kt pt, .Call (.Name "zip" zp) [e1, e2] [] zpos, [], 0⟩] scope gpos) X.env) :: starEach [] X.env := by rfl) :
    PE X (.Call (.Name "all" p) [.GeneratorExp (.Compare (.Subscript (.Name xa p1) (.Constant (.int 1) j1 p2) p3) [.Lt] [.Subscript (.Name xb p4) (.Constant (.int 0) j2 p5) p6] p7) [⟨.Tuple [.Name xa pa, .Name xb pb] kt pt, .Call (.Name "zip" zp) [e1, e2] [] zpos, [], 0⟩] scope gpos] [] pos) (tAllZ X.K P ta) := by
  constructor
  intro pins s σ H Q I hh
  refine wpAny_Call_Name_kw (ld_blt I hg hm hba ?_)
  refine PyProof.Rows.callWith_builtin1 ?_ he (by rfl)
  rw [he]
  show wpAny _ _ (spliced ((false, eval (.GeneratorExp (.Compare (.Subscript (.Name xa p1) (.Constant (.int 1) j1 p2) p3) [.Lt] [.Subscript (.Name xb p4) (.Constant (.int 0) j2 p5) p6] p7) [⟨.Tuple [.Name xa pa, .Name xb pb] kt pt, .Call (.Name "zip" zp) [e1, e2] [] zpos, [], 0⟩] scope gpos) X.env) :: backTo pos (starEach [] X.env))) _ _ s
  refine Calls.spliced_cons (gen_two (pins := pins) (σ := σ) hr TB hcode S hs ?_)
  refine Call_ (ld_blt I hgz hmz PyProof.Rows.boot_zip (PyProof.Rows.callWith_type1 (thn (hi.run zpos pins s σ H _ I hh) fun us s1 got => ?_) hz hpl))
  obtain ⟨ws, H1, I1, r1, a, b, xs, ys, ss, rs, rfl, hqx, hqy, naP, nbP, hS, hR, tab, q⟩ := got
  obtain ⟨u1, u2, rfl, ra, rb⟩ := vals2 r1
  cases (show u1 = Value.ref a from ra)
  cases (show u2 = Value.ref b from rb)
  obtain ⟨its, rv, pl, hz1⟩ := I1.list hqx
  obtain ⟨its2, rv2, pl2, hz2⟩ := I1.list hqy
  obtain ⟨Ts, A, B, hT⟩ := sps_arr I1 hS rv
  obtain ⟨Us, A2, B2, hU⟩ := sps_arr I1 hR rv2
  have hlen : its.length = ss.length := by rw [← rv.length, hS.len]
  have hlen2 : its2.length = rs.length := by rw [← rv2.length, hR.len]
  have isl := pl.isList
  have isl2 := pl2.isList
  obtain ⟨ps, hP, _⟩ := id tab
  have gP : s1.heap.get? P = some { cls := .none, data := .fields ps } := I1.hok P _ hP
  refine call_zip_2 isl isl2 fun h' hz' hTI hTO h1 h2 hsz hk => wpAny_pyIter_zip hz' ?_
  have PL := Heap.lt_size gP
  have newP : ∀ n : Nat, s1.heap.objs.size + n ≠ P := fun n z => by
    rw [← z] at PL
    exact absurd PL (Nat.not_lt.mpr (Nat.le_add_right _ _))
  have D := PySem.W.ktu_apart s1.heap.objs.size a b pl.lt pl2.lt
  let rd : Heap := s1.heap
  have mn : min its.toArray.size its2.toArray.size = min ss.length rs.length := by simp [hlen, hlen2]
  -- what is read while it runs: all that stood but the table
  obtain ⟨hd, hd1, hd2⟩ := restrict s1.heap fun b => decide (b ≠ P)
  refine ⟨H1, s1, s1.heap.objs.size + 4, _, _, _, _, _, _, fun j y => j < min ss.length rs.length ∧ y = .bool (decide ((ss.getD j (0, 0)).2 < (rs.getD j (0, 0)).1)), rfl,
    { inv := I1, tab := tab, eta := ⟨_, _, rfl⟩, keep := hk, size := ?_,
      walk := fun A' hA => (WalksT.zip2 hA (s1.heap.objs.size + 4) (s1.heap.objs.size + 2) (s1.heap.objs.size + 3) s1.heap.objs.size (s1.heap.objs.size + 1) a b D its.toArray its2.toArray).toU.bound,
      two := fun i vals h => ?_, st := ⟨hz', hTI, ⟨_, _, hTO⟩, h1, h2, (by obtain ⟨o, ho, r⟩ := isl; exact ⟨o, hk _ _ ho, r⟩), (by obtain ⟨o, ho, r⟩ := isl2; exact ⟨o, hk _ _ ho, r⟩)⟩, fpl := fun c hc => ?_, new := fun c hc => ?_ }, ⟨hd, fun c o e => ?_, ?_⟩, fun g s5 R => ?_⟩
  · show s1.heap.objs.size ≤ h'.objs.size
    rw [hsz]
    exact Nat.le_add_right _ _
  · obtain ⟨_, x, y, _, _, e⟩ := h
    exact ⟨x, y, e⟩
  · have hc' : c = s1.heap.objs.size + 4 ∨ c = s1.heap.objs.size + 2 ∨ c = s1.heap.objs.size + 3 ∨ c = s1.heap.objs.size ∨ c = s1.heap.objs.size + 1 ∨ c = a ∨ c = b := by simpa using hc
    have al : a < s1.heap.objs.size := pl.lt
    have bl : b < s1.heap.objs.size := pl2.lt
    have sz : h'.objs.size = s1.heap.objs.size + 5 := hsz
    refine ⟨?_, ?_⟩
    · show c < h'.objs.size
      rw [sz]
      rcases hc' with e | e | e | e | e | e | e <;> rw [e]
      · exact Nat.add_lt_add_left (by decide) _
      · exact Nat.add_lt_add_left (by decide) _
      · exact Nat.add_lt_add_left (by decide) _
      · exact Nat.lt_add_of_pos_right (by decide)
      · exact Nat.add_lt_add_left (by decide) _
      · exact Nat.lt_of_lt_of_le al (Nat.le_add_right _ _)
      · exact Nat.lt_of_lt_of_le bl (Nat.le_add_right _ _)
    · rcases hc' with e | e | e | e | e | e | e <;> rw [e]
      · exact newP 4
      · exact newP 2
      · exact newP 3
      · exact newP 0
      · exact newP 1
      · exact naP
      · exact nbP
  · have hc' : c = s1.heap.objs.size + 4 ∨ c = s1.heap.objs.size + 3 ∨ c = s1.heap.objs.size ∨ c = s1.heap.objs.size + 1 := by simpa using hc
    rcases hc' with e | e | e | e <;> rw [e]
    · exact Nat.le_add_right _ _
    · exact Nat.le_add_right _ _
    · exact Nat.le_refl _
    · exact Nat.le_add_right _ _
  · by_cases hc : c = P
    · rw [hd2 c (by simp [hc])] at e
      cases e
    · rw [hd1 c (decide_eq_true hc)] at e
      exact ⟨e, hc⟩
  · intro cenv A' E' i va vb t m hc hv hn h3 h4 hk2
    obtain ⟨hi', x, y, ex, ey, hv⟩ := hv
    have hv := Array.toList_inj.mpr hv
    simp only [List.cons.injEq, and_true] at hv
    obtain ⟨rfl, rfl⟩ := hv
    rw [mn] at hi'
    have i1 : i < its.length := by omega
    have i2 : i < its2.length := by omega
    obtain ⟨e1, t1, w1, g1⟩ := hT i i1
    obtain ⟨e2, t2, w2, g2⟩ := hU i i2
    have ex' : va = .ref (Ts i) := by
      have : its[i]? = some va := by simpa using ex
      rw [e1] at this
      exact (Option.some.inj this).symm
    have ey' : vb = .ref (Us i) := by
      have : its2[i]? = some vb := by simpa using ey
      rw [e2] at this
      exact (Option.some.inj this).symm
    subst ex' ey'
    have rd : ∀ {z : Addr} {ar : Array Value}, IsTup s1.heap z ar → (∃ q, H1 z = some (.tup q)) → IsTup t.heap z ar := fun {z ar} h q => by
      obtain ⟨o, ho, r⟩ := h
      refine ⟨o, hk2 _ _ ?_, r⟩
      rw [hd1 z (decide_eq_true fun zP => ?_)]
      · exact ho
      · obtain ⟨q, hq⟩ := q
        rw [zP, hP] at hq
        cases hq
    refine wpAny_Compare1 ?_
    refine ev_item (i := 1) (by rw [hc]; exact S.kind) (show cenv.scope.names.lookup xa = some .local by rw [hc]; exact S.la) hn h3 ha (rd t1 ⟨w1, g1⟩) (by decide) rfl ?_
    refine ev_item (i := 0) (s := { t with toks := t.toks + 1 }) (by rw [hc]; exact S.kind) (show cenv.scope.names.lookup xb = some .local by rw [hc]; exact S.lb) hn h4 hb (rd t2 ⟨w2, g2⟩) (by decide) rfl ?_
    exact lt_int ⟨⟨hi', rfl⟩, GxR.keeps_tok t _⟩
  · obtain ⟨fp, wr, G, Sn, W, st, lt, mv⟩ := R
    refine Calls.spliced_nil ?_
    refine call_all_walkS (W.self 0 _ _ _ st ⟨g, fp, wr, G, _, _, Sn, fun j => decide ((ss.getD j (0, 0)).2 < (rs.getD j (0, 0)).1), rfl, W, st, fun i v t Q1 E1 hv hq => ?_, fun s' hmv => ?_⟩)
    · rw [hv.2]
      exact wpAny_truthy_bool hq
    · obtain ⟨H2, hT2, J⟩ := mv s' hmv
      refine ⟨.bl _, H2, J, rfl, ?_⟩
      rw [mn]
      exact q H2 hT2
end
/-! ### defs that hold generator expressions: their code objects and tables -/
structure FunC (K : PySem.W.Frag) (x qual : Str) (st : Stmt) (f : Addr) (fd : FuncData) (c : Addr) : Prop where
  ex : ∃ (oc : Value) (od : Option Addr) (kV doc pm : Value) (an : Option Addr) (ct : Value) (osl : Array (Option Value)),
    fd = PySem.W.fnOf x qual (defArgs st) (defBody st) (defScope st) .none kV doc pm an (.ref c) ct ∧ K.lookup f = some ⟨oc, od, .func fd, osl⟩ ∧ PySem.W.codeIn K (.ref c) qual = true
section
variable {P : Program} {w : World} {K : PySem.W.Frag} {mg : Str → Option Value} {base : Heap}
theorem FunC.ok {x qual : Str} {st : Stmt} {f c : Addr} {fd : FuncData} {N ps : List Str} {k : Nat} {sp : Sp} (F : FunC K x qual st f fd c) (S : FnScope N ps (defScope st)) (len : ∀ vs H Q E, sp vs H Q E → vs.length = ps.length)
    (hbody : ∀ (A : Around) (outer : List Env) (s : Shared) (H : Hp) (vs : List V) (Q : VK) (E : XK), Room k (A.deeper (envOfC qual (defScope st) s.heap.objs.size f (.ref c))) → sp vs H Q E →
      ∃ t, PSs (cxOf CX0 P w K mg base N qual (defScope st) f (.ref c) A outer s H E).nox (defBody st) t ∧ t { nx := fun _ H' => Q .non H', rt := Q } (start N vs) H) : FnOk P w K mg base CX0 (k + 1) f fd ps sp := by
  obtain ⟨oc, od, kV, doc, pm, an, ct, osl, rfl, lk, hcd⟩ := F.ex
  refine fn_of lk hcd S len fun A outer s H vs Q E hr hsp => ?_
  obtain ⟨t, h, q⟩ := hbody A outer s H vs Q E hr hsp
  exact ⟨t, h.nox, q⟩
theorem FunC.okX {x qual : Str} {st : Stmt} {f c : Addr} {fd : FuncData} {N ps : List Str} {k : Nat} {sp : Sp} (F : FunC K x qual st f fd c) (S : FnScope N ps (defScope st)) (len : ∀ vs H Q E, sp vs H Q E → vs.length = ps.length)
    (hbody : ∀ (A : Around) (outer : List Env) (s : Shared) (H : Hp) (vs : List V) (Q : VK) (E : XK), Room k (A.deeper (envOfC qual (defScope st) s.heap.objs.size f (.ref c))) → sp vs H Q E →
      ∃ t, PSs (cxOf (L2.CX P w) P w K mg base N qual (defScope st) f (.ref c) A outer s H E) (defBody st) t ∧ t { nx := fun _ H' => Q .non H', rt := Q } (start N vs) H) : FnOk P w K mg base (L2.CX P w) (k + 1) f fd ps sp := by
  obtain ⟨oc, od, kV, doc, pm, an, ct, osl, rfl, lk, hcd⟩ := F.ex
  exact fn_of lk hcd S len fun A outer s H vs Q E hr hsp => hbody A outer s H vs Q E hr hsp
end
/-- the head's word about a def's code object and its table -/
def TabRec (h : Heap) (mg : Str → Option Value) (nm : Str) : Prop := ∃ (a : Addr) (o : Obj) (fd : FuncData) (c P : Addr), mg nm = some (.ref a) ∧ h.get? a = some o ∧ o.data = .func fd ∧ fd.code = .ref c ∧ h.IsCode c P #[] ∧ h.TableAt c P #[]
theorem walk_tabs {l : PySem.W.OpenLaw} {n k : Nat} {q : Program} {loose : List Str} {XP : (Str → Option Value) → Heap → Prop} {YP : World → Heap → Prop} {d : DefRec} {K : Params → PySem.W.Frag} {CX : World → CXT} {x : Str} (nms : List Str)
    (hn : l.most = some n) (hn2 : n ≤ sizeLine) (hdf : d.params.defaults = []) (hr : Room k callerA) (hrec : (nms.all fun nm => (recsOf q).any fun e => e.name == nm) = true) (hY : ∀ (w : World) (h : Heap), YP w h → (K w.params).In h)
    (F : ∀ (w : World) (mg : Str → Option Value) (fa : Addr) (h : Heap), (K w.params).In h → h.Ns mainGlobals mg → mg d.name = some (.ref fa) → (∀ nm ∈ nms, TabRec h mg nm) → LamX.LawAtS l w (K w.params) (CX w) k n x mg fa h)
    (hCX : ∀ (w : World) (H : Hp) (s : Shared) (e : Value) (s' : Shared), CX w [] H s (fun _ _ _ => False) e s' → False) :
    PySem.W.WalkO q loose XP YP l.row.toRowW d [] (fun f vs => PySem.call f vs) := by
  refine Att.attach_callB hn hdf fun w s0 s1 mg mb fa o pm cd doc a vs ns G Y ho hd hcd hmg hobj hints hlen hbits hg => ?_
  have KX := hY w _ Y
  have tabs : ∀ nm ∈ nms, TabRec s1.heap mg nm := fun nm hm => by
    obtain ⟨dL, h1, h2⟩ := List.any_eq_true.mp (List.all_eq_true.mp hrec nm hm)
    obtain ⟨a', o', fd', c', P', k1, k2, k3, k4, k5, k6⟩ := G.T.tab dL h1
    rw [beq_iff_eq.mp h2] at k1
    exact ⟨a', o', fd', c', P', k1, k2, k3, k4, k5, k6⟩
  obtain ⟨fd, cs, sp, hT, nT, C, hb, hsp, hF⟩ := F w mg fa _ KX G.T.g hmg tabs
  exact LamX.law_callTs KX G.T.g G.T.b G.T.builtins G.T.nolimit hg hT nT C G.T.bmain hobj hints (Nat.le_trans hlen hn2) hr hF hb (fun H hH hS => hsp H a ns hlen hbits hH hS) fun H e s' => hCX w H s1 e s'
/-- the table of the def at f, as the written part names it -/
theorem tab_of {K : PySem.W.Frag} {h : Heap} {mg : Str → Option Value} {nm : Str} {f c P : Addr} {fd : FuncData} {oc : Value} {od : Option Addr} {osl : Array (Option Value)} {ec : Value} {dc : Option Addr} {vc : Array Value} {sl : Array (Option Value)} (X : K.In h) (R : TabRec h mg nm)
    (g : mg nm = some (.ref f)) (lf : K.lookup f = some ⟨oc, od, .func fd, osl⟩) (hc : fd.code = .ref c) (lc : K.lookup c = some ⟨ec, dc, .fields vc, sl⟩) (h11 : vc[11]? = some (.ref P)) :
    h.get? P = some { cls := .none, data := .fields #[] } ∧ PySem.W.CodeHd h c P := by
  obtain ⟨a, o, fd', c', P', k1, k2, k3, k4, k5, k6⟩ := R
  rw [g] at k1
  cases k1
  rw [X _ _ lf] at k2
  cases k2
  cases k3
  rw [hc] at k4
  cases k4
  have hd := PySem.W.CodeHd.of k5 k6
  obtain ⟨⟨o2, v2, e1, _, e3, e4⟩, hP⟩ := k6
  rw [X _ _ lc] at e1
  cases e1
  cases e3
  rw [h11] at e4
  cases e4
  exact ⟨hP, hd⟩
/-- the tables stand -/
def Tb (Ps : List Addr) (H : Hp) : Prop := ∀ P ∈ Ps, GxR.TabG H P
theorem Tb.same {Ps : List Addr} {H H' : Hp} (t : Tb Ps H) (e : Same H H') : Tb Ps H' := fun P hP => by
  obtain ⟨ps, h1, h2⟩ := t P hP
  exact ⟨ps, e _ _ h1, h2⟩
theorem Tb.chg {Ps L : List Addr} {H H' : Hp} (t : Tb Ps H) (e : Chg L H H') (n : ∀ P ∈ Ps, P ∉ L) : Tb Ps H' := fun P hP => by
  obtain ⟨ps, h1, h2⟩ := t P hP
  exact ⟨ps, e _ _ (n P hP) h1, h2⟩
theorem Tb.out {Ps : List Addr} {H : Hp} {a : Addr} {o : HO} (t : Tb Ps H) (h : H a = some o) (n : ∀ ps, o ≠ .tbl ps) : a ∉ Ps := fun hm => by
  obtain ⟨ps, h1, _⟩ := t a hm
  rw [h] at h1
  exact n ps (Option.some.inj h1)
theorem Tb.new {Ps : List Addr} {H : Hp} {a : Addr} (t : Tb Ps H) (h : H a = none) : a ∉ Ps := fun hm => by
  obtain ⟨ps, h1, _⟩ := t a hm
  rw [h] at h1
  cases h1
theorem Tb.lsts {Ps : List Addr} {H : Hp} (t : Tb Ps H) : Lsts Ps H := fun P hP xs z => by
  obtain ⟨ps, h1, _⟩ := t P hP
  rw [h1] at z
  cases z
theorem Tb.tabbed {Ps : List Addr} {H H' : Hp} {P : Addr} (t : Tb Ps H) (hP : P ∈ Ps) (e : GxR.Tabbed P H H') : Tb Ps H' ∧ Chg Ps H H' := by
  refine ⟨fun Q hQ => ?_, fun b o n h => ?_⟩
  · by_cases z : Q = P
    · rw [z]
      exact e.1
    · obtain ⟨ps, h1, h2⟩ := t Q hQ
      exact ⟨ps, by rw [e.2 Q z]; exact h1, h2⟩
  · have z : b ≠ P := fun z => n (by rw [z]; exact hP)
    rw [e.2 b z]
    exact h
/-! ### set(xs), xs a list of whole numbers, to be sorted -/
section
variable {P : Program} {w : World} {A : Around} {E : Value → Shared → Prop} {s : Shared}
abbrev set0 (w : World) : Obj := { cls := .type "set", dict := none, data := .set #[] 0 (.fresh 0 0 (!w.params.followText "set-order")) }
set_option maxHeartbeats 8000000 in
theorem call_set_lstI {l : Addr} {items : Array Value} (ns : List Int) {Q : Value → Shared → Prop} (hh : A.handled = none) (hl : s.heap.IsList l items) (hit : IntsAre items.toList ns) (hb : ns.length + 1 < scanBound)
    (h : ∀ (h' : Heap) (tk c : Nat), SetR w h' s.heap.objs.size (fun j => decide (j ∈ ns)) c → c ≤ ns.length → (∀ b o, s.heap.get? b = some o → h'.get? b = some o) → Q (.ref s.heap.objs.size) { s with heap := h', toks := tk }) :
    wpAny (model P w) A (call (.type "set") [.ref l]) Q E s := by
  have hisz : items.size = ns.length := by
    have q := IntsAre.length hit
    rw [Array.length_toList] at q
    exact q
  obtain ⟨c0, tl, hmro⟩ := F.called_set.mro
  have hmade := F.called_set.made
  have hsub := F.called_set.sub
  refine wpAny_call (codeAny_of_tree ?_)
  show wpAny _ _ (callAny (.type "set") _) _ _ _
  refine wpAny_pure ⟨Code.quiet_builtin _ (by decide +kernel), codeAny_builtin F.entry_type_call ?_⟩
  rw [Around.under_plain (weight_type_call_type "set" [.ref l] []) rfl]
  have t1 := F.called_set.notType
  have t2 := F.called_set.canCreate
  have t3 := F.typeCall_set_1 (.ref l)
  repeat (any_goals (first | assumption | wp_step))
  refine codeAny_mono (L2.code_set_led1 (.ref l) (E := E) (Q₁ := fun obj u => obj = .ref s.heap.objs.size ∧ u = { s with heap := s.heap.push (set0 w) }) ⟨rfl, rfl⟩) fun r u hr => ?_
  cases r with
  | error e => exact hr
  | ok fl =>
    cases fl with
    | ret obj =>
      obtain ⟨rfl, rfl⟩ := hr
      have gS : (s.heap.push (set0 w)).get? s.heap.objs.size = some (set0 w) := Heap.get?_push_size _ rfl
      have gT : Shared.TypeIs { s with heap := s.heap.push (set0 w) } (.ref s.heap.objs.size) "set" := ⟨_, gS, rfl⟩
      have i1 := F.called_set.init.lookup
      have i2 := F.called_set.init.bind (.ref s.heap.objs.size)
      repeat (any_goals (first | assumption | wp_step))
      refine codeAny_mono (codeAny_call_builtin (R := wants (fun r u2 => r = .none ∧ ∃ h' tk c, u2 = { s with heap := h', toks := tk } ∧ SetR w h' s.heap.objs.size (fun j => decide (j ∈ ns)) c ∧ c ≤ ns.length ∧ (∀ b o, s.heap.get? b = some o → h'.get? b = some o)) E) F.called_set.init.plain F.entry_set_init (check_set_init_1 gT ?_)) fun r2 u2 hr2 => ?_
      · obtain ⟨ol, hol, hcl, nl, hdl⟩ := hl
        obtain ⟨ocls, odict, odata, oslots⟩ := ol
        simp only at hcl hdl
        subst hcl
        subst hdl
        have gol : (s.heap.push (set0 w)).get? l = some { cls := .type "list", dict := odict, data := .seq items nl, slots := oslots } := Heap.get?_push_of_some _ hol
        have k1 := F.sub_list_set
        have k2 := F.sub_list_frozenset
        have k3 : (Value.type "list" == Value.type "dict") = false := by decide
        have isl : (s.heap.push (set0 w)).IsList l items := ⟨_, gol, rfl, nl, rfl⟩
        unfold Builtin.«set.__init__» noKeywords Builtin.Frozenset.updateFrom
        generalize hPI : pyIter = PI
        wp_walk
        subst hPI
        refine wpAny_pyIter_list isl ?_
        refine wpAny_bind (wpAny_runValue ?_)
        have ll : l < s.heap.objs.size := Heap.lt_size hol
        have hh3 : A.in1.in1.in1.handled = none := by simp [hh]
        have neI : l ≠ (s.heap.push (set0 w)).objs.size := by
          rw [Heap.size_push]
          exact Nat.ne_of_lt (Nat.lt_succ_of_lt ll)
        have outS : s.heap.objs.size ∉ [(s.heap.push (set0 w)).objs.size, l] := by
          rw [Heap.size_push]
          simp only [List.mem_cons, List.not_mem_nil, or_false, not_or]
          exact ⟨Nat.ne_of_lt (Nat.lt_succ_self _), Nat.ne_of_gt ll⟩
        have val : ∀ (i : Nat) (v : Value), items[i]? = some v → ∃ k t, ns[i]? = some k ∧ v = .int k t := fun i v hv => by
          have hv2 : items.toList[i]? = some v := by rw [Array.getElem?_toList]; exact hv
          obtain ⟨t, e⟩ := IntsAre.int_at hit i v hv2
          have hi : i < ns.length := by
            have := (List.getElem?_eq_some_iff.mp hv2).1
            rw [Array.length_toList] at this
            omega
          refine ⟨ns[i], t, List.getElem?_eq_getElem hi, ?_⟩
          rw [e, List.getD_eq_getElem?_getD, List.getElem?_eq_getElem hi]
          rfl
        refine L2.set_update_ints ((Walks.list hh3 _ l neI items).toS) s.heap.objs.size outS ns hisz hb val _ 0 _ rfl (Nat.zero_le _) ?_ ⟨0, Nat.le_refl _, L2.setR_new_at (by rw [Heap.get?_push_of_some _ gS])⟩ fun s' c mv hc R => ?_
        · exact ⟨⟨_, Heap.get?_push_size _ rfl, rfl, rfl⟩, isl.push _⟩
        · obtain ⟨h', g2, d2, tk2, os2⟩ := s'
          obtain rfl : g2 = s.gens := mv.gens
          obtain rfl : d2 = s.drawn := mv.drawn
          obtain rfl : os2 = s.os := mv.os
          refine wpAny_pure ?_
          show wpAny _ _ (ret Value.none) _ _ _
          rw [hisz] at hc
          refine wpAny_pure ⟨rfl, h', tk2, c, rfl, R, hc, fun b o e => ?_⟩
          have l0 : b < s.heap.objs.size := Heap.lt_size e
          refine mv.heap b o (fun z => ?_) (Heap.get?_push_of_some _ (Heap.get?_push_of_some _ e))
          rw [Heap.size_push] at z
          simp only [List.mem_cons, List.not_mem_nil, or_false] at z
          rcases z with z | z
          · exact Nat.ne_of_lt l0 z
          · exact Nat.ne_of_lt (Nat.lt_succ_of_lt l0) z
      · cases r2 with
        | error e => exact hr2
        | ok fl2 =>
          cases fl2 with
          | ret r =>
            obtain ⟨rfl, h', tk, c, rfl, R, hc, k⟩ := hr2
            have fin := h h' tk c R hc k
            repeat (any_goals (first | assumption | wp_step))
          | _ => exact hr2.elim
    | _ => exact hr.elim
end
section
variable {X : Cx}
def rSetOf (K : PySem.W.Frag) (w : World) : List V → Hp → VK → Prop := fun vs H Q => ∃ (a : Addr) (ns : List Int), vs = [.ref a] ∧ SqL K H a (ns.map V.int) ∧ ns.length ≤ 1000 ∧ ∀ (p : Addr) (ds : List Int), H p = none → ds.Nodup → (∀ k, k ∈ ds ↔ k ∈ ns) → Q (.ref p) (upd H p (SetO w p (fun j => decide (j ∈ ns)) ds.length))
theorem call_set_of (hc : X.calm = true) : CallR X (.type "set") (rSetOf X.K X.w) := by
  intro pins s σ H vs us Q I r hh
  obtain ⟨a, ns, rfl, hq, hl, q⟩ := hh
  obtain ⟨its, rv, pl, hz⟩ := I.list hq
  rw [Vals.ref1 r]
  refine call_set_lstI ns (I.ok.hd hc) pl.isList (by simpa using rv.ints) (by unfold scanBound; omega) fun h' tk c R hc' k => ?_
  have hn : H s.heap.objs.size = none := I.hok.fresh (Nat.le_refl _)
  obtain ⟨o, es, ep, t, k1, k2, k3, k4, k5, k6, k7, k8, k9, k10, k11⟩ := id R
  have ln : (es.toList.map keyOf).length = c := by
    rw [List.length_map, Array.length_toList]
    exact k9
  have fin := q s.heap.objs.size (es.toList.map keyOf) hn k5 fun k => by
    rw [← k6, decide_eq_true_eq]
  rw [ln] at fin
  exact ⟨.ref s.heap.objs.size, _, I.laid k (Nat.le_refl _) (setO_new R), rfl, fin⟩
end
theorem nodup_len : ∀ {l m : List Int}, l.Nodup → (∀ x ∈ l, x ∈ m) → l.length ≤ m.length
  | [], _, _, _ => Nat.zero_le _
  | a :: l, m, h, sub => by
    have ha := sub a List.mem_cons_self
    have h1 := List.nodup_cons.mp h
    have ih := nodup_len (l := l) (m := m.erase a) h1.2 fun x hx => by
      have ne : x ≠ a := fun z => h1.1 (by rw [← z]; exact hx)
      exact (List.mem_erase_of_ne ne).mpr (sub x (List.mem_cons_of_mem _ hx))
    rw [List.length_erase_of_mem ha] at ih
    have hp := List.length_pos_of_mem ha
    show l.length + 1 ≤ m.length
    omega
def topS (i : Nat) : Stmt := PySem.Challenge.pw_spanshelf_k04_covers_of_two.main.body.getD i (.Pass ⟨0, 0, 0, 0⟩)
abbrev s_is_whole : Stmt := topS 7
abbrev N_is_whole : List Str := ["number"]
theorem sc_is_whole : FnScope N_is_whole ["number"] (defScope s_is_whole) := ⟨rfl, rfl, rfl, by decide +kernel, rfl, by decide +kernel, by decide +kernel⟩
abbrev s_is_place : Stmt := topS 8
abbrev N_is_place : List Str := ["number"]
theorem sc_is_place : FnScope N_is_place ["number"] (defScope s_is_place) := ⟨rfl, rfl, rfl, by decide +kernel, rfl, by decide +kernel, by decide +kernel⟩
abbrev s_is_span : Stmt := topS 9
abbrev N_is_span : List Str := ["span", "low", "high"]
theorem sc_is_span : FnScope N_is_span ["span"] (defScope s_is_span) := ⟨rfl, rfl, rfl, by decide +kernel, rfl, by decide +kernel, by decide +kernel⟩
abbrev s_check_span : Stmt := topS 10
abbrev N_check_span : List Str := ["span"]
theorem sc_check_span : FnScope N_check_span ["span"] (defScope s_check_span) := ⟨rfl, rfl, rfl, by decide +kernel, rfl, by decide +kernel, by decide +kernel⟩
abbrev s_check_spans : Stmt := topS 11
abbrev N_check_spans : List Str := ["spans", "span"]
theorem sc_check_spans : FnScope N_check_spans ["spans"] (defScope s_check_spans) := ⟨rfl, rfl, rfl, by decide +kernel, rfl, by decide +kernel, by decide +kernel⟩
abbrev s_is_cover : Stmt := topS 14
abbrev N_is_cover : List Str := ["spans"]
theorem sc_is_cover : FnScope N_is_cover ["spans"] (defScope s_is_cover) := ⟨rfl, rfl, rfl, by decide +kernel, rfl, by decide +kernel, by decide +kernel⟩
abbrev s_check_cover : Stmt := topS 15
abbrev N_check_cover : List Str := ["cover"]
theorem sc_check_cover : FnScope N_check_cover ["cover"] (defScope s_check_cover) := ⟨rfl, rfl, rfl, by decide +kernel, rfl, by decide +kernel, by decide +kernel⟩
abbrev s_check_covers : Stmt := topS 16
abbrev N_check_covers : List Str := ["one", "other"]
theorem sc_check_covers : FnScope N_check_covers ["one", "other"] (defScope s_check_covers) := ⟨rfl, rfl, rfl, by decide +kernel, rfl, by decide +kernel, by decide +kernel⟩
abbrev s_joined : Stmt := topS 17
abbrev N_joined : List Str := ["spans", "cover", "low", "high", "begin", "end"]
theorem sc_joined : FnScope N_joined ["spans"] (defScope s_joined) := ⟨rfl, rfl, rfl, by decide +kernel, rfl, by decide +kernel, by decide +kernel⟩
abbrev s_common : Stmt := topS 18
abbrev N_common : List Str := ["one", "other", "found", "first", "second", "low", "high"]
theorem sc_common : FnScope N_common ["one", "other"] (defScope s_common) := ⟨rfl, rfl, rfl, by decide +kernel, rfl, by decide +kernel, by decide +kernel⟩
abbrev s_gaps_of : Stmt := topS 19
abbrev N_gaps_of : List Str := ["cover", "gaps", "low", "begin", "end"]
theorem sc_gaps_of : FnScope N_gaps_of ["cover"] (defScope s_gaps_of) := ⟨rfl, rfl, rfl, by decide +kernel, rfl, by decide +kernel, by decide +kernel⟩
abbrev s_both : Stmt := topS 20
abbrev N_both : List Str := ["one", "other"]
theorem sc_both : FnScope N_both ["one", "other"] (defScope s_both) := ⟨rfl, rfl, rfl, by decide +kernel, rfl, by decide +kernel, by decide +kernel⟩
abbrev s_either : Stmt := topS 21
abbrev N_either : List Str := ["one", "other"]
theorem sc_either : FnScope N_either ["one", "other"] (defScope s_either) := ⟨rfl, rfl, rfl, by decide +kernel, rfl, by decide +kernel, by decide +kernel⟩
abbrev s_less : Stmt := topS 22
abbrev N_less : List Str := ["one", "other"]
theorem sc_less : FnScope N_less ["one", "other"] (defScope s_less) := ⟨rfl, rfl, rfl, by decide +kernel, rfl, by decide +kernel, by decide +kernel⟩
abbrev s_held : Stmt := topS 23
abbrev N_held : List Str := ["cover"]
theorem sc_held : FnScope N_held ["cover"] (defScope s_held) := ⟨rfl, rfl, rfl, by decide +kernel, rfl, by decide +kernel, by decide +kernel⟩
abbrev s_l_at : Stmt := topS 25
abbrev N_l_at : List Str := ["_law_script", "_law_k"]
theorem sc_l_at : FnScope N_l_at ["_law_script", "_law_k"] (defScope s_l_at) := ⟨rfl, rfl, rfl, by decide +kernel, rfl, by decide +kernel, by decide +kernel⟩
abbrev s_l_mixed : Stmt := topS 26
abbrev N_l_mixed : List Str := ["_law_cell", "_law_k", "_law_number_here"]
theorem sc_l_mixed : FnScope N_l_mixed ["_law_cell", "_law_k"] (defScope s_l_mixed) := ⟨rfl, rfl, rfl, by decide +kernel, rfl, by decide +kernel, by decide +kernel⟩
abbrev s_l_purse : Stmt := topS 27
abbrev N_l_purse : List Str := ["_law_script", "_law_at_here", "_law_cell"]
theorem sc_l_purse : FnScope N_l_purse ["_law_script", "_law_at_here"] (defScope s_l_purse) := ⟨rfl, rfl, rfl, by decide +kernel, rfl, by decide +kernel, by decide +kernel⟩
abbrev s_l_draw : Stmt := topS 28
abbrev N_l_draw : List Str := ["_law_purse_here", "_law_out_of", "_law_drawn", "_law_number_here", "_law_k"]
theorem sc_l_draw : FnScope N_l_draw ["_law_purse_here", "_law_out_of"] (defScope s_l_draw) := ⟨rfl, rfl, rfl, by decide +kernel, rfl, by decide +kernel, by decide +kernel⟩
abbrev s_l_number : Stmt := topS 29
abbrev N_l_number : List Str := ["_law_purse_here", "_law_most", "_law_far"]
theorem sc_l_number : FnScope N_l_number ["_law_purse_here", "_law_most"] (defScope s_l_number) := ⟨rfl, rfl, rfl, by decide +kernel, rfl, by decide +kernel, by decide +kernel⟩
abbrev s_l_end : Stmt := topS 30
abbrev N_l_end : List Str := ["_law_purse_here", "_law_ends_here", "_law_most", "_law_near"]
theorem sc_l_end : FnScope N_l_end ["_law_purse_here", "_law_ends_here", "_law_most"] (defScope s_l_end) := ⟨rfl, rfl, rfl, by decide +kernel, rfl, by decide +kernel, by decide +kernel⟩
abbrev s_l_span : Stmt := topS 31
abbrev N_l_span : List Str := ["_law_purse_here", "_law_ends_here", "_law_most", "_law_one", "_law_other", "_law_low", "_law_high"]
theorem sc_l_span : FnScope N_l_span ["_law_purse_here", "_law_ends_here", "_law_most"] (defScope s_l_span) := ⟨rfl, rfl, rfl, by decide +kernel, rfl, by decide +kernel, by decide +kernel⟩
abbrev s_l_spans : Stmt := topS 32
abbrev N_l_spans : List Str := ["_law_purse_here", "_law_ends_here", "_law_most", "_law_found", "_law_k"]
theorem sc_l_spans : FnScope N_l_spans ["_law_purse_here", "_law_ends_here", "_law_most"] (defScope s_l_spans) := ⟨rfl, rfl, rfl, by decide +kernel, rfl, by decide +kernel, by decide +kernel⟩
abbrev s_l_holds : Stmt := topS 33
abbrev N_l_holds : List Str := ["_law_span_here", "_law_place"]
theorem sc_l_holds : FnScope N_l_holds ["_law_span_here", "_law_place"] (defScope s_l_holds) := ⟨rfl, rfl, rfl, by decide +kernel, rfl, by decide +kernel, by decide +kernel⟩
abbrev s_l_depth : Stmt := topS 34
abbrev N_l_depth : List Str := ["_law_spans_here", "_law_place", "_law_span_here"]
theorem sc_l_depth : FnScope N_l_depth ["_law_spans_here", "_law_place"] (defScope s_l_depth) := ⟨rfl, rfl, rfl, by decide +kernel, rfl, by decide +kernel, by decide +kernel⟩
abbrev s_l_ends : Stmt := topS 35
abbrev N_l_ends : List Str := ["_law_spans_here", "_law_span_here"]
theorem sc_l_ends : FnScope N_l_ends ["_law_spans_here"] (defScope s_l_ends) := ⟨rfl, rfl, rfl, by decide +kernel, rfl, by decide +kernel, by decide +kernel⟩
abbrev s_l_cover : Stmt := topS 36
abbrev N_l_cover : List Str := ["_law_spans_here", "_law_found", "_law_low", "_law_high", "_law_span_here"]
theorem sc_l_cover : FnScope N_l_cover ["_law_spans_here"] (defScope s_l_cover) := ⟨rfl, rfl, rfl, by decide +kernel, rfl, by decide +kernel, by decide +kernel⟩
abbrev s_l_whole : Stmt := topS 37
abbrev N_l_whole : List Str := ["_law_number_here"]
theorem sc_l_whole : FnScope N_l_whole ["_law_number_here"] (defScope s_l_whole) := ⟨rfl, rfl, rfl, by decide +kernel, rfl, by decide +kernel, by decide +kernel⟩
abbrev s_l_wholes : Stmt := topS 38
abbrev N_l_wholes : List Str := ["_law_some", "_law_one"]
theorem sc_l_wholes : FnScope N_l_wholes ["_law_some"] (defScope s_l_wholes) := ⟨rfl, rfl, rfl, by decide +kernel, rfl, by decide +kernel, by decide +kernel⟩
abbrev s_l_pairs : Stmt := topS 39
abbrev N_l_pairs : List Str := ["_law_some", "_law_one"]
theorem sc_l_pairs : FnScope N_l_pairs ["_law_some"] (defScope s_l_pairs) := ⟨rfl, rfl, rfl, by decide +kernel, rfl, by decide +kernel, by decide +kernel⟩
abbrev s_l_in : Stmt := topS 40
abbrev N_l_in : List Str := ["_law_cover_here", "_law_place"]
theorem sc_l_in : FnScope N_l_in ["_law_cover_here", "_law_place"] (defScope s_l_in) := ⟨rfl, rfl, rfl, by decide +kernel, rfl, by decide +kernel, by decide +kernel⟩
abbrev s_l_kept_places : Stmt := topS 41
abbrev N_l_kept_places : List Str := ["_law_one", "_law_other", "_law_way", "_law_ends_here", "_law_found", "_law_k", "_law_here", "_law_there"]
theorem sc_l_kept_places : FnScope N_l_kept_places ["_law_one", "_law_other", "_law_way"] (defScope s_l_kept_places) := ⟨rfl, rfl, rfl, by decide +kernel, rfl, by decide +kernel, by decide +kernel⟩
abbrev s_l_told : Stmt := topS 42
abbrev N_l_told : List Str := ["_law_way", "_law_one", "_law_other"]
theorem sc_l_told : FnScope N_l_told ["_law_way", "_law_one", "_law_other"] (defScope s_l_told) := ⟨rfl, rfl, rfl, by decide +kernel, rfl, by decide +kernel, by decide +kernel⟩
abbrev s_law : Stmt := topS 43
abbrev N_law : List Str := ["_law_script", "_law_purse_here", "_law_ends_here", "_law_covers", "_law_one", "_law_other", "_law_way", "_law_kept", "_law_due", "_law_found", "_law_low", "_law_high"]
theorem sc_law : FnScope N_law ["_law_script"] (defScope s_law) := ⟨rfl, rfl, rfl, by decide +kernel, rfl, by decide +kernel, by decide +kernel⟩

structure Tx (K : PySem.W.Frag) (mg : Str → Option Value) where
  f_is_whole : Addr
  fd_is_whole : FuncData
  F_is_whole : Fun K "is_whole" "is_whole" s_is_whole f_is_whole fd_is_whole
  b_is_whole : Binds K fd_is_whole ["number"] []
  g_is_whole : mg "is_whole" = some (.ref f_is_whole)
  f_is_place : Addr
  fd_is_place : FuncData
  F_is_place : Fun K "is_place" "is_place" s_is_place f_is_place fd_is_place
  b_is_place : Binds K fd_is_place ["number"] []
  g_is_place : mg "is_place" = some (.ref f_is_place)
  f_is_span : Addr
  fd_is_span : FuncData
  F_is_span : Fun K "is_span" "is_span" s_is_span f_is_span fd_is_span
  b_is_span : Binds K fd_is_span ["span"] []
  g_is_span : mg "is_span" = some (.ref f_is_span)
  f_check_span : Addr
  fd_check_span : FuncData
  F_check_span : Fun K "check_span" "check_span" s_check_span f_check_span fd_check_span
  b_check_span : Binds K fd_check_span ["span"] []
  g_check_span : mg "check_span" = some (.ref f_check_span)
  f_check_spans : Addr
  fd_check_spans : FuncData
  F_check_spans : Fun K "check_spans" "check_spans" s_check_spans f_check_spans fd_check_spans
  b_check_spans : Binds K fd_check_spans ["spans"] []
  g_check_spans : mg "check_spans" = some (.ref f_check_spans)
  f_is_cover : Addr
  fd_is_cover : FuncData
  F_is_cover : Fun K "is_cover" "is_cover" s_is_cover f_is_cover fd_is_cover
  b_is_cover : Binds K fd_is_cover ["spans"] []
  g_is_cover : mg "is_cover" = some (.ref f_is_cover)
  cA_is_cover : Addr
  pA_is_cover : Addr
  FC_is_cover : FunC K "is_cover" "is_cover" s_is_cover f_is_cover fd_is_cover cA_is_cover
  f_check_cover : Addr
  fd_check_cover : FuncData
  F_check_cover : Fun K "check_cover" "check_cover" s_check_cover f_check_cover fd_check_cover
  b_check_cover : Binds K fd_check_cover ["cover"] []
  g_check_cover : mg "check_cover" = some (.ref f_check_cover)
  f_check_covers : Addr
  fd_check_covers : FuncData
  F_check_covers : Fun K "check_covers" "check_covers" s_check_covers f_check_covers fd_check_covers
  b_check_covers : Binds K fd_check_covers ["one", "other"] []
  g_check_covers : mg "check_covers" = some (.ref f_check_covers)
  f_joined : Addr
  fd_joined : FuncData
  F_joined : Fun K "joined" "joined" s_joined f_joined fd_joined
  b_joined : Binds K fd_joined ["spans"] []
  g_joined : mg "joined" = some (.ref f_joined)
  f_common : Addr
  fd_common : FuncData
  F_common : Fun K "common" "common" s_common f_common fd_common
  b_common : Binds K fd_common ["one", "other"] []
  g_common : mg "common" = some (.ref f_common)
  f_gaps_of : Addr
  fd_gaps_of : FuncData
  F_gaps_of : Fun K "gaps_of" "gaps_of" s_gaps_of f_gaps_of fd_gaps_of
  b_gaps_of : Binds K fd_gaps_of ["cover"] []
  g_gaps_of : mg "gaps_of" = some (.ref f_gaps_of)
  f_both : Addr
  fd_both : FuncData
  F_both : Fun K "both" "both" s_both f_both fd_both
  b_both : Binds K fd_both ["one", "other"] []
  g_both : mg "both" = some (.ref f_both)
  f_either : Addr
  fd_either : FuncData
  F_either : Fun K "either" "either" s_either f_either fd_either
  b_either : Binds K fd_either ["one", "other"] []
  g_either : mg "either" = some (.ref f_either)
  f_less : Addr
  fd_less : FuncData
  F_less : Fun K "less" "less" s_less f_less fd_less
  b_less : Binds K fd_less ["one", "other"] []
  g_less : mg "less" = some (.ref f_less)
  f_held : Addr
  fd_held : FuncData
  F_held : Fun K "held" "held" s_held f_held fd_held
  b_held : Binds K fd_held ["cover"] []
  g_held : mg "held" = some (.ref f_held)
  cA_held : Addr
  pA_held : Addr
  FC_held : FunC K "held" "held" s_held f_held fd_held cA_held
  f_l_at : Addr
  fd_l_at : FuncData
  F_l_at : Fun K "_law_at" "_law_at" s_l_at f_l_at fd_l_at
  b_l_at : Binds K fd_l_at ["_law_script", "_law_k"] []
  g_l_at : mg "_law_at" = some (.ref f_l_at)
  f_l_mixed : Addr
  fd_l_mixed : FuncData
  F_l_mixed : Fun K "_law_mixed" "_law_mixed" s_l_mixed f_l_mixed fd_l_mixed
  b_l_mixed : Binds K fd_l_mixed ["_law_cell", "_law_k"] []
  g_l_mixed : mg "_law_mixed" = some (.ref f_l_mixed)
  f_l_purse : Addr
  fd_l_purse : FuncData
  F_l_purse : Fun K "_law_purse" "_law_purse" s_l_purse f_l_purse fd_l_purse
  b_l_purse : Binds K fd_l_purse ["_law_script", "_law_at_here"] []
  g_l_purse : mg "_law_purse" = some (.ref f_l_purse)
  f_l_draw : Addr
  fd_l_draw : FuncData
  F_l_draw : Fun K "_law_draw" "_law_draw" s_l_draw f_l_draw fd_l_draw
  b_l_draw : Binds K fd_l_draw ["_law_purse_here", "_law_out_of"] []
  g_l_draw : mg "_law_draw" = some (.ref f_l_draw)
  f_l_number : Addr
  fd_l_number : FuncData
  F_l_number : Fun K "_law_number" "_law_number" s_l_number f_l_number fd_l_number
  b_l_number : Binds K fd_l_number ["_law_purse_here", "_law_most"] []
  g_l_number : mg "_law_number" = some (.ref f_l_number)
  f_l_end : Addr
  fd_l_end : FuncData
  F_l_end : Fun K "_law_end" "_law_end" s_l_end f_l_end fd_l_end
  b_l_end : Binds K fd_l_end ["_law_purse_here", "_law_ends_here", "_law_most"] []
  g_l_end : mg "_law_end" = some (.ref f_l_end)
  f_l_span : Addr
  fd_l_span : FuncData
  F_l_span : Fun K "_law_span" "_law_span" s_l_span f_l_span fd_l_span
  b_l_span : Binds K fd_l_span ["_law_purse_here", "_law_ends_here", "_law_most"] []
  g_l_span : mg "_law_span" = some (.ref f_l_span)
  f_l_spans : Addr
  fd_l_spans : FuncData
  F_l_spans : Fun K "_law_spans" "_law_spans" s_l_spans f_l_spans fd_l_spans
  b_l_spans : Binds K fd_l_spans ["_law_purse_here", "_law_ends_here", "_law_most"] []
  g_l_spans : mg "_law_spans" = some (.ref f_l_spans)
  f_l_holds : Addr
  fd_l_holds : FuncData
  F_l_holds : Fun K "_law_holds" "_law_holds" s_l_holds f_l_holds fd_l_holds
  b_l_holds : Binds K fd_l_holds ["_law_span_here", "_law_place"] []
  g_l_holds : mg "_law_holds" = some (.ref f_l_holds)
  f_l_depth : Addr
  fd_l_depth : FuncData
  F_l_depth : Fun K "_law_depth" "_law_depth" s_l_depth f_l_depth fd_l_depth
  b_l_depth : Binds K fd_l_depth ["_law_spans_here", "_law_place"] []
  g_l_depth : mg "_law_depth" = some (.ref f_l_depth)
  f_l_ends : Addr
  fd_l_ends : FuncData
  F_l_ends : Fun K "_law_ends" "_law_ends" s_l_ends f_l_ends fd_l_ends
  b_l_ends : Binds K fd_l_ends ["_law_spans_here"] []
  g_l_ends : mg "_law_ends" = some (.ref f_l_ends)
  f_l_cover : Addr
  fd_l_cover : FuncData
  F_l_cover : Fun K "_law_cover" "_law_cover" s_l_cover f_l_cover fd_l_cover
  b_l_cover : Binds K fd_l_cover ["_law_spans_here"] []
  g_l_cover : mg "_law_cover" = some (.ref f_l_cover)
  f_l_whole : Addr
  fd_l_whole : FuncData
  F_l_whole : Fun K "_law_whole" "_law_whole" s_l_whole f_l_whole fd_l_whole
  b_l_whole : Binds K fd_l_whole ["_law_number_here"] []
  g_l_whole : mg "_law_whole" = some (.ref f_l_whole)
  f_l_wholes : Addr
  fd_l_wholes : FuncData
  F_l_wholes : Fun K "_law_wholes" "_law_wholes" s_l_wholes f_l_wholes fd_l_wholes
  b_l_wholes : Binds K fd_l_wholes ["_law_some"] []
  g_l_wholes : mg "_law_wholes" = some (.ref f_l_wholes)
  f_l_pairs : Addr
  fd_l_pairs : FuncData
  F_l_pairs : Fun K "_law_pairs" "_law_pairs" s_l_pairs f_l_pairs fd_l_pairs
  b_l_pairs : Binds K fd_l_pairs ["_law_some"] []
  g_l_pairs : mg "_law_pairs" = some (.ref f_l_pairs)
  f_l_in : Addr
  fd_l_in : FuncData
  F_l_in : Fun K "_law_in" "_law_in" s_l_in f_l_in fd_l_in
  b_l_in : Binds K fd_l_in ["_law_cover_here", "_law_place"] []
  g_l_in : mg "_law_in" = some (.ref f_l_in)
  f_l_kept_places : Addr
  fd_l_kept_places : FuncData
  F_l_kept_places : Fun K "_law_kept_places" "_law_kept_places" s_l_kept_places f_l_kept_places fd_l_kept_places
  b_l_kept_places : Binds K fd_l_kept_places ["_law_one", "_law_other", "_law_way"] []
  g_l_kept_places : mg "_law_kept_places" = some (.ref f_l_kept_places)
  f_l_told : Addr
  fd_l_told : FuncData
  F_l_told : Fun K "_law_told" "_law_told" s_l_told f_l_told fd_l_told
  b_l_told : Binds K fd_l_told ["_law_way", "_law_one", "_law_other"] []
  g_l_told : mg "_law_told" = some (.ref f_l_told)
  f_law : Addr
  fd_law : FuncData
  F_law : Fun K "law" "law" s_law f_law fd_law
  b_law : Binds K fd_law ["_law_script"] []
  g_law : mg "law" = some (.ref f_law)
  tc_LEAST_PLACE : Tok
  c_LEAST_PLACE : mg "LEAST_PLACE" = some (.int (-999999999999) tc_LEAST_PLACE)
  tc_GREATEST_PLACE : Tok
  c_GREATEST_PLACE : mg "GREATEST_PLACE" = some (.int (999999999999) tc_GREATEST_PLACE)
  tc_MOST_SPANS : Tok
  c_MOST_SPANS : mg "MOST_SPANS" = some (.int (200) tc_MOST_SPANS)
  C_ShelfError : Addr
  g_ShelfError : mg "ShelfError" = some (.ref C_ShelfError)
  x_ShelfError : PySem.W.excIn K C_ShelfError [.type "ValueError", .type "Exception", .type "BaseException", .type "object"] "ValueError.__new__" = true
  k_ShelfError : PySem.W.keepIn K (.ref C_ShelfError) = true
  b_ShelfError : PySem.W.subIn K (.ref C_ShelfError) (.type "BaseException") = some true
  t_ShelfError : PySem.W.typeIn K (.ref C_ShelfError) = some (.type "type")
  C_NoSpan : Addr
  g_NoSpan : mg "NoSpan" = some (.ref C_NoSpan)
  x_NoSpan : PySem.W.excIn K C_NoSpan [.type "ValueError", .type "Exception", .type "BaseException", .type "object"] "ValueError.__new__" = true
  k_NoSpan : PySem.W.keepIn K (.ref C_NoSpan) = true
  b_NoSpan : PySem.W.subIn K (.ref C_NoSpan) (.type "BaseException") = some true
  t_NoSpan : PySem.W.typeIn K (.ref C_NoSpan) = some (.type "type")
  C_NoCover : Addr
  g_NoCover : mg "NoCover" = some (.ref C_NoCover)
  x_NoCover : PySem.W.excIn K C_NoCover [.type "ValueError", .type "Exception", .type "BaseException", .type "object"] "ValueError.__new__" = true
  k_NoCover : PySem.W.keepIn K (.ref C_NoCover) = true
  b_NoCover : PySem.W.subIn K (.ref C_NoCover) (.type "BaseException") = some true
  t_NoCover : PySem.W.typeIn K (.ref C_NoCover) = some (.type "type")
  m_all : mg "all" = none
  m_bool : mg "bool" = none
  m_int : mg "int" = none
  m_isinstance : mg "isinstance" = none
  m_len : mg "len" = none
  m_list : mg "list" = none
  m_max : mg "max" = none
  m_min : mg "min" = none
  m_range : mg "range" = none
  m_set : mg "set" = none
  m_sorted : mg "sorted" = none
  m_sum : mg "sum" = none
  m_tuple : mg "tuple" = none
  m_zip : mg "zip" = none
structure Tbs {K : PySem.W.Frag} {mg : Str → Option Value} (T : Tx K mg) (base : Heap) : Prop where
  t_is_cover : GxR.TabB base mg T.cA_is_cover T.pA_is_cover
  t_held : GxR.TabB base mg T.cA_held T.pA_held
def Tx.tabs {K : PySem.W.Frag} {mg : Str → Option Value} (T : Tx K mg) : List Addr := [T.pA_is_cover, T.pA_held]
section
variable {P : Program} {w : World} {K : PySem.W.Frag} {mg : Str → Option Value} {base : Heap}
/-! ### the cell, the mixing, the purse, a draw -/
def spAt (K : PySem.W.Frag) : Sp := fun vs H Q _ => ∃ (a : Addr) (ns : List Int) (k : Int), vs = [.ref a, .int k] ∧ SqL K H a (ns.map V.int) ∧ 0 ≤ k ∧ ∀ z, Q (.int z) H
theorem ok_at (T : Tx K mg) : FnOk P w K mg base CX0 (1) T.f_l_at T.fd_l_at ["_law_script", "_law_k"] (spAt K) := by
  refine T.F_l_at.ok sc_l_at (fun vs H Q E h => ?_) (fun cdv A outer s H vs Q E hr h => ?_)
  · obtain ⟨a, ns, k, rfl, _⟩ := h
    rfl
  · obtain ⟨a, ns, k, rfl, hS, h0, q⟩ := h
    refine ⟨_, (pss_cons (ps_if (pt_cmpR op_lt (pv 1) (pe_callB call_len_seq (by rfl) T.m_len PySem.boot_len (pa_cons (pv 0) pa_nil)) (nomark _)) (pss_one (ps_ret (pe_ix ix_list (pv 0) (pv 1) (fun _ _ => rfl)))) pss_nil)
      (pss_one (ps_ret pe_int))), ?_⟩
    refine ⟨_, rfl, _, rfl, a, _, rfl, .inl hS, _, _, rfl, rfl, _, rfl, ite2 (fun e => ?_) (fun e => ?_)⟩
    · have e0 : k < ((ns.map V.int).length : Int) := of_decide_eq_true e
      rw [List.length_map] at e0
      have h1 : k.toNat < ns.length := by omega
      refine ⟨_, rfl, _, rfl, a, _, k, .int ns[k.toNat], rfl, rfl, hS, at_of (j := k.toNat) (by omega) ?_, q _⟩
      rw [List.getElem?_map, List.getElem?_eq_getElem h1]
      rfl
    · exact q 0
def spMixed : Sp := fun vs H Q _ => ∃ (a k : Int), vs = [.int a, .int k] ∧ 0 ≤ k ∧ k < 2 ^ 60 ∧ 0 ≤ a ∧ a < 2 ^ 60 ∧ ∀ z : Int, 0 ≤ z → z < 2147483587 → Q (.int z) H
theorem ok_mixed (T : Tx K mg) : FnOk P w K mg base CX0 (1) T.f_l_mixed T.fd_l_mixed ["_law_cell", "_law_k"] spMixed := by
  refine T.F_l_mixed.ok sc_l_mixed (fun vs H Q E h => ?_) (fun cdv A outer s H vs Q E hr h => ?_)
  · obtain ⟨a, k, rfl, _⟩ := h
    rfl
  · obtain ⟨a, k, rfl, h0, h1, h2, h3, q⟩ := h
    refine ⟨_, (pss_cons (ps_set (i := 2) sc_l_mixed.nd rfl (Or.inl rfl) (pe_op op_mod (pe_op op_add (pe_op op_add (pe_op op_add (pe_op op_mul (pv 0) pe_int) (pe_op op_mul (pe_op op_mul pe_int (pv 1)) (pv 1))) (pv 1)) pe_int) pe_int))
      (pss_cons (ps_set (i := 2) sc_l_mixed.nd rfl (Or.inl rfl) (pe_op op_mod (pe_op op_add (pe_op op_mul (pv 2) (pv 2)) pe_int) pe_int))
      (pss_one (ps_ret (pe_op op_mod (pe_op op_mul (pv 2) pe_int) pe_int))))), ?_⟩
    refine ⟨_, rfl, _, _, rfl, rfl, .inr ⟨by decide, by decide⟩, _, rfl, _, _, rfl, rfl, .inl ⟨by decide, by decide⟩, _, rfl, _, _, rfl, rfl, .inr ⟨by omega, by omega⟩, _, _, rfl, rfl, _, rfl, _, _, rfl, rfl, _, _, rfl, rfl, _, _, rfl, rfl, by show (0 : Int) < 2147483647; decide, ?_⟩
    generalize hx : (a * 1103515245 + 7919 * k * k + k + 1) % 2147483647 = x
    have x0 : 0 ≤ x := by omega
    have x1 : x < 2147483647 := by omega
    clear hx
    refine ⟨_, rfl, _, rfl, _, _, rfl, rfl, .inl ⟨by omega, by omega⟩, _, _, rfl, rfl, _, _, rfl, rfl, by show (0 : Int) < 2147483629; decide, ?_⟩
    generalize hy : (x * x + 69621) % 2147483629 = y
    have y0 : 0 ≤ y := by omega
    have y1 : y < 2147483629 := by omega
    clear hy
    refine ⟨_, rfl, _, _, rfl, rfl, .inl ⟨by omega, by omega⟩, _, _, rfl, rfl, by show (0 : Int) < 2147483587; decide, ?_⟩
    exact q _ (by omega) (by omega)
def spPurse (K : PySem.W.Frag) : Sp := fun vs H Q _ => ∃ (a : Addr) (ns : List Int) (k : Int), vs = [.ref a, .int k] ∧ SqL K H a (ns.map V.int) ∧ 0 ≤ k ∧ k ≤ 63 ∧ ∀ H' p, Same H H' → H p = none → Pu H' p 63000 → Q (.ref p) H'
theorem ok_purse (T : Tx K mg) : FnOk P w K mg base CX0 (2) T.f_l_purse T.fd_l_purse ["_law_script", "_law_at_here"] (spPurse K) := by
  have G_l_at : FnOk P w K mg base CX0 _ _ _ _ _ := ok_at T
  refine T.F_l_purse.ok sc_l_purse (fun vs H Q E h => ?_) (fun cdv A outer s H vs Q E hr h => ?_)
  · obtain ⟨a, ns, k, rfl, _⟩ := h
    rfl
  · obtain ⟨a, ns, k, rfl, hS, h0, h1, q⟩ := h
    refine ⟨_, (pss_cons (ps_set (i := 2) sc_l_purse.nd rfl (Or.inl rfl) (pe_call G_l_at (hr.mono (by decide)) (by rfl) T.g_l_at T.F_l_at.kp T.b_l_at .nil pass0 (pa_cons (pv 0) (pa_cons (pv 1) pa_nil))))
      (pss_one (ps_ret (pe_lst (pa_cons (pe_callB (call_max2 rfl) (by rfl) T.m_max (by decide +kernel) (pa_cons (pe_op op_sub (pv 2) (pe_op op_pow pe_int pe_int)) (pa_cons pe_int pa_nil))) (pa_cons (pe_op op_mod (pv 2) pe_int) (pa_cons (pe_op op_mul pe_int (pv 1)) pa_nil))))))), ?_⟩
    refine ⟨_, rfl, _, rfl, a, ns, k, rfl, hS, h0, fun z => ?_⟩
    refine ⟨_, rfl, _, _, rfl, rfl, ⟨by decide, by decide, by decide⟩, _, _, rfl, rfl, _, _, rfl, _, rfl, _, _, rfl, rfl, by show (0 : Int) < 2147483647; decide, _, rfl, _, _, rfl, rfl, .inl ⟨by decide, by decide⟩, small_le (by simp), fun p np => ?_⟩
    refine q _ p (same_upd np) np ⟨_, _, _, upd_same, ?_, by omega, by omega, by omega, by omega⟩
    split <;> omega
def spDraw : Sp := fun vs H Q _ => ∃ (p : Addr) (m : Int) (n : Nat), vs = [.ref p, .int m] ∧ Pu H p n ∧ n ≤ 1000000000 ∧ 0 < m ∧ m < 2 ^ 88 ∧ ∀ H' r, Chg [p] H H' → Pu H' p (n + 3) → 0 ≤ r → r < m → Q (.int r) H'
theorem bits_le {m : Int} (h0 : 0 < m) (h1 : m < 2 ^ 88) : (Builtin.Int.intBits m : Nat) ≤ 88 := by
  have h : m.natAbs < 2 ^ 88 := by
    have e : (2 : Int) ^ 88 = ((2 ^ 88 : Nat) : Int) := by decide
    rw [e] at h1
    omega
  exact PyProof.Rows.intBits_le h
theorem ok_draw (T : Tx K mg) : FnOk P w K mg base CX0 (2) T.f_l_draw T.fd_l_draw ["_law_purse_here", "_law_out_of"] spDraw := by
  have G_l_mixed : FnOk P w K mg base CX0 _ _ _ _ _ := ok_mixed T
  refine T.F_l_draw.ok sc_l_draw (fun vs H Q E h => ?_) (fun cdv A outer s H vs Q E hr h => ?_)
  · obtain ⟨p, m, n, rfl, _⟩ := h
    rfl
  · obtain ⟨p, m, n, rfl, hp, hn, h0, h1, q⟩ := h
    obtain ⟨a, b, c, hP, ha, hb, hb1, hc, hc1⟩ := hp
    refine ⟨_, (pss_cons (ps_if (pt_cmpR op_gt (pe_ix ix_list (pv 0) pe_int (fun _ _ => rfl)) pe_int (nomark _)) (pss_cons (ps_set (i := 2) sc_l_draw.nd rfl (Or.inl rfl) (pe_op op_mod (pe_ix ix_list (pv 0) pe_int (fun _ _ => rfl)) (pv 1)))
      (pss_cons (ps_asg (pe_op op_fdivW (pe_ix ix_list (pv 0) pe_int (fun _ _ => rfl)) (pv 1)) (pg_sub (pv 0) pe_int set_list))
      (pss_one (ps_ret (pv 2))))) pss_nil)
      (pss_cons (ps_set (i := 3) sc_l_draw.nd rfl (Or.inl rfl) pe_int)
      (pss_cons (ps_for PassesOwn.never (by rfl) (pi_range1 (by rfl) T.m_range (pa_cons (pe_op op_add pe_int (pe_op op_fdiv (pe_bits (pv 1)) pe_int)) pa_nil)) (pg_name (i := 4) sc_l_draw.nd rfl (Or.inl rfl))
        (pss_cons (ps_asg (pe_op op_add (pe_ix ix_list (pv 0) pe_int (fun _ _ => rfl)) pe_int) (pg_sub (pv 0) pe_int set_list))
      (pss_one (ps_set (i := 3) sc_l_draw.nd rfl (Or.inl rfl) (pe_op op_add (pe_op op_mul (pv 3) pe_int) (pe_call G_l_mixed (hr.mono (by decide)) (by rfl) T.g_l_mixed T.F_l_mixed.kp T.b_l_mixed .nil pass0 (pa_cons (pe_ix ix_list (pv 0) pe_int (fun _ _ => rfl)) (pa_cons (pe_ix ix_list (pv 0) pe_int (fun _ _ => rfl)) pa_nil))))))))
      (pss_one (ps_ret (pe_op op_mod (pv 3) (pv 1))))))), ?_⟩
    have hS : SqL K H p [.int a, .int b, .int c] := SqL.of hP
    refine ⟨_, rfl, p, _, _, _, rfl, rfl, hS, atI_nat (j := 0) rfl, _, _, rfl, rfl, _, rfl, ite2 (fun e => ?_) (fun e => ?_)⟩
    · have ea : 0 < a := of_decide_eq_true e
      refine ⟨_, rfl, p, _, _, _, rfl, rfl, hS, atI_nat (j := 0) rfl, _, rfl, _, _, rfl, rfl, h0, ?_⟩
      refine ⟨_, rfl, p, _, _, _, rfl, rfl, hS, atI_nat (j := 0) rfl, _, rfl, _, _, rfl, rfl, wide_div (b := 88) h0 ?_ (by decide) (by decide), ?_⟩
      · have e : (2 : Int) ^ 88 = ((2 ^ 88 : Nat) : Int) := by decide
        rw [e] at h1
        omega
      refine ⟨_, rfl, p, _, _, 0, rfl, rfl, hP, rfl, ?_⟩
      refine ⟨_, rfl, ?_⟩
      refine q _ _ (Chg.upd List.mem_cons_self) ⟨a / m, b, c, upd_same, Int.ediv_nonneg ha (by omega), hb, hb1, hc, by omega⟩ (Int.emod_nonneg _ (by omega)) (Int.emod_lt_of_pos _ h0)
    · have hb88 := bits_le h0 h1
      refine ⟨_, rfl, _, rfl, _, _, rfl, rfl, ⟨by decide, by decide⟩, _, _, rfl, rfl, _, rfl, by omega, by omega, ?_⟩
      refine for_range (lo := 0) (n := (1 + ((Builtin.Int.intBits m : Nat) : Int) / 30).toNat) (fun i σ H' => ∃ (x : Int) (c' : Int) (y4 : Option V), σ = [some (.ref p), some (.int m), none, some (.int x), y4] ∧ Chg [p] H H' ∧ H' p = some (.lst [.int a, .int b, .int c']) ∧ c' = c + i ∧ 0 ≤ x ∧ x < 2 ^ (32 * i)) ⟨0, c, none, rfl, Chg.refl _ _, hP, by omega, by omega, by decide⟩ ?_ ?_
      · rintro i σ H' hi ⟨x, c', y4, rfl, hch, hP', hc', x0, x1⟩
        have hi3 : i ≤ 2 := by omega
        refine ⟨_, rfl, p, _, _, _, rfl, rfl, SqL.of hP', atI_nat (j := 2) rfl, _, _, rfl, rfl, _, rfl, p, _, _, 2, rfl, rfl, hP', rfl, ?_⟩
        have hP2 : (upd H' p (.lst [.int a, .int b, .int (c' + 1)])) p = some (.lst [.int a, .int b, .int (c' + 1)]) := upd_same
        refine ⟨_, rfl, _, _, rfl, rfl, .inr ⟨by decide, by decide⟩, _, rfl, p, _, _, _, rfl, rfl, SqL.of hP2, atI_nat (j := 1) rfl, _, rfl, p, _, _, _, rfl, rfl, SqL.of hP2, atI_nat (j := 2) rfl, b, c' + 1, rfl, by omega, by omega, hb, by omega, fun z z0 z1 => ?_⟩
        refine ⟨_, _, rfl, rfl, x * 2147483587 + z, c' + 1, _, rfl, hch.trans (Chg.upd List.mem_cons_self), hP2, by omega, by omega, ?_⟩
        have e : (2 : Int) ^ (32 * (i + 1)) = 2 ^ (32 * i) * 4294967296 := by
          rw [Nat.mul_add, Int.pow_add]
          rfl
        rw [e]
        omega
      · rintro σ H' ⟨x, c', y4, rfl, hch, hP', hc', x0, x1⟩
        refine ⟨_, rfl, _, rfl, _, _, rfl, rfl, h0, ?_⟩
        exact q _ _ hch ⟨a, b, c', hP', ha, hb, hb1, by omega, by omega⟩ (Int.emod_nonneg _ (by omega)) (Int.emod_lt_of_pos _ h0)
end
section
variable {P : Program} {w : World} {K : PySem.W.Frag} {mg : Str → Option Value} {base : Heap}
/-! ### a number, an end, a span -/
def spNumber : Sp := fun vs H Q _ => ∃ (p : Addr) (m : Int) (n : Nat), vs = [.ref p, .int m] ∧ Pu H p n ∧ n + 6 ≤ 1000000000 ∧ 30 ≤ m ∧ m < 2 ^ 60 ∧ ∀ H' r, Chg [p] H H' → Pu H' p (n + 6) → -m ≤ r → r ≤ m → Q (.int r) H'
theorem far_of {m r : Int} (h0 : 0 ≤ r) (h1 : r < 4) (hm : 30 ≤ m) : ∃ f, ([.int 1, .int 4, .int 30, .int m] : List V)[r.toNat]? = some (.int f) ∧ 1 ≤ f ∧ f ≤ m := by
  have h : r = 0 ∨ r = 1 ∨ r = 2 ∨ r = 3 := by omega
  rcases h with rfl | rfl | rfl | rfl
  · exact ⟨1, rfl, by omega, by omega⟩
  · exact ⟨4, rfl, by omega, by omega⟩
  · exact ⟨30, rfl, by omega, by omega⟩
  · exact ⟨m, rfl, by omega, by omega⟩
theorem ok_number (T : Tx K mg) : FnOk P w K mg base CX0 (3) T.f_l_number T.fd_l_number ["_law_purse_here", "_law_most"] spNumber := by
  have G_l_draw : FnOk P w K mg base CX0 _ _ _ _ _ := ok_draw T
  refine T.F_l_number.ok sc_l_number (fun vs H Q E h => ?_) (fun cdv A outer s H vs Q E hr h => ?_)
  · obtain ⟨p, m, n, rfl, _⟩ := h
    rfl
  · obtain ⟨p, m, n, rfl, hp, hn, h0, h1, q⟩ := h
    refine ⟨_, (pss_cons (ps_set (i := 2) sc_l_number.nd rfl (Or.inl rfl) (pe_ix ix_list (pe_lst (pa_cons pe_int (pa_cons pe_int (pa_cons pe_int (pa_cons (pv 1) pa_nil))))) (pe_call G_l_draw (hr.mono (by decide)) (by rfl) T.g_l_draw T.F_l_draw.kp T.b_l_draw .nil pass0 (pa_cons (pv 0) (pa_cons pe_int pa_nil))) (fun _ _ => rfl)))
      (pss_one (ps_ret (pe_op op_sub (pe_call G_l_draw (hr.mono (by decide)) (by rfl) T.g_l_draw T.F_l_draw.kp T.b_l_draw .nil pass0 (pa_cons (pv 0) (pa_cons (pe_op op_add (pe_op op_mul pe_int (pv 2)) pe_int) pa_nil))) (pv 2))))), ?_⟩
    refine ⟨_, rfl, small_le (by simp), fun l nl => ?_⟩
    have s1 := same_upd (o := .lst [.int 1, .int 4, .int 30, .int m]) nl
    have npl : p ≠ l := hp.ne nl
    refine ⟨_, rfl, p, 4, n, rfl, hp.same s1, by omega, by decide, by decide, fun H1 r c1 p1 r0 r1 => ?_⟩
    obtain ⟨f, hf, f0, f1⟩ := far_of r0 r1 h0
    refine ⟨l, _, r, _, rfl, rfl, SqL.of (c1 _ _ (nmem1 npl.symm) upd_same), at_of (j := r.toNat) (by omega) hf, ?_⟩
    refine ⟨_, rfl, _, rfl, _, _, rfl, rfl, .inl ⟨by decide, by decide⟩, _, _, rfl, rfl, p, 2 * f + 1, n + 3, rfl, p1, by omega, by omega, by omega, fun H2 x c2 p2 x0 x1 => ?_⟩
    refine ⟨_, rfl, _, _, rfl, rfl, q _ _ ((Chg.of_same s1).trans (c1.trans c2)) p2 (by omega) (by omega)⟩
def spEnd (K : PySem.W.Frag) : Sp := fun vs H Q _ => ∃ (p e : Addr) (m : Int) (n : Nat) (ns : List Int), vs = [.ref p, .ref e, .int m] ∧ Pu H p n ∧ n + 9 ≤ 1000000000 ∧ SqL K H e (ns.map V.int) ∧ e ≠ p ∧ ns.length ≤ 1000000 ∧ 30 ≤ m ∧ m < 2 ^ 60 ∧
  ∀ H' r, Chg [p] H H' → Pu H' p (n + 9) → -m ≤ r → r ≤ m → Q (.int r) H'
theorem ok_end (T : Tx K mg) : FnOk P w K mg base CX0 (4) T.f_l_end T.fd_l_end ["_law_purse_here", "_law_ends_here", "_law_most"] (spEnd K) := by
  have G_l_draw : FnOk P w K mg base CX0 _ _ _ _ _ := ok_draw T
  have G_l_number : FnOk P w K mg base CX0 _ _ _ _ _ := ok_number T
  refine T.F_l_end.ok sc_l_end (fun vs H Q E h => ?_) (fun cdv A outer s H vs Q E hr h => ?_)
  · obtain ⟨p, e, m, n, ns, rfl, _⟩ := h
    rfl
  · obtain ⟨p, e, m, n, ns, rfl, hp, hn, hE, hne, hlen, h0, h1, q⟩ := h
    refine ⟨_, (pss_cons (ps_if (PW.pt (pw_and (pt_cmpR (op_neD hr.units) (pv 1) (pe_lst pa_nil) (nomark _)) (pw_and1 (pt_cmpR op_gt (pe_call G_l_draw (hr.mono (by decide)) (by rfl) T.g_l_draw T.F_l_draw.kp T.b_l_draw .nil pass0 (pa_cons (pv 0) (pa_cons pe_int pa_nil))) pe_int (nomark _))))) (pss_cons (ps_set (i := 3) sc_l_end.nd rfl (Or.inl rfl) (pe_op op_sub (pe_op op_add (pe_ix ix_list (pv 1) (pe_call G_l_draw (hr.mono (by decide)) (by rfl) T.g_l_draw T.F_l_draw.kp T.b_l_draw .nil pass0 (pa_cons (pv 0) (pa_cons (pe_callB call_len_seq (by rfl) T.m_len PySem.boot_len (pa_cons (pv 1) pa_nil)) pa_nil))) (fun _ _ => rfl)) (pe_call G_l_draw (hr.mono (by decide)) (by rfl) T.g_l_draw T.F_l_draw.kp T.b_l_draw .nil pass0 (pa_cons (pv 0) (pa_cons pe_int pa_nil)))) pe_int))
      (pss_one (ps_ret (pe_callB (call_max2 rfl) (by rfl) T.m_max (by decide +kernel) (pa_cons (pe_op op_sub pe_int (pv 2)) (pa_cons (pe_callB (call_min2 rfl) (by rfl) T.m_min (by decide +kernel) (pa_cons (pv 2) (pa_cons (pv 3) pa_nil))) pa_nil)))))) pss_nil)
      (pss_one (ps_ret (pe_call G_l_number (hr.mono (by decide)) (by rfl) T.g_l_number T.F_l_number.kp T.b_l_number .nil pass0 (pa_cons (pv 0) (pa_cons (pv 2) pa_nil)))))), ?_⟩
    refine ⟨_, rfl, Nat.zero_le _, fun l nl => ?_⟩
    have s1 := same_upd (o := .lst []) nl
    refine ⟨_, _, .lst (s1.seq hE) (dpAll_ints ns), .lst (SqL.of upd_same) .nil, shaped_ints ns, shaped_nil, _, rfl, ?_⟩
    rw [eqv_ints_nil]
    by_cases hnil : ns = []
    · rw [decide_eq_true hnil]
      refine iteF (iteF ?_)
      exact ⟨_, rfl, _, rfl, p, m, n, rfl, hp.same s1, by omega, h0, h1, fun H2 x c2 p2 x0 x1 => q _ _ ((Chg.of_same s1).trans c2) (p2.mono (by omega)) x0 x1⟩
    · rw [decide_eq_false hnil]
      have hl0 : 0 < ns.length := List.length_pos_iff.mpr hnil
      refine iteT ?_
      refine ⟨_, rfl, p, 3, n, rfl, hp.same s1, by omega, by decide, by decide, fun H1 r c1 p1 r0 r1 => ?_⟩
      have hE1 : SqL K H1 e (ns.map V.int) := c1.seq (nmem1 hne) (s1.seq hE)
      refine ⟨_, _, rfl, rfl, _, rfl, ite2 (fun _ => ?_) (fun _ => ?_)⟩
      · refine ⟨_, rfl, _, rfl, _, rfl, e, _, rfl, .inl hE1, p, ns.length, n + 3, ?_, p1, by omega, by omega, by omega, fun H2 x c2 p2 x0 x1 => ?_⟩
        · rw [List.length_map]
          rfl
        have hx : x.toNat < ns.length := by omega
        refine ⟨e, _, x, .int ns[x.toNat], rfl, rfl, c2.seq (nmem1 hne) hE1, at_of (j := x.toNat) (by omega) ?_, ?_⟩
        · rw [List.getElem?_map, List.getElem?_eq_getElem hx]
          rfl
        refine ⟨_, rfl, p, 3, n + 6, rfl, p2, by omega, by decide, by decide, fun H3 y c3 p3 y0 y1 => ?_⟩
        refine ⟨_, _, rfl, rfl, _, _, rfl, rfl, ?_⟩
        refine ⟨_, rfl, _, _, rfl, rfl, _, rfl, _, rfl, _, _, rfl, _, _, rfl, ?_⟩
        refine q _ _ ((Chg.of_same s1).trans (c1.trans (c2.trans c3))) p3 ?_ ?_
        · split <;> split <;> omega
        · split <;> split <;> omega
      · exact ⟨_, rfl, _, rfl, p, m, n + 3, rfl, p1, by omega, h0, h1, fun H2 x c2 p2 x0 x1 => q _ _ ((Chg.of_same s1).trans (c1.trans c2)) p2 x0 x1⟩
theorem min3_of (a b c : Int) : ∃ z, nuMin3 (.int a) (.int b) (.int c) = some (.int z) ∧ z ≤ a ∧ z ≤ b ∧ z ≤ c ∧ (z = a ∨ z = b ∨ z = c) := by
  have e2 : ∀ x y : Int, nuMin2 (.int x) (.int y) = some (.int (if y < x then y else x)) := fun x y => by
    show (some (decide (y < x))).map (fun c => if c = true then V.int y else V.int x) = _
    by_cases h : y < x <;> simp [h]
  refine ⟨if c < (if b < a then b else a) then c else (if b < a then b else a), ?_, ?_⟩
  · unfold nuMin3
    rw [e2]
    show nuMin2 _ _ = _
    rw [e2]
  · split <;> split <;> omega
theorem max3_of (a b c : Int) : ∃ z, nuMax3 (.int a) (.int b) (.int c) = some (.int z) ∧ a ≤ z ∧ b ≤ z ∧ c ≤ z ∧ (z = a ∨ z = b ∨ z = c) := by
  have e2 : ∀ x y : Int, nuMax2 (.int x) (.int y) = some (.int (if x < y then y else x)) := fun x y => by
    show (some (decide (x < y))).map (fun c => if c = true then V.int y else V.int x) = _
    by_cases h : x < y <;> simp [h]
  refine ⟨if (if a < b then b else a) < c then c else (if a < b then b else a), ?_, ?_⟩
  · unfold nuMax3
    rw [e2]
    show nuMax2 _ _ = _
    rw [e2]
  · split <;> split <;> omega
def spSpan : Sp := fun vs H Q _ => ∃ (p e : Addr) (m : Int) (n : Nat) (ns : List Int), vs = [.ref p, .ref e, .int m] ∧ Pu H p n ∧ n + 18 ≤ 1000000000 ∧ H e = some (.lst (ns.map V.int)) ∧ e ≠ p ∧ ns.length ≤ 100000 ∧ 30 ≤ m ∧ m < 2 ^ 60 ∧
  ∀ H' t lo hi, Chg [p, e] H H' → Pu H' p (n + 18) → H' e = some (.lst ((ns ++ [lo, hi]).map V.int)) → H t = none → H' t = some (.tup [.int lo, .int hi]) → -m ≤ lo → lo < hi → hi ≤ m → Q (.ref t) H'
theorem ok_span (T : Tx K mg) : FnOk P w K mg base CX0 (5) T.f_l_span T.fd_l_span ["_law_purse_here", "_law_ends_here", "_law_most"] spSpan := by
  have G_l_end : FnOk P w K mg base CX0 _ _ _ _ _ := ok_end T
  refine T.F_l_span.ok sc_l_span (fun vs H Q E h => ?_) (fun cdv A outer s H vs Q E hr h => ?_)
  · obtain ⟨p, e, m, n, ns, rfl, _⟩ := h
    rfl
  · obtain ⟨p, e, m, n, ns, rfl, hp, hn, hE, hne, hlen, h0, h1, q⟩ := h
    refine ⟨_, (pss_cons (ps_set (i := 3) sc_l_span.nd rfl (Or.inl rfl) (pe_call G_l_end (hr.mono (by decide)) (by rfl) T.g_l_end T.F_l_end.kp T.b_l_end .nil pass0 (pa_cons (pv 0) (pa_cons (pv 1) (pa_cons (pv 2) pa_nil)))))
      (pss_cons (ps_set (i := 4) sc_l_span.nd rfl (Or.inl rfl) (pe_call G_l_end (hr.mono (by decide)) (by rfl) T.g_l_end T.F_l_end.kp T.b_l_end .nil pass0 (pa_cons (pv 0) (pa_cons (pe_op op_cat (pv 1) (pe_lst (pa_cons (pv 3) pa_nil))) (pa_cons (pv 2) pa_nil)))))
      (pss_cons (ps_set (i := 5) sc_l_span.nd rfl (Or.inl rfl) (pe_callB (call_min3Nu rfl) (by rfl) T.m_min (by decide +kernel) (pa_cons (pv 3) (pa_cons (pv 4) (pa_cons (pe_op op_sub (pv 2) pe_int) pa_nil)))))
      (pss_cons (ps_set (i := 6) sc_l_span.nd rfl (Or.inl rfl) (pe_callB (call_max3Nu rfl) (by rfl) T.m_max (by decide +kernel) (pa_cons (pv 3) (pa_cons (pv 4) (pa_cons (pe_op op_add (pv 5) pe_int) pa_nil)))))
      (pss_cons (ps_expr (pe_bm PySem.F.plainAttrs_list PySem.F.slot_list_append PySem.F.type_list_append mt_append (pv 1) (pa_cons (pv 5) pa_nil)))
      (pss_cons (ps_expr (pe_bm PySem.F.plainAttrs_list PySem.F.slot_list_append PySem.F.type_list_append mt_append (pv 1) (pa_cons (pv 6) pa_nil)))
      (pss_one (ps_ret (pe_tup (pa_cons (pv 5) (pa_cons (pv 6) pa_nil))))))))))), ?_⟩
    have up : ∀ {H H' : Hp}, Chg [p] H H' → Chg [p, e] H H' := fun c => c.mono fun x hx => by
      rw [List.mem_singleton.mp hx]
      exact List.mem_cons_self
    refine ⟨_, rfl, _, rfl, _, rfl, p, e, m, n, ns, rfl, hp, by omega, SqL.of hE, hne, by omega, h0, h1, fun H1 x c1 p1 x0 x1 => ?_⟩
    have hE1 : H1 e = some (.lst (ns.map V.int)) := c1 _ _ (nmem1 hne) hE
    refine ⟨_, rfl, _, rfl, _, rfl, small_le (by simp), fun l1 nl1 => ?_⟩
    have s1 := same_upd (o := .lst [.int x]) nl1
    refine ⟨e, l1, _, _, rfl, rfl, s1 _ _ hE1, upd_same, ?_, fun l2 nl2 => ?_⟩
    · rw [List.length_map]
      exact small_le (by simp; omega)
    have s2 := same_upd (o := .lst (ns.map V.int ++ [.int x])) nl2
    have p3 := (p1.same s1).same s2
    refine ⟨_, rfl, p, l2, m, n + 9, ns ++ [x], rfl, p3, by omega, SqL.of ?_, ?_, ?_, h0, h1, fun H2 y c2 p2 y0 y1 => ?_⟩
    · rw [List.map_append]
      exact upd_same
    · exact ((p1.same s1).ne nl2).symm
    · simp
      omega
    have hE2 : H2 e = some (.lst (ns.map V.int)) := c2 _ _ (nmem1 hne) (s2 _ _ (s1 _ _ hE1))
    have cc : Chg [p] H H2 := c1.trans ((Chg.of_same s1).trans ((Chg.of_same s2).trans c2))
    obtain ⟨lo, elo, l_1, l_2, l_3, l_4⟩ := min3_of x y (m - 1)
    refine ⟨_, rfl, _, rfl, _, rfl, _, _, rfl, rfl, _, _, _, _, rfl, elo, ?_⟩
    obtain ⟨hi, ehi, i_1, i_2, i_3, i_4⟩ := max3_of x y (lo + 1)
    refine ⟨_, rfl, _, rfl, _, rfl, _, _, rfl, rfl, _, _, _, _, rfl, ehi, ?_⟩
    refine ⟨_, rfl, .inl ⟨rfl, _, SqL.of hE2⟩, _, rfl, e, _, _, rfl, rfl, hE2, ?_, ?_⟩
    · rw [List.length_map]
      exact small_lt (by omega)
    have hE3 : (upd H2 e (.lst (ns.map V.int ++ [.int lo]))) e = some (.lst (ns.map V.int ++ [.int lo])) := upd_same
    refine ⟨_, rfl, .inl ⟨rfl, _, SqL.of hE3⟩, _, rfl, e, _, _, rfl, rfl, hE3, ?_, ?_⟩
    · rw [List.length_append, List.length_map]
      exact small_lt (by simp; omega)
    rw [upd_upd]
    refine ⟨_, rfl, _, rfl, (by show 2 ≤ sizeLine; decide), fun t nt => ?_⟩
    have hE4 : (upd H2 e (.lst (ns.map V.int ++ [.int lo] ++ [.int hi]))) e = some (.lst (ns.map V.int ++ [.int lo] ++ [.int hi])) := upd_same
    have c5 : Chg [p, e] H (upd (upd H2 e (.lst (ns.map V.int ++ [.int lo] ++ [.int hi]))) t (.tup [.int lo, .int hi])) := (up cc).trans ((Chg.upd (List.mem_cons_of_mem _ List.mem_cons_self)).trans (Chg.of_same (same_upd nt)))
    have te : t ≠ e := (ne_of_none hE4 nt).symm
    have p5 : Pu (upd H2 e (.lst (ns.map V.int ++ [.int lo] ++ [.int hi]))) p (n + 18) := p2.chg (L := [e]) (Chg.upd List.mem_cons_self) (nmem1 hne.symm)
    have tp : t ≠ p := (p5.ne nt).symm
    refine q _ t lo hi c5 (p5.same (same_upd nt)) ?_ ?_ upd_same (by omega) (by omega) (by omega)
    · rw [upd_ne te.symm, upd_same, List.map_append, List.append_assoc]
      rfl
    · rw [upd_ne te] at nt
      exact cc.free (nmem1 tp) nt
end
section
variable {P : Program} {w : World} {K : PySem.W.Frag} {mg : Str → Option Value} {base : Heap}
/-! ### the program: spans -/
def isPlace (i : Int) : Bool := decide (-999999999999 ≤ i) && decide (i ≤ 999999999999)
def isSpan (s : Span) : Bool := isPlace s.1 && isPlace s.2 && decide (s.1 < s.2)
theorem isSpan_iff (s : Span) : isSpan s = true ↔ (-999999999999 ≤ s.1 ∧ s.1 < s.2 ∧ s.2 ≤ 999999999999) := by
  unfold isSpan isPlace
  simp only [Bool.and_eq_true, decide_eq_true_eq]
  omega
def spWhole : Sp := fun vs H Q _ => ∃ i : Int, vs = [.int i] ∧ Q (.bl true) H
theorem ok_is_whole (T : Tx K mg) : FnOk P w K mg base CX0 (1) T.f_is_whole T.fd_is_whole ["number"] spWhole := by
  refine T.F_is_whole.ok sc_is_whole (fun vs H Q E h => ?_) (fun cdv A outer s H vs Q E hr h => ?_)
  · obtain ⟨i, rfl, _⟩ := h
    rfl
  · obtain ⟨i, rfl, q⟩ := h
    refine ⟨_, (pss_one (ps_ret (pe_and (pe_callB call_isi (by rfl) T.m_isinstance (by decide +kernel) (pa_cons (pv 0) (pa_cons (pe_bltn (v := .ty "int") (by rfl) T.m_int (by decide +kernel) rfl) pa_nil))) (pe_one (pe_not (pe_callB call_isi (by rfl) T.m_isinstance (by decide +kernel) (pa_cons (pv 0) (pa_cons (pe_bltn (v := .ty "bool") (by rfl) T.m_bool (by decide +kernel) rfl) pa_nil)))))))), ?_⟩
    refine ⟨_, rfl, _, _, _, _, true, rfl, .ty _, .base (.int i), kit_ty (by decide +kernel), true, rfl, iteT ?_⟩
    exact ⟨_, rfl, _, _, _, _, false, rfl, .ty _, .base (.int i), kit_ty (by decide +kernel), false, rfl, q⟩
def spPlace : Sp := fun vs H Q _ => ∃ i : Int, vs = [.int i] ∧ Q (.bl (isPlace i)) H
theorem ok_is_place (T : Tx K mg) : FnOk P w K mg base CX0 (2) T.f_is_place T.fd_is_place ["number"] spPlace := by
  have G_is_whole : FnOk P w K mg base CX0 _ _ _ _ _ := ok_is_whole T
  refine T.F_is_place.ok sc_is_place (fun vs H Q E h => ?_) (fun cdv A outer s H vs Q E hr h => ?_)
  · obtain ⟨i, rfl, _⟩ := h
    rfl
  · obtain ⟨i, rfl, q⟩ := h
    refine ⟨_, (pss_one (ps_ret (pe_and (pe_call G_is_whole (hr.mono (by decide)) (by rfl) T.g_is_whole T.F_is_whole.kp T.b_is_whole .nil pass0 (pa_cons (pv 0) pa_nil)) (pe_one (pe_chain op_le op_le (pe_glob (v := .int (-999999999999)) (by rfl) T.c_LEAST_PLACE ⟨_, rfl⟩) (pv 0) (pe_glob (v := .int (999999999999)) (by rfl) T.c_GREATEST_PLACE ⟨_, rfl⟩)))))), ?_⟩
    refine ⟨_, rfl, i, rfl, true, rfl, iteT ?_⟩
    refine ⟨_, rfl, _, _, rfl, rfl, _, rfl, ?_⟩
    unfold isPlace at q
    by_cases h : -999999999999 ≤ i
    · rw [decide_eq_true h] at q ⊢
      exact iteT ⟨_, _, rfl, rfl, q⟩
    · rw [decide_eq_false h] at q ⊢
      exact iteF q
def spIsSpan : Sp := fun vs H Q _ => ∃ (v : V) (s : Span), vs = [v] ∧ Spn H v s ∧ Q (.bl (isSpan s)) H
theorem ok_is_span (T : Tx K mg) : FnOk P w K mg base CX0 (3) T.f_is_span T.fd_is_span ["span"] spIsSpan := by
  have G_is_place : FnOk P w K mg base CX0 _ _ _ _ _ := ok_is_place T
  refine T.F_is_span.ok sc_is_span (fun vs H Q E h => ?_) (fun cdv A outer s H vs Q E hr h => ?_)
  · obtain ⟨v, s, rfl, _⟩ := h
    rfl
  · obtain ⟨v, s, rfl, ⟨t, rfl, ht⟩, q⟩ := h
    refine ⟨_, (pss_cons (ps_if (PW.pt (pw_or (pt_not (pt_val (pe_callB call_isi (by rfl) T.m_isinstance (by decide +kernel) (pa_cons (pv 0) (pa_cons (pe_bltn (v := .ty "tuple") (by rfl) T.m_tuple (by decide +kernel) rfl) pa_nil))))) (pw_or1 (pt_cmpR op_ne (pe_callB call_len_seq (by rfl) T.m_len PySem.boot_len (pa_cons (pv 0) pa_nil)) pe_int (nomark _))))) (pss_one (ps_ret pe_bl)) pss_nil)
      (pss_cons (ps_asg (pv 0) (pg_tup rfl (pgs_cons (pg_name (i := 1) sc_is_span.nd rfl (Or.inl rfl)) (pgs_cons (pg_name (i := 2) sc_is_span.nd rfl (Or.inl rfl)) pgs_nil))))
      (pss_one (ps_ret (pe_and (pe_call G_is_place (hr.mono (by decide)) (by rfl) T.g_is_place T.F_is_place.kp T.b_is_place .nil pass0 (pa_cons (pv 1) pa_nil)) (pe_and (pe_call G_is_place (hr.mono (by decide)) (by rfl) T.g_is_place T.F_is_place.kp T.b_is_place .nil pass0 (pa_cons (pv 2) pa_nil)) (pe_one (pe_cmpR op_lt (pv 1) (pv 2) (nomark _))))))))), ?_⟩
    refine ⟨_, rfl, _, _, _, _, true, rfl, .ty _, .base (.tup ht), kit_ty (by decide +kernel), true, rfl, iteF ?_⟩
    refine ⟨_, rfl, t, _, rfl, .inr (SqT.of ht), rfl, _, rfl, iteF ?_⟩
    refine ⟨_, rfl, t, _, rfl, SqT.of ht, rfl, _, _, rfl, _, _, rfl, rfl, ?_⟩
    unfold isSpan at q
    refine ⟨_, rfl, s.1, rfl, _, rfl, ?_⟩
    by_cases h1 : isPlace s.1 = true
    · rw [h1] at q ⊢
      refine iteT ⟨_, rfl, s.2, rfl, _, rfl, ?_⟩
      by_cases h2 : isPlace s.2 = true
      · rw [h2] at q ⊢
        exact iteT ⟨_, rfl, _, rfl, _, _, rfl, rfl, q⟩
      · rw [Bool.not_eq_true] at h2
        rw [h2] at q ⊢
        exact iteF q
    · rw [Bool.not_eq_true] at h1
      rw [h1] at q ⊢
      exact iteF q
def spCheck (C : Addr) : Sp := fun vs H Q E => ∃ (v : V) (s : Span), vs = [v] ∧ Spn H v s ∧ (isSpan s = true → Q .non H) ∧ (isSpan s = false → E (.ref C) none H)
theorem ok_check_span (T : Tx K mg) : FnOk P w K mg base (L2.CX P w) (4) T.f_check_span T.fd_check_span ["span"] (spCheck T.C_NoSpan) := by
  have G_is_span : FnOk P w K mg base CX0 _ _ _ _ _ := ok_is_span T
  refine T.F_check_span.okX sc_check_span (fun vs H Q E h => ?_) (fun cdv A outer s H vs Q E hr h => ?_)
  · obtain ⟨v, s, rfl, _⟩ := h
    rfl
  · obtain ⟨v, s, rfl, hv, q, e⟩ := h
    refine ⟨_, (pss_one (ps_if (pt_not (pt_val (pe_call G_is_span (hr.mono (by decide)) (by rfl) T.g_is_span T.F_is_span.kp T.b_is_span .nil pass0 (pa_cons (pv 0) pa_nil)))) (pss_one (ps_raise (by rfl) (takes_of rfl rfl rfl rfl) (pmk_own PySem.F.excBase_ValueError T.x_NoSpan T.g_NoSpan T.k_NoSpan (raises_own T.b_NoSpan T.t_NoSpan) (by exact rfl)))) pss_nil)), ?_⟩
    refine ⟨_, rfl, v, s, rfl, hv, _, rfl, ?_⟩
    by_cases h : isSpan s = true
    · rw [h]
      exact iteF (q h)
    · rw [Bool.not_eq_true] at h
      rw [h]
      exact iteT (e h)
end
/-! ### the mathematics of covers -/
def Mem (ss : List Span) (x : Int) : Prop := ∃ s ∈ ss, s.1 ≤ x ∧ x < s.2
def Can (c : List Span) : Prop := c.Pairwise (fun s t => s.2 < t.1) ∧ ∀ s ∈ c, s.1 < s.2
theorem mem_nil (x : Int) : ¬ Mem [] x := fun ⟨_, h, _⟩ => nomatch h
theorem mem_cons {s : Span} {ss : List Span} {x : Int} : Mem (s :: ss) x ↔ (s.1 ≤ x ∧ x < s.2) ∨ Mem ss x := by
  constructor
  · rintro ⟨t, ht, h⟩
    rcases List.mem_cons.mp ht with e | ht
    · rw [← e]
      exact .inl h
    · exact .inr ⟨t, ht, h⟩
  · rintro (h | ⟨t, ht, h⟩)
    · exact ⟨s, List.mem_cons_self, h⟩
    · exact ⟨t, List.mem_cons_of_mem _ ht, h⟩
theorem mem_app {a b : List Span} {x : Int} : Mem (a ++ b) x ↔ Mem a x ∨ Mem b x := by
  constructor
  · rintro ⟨t, ht, h⟩
    rcases List.mem_append.mp ht with m | m
    · exact .inl ⟨t, m, h⟩
    · exact .inr ⟨t, m, h⟩
  · rintro (⟨t, m, h⟩ | ⟨t, m, h⟩)
    · exact ⟨t, List.mem_append_left _ m, h⟩
    · exact ⟨t, List.mem_append_right _ m, h⟩
theorem mem_one {s : Span} {x : Int} : Mem [s] x ↔ s.1 ≤ x ∧ x < s.2 := by
  rw [mem_cons]
  constructor
  · rintro (h | h)
    · exact h
    · exact absurd h (mem_nil x)
  · exact .inl
theorem mem_perm {a b : List Span} (h : a.Perm b) (x : Int) : Mem a x ↔ Mem b x := by
  constructor
  · rintro ⟨t, m, q⟩
    exact ⟨t, h.mem_iff.mp m, q⟩
  · rintro ⟨t, m, q⟩
    exact ⟨t, h.mem_iff.mpr m, q⟩
theorem can_nil : Can [] := ⟨List.Pairwise.nil, fun _ h => nomatch h⟩
theorem can_one {s : Span} (h : s.1 < s.2) : Can [s] := ⟨List.pairwise_singleton _ _, fun t m => by
  rw [List.mem_singleton.mp m]
  exact h⟩
theorem can_tail {s : Span} {c : List Span} (h : Can (s :: c)) : Can c := ⟨(List.pairwise_cons.mp h.1).2, fun t m => h.2 t (List.mem_cons_of_mem _ m)⟩
theorem can_head {s : Span} {c : List Span} (h : Can (s :: c)) {x : Int} (m : Mem c x) : s.2 < x := by
  obtain ⟨t, ht, h1, _⟩ := m
  have := (List.pairwise_cons.mp h.1).1 t ht
  omega
theorem can_snoc {c : List Span} {s : Span} (h : Can c) (hs : s.1 < s.2) (l : ∀ t ∈ c, t.2 < s.1) : Can (c ++ [s]) := by
  refine ⟨List.pairwise_append.mpr ⟨h.1, List.pairwise_singleton _ _, fun a ha b hb => ?_⟩, fun t m => ?_⟩
  · rw [List.mem_singleton.mp hb]
    exact l a ha
  · rcases List.mem_append.mp m with m | m
    · exact h.2 t m
    · rw [List.mem_singleton.mp m]
      exact hs
theorem can_app_l {a b : List Span} (h : Can (a ++ b)) : Can a := ⟨(List.pairwise_append.mp h.1).1, fun t m => h.2 t (List.mem_append_left _ m)⟩
theorem can_app_lt {a : List Span} {s : Span} (h : Can (a ++ [s])) : ∀ t ∈ a, t.2 < s.1 := fun t m => (List.pairwise_append.mp h.1).2.2 t m s (List.mem_singleton.mpr rfl)
theorem can_drop {c : List Span} (h : Can c) (n : Nat) : Can (c.drop n) := ⟨h.1.sublist (List.drop_sublist n c), fun t m => h.2 t (List.mem_of_mem_drop m)⟩
/-- a cover is told by its places -/
theorem can_ext : ∀ {c d : List Span}, Can c → Can d → (∀ x, Mem c x ↔ Mem d x) → c = d
  | [], [], _, _, _ => rfl
  | [], t :: d, _, hd, e => by
    have h := hd.2 t List.mem_cons_self
    exact absurd ((e t.1).mpr (mem_cons.mpr (.inl ⟨Int.le_refl _, h⟩))) (mem_nil _)
  | s :: c, [], hc, _, e => by
    have h := hc.2 s List.mem_cons_self
    exact absurd ((e s.1).mp (mem_cons.mpr (.inl ⟨Int.le_refl _, h⟩))) (mem_nil _)
  | s :: c, t :: d, hc, hd, e => by
    have h1 := hc.2 s List.mem_cons_self
    have h2 := hd.2 t List.mem_cons_self
    have a1 : t.1 ≤ s.1 := by
      rcases mem_cons.mp ((e s.1).mp (mem_cons.mpr (.inl ⟨Int.le_refl _, h1⟩))) with m | m
      · exact m.1
      · have := can_head hd m
        omega
    have a2 : s.1 ≤ t.1 := by
      rcases mem_cons.mp ((e t.1).mpr (mem_cons.mpr (.inl ⟨Int.le_refl _, h2⟩))) with m | m
      · exact m.1
      · have := can_head hc m
        omega
    have b1 : s.2 ≤ t.2 := by
      apply Int.not_lt.mp
      intro lt
      rcases mem_cons.mp ((e t.2).mp (mem_cons.mpr (.inl ⟨by omega, lt⟩))) with m | m
      · omega
      · have := can_head hd m
        omega
    have b2 : t.2 ≤ s.2 := by
      apply Int.not_lt.mp
      intro lt
      rcases mem_cons.mp ((e s.2).mpr (mem_cons.mpr (.inl ⟨by omega, lt⟩))) with m | m
      · omega
      · have := can_head hc m
        omega
    have st : s = t := Prod.ext (by omega) (by omega)
    subst st
    have tl : ∀ x, Mem c x ↔ Mem d x := fun x => by
      constructor
      · intro m
        have h := can_head hc m
        rcases mem_cons.mp ((e x).mp (mem_cons.mpr (.inr m))) with q | q
        · omega
        · exact q
      · intro m
        have h := can_head hd m
        rcases mem_cons.mp ((e x).mpr (mem_cons.mpr (.inr m))) with q | q
        · omega
        · exact q
    rw [can_ext (can_tail hc) (can_tail hd) tl]
/-- spans of a cover lie where the spans lie whose places it holds -/
theorem can_spans {c ss : List Span} (hc : Can c) (e : ∀ x, Mem c x → Mem ss x) (h : ∀ s ∈ ss, isSpan s = true) : ∀ s ∈ c, isSpan s = true := fun s m => by
  have h1 := hc.2 s m
  obtain ⟨t, mt, t1, t2⟩ := e s.1 ⟨s, m, Int.le_refl _, h1⟩
  obtain ⟨u, mu, u1, u2⟩ := e (s.2 - 1) ⟨s, m, by omega, by omega⟩
  have bt := (isSpan_iff t).mp (h t mt)
  have bu := (isSpan_iff u).mp (h u mu)
  exact (isSpan_iff s).mpr ⟨by omega, h1, by omega⟩
theorem gap_can {c : List Span} (h : Can c) : gapAll c (c.drop 1) = true := by
  unfold gapAll
  rw [List.all_eq_true]
  intro i hi
  have hi := List.mem_range.mp hi
  rw [List.length_drop] at hi
  have h1 : i < c.length := by omega
  have h2 : i + 1 < c.length := by omega
  rw [decide_eq_true_eq, List.getD_eq_getElem?_getD, List.getD_eq_getElem?_getD, List.getElem?_drop, Nat.add_comm 1 i, List.getElem?_eq_getElem h1, List.getElem?_eq_getElem h2]
  exact List.pairwise_iff_getElem.mp h.1 i (i + 1) h1 h2 (Nat.lt_succ_self i)
def isCoverB (ss : List Span) : Bool := decide (ss.length ≤ 200) && gapAll ss (ss.drop 1)
theorem cover_can {c : List Span} (h : Can c) (l : c.length ≤ 200) : isCoverB c = true := by
  unfold isCoverB
  rw [decide_eq_true l, gap_can h]
  rfl
theorem can_lows {c : List Span} (h : Can c) : (c.map (·.1)).Nodup := by
  rw [List.Nodup, List.pairwise_map]
  refine (List.pairwise_iff_forall_sublist.mpr fun {a b} hs => ?_)
  have h1 : a.2 < b.1 := List.pairwise_iff_forall_sublist.mp h.1 hs
  have h2 := h.2 a (hs.subset List.mem_cons_self)
  omega
/-- a cover has no more spans than what it covers -/
theorem can_len {c ss : List Span} (hc : Can c) (e : ∀ x, Mem c x ↔ Mem ss x) : c.length ≤ ss.length := by
  have sub : ∀ x ∈ c.map (·.1), x ∈ ss.map (·.1) := fun x hx => by
    obtain ⟨s, hs, rfl⟩ := List.mem_map.mp hx
    have h1 := hc.2 s hs
    obtain ⟨t, ht, t1, t2⟩ := (e s.1).mp ⟨s, hs, Int.le_refl _, h1⟩
    by_cases hlt : t.1 < s.1
    · obtain ⟨u, hu, u1, u2⟩ := (e (s.1 - 1)).mpr ⟨t, ht, by omega, by omega⟩
      -- u lies ahead of s, or is s
      rcases List.mem_iff_getElem.mp hs with ⟨i, hi, ei⟩
      rcases List.mem_iff_getElem.mp hu with ⟨j, hj, ej⟩
      rcases Nat.lt_trichotomy i j with h | h | h
      · have := List.pairwise_iff_getElem.mp hc.1 i j hi hj h
        rw [ei, ej] at this
        omega
      · subst h
        rw [ei] at ej
        rw [← ej] at u1
        omega
      · have := List.pairwise_iff_getElem.mp hc.1 j i hj hi h
        rw [ei, ej] at this
        omega
    · have : t.1 = s.1 := by omega
      rw [← this]
      exact List.mem_map.mpr ⟨t, ht, rfl⟩
  have := nodup_len (can_lows hc) sub
  simpa using this
theorem can_of_cover {c : List Span} (h : c.all isSpan = true) (hc : isCoverB c = true) : Can c := by
  have pos : ∀ s ∈ c, s.1 < s.2 := fun s hs => ((isSpan_iff s).mp (List.all_eq_true.mp h s hs)).2.1
  refine ⟨?_, pos⟩
  unfold isCoverB gapAll at hc
  rw [Bool.and_eq_true, List.all_eq_true] at hc
  have nxt : ∀ (i : Nat) (hi : i + 1 < c.length), (c[i]).2 < (c[i + 1]).1 := fun i hi => by
    have h1 := hc.2 i (List.mem_range.mpr (by rw [List.length_drop]; omega))
    rw [decide_eq_true_eq, List.getD_eq_getElem?_getD, List.getD_eq_getElem?_getD, List.getElem?_drop, Nat.add_comm 1 i, List.getElem?_eq_getElem (by omega), List.getElem?_eq_getElem hi] at h1
    exact h1
  have far : ∀ (k i : Nat) (hi : i + k + 1 < c.length), (c[i]'(by omega)).2 < (c[i + k + 1]).1 := fun k => by
    induction k with
    | zero => exact fun i hi => nxt i hi
    | succ k ih =>
      intro i hi
      have h1 := ih i (by omega)
      have h2 := nxt (i + k + 1) (by omega)
      have h3 := pos (c[i + k + 1]'(by omega)) (List.getElem_mem _)
      have h4 : (c[i + k + 1 + 1]'(by omega)).1 = (c[i + (k + 1) + 1]'hi).1 := rfl
      omega
  rw [List.pairwise_iff_getElem]
  intro i j hi hj hij
  obtain ⟨k, rfl⟩ : ∃ k, j = i + k + 1 := ⟨j - i - 1, by omega⟩
  exact far k i hj
section
variable {P : Program} {w : World} {K : PySem.W.Frag} {mg : Str → Option Value} {base : Heap}
/-! ### the program: covers -/
def spCheckSpans (C : Addr) : Sp := fun vs H Q E => ∃ (l : Addr) (us : List V) (ss : List Span), vs = [.ref l] ∧ H l = some (.lst us) ∧ Sps H us ss ∧ (ss.all isSpan = true → Q .non H) ∧ (ss.all isSpan = false → E (.ref C) none H)
theorem ok_check_spans (T : Tx K mg) : FnOk P w K mg base (L2.CX P w) (5) T.f_check_spans T.fd_check_spans ["spans"] (spCheckSpans T.C_NoSpan) := by
  have G_check_span : FnOk P w K mg base (L2.CX P w) _ _ _ _ _ := ok_check_span T
  refine T.F_check_spans.okX sc_check_spans (fun vs H Q E h => ?_) (fun cdv A outer s H vs Q E hr h => ?_)
  · obtain ⟨l, us, ss, rfl, _⟩ := h
    rfl
  · obtain ⟨l, us, ss, rfl, hl, hS, q, e⟩ := h
    refine ⟨_, (pss_one (ps_for (passes_of rfl) (by rfl) (pi_list (pv 0)) (pg_name (i := 1) sc_check_spans.nd rfl (Or.inl rfl))
        (pss_one (ps_expr (pe_call G_check_span (hr.mono (by decide)) (by rfl) T.g_check_span T.F_check_span.kp T.b_check_span .nil (passes_call (takes_of rfl rfl rfl rfl) (fun _ _ _ _ h => h)) (pa_cons (pv 1) pa_nil)))))), ?_⟩
    refine ⟨_, rfl, l, rfl, ⟨_, SqL.of hl⟩, for_list (K := K) (a := l) (xs := us) (fun i σ H' => ∃ y1, σ = [some (.ref l), y1] ∧ H' = H ∧ (ss.take i).all isSpan = true) ⟨none, rfl, rfl, rfl⟩ (fun i σ H' _ ⟨_, _, e, _⟩ => by rw [e]; exact SqL.of hl) ?_ ?_⟩
    · rintro i y σ H' hi ⟨y1, rfl, rfl, ha⟩
      obtain ⟨sp, hs, hv⟩ := hS.get hi
      have tk : ss.take (i + 1) = ss.take i ++ [sp] := by
        rw [List.take_add_one, hs]
        rfl
      refine ⟨_, rfl, y, sp, rfl, hv, fun ok => ⟨_, rfl, rfl, ?_⟩, fun no => e ?_⟩
      · rw [tk, List.all_append, ha, List.all_cons, ok]
        rfl
      · rw [List.all_eq_false]
        exact ⟨sp, List.mem_of_getElem? hs, by rw [no]; decide⟩
    · rintro σ H' ⟨y1, rfl, rfl, ha⟩
      rw [hS.len, List.take_length] at ha
      exact q ha
theorem cut_one (xs : List V) : cutV xs (some 1) none = xs.drop 1 := by
  unfold cutV
  rw [show HT.sIx xs.length 0 (some 1) = min 1 xs.length from HT.sIx_nat xs.length 0 1, HT.sIx_none]
  cases xs with
  | nil => rfl
  | cons x r =>
    rw [show min 1 (x :: r).length = 1 from Nat.min_eq_left (Nat.succ_le_succ (Nat.zero_le _))]
    exact List.take_of_length_le (by simp)
theorem Sps.drop {H : Hp} : ∀ {vs : List V} {ss : List Span} (n : Nat), Sps H vs ss → Sps H (vs.drop n) (ss.drop n)
  | _, _, 0, h => h
  | _, _, _ + 1, .nil => .nil
  | _, _, n + 1, .cons _ t => Sps.drop n t
def spIsCover (T : Tx K mg) : Sp := fun vs H Q _ => ∃ (l : Addr) (us : List V) (ss : List Span), vs = [.ref l] ∧ H l = some (.lst us) ∧ Sps H us ss ∧ Tb T.tabs H ∧ ∀ H', Chg T.tabs H H' → Tb T.tabs H' → Q (.bl (isCoverB ss)) H'
theorem ok_is_cover (T : Tx K mg) (B : Tbs T base) : FnOk P w K mg base CX0 (1) T.f_is_cover T.fd_is_cover ["spans"] (spIsCover T) := by
  refine T.FC_is_cover.ok sc_is_cover (fun vs H Q E h => ?_) (fun A outer s H vs Q E hr h => ?_)
  · obtain ⟨l, us, ss, rfl, _⟩ := h
    rfl
  · obtain ⟨l, us, ss, rfl, hl, hS, tb, q⟩ := h
    refine ⟨_, (pss_cons (ps_if (pt_cmpR op_gt (pe_callB call_len_seq (by rfl) T.m_len PySem.boot_len (pa_cons (pv 0) pa_nil)) (pe_glob (v := .int (200)) (by rfl) T.c_MOST_SPANS ⟨_, rfl⟩) (nomark _)) (pss_one (ps_ret pe_bl)) pss_nil)
      (pss_one (ps_ret (pe_allZ hr (by rfl) T.m_all (by decide +kernel) (by rfl) T.m_zip B.t_is_cover rfl (genS2_by (by decide +kernel)) (pa_cons (pv 0) (pa_cons (pe_slice sl_list (pv 0) (po_some pe_int) po_none) pa_nil)) (fun _ => rfl) (by decide) (by decide))))), ?_⟩
    have hlen := hS.len
    unfold isCoverB at q
    refine ⟨_, rfl, l, _, rfl, .inl (SqL.of hl), _, _, rfl, rfl, _, rfl, ite2 (fun e => ?_) (fun e => ?_)⟩
    · have e0 : (200 : Int) < ((us.length : Nat) : Int) := of_decide_eq_true e
      have no : ¬ ss.length ≤ 200 := by omega
      have q1 := q H (Chg.refl _ _) tb
      rw [decide_eq_false no] at q1
      exact q1
    · have e0 : ¬ (200 : Int) < ((us.length : Nat) : Int) := fun z => e (decide_eq_true z)
      have yes : ss.length ≤ 200 := by omega
      refine ⟨_, rfl, _, rfl, 1, rfl, l, us, rfl, SqL.of hl, fun c nc => ?_⟩
      rw [cut_one]
      obtain ⟨gc, sc⟩ := upd_at (o := .lst (us.drop 1)) nc
      have tb1 := tb.same sc
      have mP : T.pA_is_cover ∈ T.tabs := by
        unfold Tx.tabs
        simp
      refine ⟨l, c, us, us.drop 1, ss, ss.drop 1, rfl, SqL.of (sc _ _ hl), SqL.of gc, ?_, ?_, hS.same sc, (hS.same sc).drop 1, tb1 _ mP, fun H2 t2 => ?_⟩
      · exact fun z => tb.out hl (fun ps z => by cases z) (by rw [z]; exact mP)
      · exact fun z => tb.new nc (by rw [z]; exact mP)
      · obtain ⟨tb2, c2⟩ := tb1.tabbed mP t2
        have q1 := q H2 ((Chg.of_same sc).trans c2) tb2
        rw [decide_eq_true yes] at q1
        exact q1
def spCheckCover (T : Tx K mg) : Sp := fun vs H Q E => ∃ (l : Addr) (us : List V) (ss : List Span), vs = [.ref l] ∧ H l = some (.lst us) ∧ Sps H us ss ∧ Tb T.tabs H ∧ (ss.all isSpan = true → isCoverB ss = true → ∀ H', Chg T.tabs H H' → Tb T.tabs H' → Q .non H') ∧
  (ss.all isSpan = false → E (.ref T.C_NoSpan) none H) ∧ (ss.all isSpan = true → isCoverB ss = false → ∀ H', Chg T.tabs H H' → Tb T.tabs H' → E (.ref T.C_NoCover) none H')
theorem ok_check_cover (T : Tx K mg) (B : Tbs T base) : FnOk P w K mg base (L2.CX P w) (6) T.f_check_cover T.fd_check_cover ["cover"] (spCheckCover T) := by
  have G_check_spans : FnOk P w K mg base (L2.CX P w) _ _ _ _ _ := ok_check_spans T
  have G_is_cover : FnOk P w K mg base CX0 _ _ _ _ _ := ok_is_cover T B
  refine T.F_check_cover.okX sc_check_cover (fun vs H Q E h => ?_) (fun cdv A outer s H vs Q E hr h => ?_)
  · obtain ⟨l, us, ss, rfl, _⟩ := h
    rfl
  · obtain ⟨l, us, ss, rfl, hl, hS, tb, q, e1, e2⟩ := h
    refine ⟨_, (pss_cons (ps_expr (pe_call G_check_spans (hr.mono (by decide)) (by rfl) T.g_check_spans T.F_check_spans.kp T.b_check_spans .nil (passes_call (takes_of rfl rfl rfl rfl) (fun _ _ _ _ h => h)) (pa_cons (pv 0) pa_nil)))
      (pss_one (ps_if (pt_not (pt_val (pe_call G_is_cover (hr.mono (by decide)) (by rfl) T.g_is_cover T.F_is_cover.kp T.b_is_cover .nil pass0 (pa_cons (pv 0) pa_nil)))) (pss_one (ps_raise (by rfl) (takes_of rfl rfl rfl rfl) (pmk_own PySem.F.excBase_ValueError T.x_NoCover T.g_NoCover T.k_NoCover (raises_own T.b_NoCover T.t_NoCover) (by exact rfl)))) pss_nil))), ?_⟩
    refine ⟨_, rfl, l, us, ss, rfl, hl, hS, fun ok => ?_, e1⟩
    refine ⟨_, rfl, l, us, ss, rfl, hl, hS, tb, fun H1 c1 tb1 => ⟨_, rfl, ?_⟩⟩
    by_cases hc : isCoverB ss = true
    · rw [hc]
      exact iteF (q ok hc H1 c1 tb1)
    · rw [Bool.not_eq_true] at hc
      rw [hc]
      exact iteT (e2 ok hc H1 c1 tb1)
def spHeld (T : Tx K mg) : Sp := fun vs H Q E => ∃ (l : Addr) (us : List V) (ss : List Span), vs = [.ref l] ∧ H l = some (.lst us) ∧ Sps H us ss ∧ Tb T.tabs H ∧ (ss.all isSpan = true → isCoverB ss = true → ∀ H', Chg T.tabs H H' → Tb T.tabs H' → Q (.int (spanSum ss)) H') ∧
  (ss.all isSpan = false → E (.ref T.C_NoSpan) none H) ∧ (ss.all isSpan = true → isCoverB ss = false → ∀ H', Chg T.tabs H H' → Tb T.tabs H' → E (.ref T.C_NoCover) none H')
theorem ok_held (T : Tx K mg) (B : Tbs T base) : FnOk P w K mg base (L2.CX P w) (7) T.f_held T.fd_held ["cover"] (spHeld T) := by
  have G_check_cover : FnOk P w K mg base (L2.CX P w) _ _ _ _ _ := ok_check_cover T B
  refine T.FC_held.okX sc_held (fun vs H Q E h => ?_) (fun A outer s H vs Q E hr h => ?_)
  · obtain ⟨l, us, ss, rfl, _⟩ := h
    rfl
  · obtain ⟨l, us, ss, rfl, hl, hS, tb, q, e1, e2⟩ := h
    refine ⟨_, (pss_cons (ps_expr (pe_call G_check_cover (hr.mono (by decide)) (by rfl) T.g_check_cover T.F_check_cover.kp T.b_check_cover .nil (passes_call (takes_of rfl rfl rfl rfl) (fun _ _ _ _ h => h)) (pa_cons (pv 0) pa_nil)))
      (pss_one (ps_ret (pe_sumP hr (by rfl) T.m_sum B.t_held rfl (genS2_by (by decide +kernel)) (pv 0) (fun _ => rfl) (by decide) (by decide))))), ?_⟩
    have mP : T.pA_held ∈ T.tabs := by
      unfold Tx.tabs
      simp
    have nl := tb.out hl (fun ps z => by cases z)
    refine ⟨_, rfl, l, us, ss, rfl, hl, hS, tb, fun ok hc H1 c1 tb1 => ?_, e1, e2⟩
    refine ⟨_, rfl, l, us, ss, rfl, SqL.of (c1 _ _ nl hl), fun z => nl (by rw [z]; exact mP), hS.chg c1 tb.lsts, tb1 _ mP, fun H2 t2 => ?_⟩
    obtain ⟨tb2, c2⟩ := tb1.tabbed mP t2
    exact q ok hc H2 (c1.trans c2) tb2
/-! joined -/
/-- the two numbers of the tuple at v -/
def kOf (H : Hp) (v : V) : Span := match v with
  | .ref t => (match H t with | some (.tup [.int a, .int b]) => (a, b) | _ => (0, 0))
  | _ => (0, 0)
theorem kOf_spn {H : Hp} {v : V} {s : Span} (h : Spn H v s) : kOf H v = s := by
  obtain ⟨t, rfl, ht⟩ := h
  show (match H t with | some (.tup [.int a, .int b]) => (a, b) | _ => (0, 0)) = s
  rw [ht]
theorem Sps.kmap {H : Hp} : ∀ {vs : List V} {ss : List Span}, Sps H vs ss → vs.map (kOf H) = ss
  | _, _, .nil => rfl
  | _, _, .cons h t => by rw [List.map_cons, kOf_spn h, t.kmap]
theorem sps_of {H : Hp} : ∀ {vs : List V}, (∀ v ∈ vs, Spn H v (kOf H v)) → Sps H vs (vs.map (kOf H))
  | [], _ => .nil
  | v :: vs, h => .cons (h v List.mem_cons_self) (sps_of fun u hu => h u (List.mem_cons_of_mem _ hu))
theorem Sps.mem {H : Hp} {vs : List V} {ss : List Span} (h : Sps H vs ss) {v : V} (hv : v ∈ vs) : ∃ s ∈ ss, Spn H v s := by
  obtain ⟨i, hi⟩ := List.getElem?_of_mem hv
  obtain ⟨s, e, sp⟩ := h.get hi
  exact ⟨s, List.mem_of_getElem? e, sp⟩
def spJoined : Sp := fun vs H Q _ => ∃ (l : Addr) (us : List V) (ss : List Span), vs = [.ref l] ∧ H l = some (.lst us) ∧ Sps H us ss ∧ (∀ s ∈ ss, s.1 < s.2) ∧ ss.length ≤ 100000 ∧
  ∀ H' p ws c, Same H H' → H p = none → H' p = some (.lst ws) → Sps H' ws c → Can c → (∀ x, Mem c x ↔ Mem ss x) → c.length ≤ ss.length → Q (.ref p) H'
theorem snoc_of {α : Type} {l : List α} (h : l ≠ []) : ∃ a x, l = a ++ [x] := ⟨l.dropLast, l.getLast h, (List.dropLast_concat_getLast h).symm⟩
theorem Sps.snoc {H : Hp} {vs : List V} {c : List Span} {x : Span} (h : Sps H vs (c ++ [x])) : ∃ us v, vs = us ++ [v] ∧ Sps H us c ∧ Spn H v x := by
  have hl := h.len
  have ne : vs ≠ [] := fun z => by
    rw [z] at hl
    simp at hl
  obtain ⟨us, v, rfl⟩ := snoc_of ne
  have hl2 : us.length = c.length := by simpa using hl
  refine ⟨us, v, rfl, ?_, ?_⟩
  · have h1 : ∀ {vs : List V} {ss : List Span} (n : Nat), Sps H vs ss → Sps H (vs.take n) (ss.take n) := fun {vs ss} n h => by
      induction h generalizing n with
      | nil => simp [Sps.nil]
      | cons a b ih =>
        cases n with
        | zero => exact .nil
        | succ n => exact .cons a (ih n)
    have h2 := h1 us.length h
    rw [List.take_left, hl2, List.take_left] at h2
    exact h2
  · obtain ⟨s, e, sp⟩ := h.get (i := us.length) (v := v) (by simp)
    rw [hl2] at e
    have e2 : s = x := by simpa using e.symm
    rw [← e2]
    exact sp
theorem ok_joined (T : Tx K mg) : FnOk P w K mg base CX0 (1) T.f_joined T.fd_joined ["spans"] spJoined := by
  refine T.F_joined.ok sc_joined (fun vs H Q E h => ?_) (fun cdv A outer s H vs Q E hr h => ?_)
  · obtain ⟨l, us, ss, rfl, _⟩ := h
    rfl
  · obtain ⟨l, us, ss, rfl, hl, hS, pos, hlen, q⟩ := h
    refine ⟨_, (pss_cons (ps_set (i := 1) sc_joined.nd rfl (Or.inl rfl) (pe_lst pa_nil))
      (pss_cons (ps_for PassesOwn.never (by rfl) (pi_list (pe_callB cr_sortedPO (by rfl) T.m_sorted (by decide +kernel) (pa_cons (pv 0) pa_nil))) (pg_tup rfl (pgs_cons (pg_name (i := 2) sc_joined.nd rfl (Or.inl rfl)) (pgs_cons (pg_name (i := 3) sc_joined.nd rfl (Or.inl rfl)) pgs_nil)))
        (pss_one (ps_if (PW.pt (pw_and (pt_truth (pv 1) (by intro _; rfl)) (pw_and1 (pt_cmpR op_le (pv 2) (pe_ix ix_tup (pe_ix ix_list (pv 1) (pe_un un_neg pe_int) (fun _ _ => rfl)) pe_int (fun _ _ => rfl)) (nomark _))))) (pss_cons (ps_asg (pe_ix ix_list (pv 1) (pe_un un_neg pe_int) (fun _ _ => rfl)) (pg_tup rfl (pgs_cons (pg_name (i := 4) sc_joined.nd rfl (Or.inl rfl)) (pgs_cons (pg_name (i := 5) sc_joined.nd rfl (Or.inl rfl)) pgs_nil))))
      (pss_one (ps_asg (pe_tup (pa_cons (pv 4) (pa_cons (pe_callB (call_max2 rfl) (by rfl) T.m_max (by decide +kernel) (pa_cons (pv 5) (pa_cons (pv 3) pa_nil))) pa_nil))) (pg_sub (pv 1) (pe_un un_neg pe_int) set_list)))) (pss_one (ps_expr (pe_bm PySem.F.plainAttrs_list PySem.F.slot_list_append PySem.F.type_list_append mt_append (pv 1) (pa_cons (pe_tup (pa_cons (pv 2) (pa_cons (pv 3) pa_nil))) pa_nil)))))))
      (pss_one (ps_ret (pv 1))))), ?_⟩
    refine ⟨Nat.zero_le _, fun C nC => ?_⟩
    obtain ⟨gC, sC⟩ := upd_at (o := .lst []) nC
    have hS1 := hS.same sC
    refine ⟨_, rfl, l, us, kOf (upd H C (.lst [])), rfl, SqL.of (sC _ _ hl), fun x hx => ?_, fun ys p srt stb np => ?_⟩
    · obtain ⟨sp, _, t, e, ht⟩ := hS1.mem hx
      refine ⟨t, e, ?_⟩
      rw [kOf_spn ⟨t, e, ht⟩]
      exact ht
    have mem : ∀ v ∈ ys, v ∈ us := fun v hv => stb.perm.mem_iff.mp hv
    have hY : Sps (upd H C (.lst [])) ys (ys.map (kOf (upd H C (.lst [])))) := sps_of fun v hv => by
      obtain ⟨sp, _, h1⟩ := hS1.mem (mem v hv)
      rw [kOf_spn h1]
      exact h1
    have prm : (ys.map (kOf (upd H C (.lst [])))).Perm ss := by
      rw [← hS1.kmap]
      exact stb.perm.map _
    have ord : (ys.map (kOf (upd H C (.lst [])))).Pairwise (fun a b => a.1 ≤ b.1) := by
      rw [List.pairwise_map]
      refine srt.imp fun {a b} h => ?_
      have := SrtO.lexB_no.mp h
      omega
    revert hY prm ord
    generalize ys.map (kOf (upd H C (.lst []))) = rs
    intro hY prm ord
    have posR : ∀ s ∈ rs, s.1 < s.2 := fun s hs => pos s (prm.mem_iff.mp hs)
    have lenR := prm.length_eq
    obtain ⟨gp, sp⟩ := upd_at (o := .lst ys) np
    have nCp : C ≠ p := ne_of_none gC np
    have hnC : H C = none := nC
    refine ⟨p, rfl, ⟨_, SqL.of gp⟩, ?_⟩
    have hYlen := hY.len
    refine for_list (K := K) (a := p) (xs := ys) (fun i σ H' => ∃ y2 y3 y4 y5 cvs acc, σ = [some (.ref l), some (.ref C), y2, y3, y4, y5] ∧ Same H H' ∧ H' p = some (.lst ys) ∧ Sps H' ys rs ∧ H' C = some (.lst cvs) ∧ Sps H' cvs acc ∧ Can acc ∧ (∀ x, Mem acc x ↔ Mem (rs.take i) x) ∧ acc.length ≤ i ∧ ∀ s ∈ acc, ∀ r ∈ rs.drop i, s.1 ≤ r.1)
      ⟨none, none, none, none, [], [], rfl, sC.trans sp, gp, hY.same sp, sp _ _ gC, .nil, can_nil, fun x => Iff.rfl, Nat.le_refl _, fun s hs => nomatch hs⟩ (fun i σ H' _ ⟨_, _, _, _, _, _, _, _, h, _⟩ => SqL.of h) ?_ ?_
    · rintro i y σ H' hi ⟨y2, y3, y4, y5, cvs, acc, rfl, sm, hp, hY', hC, hA, can, mm, al, low⟩
      obtain ⟨r, hr', t, rfl, ht⟩ := hY'.get hi
      have hrm : r ∈ rs := List.mem_of_getElem? hr'
      have hil : i < rs.length := (List.getElem?_eq_some_iff.mp hr').1
      have rpos := posR r hrm
      have tk : rs.take (i + 1) = rs.take i ++ [r] := by
        rw [List.take_add_one, hr']
        rfl
      have dr : rs.drop i = r :: rs.drop (i + 1) := by
        obtain ⟨h1, h2⟩ := List.getElem?_eq_some_iff.mp hr'
        rw [List.drop_eq_getElem_cons h1, h2]
      have rl : ∀ s ∈ acc, s.1 ≤ r.1 := fun s hs => low s hs r (by rw [dr]; exact List.mem_cons_self)
      have rr : ∀ u ∈ rs.drop (i + 1), r.1 ≤ u.1 := fun u hu => by
        have h1 := ord.sublist (List.drop_sublist i rs)
        rw [dr] at h1
        exact (List.pairwise_cons.mp h1).1 u hu
      have low' : ∀ s ∈ acc, ∀ u ∈ rs.drop (i + 1), s.1 ≤ u.1 := fun s hs u hu => low s hs u (by rw [dr]; exact List.mem_cons_of_mem _ hu)
      -- a step's end: C holds the spans acc2
      have fin : ∀ (H2 : Hp) (z2 z3 z4 z5 : Option V) (cvs2 : List V) (acc2 : List Span), Same H' H2 → Sps H2 cvs2 acc2 → Can acc2 → (∀ x, Mem acc2 x ↔ Mem acc x ∨ (r.1 ≤ x ∧ x < r.2)) → acc2.length ≤ i + 1 → (∀ s ∈ acc2, s.1 ≤ r.1) →
          ∃ y2 y3 y4 y5 cvs acc, [some (V.ref l), some (V.ref C), z2, z3, z4, z5] = [some (V.ref l), some (V.ref C), y2, y3, y4, y5] ∧ Same H (upd H2 C (.lst cvs2)) ∧ (upd H2 C (.lst cvs2)) p = some (.lst ys) ∧ Sps (upd H2 C (.lst cvs2)) ys rs ∧ (upd H2 C (.lst cvs2)) C = some (.lst cvs) ∧ Sps (upd H2 C (.lst cvs2)) cvs acc ∧ Can acc ∧ (∀ x, Mem acc x ↔ Mem (rs.take (i + 1)) x) ∧ acc.length ≤ i + 1 ∧ ∀ s ∈ acc, ∀ u ∈ rs.drop (i + 1), s.1 ≤ u.1 :=
        fun H2 z2 z3 z4 z5 cvs2 acc2 s2 hA2 can2 m2 l2 lo2 => by
          have cC : Chg [C] H2 (upd H2 C (.lst cvs2)) := Chg.upd List.mem_cons_self
          have lC : Lsts [C] H2 := Lsts.of1 (s2 _ _ hC)
          refine ⟨z2, z3, z4, z5, cvs2, acc2, rfl, same_more (sm.trans s2) hnC, cC _ _ (nmem1 nCp.symm) (s2 _ _ hp), (hY'.same s2).chg cC lC, upd_same, hA2.chg cC lC, can2, fun x => ?_, l2, fun s hs u hu => Int.le_trans (lo2 s hs) (rr u hu)⟩
          rw [m2, mm, tk, mem_app, mem_one]
      refine ⟨t, _, rfl, SqT.of ht, rfl, _, _, rfl, _, _, rfl, rfl, ?_⟩
      by_cases hn : acc = []
      · -- nothing yet
        have cn : cvs = [] := by
          have := hA.len
          rw [hn] at this
          exact List.length_eq_zero_iff.mp this
        refine ⟨_, rfl, false, .inl ⟨_, SqL.of hC, by rw [cn]; rfl⟩, iteF (iteF ?_)⟩
        refine ⟨_, rfl, .inl ⟨rfl, _, SqL.of hC⟩, _, rfl, _, rfl, (by show 2 ≤ sizeLine; decide), fun t2 n2 => ?_⟩
        obtain ⟨g2, s2⟩ := upd_at (o := .tup [.int r.1, .int r.2]) n2
        refine ⟨C, cvs, .ref t2, rfl, rfl, s2 _ _ hC, ?_, ?_⟩
        · rw [cn]
          exact small_lt (by simp)
        · refine fin _ _ _ _ _ _ [r] s2 ?_ (can_one rpos) (fun x => ?_) (by simp) (fun s hs => ?_)
          · rw [cn]
            exact .one ⟨t2, rfl, g2⟩
          · rw [hn, mem_one]
            constructor
            · exact .inr
            · rintro (h | h)
              · exact absurd h (mem_nil x)
              · exact h
          · rw [List.mem_singleton.mp hs]
            exact Int.le_refl _
      · obtain ⟨a, x, rfl⟩ := snoc_of hn
        obtain ⟨ua, vx, rfl, hAa, tx, rfl, htx⟩ := hA.snoc
        have lx := can_app_lt can
        have xpos := can.2 x (List.mem_append_right _ (List.mem_singleton.mpr rfl))
        have xr := rl x (List.mem_append_right _ (List.mem_singleton.mpr rfl))
        have alen : a.length + 1 ≤ i := by simpa using al
        refine ⟨_, rfl, true, .inl ⟨_, SqL.of hC, by simp⟩, iteT ?_⟩
        refine ⟨_, rfl, _, rfl, 1, rfl, C, _, -1, .ref tx, rfl, rfl, SqL.of hC, atI_last _ _, tx, _, _, _, rfl, rfl, SqT.of htx, atI_nat (j := 1) rfl, _, _, rfl, rfl, _, rfl, ?_⟩
        by_cases ov : r.1 ≤ x.2
        · rw [decide_eq_true ov]
          refine iteT ?_
          refine ⟨_, rfl, 1, rfl, C, _, -1, .ref tx, rfl, rfl, SqL.of hC, atI_last _ _, tx, _, rfl, SqT.of htx, rfl, _, _, rfl, _, _, rfl, rfl, ?_⟩
          refine ⟨_, rfl, _, rfl, _, rfl, _, _, rfl, (by show 2 ≤ sizeLine; decide), fun t2 n2 => ?_⟩
          generalize hmx : (if r.2 > x.2 then r.2 else x.2) = mx
          obtain ⟨g2, s2⟩ := upd_at (o := .tup [.int x.1, .int mx]) n2
          have mx1 : x.2 ≤ mx := by
            split at hmx <;> omega
          have mx2 : r.2 ≤ mx := by
            split at hmx <;> omega
          have mx3 : mx = r.2 ∨ mx = x.2 := by
            split at hmx <;> omega
          refine ⟨_, rfl, 1, rfl, C, ua ++ [.ref tx], -1, ua.length, rfl, rfl, s2 _ _ hC, ?_, ?_⟩
          · unfold ixN
            rw [if_neg (by decide), if_pos (by simp; omega)]
            congr 1
            simp
            omega
          · have st : (ua ++ [V.ref tx]).set ua.length (.ref t2) = ua ++ [.ref t2] := by simp
            rw [st]
            refine fin _ _ _ _ _ _ (a ++ [(x.1, mx)]) s2 ((hAa.same s2).app (.one ⟨t2, rfl, g2⟩)) (can_snoc (can_app_l can) (by show x.1 < mx; omega) lx) (fun z => ?_) (by simpa using Nat.le_succ_of_le alen) (fun s hs => ?_)
            · rw [mem_app, mem_one, mem_app, mem_one]
              constructor
              · rintro (h | h)
                · exact .inl (.inl h)
                · by_cases hz : z < x.2
                  · exact .inl (.inr ⟨h.1, hz⟩)
                  · exact .inr ⟨by omega, by have := h.2; rcases mx3 with e | e <;> omega⟩
              · rintro ((h | h) | h)
                · exact .inl h
                · exact .inr ⟨h.1, by have := h.2; omega⟩
                · exact .inr ⟨by show x.1 ≤ z; omega, by show z < mx; omega⟩
            · rcases List.mem_append.mp hs with m | m
              · exact rl s (List.mem_append_left _ m)
              · rw [List.mem_singleton.mp m]
                exact xr
        · rw [decide_eq_false ov]
          refine iteF ?_
          refine ⟨_, rfl, .inl ⟨rfl, _, SqL.of hC⟩, _, rfl, _, rfl, (by show 2 ≤ sizeLine; decide), fun t2 n2 => ?_⟩
          obtain ⟨g2, s2⟩ := upd_at (o := .tup [.int r.1, .int r.2]) n2
          refine ⟨C, _, .ref t2, rfl, rfl, s2 _ _ hC, ?_, ?_⟩
          · have := hAa.len
            exact small_lt (by simp; omega)
          · have hA2 : Sps _ (ua ++ [.ref tx]) (a ++ [x]) := ((hAa.app (.one ⟨tx, rfl, htx⟩)).same s2)
            refine fin _ _ _ _ _ _ ((a ++ [x]) ++ [r]) s2 (hA2.app (.one ⟨t2, rfl, g2⟩)) (can_snoc can rpos fun s hs => ?_) (fun z => ?_) (by simpa using alen) (fun s hs => ?_)
            · rcases List.mem_append.mp hs with m | m
              · have := lx s m
                omega
              · rw [List.mem_singleton.mp m]
                omega
            · rw [mem_app, mem_one]
            · rcases List.mem_append.mp hs with m | m
              · exact rl s m
              · rw [List.mem_singleton.mp m]
                exact Int.le_refl _
    · rintro σ H' ⟨y2, y3, y4, y5, cvs, acc, rfl, sm, hp, hY', hC, hA, can, mm, al, low⟩
      rw [hYlen, List.take_length] at mm
      refine ⟨_, rfl, q H' C cvs acc sm hnC hC hA can (fun x => (mm x).trans (mem_perm prm x)) ?_⟩
      rw [← lenR, ← hYlen]
      exact al
theorem all_pos {ss : List Span} (h : ss.all isSpan = true) : ∀ s ∈ ss, s.1 < s.2 := fun s hs => ((isSpan_iff s).mp (List.all_eq_true.mp h s hs)).2.1
end
section
variable {P : Program} {w : World} {K : PySem.W.Frag} {mg : Str → Option Value} {base : Heap}
/-! ### two covers -/
/-- 0 a cover, 1 no spans, 2 no cover -/
def ref1 (ss : List Span) : Nat := if ss.all isSpan = true then (if isCoverB ss = true then 0 else 2) else 1
theorem ref1_ok {ss : List Span} (h : ss.all isSpan = true) (h2 : isCoverB ss = true) : ref1 ss = 0 := by
  unfold ref1
  rw [if_pos h, if_pos h2]
theorem ref1_span {ss : List Span} (h : ss.all isSpan = false) : ref1 ss = 1 := by
  unfold ref1
  rw [if_neg (by rw [h]; decide)]
theorem ref1_cov {ss : List Span} (h : ss.all isSpan = true) (h2 : isCoverB ss = false) : ref1 ss = 2 := by
  unfold ref1
  rw [if_pos h, if_neg (by rw [h2]; decide)]
theorem ref1_can {ss : List Span} (h : ref1 ss = 0) : ss.all isSpan = true ∧ isCoverB ss = true ∧ Can ss ∧ ss.length ≤ 200 := by
  unfold ref1 at h
  by_cases h1 : ss.all isSpan = true
  · rw [if_pos h1] at h
    by_cases h2 : isCoverB ss = true
    · refine ⟨h1, h2, can_of_cover h1 h2, ?_⟩
      unfold isCoverB at h2
      rw [Bool.and_eq_true, decide_eq_true_eq] at h2
      exact h2.1
    · rw [if_neg h2] at h
      cases h
  · rw [if_neg h1] at h
    cases h
theorem can_ref1 {c : List Span} (h : Can c) (hs : ∀ s ∈ c, isSpan s = true) (hl : c.length ≤ 200) : ref1 c = 0 := ref1_ok (List.all_eq_true.mpr hs) (cover_can h hl)
/-- the class of a refusal -/
def Tx.refC (T : Tx K mg) (n : Nat) : Addr := if n = 1 then T.C_NoSpan else T.C_NoCover
/-- two lists of spans are handed in -/
def Two (T : Tx K mg) (H : Hp) (a b : Addr) (us ws : List V) (ss rs : List Span) : Prop := H a = some (.lst us) ∧ Sps H us ss ∧ H b = some (.lst ws) ∧ Sps H ws rs ∧ Tb T.tabs H
def spCheckCovers (T : Tx K mg) : Sp := fun vs H Q E => ∃ (a b : Addr) (us ws : List V) (ss rs : List Span), vs = [.ref a, .ref b] ∧ Two T H a b us ws ss rs ∧ (ref1 ss = 0 → ref1 rs = 0 → ∀ H', Chg T.tabs H H' → Tb T.tabs H' → Q .non H') ∧
  (∀ n, n ≠ 0 → (ref1 ss = n ∨ (ref1 ss = 0 ∧ ref1 rs = n)) → ∀ H', Chg T.tabs H H' → Tb T.tabs H' → E (.ref (T.refC n)) none H')
theorem ok_check_covers (T : Tx K mg) (B : Tbs T base) : FnOk P w K mg base (L2.CX P w) (7) T.f_check_covers T.fd_check_covers ["one", "other"] (spCheckCovers T) := by
  have G_check_cover : FnOk P w K mg base (L2.CX P w) _ _ _ _ _ := ok_check_cover T B
  refine T.F_check_covers.okX sc_check_covers (fun vs H Q E h => ?_) (fun cdv A outer s H vs Q E hr h => ?_)
  · obtain ⟨a, b, us, ws, ss, rs, rfl, _⟩ := h
    rfl
  · obtain ⟨a, b, us, ws, ss, rs, rfl, ⟨ha, hS, hb, hR, tb⟩, q, e⟩ := h
    refine ⟨_, (pss_cons (ps_expr (pe_call G_check_cover (hr.mono (by decide)) (by rfl) T.g_check_cover T.F_check_cover.kp T.b_check_cover .nil (passes_call (takes_of rfl rfl rfl rfl) (fun _ _ _ _ h => h)) (pa_cons (pv 0) pa_nil)))
      (pss_one (ps_expr (pe_call G_check_cover (hr.mono (by decide)) (by rfl) T.g_check_cover T.F_check_cover.kp T.b_check_cover .nil (passes_call (takes_of rfl rfl rfl rfl) (fun _ _ _ _ h => h)) (pa_cons (pv 1) pa_nil))))), ?_⟩
    have bT := tb.out hb (fun ps z => by cases z)
    refine ⟨_, rfl, a, us, ss, rfl, ha, hS, tb, fun s1 s2 H1 c1 tb1 => ?_, fun s1 => e 1 (by decide) (.inl (ref1_span s1)) H (Chg.refl _ _) tb, fun s1 s2 H1 c1 tb1 => e 2 (by decide) (.inl (ref1_cov s1 s2)) H1 c1 tb1⟩
    have z := ref1_ok s1 s2
    refine ⟨_, rfl, b, ws, rs, rfl, c1 _ _ bT hb, hR.chg c1 tb.lsts, tb1, fun r1 r2 H2 c2 tb2 => q z (ref1_ok r1 r2) H2 (c1.trans c2) tb2, fun r1 => e 1 (by decide) (.inr ⟨z, ref1_span r1⟩) H1 c1 tb1, fun r1 r2 H2 c2 tb2 => e 2 (by decide) (.inr ⟨z, ref1_cov r1 r2⟩) H2 (c1.trans c2) tb2⟩
/-! common -/
def spCommon : Sp := fun vs H Q _ => ∃ (a b : Addr) (us ws : List V) (ss rs : List Span), vs = [.ref a, .ref b] ∧ H a = some (.lst us) ∧ Sps H us ss ∧ H b = some (.lst ws) ∧ Sps H ws rs ∧ Can ss ∧ Can rs ∧ ss.length ≤ 10000 ∧ rs.length ≤ 10000 ∧
  ∀ (H' : Hp) (p : Addr) (xs : List V) (c : List Span), Same H H' → H p = none → H' p = some (.lst xs) → Sps H' xs c → Can c → (∀ x, Mem c x ↔ Mem ss x ∧ Mem rs x) → c.length ≤ ss.length + rs.length → Q (.ref p) H'
theorem drop_at {α : Type} {l : List α} {i : Nat} {x : α} (h : l[i]? = some x) : l.drop i = x :: l.drop (i + 1) := by
  obtain ⟨h1, h2⟩ := List.getElem?_eq_some_iff.mp h
  rw [List.drop_eq_getElem_cons h1, h2]
theorem ok_common (T : Tx K mg) : FnOk P w K mg base CX0 (1) T.f_common T.fd_common ["one", "other"] spCommon := by
  refine T.F_common.ok sc_common (fun vs H Q E h => ?_) (fun cdv A outer s H vs Q E hr h => ?_)
  · obtain ⟨a, b, us, ws, ss, rs, rfl, _⟩ := h
    rfl
  · obtain ⟨a, b, us, ws, ss, rs, rfl, ha, hS, hb, hR, canS, canR, ls, lr, q⟩ := h
    refine ⟨_, (pss_cons (ps_set (i := 2) sc_common.nd rfl (Or.inl rfl) (pe_lst pa_nil))
      (pss_cons (ps_set (i := 3) sc_common.nd rfl (Or.inl rfl) pe_int)
      (pss_cons (ps_set (i := 4) sc_common.nd rfl (Or.inl rfl) pe_int)
      (pss_cons (ps_while PassesOwn.never (PW.pt (pw_and (pt_cmpR op_lt (pv 3) (pe_callB call_len_seq (by rfl) T.m_len PySem.boot_len (pa_cons (pv 0) pa_nil)) (nomark _)) (pw_and1 (pt_cmpR op_lt (pv 4) (pe_callB call_len_seq (by rfl) T.m_len PySem.boot_len (pa_cons (pv 1) pa_nil)) (nomark _)))))
        (pss_cons (ps_set (i := 5) sc_common.nd rfl (Or.inl rfl) (pe_callB (call_max2 rfl) (by rfl) T.m_max (by decide +kernel) (pa_cons (pe_ix ix_tup (pe_ix ix_list (pv 0) (pv 3) (fun _ _ => rfl)) pe_int (fun _ _ => rfl)) (pa_cons (pe_ix ix_tup (pe_ix ix_list (pv 1) (pv 4) (fun _ _ => rfl)) pe_int (fun _ _ => rfl)) pa_nil))))
      (pss_cons (ps_set (i := 6) sc_common.nd rfl (Or.inl rfl) (pe_callB (call_min2 rfl) (by rfl) T.m_min (by decide +kernel) (pa_cons (pe_ix ix_tup (pe_ix ix_list (pv 0) (pv 3) (fun _ _ => rfl)) pe_int (fun _ _ => rfl)) (pa_cons (pe_ix ix_tup (pe_ix ix_list (pv 1) (pv 4) (fun _ _ => rfl)) pe_int (fun _ _ => rfl)) pa_nil))))
      (pss_cons (ps_if (pt_cmpR op_lt (pv 5) (pv 6) (nomark _)) (pss_one (ps_expr (pe_bm PySem.F.plainAttrs_list PySem.F.slot_list_append PySem.F.type_list_append mt_append (pv 2) (pa_cons (pe_tup (pa_cons (pv 5) (pa_cons (pv 6) pa_nil))) pa_nil)))) pss_nil)
      (pss_one (ps_if (pt_cmpR op_lt (pe_ix ix_tup (pe_ix ix_list (pv 0) (pv 3) (fun _ _ => rfl)) pe_int (fun _ _ => rfl)) (pe_ix ix_tup (pe_ix ix_list (pv 1) (pv 4) (fun _ _ => rfl)) pe_int (fun _ _ => rfl)) (nomark _)) (pss_one (ps_aug (i := 3) sc_common.nd rfl (Or.inl rfl) pe_int ip_add)) (pss_one (ps_aug (i := 4) sc_common.nd rfl (Or.inl rfl) pe_int ip_add))))))))
      (pss_one (ps_ret (pv 2))))))), ?_⟩
    have l1 := hS.len
    have l2 := hR.len
    refine ⟨Nat.zero_le _, fun f nf => ?_⟩
    obtain ⟨gf, sf⟩ := upd_at (o := .lst []) nf
    have hf0 : H f = none := nf
    refine ⟨fun m σ H' => ∃ (i j : Nat) (xs : List V) (acc : List Span) (y5 y6 : Option V), σ = [some (.ref a), some (.ref b), some (.ref f), some (.int (i : Int)), some (.int (j : Int)), y5, y6] ∧ i ≤ ss.length ∧ j ≤ rs.length ∧ Same H H' ∧ H' f = some (.lst xs) ∧ Sps H' xs acc ∧ Can acc ∧
      (∀ x, (Mem ss x ∧ Mem rs x) ↔ (Mem acc x ∨ (Mem (ss.drop i) x ∧ Mem (rs.drop j) x))) ∧ (∀ s ∈ acc, ∀ t ∈ ss.drop i, ∀ u ∈ rs.drop j, s.2 < t.1 ∨ s.2 < u.1) ∧ acc.length ≤ i + j ∧ m = (ss.length - i) + (rs.length - j),
      ⟨_, 0, 0, [], [], none, none, rfl, Nat.zero_le _, Nat.zero_le _, sf, gf, .nil, can_nil, fun x => ⟨fun h => .inr h, fun h => h.elim (fun z => absurd z (mem_nil x)) (fun z => z)⟩, (fun s hs => nomatch hs), Nat.le_refl _, rfl⟩, ?_⟩
    rintro m σ H' ⟨i, j, xs, acc, y5, y6, rfl, hi, hj, sm, hf, hA, can, mm, gap, al, rfl⟩
    have ha' := sm _ _ ha
    have hb' := sm _ _ hb
    refine ⟨_, rfl, _, rfl, a, _, rfl, .inl (SqL.of ha'), _, _, rfl, rfl, _, rfl, ?_⟩
    have done' : ss.drop i = [] ∨ rs.drop j = [] → ∀ (h : True), ((tRet (tVar 2)) { nx := fun _ H' => Q .non H', rt := Q } [some (.ref a), some (.ref b), some (.ref f), some (.int (i : Int)), some (.int (j : Int)), y5, y6] H') := fun hd _ => by
      refine ⟨_, rfl, q H' f xs acc sm hf0 hf hA can (fun x => ?_) (by omega)⟩
      rw [mm]
      constructor
      · exact .inl
      · rintro (h | ⟨h1, h2⟩)
        · exact h
        · rcases hd with e | e
          · rw [e] at h1
            exact absurd h1 (mem_nil x)
          · rw [e] at h2
            exact absurd h2 (mem_nil x)
    by_cases hi2 : (i : Int) < ((us.length : Nat) : Int)
    · rw [decide_eq_true hi2]
      refine iteT ⟨_, rfl, _, rfl, b, _, rfl, .inl (SqL.of hb'), _, _, rfl, rfl, _, rfl, ?_⟩
      by_cases hj2 : (j : Int) < ((ws.length : Nat) : Int)
      · rw [decide_eq_true hj2]
        have iu : i < us.length := by omega
        have jw : j < ws.length := by omega
        obtain ⟨s, es, hs⟩ := (hS.same sm).get (List.getElem?_eq_getElem iu)
        obtain ⟨r, er, hr'⟩ := (hR.same sm).get (List.getElem?_eq_getElem jw)
        have ds := drop_at es
        have dr := drop_at er
        have cs : Can (s :: ss.drop (i + 1)) := by
          rw [← ds]
          exact can_drop canS i
        have cr : Can (r :: rs.drop (j + 1)) := by
          rw [← dr]
          exact can_drop canR j
        have sp := cs.2 s List.mem_cons_self
        have rp := cr.2 r List.mem_cons_self
        have gu : us[i]? = some us[i] := List.getElem?_eq_getElem iu
        have gw : ws[j]? = some ws[j] := List.getElem?_eq_getElem jw
        obtain ⟨t1, e1, g1⟩ := hs
        obtain ⟨t2, e2, g2⟩ := hr'
        rw [e1] at gu
        rw [e2] at gw
        refine iteT ⟨fun σ' H2 => ∃ (i2 j2 : Nat) (xs : List V) (acc : List Span) (y5 y6 : Option V), σ' = [some (.ref a), some (.ref b), some (.ref f), some (.int (i2 : Int)), some (.int (j2 : Int)), y5, y6] ∧ i2 ≤ ss.length ∧ j2 ≤ rs.length ∧ Same H H2 ∧ H2 f = some (.lst xs) ∧ Sps H2 xs acc ∧ Can acc ∧
          (∀ x, (Mem ss x ∧ Mem rs x) ↔ (Mem acc x ∨ (Mem (ss.drop i2) x ∧ Mem (rs.drop j2) x))) ∧ (∀ s ∈ acc, ∀ t ∈ ss.drop i2, ∀ u ∈ rs.drop j2, s.2 < t.1 ∨ s.2 < u.1) ∧ acc.length ≤ i2 + j2 ∧ i2 + j2 = i + j + 1, fun σ' H2 hN => ?_, ?_⟩
        · obtain ⟨i2, j2, xs2, acc2, z5, z6, h1, h2, h3, h4, h5, h6, h7, h8, h9, h10, h11⟩ := hN
          exact ⟨(ss.length - i2) + (rs.length - j2), by omega, i2, j2, xs2, acc2, z5, z6, h1, h2, h3, h4, h5, h6, h7, h8, h9, h10, rfl⟩
        · refine ⟨_, rfl, _, rfl, a, _, _, _, rfl, rfl, SqL.of ha', atI_nat gu, t1, _, _, _, rfl, rfl, SqT.of g1, atI_nat (j := 0) rfl, _, rfl, _, rfl, b, _, _, _, rfl, rfl, SqL.of hb', atI_nat gw, t2, _, _, _, rfl, rfl, SqT.of g2, atI_nat (j := 0) rfl, _, _, rfl, ?_⟩
          refine ⟨_, rfl, _, rfl, a, _, _, _, rfl, rfl, SqL.of ha', atI_nat gu, t1, _, _, _, rfl, rfl, SqT.of g1, atI_nat (j := 1) rfl, _, rfl, _, rfl, b, _, _, _, rfl, rfl, SqL.of hb', atI_nat gw, t2, _, _, _, rfl, rfl, SqT.of g2, atI_nat (j := 1) rfl, _, _, rfl, ?_⟩
          generalize hlo : (if r.1 > s.1 then r.1 else s.1) = lo
          generalize hhi : (if r.2 < s.2 then r.2 else s.2) = hi'
          have lo1 : s.1 ≤ lo ∧ r.1 ≤ lo ∧ (lo = s.1 ∨ lo = r.1) := by
            split at hlo <;> omega
          have hi1 : hi' ≤ s.2 ∧ hi' ≤ r.2 ∧ (hi' = s.2 ∨ hi' = r.2) ∧ (s.2 < r.2 → hi' = s.2) ∧ (¬ s.2 < r.2 → hi' = r.2) := by
            split at hhi <;> omega
          -- the last test, behind what was found
          have last : ∀ (H2 : Hp) (xs2 : List V) (acc2 : List Span), Same H' H2 ∨ (∃ H3, Same H' H3 ∧ H2 = upd H3 f (.lst xs2)) → Same H H2 → H2 f = some (.lst xs2) → Sps H2 xs2 acc2 → Can acc2 → (∀ x, Mem acc2 x ↔ Mem acc x ∨ (lo ≤ x ∧ x < hi')) → acc2.length ≤ acc.length + 1 → (∀ s0 ∈ acc2, s0 ∈ acc ∨ s0.2 = hi') →
              H2 a = some (.lst us) → H2 b = some (.lst ws) → H2 t1 = some (.tup [.int s.1, .int s.2]) → H2 t2 = some (.tup [.int r.1, .int r.2]) →
              ((tIfS (tTest (tOp (rI0 fun i j => .bl (decide (i < j))) (tOp (rIxT K) (tOp (rIxL K) (tVar 0) (tVar 3)) (tC (.int 1))) (tOp (rIxT K) (tOp (rIxL K) (tVar 1) (tVar 4)) (tC (.int 1))))) (tAug 3 (tC (.int 1)) rAdd) (tAug 4 (tC (.int 1)) rAdd))
                { nx := fun σ' H2 => ∃ (i2 j2 : Nat) (xs : List V) (acc : List Span) (y5 y6 : Option V), σ' = [some (.ref a), some (.ref b), some (.ref f), some (.int (i2 : Int)), some (.int (j2 : Int)), y5, y6] ∧ i2 ≤ ss.length ∧ j2 ≤ rs.length ∧ Same H H2 ∧ H2 f = some (.lst xs) ∧ Sps H2 xs acc ∧ Can acc ∧
                  (∀ x, (Mem ss x ∧ Mem rs x) ↔ (Mem acc x ∨ (Mem (ss.drop i2) x ∧ Mem (rs.drop j2) x))) ∧ (∀ s ∈ acc, ∀ t ∈ ss.drop i2, ∀ u ∈ rs.drop j2, s.2 < t.1 ∨ s.2 < u.1) ∧ acc.length ≤ i2 + j2 ∧ i2 + j2 = i + j + 1, rt := Q } [some (.ref a), some (.ref b), some (.ref f), some (.int (i : Int)), some (.int (j : Int)), some (.int lo), some (.int hi')] H2) := fun H2 xs2 acc2 _ sm2 hf2 hA2 can2 mm2 al2 new2 ha2 hb2 g12 g22 => by
            refine ⟨_, rfl, _, rfl, a, _, _, _, rfl, rfl, SqL.of ha2, atI_nat gu, t1, _, _, _, rfl, rfl, SqT.of g12, atI_nat (j := 1) rfl, _, rfl, _, rfl, b, _, _, _, rfl, rfl, SqL.of hb2, atI_nat gw, t2, _, _, _, rfl, rfl, SqT.of g22, atI_nat (j := 1) rfl, _, _, rfl, rfl, _, rfl, ?_⟩
            by_cases lt : s.2 < r.2
            · rw [decide_eq_true lt]
              have hh := hi1.2.2.2.1 lt
              refine iteT ⟨_, rfl, _, _, rfl, rfl, i + 1, j, xs2, acc2, _, _, rfl, by omega, hj, sm2, hf2, hA2, can2, fun x => ?_, fun s0 h0 t ht u hu => ?_, by omega, by omega⟩
              · rw [mm x, ds, dr, mm2 x, mem_cons]
                constructor
                · rintro (h | ⟨h1, h2⟩)
                  · exact .inl (.inl h)
                  · rcases h1 with h1 | h1
                    · rcases mem_cons.mp h2 with h2 | h2
                      · exact .inl (.inr ⟨by omega, by omega⟩)
                      · have := can_head cr h2
                        omega
                    · exact .inr ⟨h1, h2⟩
                · rintro ((h | h) | ⟨h1, h2⟩)
                  · exact .inl h
                  · exact .inr ⟨.inl ⟨by omega, by omega⟩, mem_cons.mpr (.inl ⟨by omega, by omega⟩)⟩
                  · exact .inr ⟨.inr h1, h2⟩
              · rcases new2 s0 h0 with h | h
                · exact gap s0 h t (by rw [ds]; exact List.mem_cons_of_mem _ ht) u hu
                · have := (List.pairwise_cons.mp cs.1).1 t ht
                  exact .inl (by omega)
            · rw [decide_eq_false lt]
              have hh := hi1.2.2.2.2 lt
              refine iteF ⟨_, rfl, _, _, rfl, rfl, i, j + 1, xs2, acc2, _, _, rfl, hi, by omega, sm2, hf2, hA2, can2, fun x => ?_, fun s0 h0 t ht u hu => ?_, by omega, by omega⟩
              · rw [mm x, ds, dr, mm2 x, mem_cons (s := r)]
                constructor
                · rintro (h | ⟨h1, h2⟩)
                  · exact .inl (.inl h)
                  · rcases h2 with h2 | h2
                    · rcases mem_cons.mp h1 with h1 | h1
                      · exact .inl (.inr ⟨by omega, by omega⟩)
                      · have := can_head cs h1
                        omega
                    · exact .inr ⟨h1, h2⟩
                · rintro ((h | h) | ⟨h1, h2⟩)
                  · exact .inl h
                  · exact .inr ⟨mem_cons.mpr (.inl ⟨by omega, by omega⟩), .inl ⟨by omega, by omega⟩⟩
                  · exact .inr ⟨h1, .inr h2⟩
              · rcases new2 s0 h0 with h | h
                · exact gap s0 h t ht u (by rw [dr]; exact List.mem_cons_of_mem _ hu)
                · have := (List.pairwise_cons.mp cr.1).1 u hu
                  exact .inr (by omega)
          refine ⟨_, rfl, _, rfl, _, _, rfl, rfl, _, rfl, ?_⟩
          by_cases lt : lo < hi'
          · rw [decide_eq_true lt]
            refine iteT ⟨_, rfl, .inl ⟨rfl, _, SqL.of hf⟩, _, rfl, _, rfl, (by show 2 ≤ sizeLine; decide), fun t nt => ?_⟩
            obtain ⟨gt, st⟩ := upd_at (o := .tup [.int lo, .int hi']) nt
            have alen := hA.len
            have cf : Chg [f] (upd H' t (.tup [.int lo, .int hi'])) (upd (upd H' t (.tup [.int lo, .int hi'])) f (.lst (xs ++ [.ref t]))) := Chg.upd List.mem_cons_self
            have lf : Lsts [f] (upd H' t (.tup [.int lo, .int hi'])) := Lsts.of1 (st _ _ hf)
            have naf : a ≠ f := ne_of_none ha hf0
            have nbf : b ≠ f := ne_of_none hb hf0
            have nt1 : t1 ≠ f := fun z => by
              rw [z, hf] at g1
              cases g1
            have nt2 : t2 ≠ f := fun z => by
              rw [z, hf] at g2
              cases g2
            refine ⟨f, xs, .ref t, rfl, rfl, st _ _ hf, small_lt (by omega), ?_⟩
            refine last _ (xs ++ [.ref t]) (acc ++ [(lo, hi')]) (.inr ⟨_, st, rfl⟩) (same_more (sm.trans st) hf0) upd_same (((hA.same st).app (.one ⟨t, rfl, gt⟩)).chg cf lf) (can_snoc can lt fun s0 h0 => ?_) (fun x => ?_) (by rw [List.length_append]; exact Nat.le_refl _) (fun s0 h0 => ?_) (cf _ _ (nmem1 naf) (st _ _ ha')) (cf _ _ (nmem1 nbf) (st _ _ hb')) (cf _ _ (nmem1 nt1) (st _ _ g1)) (cf _ _ (nmem1 nt2) (st _ _ g2))
            · have := gap s0 h0 s (by rw [ds]; exact List.mem_cons_self) r (by rw [dr]; exact List.mem_cons_self)
              show s0.2 < lo
              omega
            · rw [mem_app, mem_one]
            · rcases List.mem_append.mp h0 with h | h
              · exact .inl h
              · rw [List.mem_singleton.mp h]
                exact .inr rfl
          · rw [decide_eq_false lt]
            refine iteF (last H' xs acc (.inl (Same.refl _)) sm hf hA can (fun x => ?_) (Nat.le_succ _) (fun s0 h0 => .inl h0) ha' hb' g1 g2)
            constructor
            · exact .inl
            · rintro (h | h)
              · exact h
              · omega
      · rw [decide_eq_false hj2]
        exact iteF (done' (.inr (List.drop_eq_nil_iff.mpr (by omega))) trivial)
    · rw [decide_eq_false hi2]
      exact iteF (iteF (done' (.inl (List.drop_eq_nil_iff.mpr (by omega))) trivial))
/-! gaps -/
def spGaps : Sp := fun vs H Q _ => ∃ (l : Addr) (us : List V) (ss : List Span), vs = [.ref l] ∧ H l = some (.lst us) ∧ Sps H us ss ∧ Can ss ∧ (∀ s ∈ ss, isSpan s = true) ∧ ss.length ≤ 10000 ∧
  ∀ (H' : Hp) (p : Addr) (xs : List V) (c : List Span), Same H H' → H p = none → H' p = some (.lst xs) → Sps H' xs c → Can c → (∀ x, Mem c x ↔ -999999999999 ≤ x ∧ x < 999999999999 ∧ ¬ Mem ss x) → c.length ≤ ss.length + 1 → Q (.ref p) H'
theorem ok_gaps_of (T : Tx K mg) : FnOk P w K mg base CX0 (1) T.f_gaps_of T.fd_gaps_of ["cover"] spGaps := by
  refine T.F_gaps_of.ok sc_gaps_of (fun vs H Q E h => ?_) (fun cdv A outer s H vs Q E hr h => ?_)
  · obtain ⟨l, us, ss, rfl, _⟩ := h
    rfl
  · obtain ⟨l, us, ss, rfl, hl, hS, canS, ok, ls, q⟩ := h
    refine ⟨_, (pss_cons (ps_set (i := 1) sc_gaps_of.nd rfl (Or.inl rfl) (pe_lst pa_nil))
      (pss_cons (ps_set (i := 2) sc_gaps_of.nd rfl (Or.inl rfl) (pe_glob (v := .int (-999999999999)) (by rfl) T.c_LEAST_PLACE ⟨_, rfl⟩))
      (pss_cons (ps_for PassesOwn.never (by rfl) (pi_list (pv 0)) (pg_tup rfl (pgs_cons (pg_name (i := 3) sc_gaps_of.nd rfl (Or.inl rfl)) (pgs_cons (pg_name (i := 4) sc_gaps_of.nd rfl (Or.inl rfl)) pgs_nil)))
        (pss_cons (ps_if (pt_cmpR op_lt (pv 2) (pv 3) (nomark _)) (pss_one (ps_expr (pe_bm PySem.F.plainAttrs_list PySem.F.slot_list_append PySem.F.type_list_append mt_append (pv 1) (pa_cons (pe_tup (pa_cons (pv 2) (pa_cons (pv 3) pa_nil))) pa_nil)))) pss_nil)
      (pss_one (ps_set (i := 2) sc_gaps_of.nd rfl (Or.inl rfl) (pv 4)))))
      (pss_cons (ps_if (pt_cmpR op_lt (pv 2) (pe_glob (v := .int (999999999999)) (by rfl) T.c_GREATEST_PLACE ⟨_, rfl⟩) (nomark _)) (pss_one (ps_expr (pe_bm PySem.F.plainAttrs_list PySem.F.slot_list_append PySem.F.type_list_append mt_append (pv 1) (pa_cons (pe_tup (pa_cons (pv 2) (pa_cons (pe_glob (v := .int (999999999999)) (by rfl) T.c_GREATEST_PLACE ⟨_, rfl⟩) pa_nil))) pa_nil)))) pss_nil)
      (pss_one (ps_ret (pv 1))))))), ?_⟩
    have hul := hS.len
    refine ⟨Nat.zero_le _, fun f nf => ?_⟩
    obtain ⟨gf, sf⟩ := upd_at (o := .lst []) nf
    have hf0 : H f = none := nf
    refine ⟨_, rfl, l, rfl, ⟨_, SqL.of (sf _ _ hl)⟩, ?_⟩
    refine for_list (K := K) (a := l) (xs := us) (fun i σ H' => ∃ (low : Int) (xs : List V) (acc : List Span) (y3 y4 : Option V), σ = [some (.ref l), some (.ref f), some (.int low), y3, y4] ∧ Same H H' ∧ H' f = some (.lst xs) ∧ Sps H' xs acc ∧ Can acc ∧ acc.length ≤ i ∧ (∀ t ∈ ss.drop i, low ≤ t.1) ∧ (∀ s ∈ acc, s.2 < low) ∧ (∀ s ∈ ss.take i, s.2 ≤ low) ∧ (∀ x, Mem acc x ↔ -999999999999 ≤ x ∧ x < low ∧ ¬ Mem ss x) ∧ -999999999999 ≤ low ∧ low ≤ 999999999999)
      ⟨-999999999999, [], [], none, none, rfl, sf, gf, .nil, can_nil, Nat.le_refl _, (fun t ht => ((isSpan_iff t).mp (ok t ht)).1), (fun s hs => nomatch hs), (fun s hs => nomatch hs), (fun x => ⟨fun h => absurd h (mem_nil x), fun h => by omega⟩), Int.le_refl _, by decide⟩ (fun i σ H' _ ⟨_, _, _, _, _, _, sm, _⟩ => SqL.of (sm _ _ hl)) ?_ ?_
    · rintro i y σ H' hi ⟨low, xs, acc, y3, y4, rfl, sm, hf, hA, can, al, fore, ends, back, mm, b1, b2⟩
      obtain ⟨s, es, hs⟩ := (hS.same sm).get hi
      obtain ⟨t, rfl, ht⟩ := hs
      have ds := drop_at es
      have il : i < us.length := (List.getElem?_eq_some_iff.mp hi).1
      have sm' : s ∈ ss := List.mem_of_getElem? es
      have bs := (isSpan_iff s).mp (ok s sm')
      have ls1 := fore s (by rw [ds]; exact List.mem_cons_self)
      have cs : Can (s :: ss.drop (i + 1)) := by
        rw [← ds]
        exact can_drop canS i
      have tk : ss.take (i + 1) = ss.take i ++ [s] := by
        rw [List.take_add_one, es]
        rfl
      -- what lies below s
      have split : ∀ x, Mem ss x ↔ Mem (ss.take i) x ∨ (s.1 ≤ x ∧ x < s.2) ∨ Mem (ss.drop (i + 1)) x := fun x => by
        have e : ss = ss.take i ++ (s :: ss.drop (i + 1)) := by
          rw [← ds]
          exact (List.take_append_drop i ss).symm
        have h := mem_app (a := ss.take i) (b := s :: ss.drop (i + 1)) (x := x)
        rw [← e, mem_cons] at h
        exact h
      have take_lt : ∀ x, Mem (ss.take i) x → x < low := fun x ⟨u, hu, _, u2⟩ => by
        have := back u hu
        omega
      refine ⟨t, _, rfl, SqT.of ht, rfl, _, _, rfl, _, _, rfl, rfl, ?_⟩
      have fin : ∀ (H2 : Hp) (xs2 : List V) (acc2 : List Span), Same H H2 → H2 f = some (.lst xs2) → Sps H2 xs2 acc2 → Can acc2 → acc2.length ≤ i + 1 → (∀ s0 ∈ acc2, s0.2 < s.2) → (∀ x, Mem acc2 x ↔ Mem acc x ∨ (low ≤ x ∧ x < s.1)) →
          ((tAsg (tVar 4) (gName 2)) { nx := fun σ' H3 => ∃ (low : Int) (xs : List V) (acc : List Span) (y3 y4 : Option V), σ' = [some (.ref l), some (.ref f), some (.int low), y3, y4] ∧ Same H H3 ∧ H3 f = some (.lst xs) ∧ Sps H3 xs acc ∧ Can acc ∧ acc.length ≤ i + 1 ∧ (∀ t ∈ ss.drop (i + 1), low ≤ t.1) ∧ (∀ s ∈ acc, s.2 < low) ∧ (∀ s ∈ ss.take (i + 1), s.2 ≤ low) ∧ (∀ x, Mem acc x ↔ -999999999999 ≤ x ∧ x < low ∧ ¬ Mem ss x) ∧ -999999999999 ≤ low ∧ low ≤ 999999999999, rt := Q } [some (.ref l), some (.ref f), some (.int low), some (.int s.1), some (.int s.2)] H2) := fun H2 xs2 acc2 sm2 hf2 hA2 can2 al2 en2 mm2 => by
        refine ⟨_, rfl, s.2, xs2, acc2, _, _, rfl, sm2, hf2, hA2, can2, al2, fun u hu => ?_, en2, fun u hu => ?_, fun x => ?_, by omega, bs.2.2⟩
        · have := (List.pairwise_cons.mp cs.1).1 u hu
          omega
        · rw [tk] at hu
          rcases List.mem_append.mp hu with h | h
          · have := back u h
            omega
          · rw [List.mem_singleton.mp h]
            exact Int.le_refl _
        · rw [mm2 x, mm x]
          constructor
          · rintro (h | h)
            · exact ⟨h.1, by omega, h.2.2⟩
            · refine ⟨by omega, by omega, fun z => ?_⟩
              rcases (split x).mp z with h1 | h1 | h1
              · have := take_lt x h1
                omega
              · omega
              · have := can_head cs h1
                omega
          · rintro ⟨h1, h2, h3⟩
            by_cases hx : x < low
            · exact .inl ⟨h1, hx, h3⟩
            · refine .inr ⟨by omega, ?_⟩
              apply Int.not_le.mp
              intro z
              exact h3 ((split x).mpr (.inr (.inl ⟨z, h2⟩)))
      refine ⟨_, rfl, _, rfl, _, _, rfl, rfl, _, rfl, ?_⟩
      by_cases lt : low < s.1
      · rw [decide_eq_true lt]
        refine iteT ⟨_, rfl, .inl ⟨rfl, _, SqL.of hf⟩, _, rfl, _, rfl, (by show 2 ≤ sizeLine; decide), fun t2 nt => ?_⟩
        obtain ⟨gt, st⟩ := upd_at (o := .tup [.int low, .int s.1]) nt
        have alen := hA.len
        have cf : Chg [f] (upd H' t2 (.tup [.int low, .int s.1])) (upd (upd H' t2 (.tup [.int low, .int s.1])) f (.lst (xs ++ [.ref t2]))) := Chg.upd List.mem_cons_self
        have lf : Lsts [f] (upd H' t2 (.tup [.int low, .int s.1])) := Lsts.of1 (st _ _ hf)
        refine ⟨f, xs, .ref t2, rfl, rfl, st _ _ hf, small_lt (by omega), ?_⟩
        refine fin _ (xs ++ [.ref t2]) (acc ++ [(low, s.1)]) (same_more (sm.trans st) hf0) upd_same (((hA.same st).app (.one ⟨t2, rfl, gt⟩)).chg cf lf) (can_snoc can lt ends) (by rw [List.length_append]; exact Nat.succ_le_succ al) (fun s0 h0 => ?_) (fun x => ?_)
        · rcases List.mem_append.mp h0 with h | h
          · have := ends s0 h
            omega
          · rw [List.mem_singleton.mp h]
            exact bs.2.1
        · rw [mem_app, mem_one]
      · rw [decide_eq_false lt]
        refine iteF (fin H' xs acc sm hf hA can (by omega) (fun s0 h0 => by have := ends s0 h0; omega) (fun x => ?_))
        constructor
        · exact .inl
        · rintro (h | h)
          · exact h
          · omega
    · rintro σ H' ⟨low, xs, acc, y3, y4, rfl, sm, hf, hA, can, al, fore, ends, back, mm, b1, b2⟩
      rw [hul] at al
      rw [hul, List.take_length] at back
      have none_up : ∀ x, low ≤ x → ¬ Mem ss x := fun x hx ⟨u, hu, _, u2⟩ => by
        have := back u hu
        omega
      refine ⟨_, rfl, _, _, rfl, rfl, _, rfl, ?_⟩
      by_cases lt : low < 999999999999
      · rw [decide_eq_true lt]
        refine iteT ⟨_, rfl, .inl ⟨rfl, _, SqL.of hf⟩, _, rfl, (by show 2 ≤ sizeLine; decide), fun t2 nt => ?_⟩
        obtain ⟨gt, st⟩ := upd_at (o := .tup [.int low, .int 999999999999]) nt
        have alen := hA.len
        have cf : Chg [f] (upd H' t2 (.tup [.int low, .int 999999999999])) (upd (upd H' t2 (.tup [.int low, .int 999999999999])) f (.lst (xs ++ [.ref t2]))) := Chg.upd List.mem_cons_self
        have lf : Lsts [f] (upd H' t2 (.tup [.int low, .int 999999999999])) := Lsts.of1 (st _ _ hf)
        refine ⟨f, xs, .ref t2, rfl, rfl, st _ _ hf, small_lt (by omega), ?_⟩
        refine ⟨_, rfl, q _ f (xs ++ [.ref t2]) (acc ++ [(low, 999999999999)]) (same_more (sm.trans st) hf0) hf0 upd_same (((hA.same st).app (.one ⟨t2, rfl, gt⟩)).chg cf lf) (can_snoc can lt ends) (fun x => ?_) (by rw [List.length_append]; exact Nat.succ_le_succ al)⟩
        rw [mem_app, mem_one, mm x]
        constructor
        · rintro (h | h)
          · exact ⟨h.1, by omega, h.2.2⟩
          · exact ⟨by have := h.1; omega, h.2, none_up x h.1⟩
        · rintro ⟨h1, h2, h3⟩
          by_cases hx : x < low
          · exact .inl ⟨h1, hx, h3⟩
          · exact .inr ⟨by omega, h2⟩
      · rw [decide_eq_false lt]
        refine iteF ⟨_, rfl, q H' f xs acc sm hf0 hf hA can (fun x => ?_) (by omega)⟩
        rw [mm x]
        constructor
        · rintro ⟨h1, h2, h3⟩
          exact ⟨h1, by omega, h3⟩
        · rintro ⟨h1, h2, h3⟩
          exact ⟨h1, by omega, h3⟩
/-! both, either, less -/
def spTwoC (T : Tx K mg) (g : List Span → List Span → Int → Prop) : Sp := fun vs H Q E => ∃ (a b : Addr) (us ws : List V) (ss rs : List Span), vs = [.ref a, .ref b] ∧ Two T H a b us ws ss rs ∧
  (ref1 ss = 0 → ref1 rs = 0 → ∀ (H' : Hp) (p : Addr) (xs : List V) (c : List Span), Chg T.tabs H H' → Tb T.tabs H' → H p = none → H' p = some (.lst xs) → Sps H' xs c → Can c → (∀ s ∈ c, isSpan s = true) → (∀ x, Mem c x ↔ g ss rs x) → c.length ≤ ss.length + rs.length + 1 → Q (.ref p) H') ∧
  (∀ n, n ≠ 0 → (ref1 ss = n ∨ (ref1 ss = 0 ∧ ref1 rs = n)) → ∀ H', Chg T.tabs H H' → Tb T.tabs H' → E (.ref (T.refC n)) none H')
def bothP (ss rs : List Span) (x : Int) : Prop := Mem ss x ∧ Mem rs x
def eitherP (ss rs : List Span) (x : Int) : Prop := Mem ss x ∨ Mem rs x
def lessP (ss rs : List Span) (x : Int) : Prop := Mem ss x ∧ ¬ Mem rs x
theorem ok_both (T : Tx K mg) (B : Tbs T base) : FnOk P w K mg base (L2.CX P w) (8) T.f_both T.fd_both ["one", "other"] (spTwoC T bothP) := by
  have G_check_covers : FnOk P w K mg base (L2.CX P w) _ _ _ _ _ := ok_check_covers T B
  have G_common : FnOk P w K mg base CX0 _ _ _ _ _ := ok_common T
  refine T.F_both.okX sc_both (fun vs H Q E h => ?_) (fun cdv A outer s H vs Q E hr h => ?_)
  · obtain ⟨a, b, us, ws, ss, rs, rfl, _⟩ := h
    rfl
  · obtain ⟨a, b, us, ws, ss, rs, rfl, two, q, e⟩ := h
    refine ⟨_, (pss_cons (ps_expr (pe_call G_check_covers (hr.mono (by decide)) (by rfl) T.g_check_covers T.F_check_covers.kp T.b_check_covers .nil (passes_call (takes_of rfl rfl rfl rfl) (fun _ _ _ _ h => h)) (pa_cons (pv 0) (pa_cons (pv 1) pa_nil))))
      (pss_one (ps_ret (pe_call G_common (hr.mono (by decide)) (by rfl) T.g_common T.F_common.kp T.b_common .nil pass0 (pa_cons (pv 0) (pa_cons (pv 1) pa_nil)))))), ?_⟩
    obtain ⟨ha, hS, hb, hR, tb⟩ := id two
    have aT := tb.out ha (fun ps z => by cases z)
    have bT := tb.out hb (fun ps z => by cases z)
    refine ⟨_, rfl, _, rfl, a, b, us, ws, ss, rs, rfl, two, fun r1 r2 H1 c1 tb1 => ?_, e⟩
    obtain ⟨s1, s2, canS, lS⟩ := ref1_can r1
    obtain ⟨_, _, canR, lR⟩ := ref1_can r2
    refine ⟨_, rfl, _, rfl, a, b, us, ws, ss, rs, rfl, c1 _ _ aT ha, hS.chg c1 tb.lsts, c1 _ _ bT hb, hR.chg c1 tb.lsts, canS, canR, by omega, by omega, fun H2 p xs c sm np hp hc can mem cl => ?_⟩
    refine q r1 r2 H2 p xs c (c1.trans (Chg.of_same sm)) (tb1.same sm) (c1.free (tb1.new np) np) hp hc can (can_spans can (fun x h => ((mem x).mp h).1) (List.all_eq_true.mp s1)) mem (by omega)
theorem ok_either (T : Tx K mg) (B : Tbs T base) : FnOk P w K mg base (L2.CX P w) (8) T.f_either T.fd_either ["one", "other"] (spTwoC T eitherP) := by
  have G_check_covers : FnOk P w K mg base (L2.CX P w) _ _ _ _ _ := ok_check_covers T B
  have G_joined : FnOk P w K mg base CX0 _ _ _ _ _ := ok_joined T
  refine T.F_either.okX sc_either (fun vs H Q E h => ?_) (fun cdv A outer s H vs Q E hr h => ?_)
  · obtain ⟨a, b, us, ws, ss, rs, rfl, _⟩ := h
    rfl
  · obtain ⟨a, b, us, ws, ss, rs, rfl, two, q, e⟩ := h
    refine ⟨_, (pss_cons (ps_expr (pe_call G_check_covers (hr.mono (by decide)) (by rfl) T.g_check_covers T.F_check_covers.kp T.b_check_covers .nil (passes_call (takes_of rfl rfl rfl rfl) (fun _ _ _ _ h => h)) (pa_cons (pv 0) (pa_cons (pv 1) pa_nil))))
      (pss_one (ps_ret (pe_call G_joined (hr.mono (by decide)) (by rfl) T.g_joined T.F_joined.kp T.b_joined .nil pass0 (pa_cons (pe_op op_cat (pv 0) (pv 1)) pa_nil))))), ?_⟩
    obtain ⟨ha, hS, hb, hR, tb⟩ := id two
    have aT := tb.out ha (fun ps z => by cases z)
    have bT := tb.out hb (fun ps z => by cases z)
    refine ⟨_, rfl, _, rfl, a, b, us, ws, ss, rs, rfl, two, fun r1 r2 H1 c1 tb1 => ?_, e⟩
    obtain ⟨s1, s2, canS, lS⟩ := ref1_can r1
    obtain ⟨s3, _, canR, lR⟩ := ref1_can r2
    have hS1 := hS.chg c1 tb.lsts
    have hR1 := hR.chg c1 tb.lsts
    have l1 := hS1.len
    have l2 := hR1.len
    refine ⟨_, rfl, _, rfl, a, b, us, ws, rfl, rfl, c1 _ _ aT ha, c1 _ _ bT hb, small_le (by omega), fun j nj => ?_⟩
    obtain ⟨gj, sj⟩ := upd_at (o := .lst (us ++ ws)) nj
    have al : (ss ++ rs).all isSpan = true := by
      rw [List.all_append, s1, s3]
      rfl
    refine ⟨j, us ++ ws, ss ++ rs, rfl, gj, (hS1.app hR1).same sj, all_pos al, by rw [List.length_append]; omega, fun H2 p xs c sm np hp hc can mem cl => ?_⟩
    have tb2 := tb1.same sj
    have nP := sj.free np
    refine q r1 r2 H2 p xs c (c1.trans (Chg.of_same (sj.trans sm))) (tb2.same sm) (c1.free (tb1.new nP) nP) hp hc can (can_spans can (fun x => (mem x).mp) (List.all_eq_true.mp al)) (fun x => (mem x).trans mem_app) ?_
    rw [List.length_append] at cl
    omega
theorem ok_less (T : Tx K mg) (B : Tbs T base) : FnOk P w K mg base (L2.CX P w) (8) T.f_less T.fd_less ["one", "other"] (spTwoC T lessP) := by
  have G_check_covers : FnOk P w K mg base (L2.CX P w) _ _ _ _ _ := ok_check_covers T B
  have G_common : FnOk P w K mg base CX0 _ _ _ _ _ := ok_common T
  have G_gaps_of : FnOk P w K mg base CX0 _ _ _ _ _ := ok_gaps_of T
  refine T.F_less.okX sc_less (fun vs H Q E h => ?_) (fun cdv A outer s H vs Q E hr h => ?_)
  · obtain ⟨a, b, us, ws, ss, rs, rfl, _⟩ := h
    rfl
  · obtain ⟨a, b, us, ws, ss, rs, rfl, two, q, e⟩ := h
    refine ⟨_, (pss_cons (ps_expr (pe_call G_check_covers (hr.mono (by decide)) (by rfl) T.g_check_covers T.F_check_covers.kp T.b_check_covers .nil (passes_call (takes_of rfl rfl rfl rfl) (fun _ _ _ _ h => h)) (pa_cons (pv 0) (pa_cons (pv 1) pa_nil))))
      (pss_one (ps_ret (pe_call G_common (hr.mono (by decide)) (by rfl) T.g_common T.F_common.kp T.b_common .nil pass0 (pa_cons (pv 0) (pa_cons (pe_call G_gaps_of (hr.mono (by decide)) (by rfl) T.g_gaps_of T.F_gaps_of.kp T.b_gaps_of .nil pass0 (pa_cons (pv 1) pa_nil)) pa_nil)))))), ?_⟩
    obtain ⟨ha, hS, hb, hR, tb⟩ := id two
    have aT := tb.out ha (fun ps z => by cases z)
    have bT := tb.out hb (fun ps z => by cases z)
    refine ⟨_, rfl, _, rfl, a, b, us, ws, ss, rs, rfl, two, fun r1 r2 H1 c1 tb1 => ?_, e⟩
    obtain ⟨s1, s2, canS, lS⟩ := ref1_can r1
    obtain ⟨s3, _, canR, lR⟩ := ref1_can r2
    refine ⟨_, rfl, _, rfl, b, ws, rs, rfl, c1 _ _ bT hb, hR.chg c1 tb.lsts, canR, List.all_eq_true.mp s3, by omega, fun H2 g gs gg sg ng hg hgg canG memG gl => ?_⟩
    refine ⟨a, g, us, gs, ss, gg, rfl, sg _ _ (c1 _ _ aT ha), (hS.chg c1 tb.lsts).same sg, hg, hgg, canS, canG, by omega, by omega, fun H3 p xs c sm np hp hc can mem cl => ?_⟩
    have tb2 := tb1.same sg
    have nP := sg.free np
    refine q r1 r2 H3 p xs c (c1.trans (Chg.of_same (sg.trans sm))) (tb2.same sm) (c1.free (tb1.new nP) nP) hp hc can (can_spans can (fun x h => ((mem x).mp h).1) (List.all_eq_true.mp s1)) (fun x => ?_) (by omega)
    rw [mem x, memG x]
    constructor
    · rintro ⟨h1, h2⟩
      exact ⟨h1, h2.2.2⟩
    · rintro ⟨h1, h2⟩
      obtain ⟨t, ht, t1, t2⟩ := id h1
      have bt := (isSpan_iff t).mp (List.all_eq_true.mp s1 t ht)
      exact ⟨h1, by omega, by omega, h2⟩
end
section
variable {P : Program} {w : World} {K : PySem.W.Frag} {mg : Str → Option Value} {base : Heap}
/-! ### the law's own spans and covers -/
def spSpansL : Sp := fun vs H Q _ => ∃ (p e : Addr) (m : Nat) (n : Nat) (zs : List Int), vs = [.ref p, .ref e, .int (m : Int)] ∧ Pu H p n ∧ n + 3 + 21 * (m + 1) ≤ 1000000000 ∧ H e = some (.lst (zs.map V.int)) ∧ e ≠ p ∧ zs.length ≤ 1000 ∧ m ≤ 100 ∧
  ∀ (H' : Hp) (f : Addr) (us : List V) (ss : List Span) (zs' : List Int), Chg [p, e] H H' → Pu H' p (n + 3 + 21 * m) → H' e = some (.lst (zs'.map V.int)) → zs'.length ≤ zs.length + 2 * m → H f = none → H' f = some (.lst us) → Sps H' us ss → (∀ s ∈ ss, isSpan s = true) → ss.length ≤ m → Q (.ref f) H'
theorem ok_spans (T : Tx K mg) : FnOk P w K mg base CX0 (6) T.f_l_spans T.fd_l_spans ["_law_purse_here", "_law_ends_here", "_law_most"] spSpansL := by
  have G_l_draw : FnOk P w K mg base CX0 _ _ _ _ _ := ok_draw T
  have G_l_span : FnOk P w K mg base CX0 _ _ _ _ _ := ok_span T
  refine T.F_l_spans.ok sc_l_spans (fun vs H Q E h => ?_) (fun cdv A outer s H vs Q E hr h => ?_)
  · obtain ⟨p, e, m, n, zs, rfl, _⟩ := h
    rfl
  · obtain ⟨p, e, m, n, zs, rfl, pu, hn, hE, nep, hz, hm, q⟩ := h
    refine ⟨_, (pss_cons (ps_set (i := 3) sc_l_spans.nd rfl (Or.inl rfl) (pe_lst pa_nil))
      (pss_cons (ps_for PassesOwn.never (by rfl) (pi_range1 (by rfl) T.m_range (pa_cons (pe_call G_l_draw (hr.mono (by decide)) (by rfl) T.g_l_draw T.F_l_draw.kp T.b_l_draw .nil pass0 (pa_cons (pv 0) (pa_cons (pe_op op_add (pv 2) pe_int) pa_nil))) pa_nil)) (pg_name (i := 4) sc_l_spans.nd rfl (Or.inl rfl))
        (pss_one (ps_if (PW.pt (pw_and (pt_cmpR (op_neD hr.units) (pv 3) (pe_lst pa_nil) (nomark _)) (pw_and1 (pt_cmpR op_eq (pe_call G_l_draw (hr.mono (by decide)) (by rfl) T.g_l_draw T.F_l_draw.kp T.b_l_draw .nil pass0 (pa_cons (pv 0) (pa_cons pe_int pa_nil))) pe_int (nomark _))))) (pss_one (ps_expr (pe_bm PySem.F.plainAttrs_list PySem.F.slot_list_append PySem.F.type_list_append mt_append (pv 3) (pa_cons (pe_ix ix_list (pv 3) (pe_call G_l_draw (hr.mono (by decide)) (by rfl) T.g_l_draw T.F_l_draw.kp T.b_l_draw .nil pass0 (pa_cons (pv 0) (pa_cons (pe_callB call_len_seq (by rfl) T.m_len PySem.boot_len (pa_cons (pv 3) pa_nil)) pa_nil))) (fun _ _ => rfl)) pa_nil)))) (pss_one (ps_expr (pe_bm PySem.F.plainAttrs_list PySem.F.slot_list_append PySem.F.type_list_append mt_append (pv 3) (pa_cons (pe_call G_l_span (hr.mono (by decide)) (by rfl) T.g_l_span T.F_l_span.kp T.b_l_span .nil pass0 (pa_cons (pv 0) (pa_cons (pv 1) (pa_cons (pe_op op_sub (pe_op op_pow pe_int pe_int) pe_int) pa_nil)))) pa_nil)))))))
      (pss_one (ps_ret (pv 3))))), ?_⟩
    have e12 : (10 : Int) ^ (12 : Int).toNat = 1000000000000 := by decide
    refine ⟨Nat.zero_le _, fun f nf => ?_⟩
    obtain ⟨gf, sf⟩ := upd_at (o := .lst []) nf
    have nfp : f ≠ p := (pu.ne nf).symm
    have nfe : f ≠ e := (ne_of_none hE nf).symm
    refine ⟨_, rfl, _, rfl, _, _, rfl, rfl, p, _, n, rfl, pu.same sf, by omega, by omega, by omega, fun H1 r c1 p1 r0 r1 => ?_⟩
    have rm : r.toNat ≤ m := by omega
    refine ⟨r, rfl, by omega, by omega, ?_⟩
    refine for_range (lo := 0) (n := r.toNat) (fun i σ H' => ∃ (y4 : Option V) (us : List V) (ss : List Span) (ws : List Int), σ = [some (.ref p), some (.ref e), some (.int (m : Int)), some (.ref f), y4] ∧ Chg [p, e] H H' ∧ Pu H' p (n + 3 + 21 * i) ∧ H' e = some (.lst (ws.map V.int)) ∧ ws.length ≤ zs.length + 2 * i ∧ H' f = some (.lst us) ∧ Sps H' us ss ∧ (∀ s ∈ ss, isSpan s = true) ∧ ss.length = i)
      ⟨none, [], [], zs, rfl, (Chg.of_same sf).trans (c1.mono fun x hx => by rw [List.mem_singleton.mp hx]; exact List.mem_cons_self), p1, c1 _ _ (nmem1 nep) (sf _ _ hE), by omega, c1 _ _ (nmem1 nfp) gf, .nil, (fun s hs => nomatch hs), rfl⟩ ?_ ?_
    · rintro i σ H' hi ⟨y4, us, ss, ws, rfl, cc, pi, hE', hw, hf, hS, ok, hl⟩
      have hul := hS.len
      refine ⟨_, rfl, Nat.zero_le _, fun l nl => ?_⟩
      obtain ⟨gl, sl⟩ := upd_at (o := .lst []) nl
      refine ⟨_, _, hS.same sl |>.dp (SqL.of (sl _ _ hf)), .lst (SqL.of gl) .nil, shaped_spans ss, shaped_nil, _, rfl, ?_⟩
      rw [eqv_spans_nil]
      have up : ∀ {X Y : Hp}, Chg [p] X Y → Chg [p, e] X Y := fun c => c.mono fun x hx => by
        rw [List.mem_singleton.mp hx]
        exact List.mem_cons_self
      -- a new span
      have fresh : ∀ (H2 : Hp), Chg [p, e] H' H2 → Pu H2 p (n + 3 + 21 * i + 3) → H2 e = some (.lst (ws.map V.int)) → H2 f = some (.lst us) → Sps H2 us ss →
          (tDrop (tBM K "list" rAppend (tVar 3) (tCons (tCall spSpan [] E0 (tCons (tVar 0) (tCons (tVar 1) (tCons (tOp (rI0 fun i j => .int (i - j)) (tOp (rI CPow fun i j => .int (i ^ j.toNat)) (tC (.int 10)) (tC (.int 12))) (tC (.int 1))) tNil)))) tNil))) { nx := fun σ' H3 => ∃ (y4 : Option V) (us : List V) (ss : List Span) (ws : List Int), σ' = [some (.ref p), some (.ref e), some (.int (m : Int)), some (.ref f), y4] ∧ Chg [p, e] H H3 ∧ Pu H3 p (n + 3 + 21 * (i + 1)) ∧ H3 e = some (.lst (ws.map V.int)) ∧ ws.length ≤ zs.length + 2 * (i + 1) ∧ H3 f = some (.lst us) ∧ Sps H3 us ss ∧ (∀ s ∈ ss, isSpan s = true) ∧ ss.length = i + 1, rt := Q } [some (.ref p), some (.ref e), some (.int (m : Int)), some (.ref f), some (.int (0 + (i : Int)))] H2 := fun H2 c2 p2 hE2 hf2 hS2 => by
        refine ⟨_, rfl, .inl ⟨rfl, _, SqL.of hf2⟩, _, rfl, _, rfl, _, _, rfl, rfl, ⟨by decide, by decide, by decide⟩, _, _, rfl, rfl, p, e, _, _, ws, rfl, p2, by omega, hE2, nep, by omega, by rw [e12]; decide, by rw [e12]; decide, fun H3 t lo hi c3 p3 hE3 nt ht b1 b2 b3 => ?_⟩
        rw [e12] at b1 b3
        have hf3 := c3 _ _ (nmem2 nfp nfe) hf2
        have lp : Lsts [p, e] H2 := p2.lsts.two (Lsts.of1 hE2)
        have hS3 : Sps H3 (us ++ [.ref t]) (ss ++ [(lo, hi)]) := (hS2.chg c3 lp).app (.one ⟨t, rfl, ht⟩)
        have cf : Chg [f] H3 (upd H3 f (.lst (us ++ [.ref t]))) := Chg.upd List.mem_cons_self
        have lf : Lsts [f] H3 := Lsts.of1 hf3
        refine ⟨f, us, .ref t, rfl, rfl, hf3, small_lt (by omega), _, us ++ [.ref t], ss ++ [(lo, hi)], ws ++ [lo, hi], rfl, ?_, (p3.chg cf (nmem1 nfp.symm)).mono (by omega), cf _ _ (nmem1 nfe.symm) hE3, ?_, upd_same, hS3.chg cf lf, fun s hs => ?_, ?_⟩
        · exact fun b o nb hb => by
            have h3 := (cc.trans (c2.trans c3)) b o nb hb
            rw [upd_ne (ne_of_none hb nf)]
            exact h3
        · rw [List.length_append]
          simp
          omega
        · rcases List.mem_append.mp hs with h | h
          · exact ok s h
          · rw [List.mem_singleton.mp h]
            exact (isSpan_iff (lo, hi)).mpr ⟨by simpa using b1, b2, by simpa using b3⟩
        · rw [List.length_append, hl]
          rfl
      by_cases hnil : ss = []
      · rw [decide_eq_true hnil]
        exact iteF (iteF (fresh _ (Chg.of_same sl) ((pi.same sl).mono (by omega)) (sl _ _ hE') (sl _ _ hf) (hS.same sl)))
      · rw [decide_eq_false hnil]
        have h0 : 0 < ss.length := List.length_pos_iff.mpr hnil
        refine iteT ⟨_, rfl, p, 6, _, rfl, pi.same sl, by omega, by decide, by decide, fun H2 x c2 p2 x0 x1 => ?_⟩
        have hE2 := c2 _ _ (nmem1 nep) (sl _ _ hE')
        have hf2 := c2 _ _ (nmem1 nfp) (sl _ _ hf)
        have hS2 := (hS.same sl).chg c2 (pi.same sl).lsts
        refine ⟨rfl, _, rfl, ite2 (fun _ => ?_) (fun _ => ?_)⟩
        · refine ⟨_, rfl, .inl ⟨rfl, _, SqL.of hf2⟩, _, rfl, _, rfl, _, rfl, f, _, rfl, .inl (SqL.of hf2), p, us.length, _, rfl, p2, by omega, by omega, by omega, fun H3 y c3 p3 y0 y1 => ?_⟩
          have hf3 := c3 _ _ (nmem1 nfp) hf2
          have hS3 := hS2.chg c3 p2.lsts
          have hy : y.toNat < us.length := by omega
          obtain ⟨sp, es, hsp⟩ := hS3.get (List.getElem?_eq_getElem hy)
          refine ⟨f, us, y, us[y.toNat], rfl, rfl, SqL.of hf3, at_of (j := y.toNat) (by omega) (List.getElem?_eq_getElem hy), ?_⟩
          have cf : Chg [f] H3 (upd H3 f (.lst (us ++ [us[y.toNat]]))) := Chg.upd List.mem_cons_self
          have lf : Lsts [f] H3 := Lsts.of1 hf3
          refine ⟨f, us, _, rfl, rfl, hf3, small_lt (by omega), _, us ++ [us[y.toNat]], ss ++ [sp], ws, rfl, ?_, (p3.chg cf (nmem1 nfp.symm)).mono (by omega), cf _ _ (nmem1 nfe.symm) (c3 _ _ (nmem1 nep) hE2), by omega, upd_same, (hS3.app (.one hsp)).chg cf lf, fun s hs => ?_, ?_⟩
          · exact fun b o nb hb => by
              have h3 := (cc.trans ((Chg.of_same sl).trans (up (c2.trans c3)))) b o nb hb
              rw [upd_ne (ne_of_none hb nf)]
              exact h3
          · rcases List.mem_append.mp hs with h | h
            · exact ok s h
            · rw [List.mem_singleton.mp h]
              exact ok sp (List.mem_of_getElem? es)
          · rw [List.length_append, hl]
            rfl
        · exact fresh _ ((Chg.of_same sl).trans (up c2)) p2 hE2 hf2 hS2
    · rintro σ H' ⟨y4, us, ss, ws, rfl, cc, pi, hE', hw, hf, hS, ok, hl⟩
      exact ⟨_, rfl, q H' f us ss ws cc (pi.mono (by omega)) hE' (by omega) nf hf hS ok (by omega)⟩
def holdsB (x : Int) (s : Span) : Bool := decide (s.1 ≤ x) && decide (x < s.2)
theorem holds_iff {x : Int} {s : Span} : holdsB x s = true ↔ s.1 ≤ x ∧ x < s.2 := by
  unfold holdsB
  rw [Bool.and_eq_true, decide_eq_true_eq, decide_eq_true_eq]
def spHolds : Sp := fun vs H Q _ => ∃ (v : V) (s : Span) (x : Int), vs = [v, .int x] ∧ Spn H v s ∧ Q (.bl (holdsB x s)) H
theorem ok_holds (T : Tx K mg) : FnOk P w K mg base CX0 (1) T.f_l_holds T.fd_l_holds ["_law_span_here", "_law_place"] spHolds := by
  refine T.F_l_holds.ok sc_l_holds (fun vs H Q E h => ?_) (fun cdv A outer s H vs Q E hr h => ?_)
  · obtain ⟨v, s, x, rfl, _⟩ := h
    rfl
  · obtain ⟨v, s, x, rfl, ⟨t, rfl, ht⟩, q⟩ := h
    refine ⟨_, (pss_one (ps_ret (pe_and (pe_cmpR op_le (pe_ix ix_tup (pv 0) pe_int (fun _ _ => rfl)) (pv 1) (nomark _)) (pe_one (pe_cmpR op_lt (pv 1) (pe_ix ix_tup (pv 0) pe_int (fun _ _ => rfl)) (nomark _)))))), ?_⟩
    unfold holdsB at q
    refine ⟨_, rfl, t, _, _, _, rfl, rfl, SqT.of ht, atI_nat (j := 0) rfl, _, rfl, _, _, rfl, rfl, _, rfl, ?_⟩
    by_cases h : s.1 ≤ x
    · rw [decide_eq_true h] at q ⊢
      exact iteT ⟨_, rfl, _, rfl, t, _, _, _, rfl, rfl, SqT.of ht, atI_nat (j := 1) rfl, _, _, rfl, rfl, q⟩
    · rw [decide_eq_false h] at q ⊢
      exact iteF q
def spDepth : Sp := fun vs H Q _ => ∃ (l : Addr) (us : List V) (ss : List Span) (x : Int), vs = [.ref l, .int x] ∧ H l = some (.lst us) ∧ Sps H us ss ∧ ss.length ≤ 100000 ∧ ∀ H', Same H H' → Q (.int ((ss.filter (holdsB x)).length : Nat)) H'
theorem depth_pos {ss : List Span} {x : Int} : 0 < (((ss.filter (holdsB x)).length : Nat) : Int) ↔ Mem ss x := by
  constructor
  · intro h
    have h : 0 < (ss.filter (holdsB x)).length := by omega
    obtain ⟨s, hs⟩ := List.exists_mem_of_length_pos h
    obtain ⟨h1, h2⟩ := List.mem_filter.mp hs
    exact ⟨s, h1, holds_iff.mp h2⟩
  · rintro ⟨s, h1, h2⟩
    have := List.length_pos_of_mem (List.mem_filter.mpr ⟨h1, holds_iff.mpr h2⟩)
    omega
theorem ok_depth (T : Tx K mg) : FnOk P w K mg base CX0 (2) T.f_l_depth T.fd_l_depth ["_law_spans_here", "_law_place"] spDepth := by
  have G_l_holds : FnOk P w K mg base CX0 _ _ _ _ _ := ok_holds T
  refine T.F_l_depth.ok sc_l_depth (fun vs H Q E h => ?_) (fun cdv A outer s H vs Q E hr h => ?_)
  · obtain ⟨l, us, ss, x, rfl, _⟩ := h
    rfl
  · obtain ⟨l, us, ss, x, rfl, hl, hS, hlen, q⟩ := h
    refine ⟨_, (pss_one (ps_ret (pe_callB call_len_seq (by rfl) T.m_len PySem.boot_len (pa_cons (pe_lc (own := [("_law_span_here", 2)]) (g := (gName 2)) (by rfl) sc_l_depth.nd (pi_list (pv 0)) (blkOk_by (own := [("_law_span_here", 2)]) (N := N_l_depth) (sc := defScope s_l_depth) (by decide +kernel)) (fun _ _ _ _ _ => (pg_name (i := 2) sc_l_depth.nd rfl (Or.inl rfl))) (fun _ _ _ _ _ => (pts_one (pt_val (pe_call G_l_holds (hr.mono (by decide)) (by rfl) T.g_l_holds T.F_l_holds.kp T.b_l_holds .nil pass0 (pa_cons (pv 2) (pa_cons (pv 1) pa_nil)))))) (fun _ _ _ _ _ => (pv 2))) pa_nil)))), ?_⟩
    refine ⟨_, rfl, l, rfl, ⟨_, SqL.of hl⟩, fun D nD => ?_⟩
    refine lc_list (K := K) (a := l) (xs := us) (fun i H' => Same H H' ∧ ∃ ws, H' D = some (.lst ws) ∧ ws.length = ((ss.take i).filter (holdsB x)).length) ⟨same_upd nD, [], upd_same, rfl⟩ (fun i H' _ h => SqL.of (h.1 _ _ hl)) ?_ ?_
    · rintro i y H' hi ⟨sm, ws, hD, hw⟩
      obtain ⟨sp, es, hsp⟩ := hS.get hi
      have tk : ss.take (i + 1) = ss.take i ++ [sp] := by
        rw [List.take_add_one, es]
        rfl
      refine ⟨rfl, _, rfl, _, rfl, y, sp, x, rfl, hsp.same sm, _, rfl, ?_⟩
      by_cases hb : holdsB x sp = true
      · rw [hb]
        refine iteT ⟨_, rfl, ws, hD, small_lt ?_, same_more sm nD, _, upd_same, ?_⟩
        · rw [hw]
          have h1 := List.length_filter_le (holdsB x) (ss.take i)
          have h2 := List.length_take_le i ss
          have h3 : (ss.take i).length ≤ ss.length := by
            rw [List.length_take]
            exact Nat.min_le_right _ _
          omega
        · rw [tk, List.filter_append, List.length_append, List.length_append, hw]
          simp [hb]
      · rw [Bool.not_eq_true] at hb
        rw [hb]
        refine iteF ⟨sm, ws, hD, ?_⟩
        rw [tk, List.filter_append, List.length_append, hw]
        simp [hb]
    · rintro H' ⟨sm, ws, hD, hw⟩
      rw [hS.len, List.take_length] at hw
      refine ⟨D, ws, rfl, .inl (SqL.of hD), ?_⟩
      rw [hw]
      exact q H' sm
/-- few ends -/
def Few (ss : List Span) : Prop := ss.length ≤ 400 ∧ ∃ es : List Int, es.length < 64 ∧ ∀ s ∈ ss, s.1 ∈ es ∧ s.2 ∈ es
theorem few_of {ss : List Span} (h : ss.length < 32) : Few ss := ⟨by omega, ss.map (·.1) ++ ss.map (·.2), by rw [List.length_append, List.length_map, List.length_map]; omega, fun s hs => ⟨List.mem_append_left _ (List.mem_map.mpr ⟨s, hs, rfl⟩), List.mem_append_right _ (List.mem_map.mpr ⟨s, hs, rfl⟩)⟩⟩
def spEnds : Sp := fun vs H Q _ => ∃ (l : Addr) (us : List V) (ss : List Span), vs = [.ref l] ∧ H l = some (.lst us) ∧ Sps H us ss ∧ Few ss ∧
  ∀ (H' : Hp) (p : Addr) (ns : List Int), Same H H' → H p = none → H' p = some (.lst (ns.map V.int)) → ns.Pairwise (· < ·) → (∀ k, k ∈ ns ↔ k ∈ ss.map (·.1) ++ ss.map (·.2)) → ns.length < 64 → Q (.ref p) H'
theorem ok_ends (T : Tx K mg) : FnOk P w K mg base CX0 (1) T.f_l_ends T.fd_l_ends ["_law_spans_here"] spEnds := by
  refine T.F_l_ends.ok sc_l_ends (fun vs H Q E h => ?_) (fun cdv A outer s H vs Q E hr h => ?_)
  · obtain ⟨l, us, ss, rfl, _⟩ := h
    rfl
  · obtain ⟨l, us, ss, rfl, hl, hS, ⟨hlen, es0, e64, ein⟩, q⟩ := h
    refine ⟨_, (pss_one (ps_ret (pe_callB (cr_sortedSet rfl) (by rfl) T.m_sorted (by decide +kernel) (pa_cons (pe_callTy (call_set_of rfl) (by rfl) T.m_set (by decide +kernel) (pa_cons (pe_op op_cat (pe_lc (own := [("_law_span_here", 1)]) (g := (gName 1)) (by rfl) sc_l_ends.nd (pi_list (pv 0)) (blkOk_by (own := [("_law_span_here", 1)]) (N := N_l_ends) (sc := defScope s_l_ends) (by decide +kernel)) (fun _ _ _ _ _ => (pg_name (i := 1) sc_l_ends.nd rfl (Or.inl rfl))) (fun _ _ _ _ _ => pts_nil) (fun _ _ _ _ _ => (pe_ix (show IxR _ (rIxT K) from ix_tup) (pv 1) pe_int (fun _ _ => rfl)))) (pe_lc (own := [("_law_span_here", 1)]) (g := (gName 1)) (by rfl) sc_l_ends.nd (pi_list (pv 0)) (blkOk_by (own := [("_law_span_here", 1)]) (N := N_l_ends) (sc := defScope s_l_ends) (by decide +kernel)) (fun _ _ _ _ _ => (pg_name (i := 1) sc_l_ends.nd rfl (Or.inl rfl))) (fun _ _ _ _ _ => pts_nil) (fun _ _ _ _ _ => (pe_ix (show IxR _ (rIxT K) from ix_tup) (pv 1) pe_int (fun _ _ => rfl))))) pa_nil)) pa_nil)))), ?_⟩
    have hul := hS.len
    refine ⟨_, rfl, l, rfl, ⟨_, SqL.of hl⟩, fun D nD => ?_⟩
    refine lc_list (K := K) (a := l) (xs := us) (fun i H' => Same H H' ∧ H' D = some (.lst (((ss.take i).map (·.1)).map V.int))) ⟨same_upd nD, upd_same⟩ (fun i H' _ h => SqL.of (h.1 _ _ hl)) ?_ ?_
    · rintro i y H' hi ⟨sm, hD⟩
      obtain ⟨sp, es, hsp⟩ := hS.get hi
      obtain ⟨t, rfl, ht⟩ := hsp.same sm
      refine ⟨rfl, ?_⟩
      unfold tYes
      refine iteT ⟨_, rfl, t, _, _, _, rfl, rfl, SqT.of ht, atI_nat (j := 0) rfl, _, hD, small_lt ?_, same_more sm nD, ?_⟩
      · rw [List.length_map, List.length_map, List.length_take]
        omega
      · rw [upd_same, List.take_add_one, es, List.map_append, List.map_append]
        rfl
    · rintro H1 ⟨sm, hD⟩
      rw [hul, List.take_length] at hD
      refine ⟨_, rfl, l, rfl, ⟨_, SqL.of (sm _ _ hl)⟩, fun D2 nD2 => ?_⟩
      have nDD : D ≠ D2 := ne_of_none hD nD2
      refine lc_list (K := K) (a := l) (xs := us) (fun i H' => Same H1 H' ∧ H' D2 = some (.lst (((ss.take i).map (·.2)).map V.int))) ⟨same_upd nD2, upd_same⟩ (fun i H' _ h => SqL.of (h.1 _ _ (sm _ _ hl))) ?_ ?_
      · rintro i y H' hi ⟨sm2, hD2⟩
        obtain ⟨sp, es, hsp⟩ := hS.get hi
        obtain ⟨t, rfl, ht⟩ := (hsp.same sm).same sm2
        refine ⟨rfl, ?_⟩
        unfold tYes
        refine iteT ⟨_, rfl, t, _, _, _, rfl, rfl, SqT.of ht, atI_nat (j := 1) rfl, _, hD2, small_lt ?_, same_more sm2 nD2, ?_⟩
        · rw [List.length_map, List.length_map, List.length_take]
          omega
        · rw [upd_same, List.take_add_one, es, List.map_append, List.map_append]
          rfl
      · rintro H2 ⟨sm2, hD2⟩
        rw [hul, List.take_length] at hD2
        refine ⟨D, D2, _, _, rfl, rfl, sm2 _ _ hD, hD2, ?_, fun c nc => ?_⟩
        · rw [List.length_map, List.length_map, List.length_map, List.length_map]
          exact small_le (by omega)
        rw [← List.map_append]
        obtain ⟨gc, sc⟩ := upd_at (o := .lst ((ss.map (·.1) ++ ss.map (·.2)).map V.int)) nc
        refine ⟨c, ss.map (·.1) ++ ss.map (·.2), rfl, SqL.of gc, ?_, fun st ds nst nd mds => ?_⟩
        · rw [List.length_append, List.length_map, List.length_map]
          omega
        have dl : ds.length ≤ es0.length := nodup_len nd fun x hx => by
          rcases List.mem_append.mp ((mds x).mp hx) with m | m
          · obtain ⟨sp, h1, rfl⟩ := List.mem_map.mp m
            exact (ein sp h1).1
          · obtain ⟨sp, h1, rfl⟩ := List.mem_map.mp m
            exact (ein sp h1).2
        obtain ⟨gs, ssn⟩ := upd_at (o := SetO w st (fun j => decide (j ∈ ss.map (·.1) ++ ss.map (·.2))) ds.length) nst
        refine ⟨st, _, ds.length, rfl, gs, by omega, fun ns p pw mem ln np => ?_⟩
        have all := sm.trans (sm2.trans (sc.trans ssn))
        refine q _ p ns (same_more all (all.free np)) (all.free np) upd_same pw (fun z => ?_) (by omega)
        rw [mem, decide_eq_true_eq]
end
section
variable {P : Program} {w : World} {K : PySem.W.Frag} {mg : Str → Option Value} {base : Heap}
/-! ### the law's own cover -/
def spCoverL : Sp := fun vs H Q _ => ∃ (l : Addr) (us : List V) (ss : List Span), vs = [.ref l] ∧ H l = some (.lst us) ∧ Sps H us ss ∧ Few ss ∧ (∀ s ∈ ss, isSpan s = true) ∧
  ∀ (H' : Hp) (p : Addr) (ws : List V) (c : List Span), Same H H' → H p = none → H' p = some (.lst ws) → Sps H' ws c → Can c → (∀ x, Mem c x ↔ Mem ss x) → c.length ≤ ss.length → Q (.ref p) H'
theorem ok_cover (T : Tx K mg) : FnOk P w K mg base CX0 (3) T.f_l_cover T.fd_l_cover ["_law_spans_here"] spCoverL := by
  have G_l_ends : FnOk P w K mg base CX0 _ _ _ _ _ := ok_ends T
  have G_l_depth : FnOk P w K mg base CX0 _ _ _ _ _ := ok_depth T
  have G_l_holds : FnOk P w K mg base CX0 _ _ _ _ _ := ok_holds T
  refine T.F_l_cover.ok sc_l_cover (fun vs H Q E h => ?_) (fun cdv A outer s H vs Q E hr h => ?_)
  · obtain ⟨l, us, ss, rfl, _⟩ := h
    rfl
  · obtain ⟨l, us, ss, rfl, hl, hS, few, ok, q⟩ := h
    have hlen := few.1
    refine ⟨_, (pss_cons (ps_set (i := 1) sc_l_cover.nd rfl (Or.inl rfl) (pe_lst pa_nil))
      (pss_cons (ps_for PassesOwn.never (by rfl) (pi_list (pe_call G_l_ends (hr.mono (by decide)) (by rfl) T.g_l_ends T.F_l_ends.kp T.b_l_ends .nil pass0 (pa_cons (pv 0) pa_nil))) (pg_name (i := 2) sc_l_cover.nd rfl (Or.inl rfl))
        (pss_one (ps_if (PW.pt (pw_and (pt_cmpR op_gt (pe_call G_l_depth (hr.mono (by decide)) (by rfl) T.g_l_depth T.F_l_depth.kp T.b_l_depth .nil pass0 (pa_cons (pv 0) (pa_cons (pv 2) pa_nil))) pe_int (nomark _)) (pw_and1 (PW.pt (pw_or (pt_cmpR (op_eqD hr.units) (pv 1) (pe_lst pa_nil) (nomark _)) (pw_or1 (pt_cmpR op_lt (pe_ix ix_tup (pe_ix ix_list (pv 1) (pe_un un_neg pe_int) (fun _ _ => rfl)) pe_int (fun _ _ => rfl)) (pv 2) (nomark _)))))))) (pss_cons (ps_set (i := 3) sc_l_cover.nd rfl (Or.inr rfl) (pv 2))
      (pss_cons (ps_while PassesOwn.never (pt_cmpR op_gt (pe_call G_l_depth (hr.mono (by decide)) (by rfl) T.g_l_depth T.F_l_depth.kp T.b_l_depth .nil pass0 (pa_cons (pv 0) (pa_cons (pv 3) pa_nil))) pe_int (nomark _))
        (pss_one (ps_set (i := 3) sc_l_cover.nd rfl (Or.inr rfl) (pe_callB (cr_max rfl) (by rfl) T.m_max (by decide +kernel) (pa_cons (pe_lc (own := [("_law_span_here", 4)]) (g := (gName 4)) (by rfl) sc_l_cover.nd (pi_list (pv 0)) (blkOk_by (own := [("_law_span_here", 4)]) (N := N_l_cover) (sc := defScope s_l_cover) (by decide +kernel)) (fun _ _ _ _ _ => (pg_name (i := 4) sc_l_cover.nd rfl (Or.inl rfl))) (fun _ _ _ _ _ => (pts_one (pt_val (pe_call G_l_holds (hr.mono (by decide)) (by rfl) T.g_l_holds T.F_l_holds.kp T.b_l_holds .nil pass0 (pa_cons (pv 4) (pa_cons (pv 3) pa_nil)))))) (fun _ _ _ _ _ => (pe_ix (show IxR _ (rIxT K) from ix_tup) (pv 4) pe_int (fun _ _ => rfl)))) pa_nil)))))
      (pss_one (ps_expr (pe_bm PySem.F.plainAttrs_list PySem.F.slot_list_append PySem.F.type_list_append mt_append (pv 1) (pa_cons (pe_tup (pa_cons (pv 2) (pa_cons (pv 3) pa_nil))) pa_nil)))))) pss_nil)))
      (pss_one (ps_ret (pv 1))))), ?_⟩
    have hul := hS.len
    refine ⟨Nat.zero_le _, fun C nC => ?_⟩
    obtain ⟨gC, sC⟩ := upd_at (o := .lst []) nC
    have hnC : H C = none := nC
    refine ⟨_, rfl, l, us, ss, rfl, sC _ _ hl, hS.same sC, few, fun H1 p ns s1 np hp pw mem ln => ?_⟩
    have nCp : C ≠ p := ne_of_none gC np
    refine ⟨p, rfl, ⟨_, SqL.of hp⟩, ?_⟩
    refine for_list (K := K) (a := p) (xs := ns.map V.int) (fun i σ H' => ∃ y2 y3 cvs acc, σ = [some (.ref l), some (.ref C), y2, y3, none] ∧ Same H H' ∧ H' p = some (.lst (ns.map V.int)) ∧ H' C = some (.lst cvs) ∧ Sps H' cvs acc ∧ Can acc ∧ (∀ x, Mem acc x → Mem ss x) ∧ (∀ s ∈ acc, ¬ Mem ss s.2) ∧ (∀ z ∈ ns.take i, Mem ss z → Mem acc z) ∧ (∀ s ∈ acc, s.1 ∈ ns.take i) ∧ acc.length ≤ i)
      ⟨none, none, [], [], rfl, sC.trans s1, hp, s1 _ _ gC, .nil, can_nil, fun x h => absurd h (mem_nil x), (fun s hs => nomatch hs), (fun z hz => nomatch hz), (fun s hs => nomatch hs), Nat.le_refl _⟩ (fun i σ H' _ ⟨_, _, _, _, _, _, h, _⟩ => SqL.of h) ?_ ?_
    · rintro i y σ H' hi ⟨y2, y3, cvs, acc, rfl, sm, hp', hC, hA, can, sub, maxi, done', ends, al⟩
      obtain ⟨lo, hlo, rfl⟩ : ∃ z, ns[i]? = some z ∧ y = V.int z := by
        rw [List.getElem?_map] at hi
        cases e : ns[i]? with
        | none =>
          rw [e] at hi
          cases hi
        | some z =>
          rw [e] at hi
          exact ⟨z, rfl, (Option.some.inj hi).symm⟩
      have tk : ns.take (i + 1) = ns.take i ++ [lo] := by
        rw [List.take_add_one, hlo]
        rfl
      have before : ∀ z ∈ ns.take i, z < lo := fun z hz => by
        obtain ⟨h1, h2⟩ := List.getElem?_eq_some_iff.mp hlo
        have hd : ns = ns.take i ++ ns.drop i := (List.take_append_drop i ns).symm
        rw [hd] at pw
        refine (List.pairwise_append.mp pw).2.2 z hz lo ?_
        rw [List.drop_eq_getElem_cons h1, h2]
        exact List.mem_cons_self
      have il : i < ns.length := (List.getElem?_eq_some_iff.mp hlo).1
      have lC : H' C ≠ none := by
        rw [hC]
        exact fun z => by cases z
      -- a turn that leaves all as it was
      have skip : ∀ (H2 : Hp) (z3 : Option V), Same H' H2 → (Mem ss lo → Mem acc lo) → ∃ y2 y3 cvs acc, [some (V.ref l), some (V.ref C), some (V.int lo), z3, none] = [some (V.ref l), some (V.ref C), y2, y3, none] ∧ Same H H2 ∧ H2 p = some (.lst (ns.map V.int)) ∧ H2 C = some (.lst cvs) ∧ Sps H2 cvs acc ∧ Can acc ∧ (∀ x, Mem acc x → Mem ss x) ∧ (∀ s ∈ acc, ¬ Mem ss s.2) ∧ (∀ z ∈ ns.take (i + 1), Mem ss z → Mem acc z) ∧ (∀ s ∈ acc, s.1 ∈ ns.take (i + 1)) ∧ acc.length ≤ i + 1 :=
        fun H2 z3 s2 h => ⟨_, z3, cvs, acc, rfl, sm.trans s2, s2 _ _ hp', s2 _ _ hC, hA.same s2, can, sub, maxi, fun z hz m => by
          rw [tk] at hz
          rcases List.mem_append.mp hz with hz | hz
          · exact done' z hz m
          · rw [List.mem_singleton.mp hz] at m ⊢
            exact h m, fun s hs => by rw [tk]; exact List.mem_append_left _ (ends s hs), Nat.le_succ_of_le al⟩
      refine ⟨_, rfl, _, rfl, l, us, ss, lo, rfl, sm _ _ hl, hS.same sm, by omega, fun H2 s2 => ⟨_, _, rfl, rfl, _, rfl, ?_⟩⟩
      by_cases hm : Mem ss lo
      · rw [decide_eq_true (depth_pos.mpr hm)]
        refine iteT ?_
        refine ⟨_, rfl, Nat.zero_le _, fun e ne => ?_⟩
        obtain ⟨ge, se⟩ := upd_at (o := .lst []) ne
        have s3 := s2.trans se
        refine ⟨_, _, (hA.same s3).dp (SqL.of (s3 _ _ hC)), .lst (SqL.of ge) .nil, shaped_spans acc, shaped_nil, _, rfl, ?_⟩
        rw [eqv_spans_nil]
        -- a new span of the cover
        have grow : ∀ (H4 : Hp), Same H' H4 → (∀ s ∈ acc, s.2 < lo) →
            (tSeq (tAsg (tVar 2) (gName 3)) (tSeq (tWhile (tTest (tOp (rI0 fun i j => .bl (decide (j < i))) (tCall spDepth [] E0 (tCons (tVar 0) (tCons (tVar 3) tNil))) (tC (.int 0)))) (tAsg (tCB (rMax K) (tCons (tLc (iList K (tVar 0)) (gName 4) (tB (tCall spHolds [] E0 (tCons (tVar 4) (tCons (tVar 3) tNil)))) (tOp (rIxT K) (tVar 4) (tC (.int 1))) [4]) tNil)) (gName 3)))
              (tDrop (tBM K "list" rAppend (tVar 1) (tCons (tTup (tCons (tVar 2) (tCons (tVar 3) tNil))) tNil))))) { nx := fun σ' H5 => ∃ y2 y3 cvs acc, σ' = [some (V.ref l), some (V.ref C), y2, y3, none] ∧ Same H H5 ∧ H5 p = some (.lst (ns.map V.int)) ∧ H5 C = some (.lst cvs) ∧ Sps H5 cvs acc ∧ Can acc ∧ (∀ x, Mem acc x → Mem ss x) ∧ (∀ s ∈ acc, ¬ Mem ss s.2) ∧ (∀ z ∈ ns.take (i + 1), Mem ss z → Mem acc z) ∧ (∀ s ∈ acc, s.1 ∈ ns.take (i + 1)) ∧ acc.length ≤ i + 1, rt := Q } [some (.ref l), some (.ref C), some (.int lo), y3, none] H4 := fun H4 s4 lt => by
          refine ⟨_, rfl, ?_⟩
          refine ⟨fun m σ H5 => ∃ hi : Int, σ = [some (V.ref l), some (V.ref C), some (V.int lo), some (V.int hi), none] ∧ Same H' H5 ∧ m = (1000000000000 - hi).toNat ∧ lo ≤ hi ∧ (∀ x, lo ≤ x → x < hi → Mem ss x), ⟨_, lo, rfl, s4, rfl, Int.le_refl _, fun x h1 h2 => by omega⟩, ?_⟩
          rintro m σ H5 ⟨hi', rfl, s5, rfl, hle, all⟩
          refine ⟨_, rfl, _, rfl, l, us, ss, hi', rfl, s5 _ _ (sm _ _ hl), (hS.same sm).same s5, by omega, fun H6 s6 => ⟨_, _, rfl, rfl, _, rfl, ?_⟩⟩
          have s56 := s5.trans s6
          by_cases hmh : Mem ss hi'
          · rw [decide_eq_true (depth_pos.mpr hmh)]
            refine iteT ⟨fun σ' H7 => ∃ hi2 : Int, σ' = [some (V.ref l), some (V.ref C), some (V.int lo), some (V.int hi2), none] ∧ Same H' H7 ∧ hi' < hi2 ∧ hi2 ≤ 999999999999 ∧ (∀ x, lo ≤ x → x < hi2 → Mem ss x), fun σ' H7 hN => ?_, ?_⟩
            · obtain ⟨hi2, e1, e2, e3, e4, e5⟩ := hN
              exact ⟨(1000000000000 - hi2).toNat, by omega, hi2, e1, e2, rfl, by omega, e5⟩
            · refine ⟨_, rfl, l, rfl, ⟨_, SqL.of (s56 _ _ (sm _ _ hl))⟩, fun D nD => ?_⟩
              have hl6 := s56 _ _ (sm _ _ hl)
              have hS6 := (hS.same sm).same s56
              refine lc_list (K := K) (a := l) (xs := us) (fun j H7 => Same H6 H7 ∧ H7 D = some (.lst ((((ss.take j).filter (holdsB hi')).map (·.2)).map V.int))) ⟨same_upd nD, upd_same⟩ (fun j H7 _ h => SqL.of (h.1 _ _ hl6)) ?_ ?_
              · rintro j y H7 hj ⟨s7, hD⟩
                obtain ⟨sp, es, hsp⟩ := hS6.get hj
                have tk2 : ss.take (j + 1) = ss.take j ++ [sp] := by
                  rw [List.take_add_one, es]
                  rfl
                refine ⟨rfl, _, rfl, _, rfl, y, sp, hi', rfl, hsp.same s7, _, rfl, ?_⟩
                by_cases hb : holdsB hi' sp = true
                · rw [hb]
                  obtain ⟨t, rfl, ht⟩ := hsp.same s7
                  refine iteT ⟨_, rfl, t, _, _, _, rfl, rfl, SqT.of ht, atI_nat (j := 1) rfl, _, hD, small_lt ?_, same_more s7 nD, ?_⟩
                  · rw [List.length_map, List.length_map]
                    have h1 := List.length_filter_le (holdsB hi') (ss.take j)
                    rw [List.length_take] at h1
                    omega
                  · rw [upd_same, tk2, List.filter_append, List.map_append, List.map_append]
                    simp [hb]
                · rw [Bool.not_eq_true] at hb
                  rw [hb]
                  refine iteF ⟨s7, ?_⟩
                  rw [tk2, List.filter_append, List.map_append, List.map_append, hD]
                  simp [hb]
              · rintro H7 ⟨s7, hD⟩
                rw [hul, List.take_length] at hD
                refine ⟨D, _, rfl, SqL.of hD, ?_, fun mx hmx hmax => ?_⟩
                · rw [List.length_map]
                  have h1 := depth_pos.mpr hmh
                  omega
                · obtain ⟨sp, hsp, rfl⟩ := List.mem_map.mp hmx
                  obtain ⟨h1, h2⟩ := List.mem_filter.mp hsp
                  have h2 := holds_iff.mp h2
                  have b := (isSpan_iff sp).mp (ok sp h1)
                  refine ⟨sp.2, rfl, s56.trans s7, by omega, b.2.2, fun x x1 x2 => ?_⟩
                  by_cases hx : x < hi'
                  · exact all x x1 hx
                  · exact ⟨sp, h1, by omega, x2⟩
          · rw [decide_eq_false (fun z => hmh (depth_pos.mp z))]
            have gt : lo < hi' := by
              rcases Int.lt_or_eq_of_le hle with h | h
              · exact h
              · rw [← h] at hmh
                exact absurd hm hmh
            refine iteF ?_
            have hC6 := s56 _ _ hC
            refine ⟨_, rfl, .inl ⟨rfl, _, SqL.of hC6⟩, _, rfl, _, rfl, (by show 2 ≤ sizeLine; decide), fun t nt => ?_⟩
            obtain ⟨gt', st⟩ := upd_at (o := .tup [.int lo, .int hi']) nt
            have s8 := s56.trans st
            have alen := hA.len
            have cC : Chg [C] (upd H6 t (.tup [.int lo, .int hi'])) (upd (upd H6 t (.tup [.int lo, .int hi'])) C (.lst (cvs ++ [.ref t]))) := Chg.upd List.mem_cons_self
            have lC : Lsts [C] (upd H6 t (.tup [.int lo, .int hi'])) := Lsts.of1 (s8 _ _ hC)
            refine ⟨C, cvs, .ref t, rfl, rfl, s8 _ _ hC, small_lt (by omega), _, _, cvs ++ [.ref t], acc ++ [(lo, hi')], rfl, same_more (sm.trans s8) hnC, cC _ _ (nmem1 nCp.symm) (s8 _ _ hp'), upd_same, ((hA.same s8).app (.one ⟨t, rfl, gt'⟩)).chg cC lC, can_snoc can gt lt, fun x hx => ?_, fun s hs => ?_, fun z hz m => ?_, fun s hs => ?_, ?_⟩
            · rcases mem_app.mp hx with h | h
              · exact sub x h
              · have h := mem_one.mp h
                exact all x h.1 h.2
            · rcases List.mem_append.mp hs with h | h
              · exact maxi s h
              · rw [List.mem_singleton.mp h]
                exact hmh
            · rw [tk] at hz
              rcases List.mem_append.mp hz with hz | hz
              · exact mem_app.mpr (.inl (done' z hz m))
              · rw [List.mem_singleton.mp hz]
                exact mem_app.mpr (.inr (mem_one.mpr ⟨Int.le_refl _, gt⟩))
            · rw [tk]
              rcases List.mem_append.mp hs with h | h
              · exact List.mem_append_left _ (ends s h)
              · rw [List.mem_singleton.mp h]
                exact List.mem_append_right _ (List.mem_singleton.mpr rfl)
            · rw [List.length_append]
              exact Nat.succ_le_succ al
        by_cases hn : acc = []
        · rw [decide_eq_true hn]
          refine iteT (iteT (grow _ s3 fun s hs => ?_))
          rw [hn] at hs
          cases hs
        · rw [decide_eq_false hn]
          obtain ⟨a, x, rfl⟩ := snoc_of hn
          obtain ⟨ua, vx, rfl, hAa, tx, rfl, htx⟩ := hA.snoc
          have xm : x ∈ a ++ [x] := List.mem_append_right _ (List.mem_singleton.mpr rfl)
          refine iteF ⟨_, rfl, 1, rfl, C, _, -1, .ref tx, rfl, rfl, SqL.of (s3 _ _ hC), atI_last _ _, tx, _, _, _, rfl, rfl, SqT.of (s3 _ _ htx), atI_nat (j := 1) rfl, _, rfl, _, _, rfl, rfl, _, rfl, ?_⟩
          by_cases lt : x.2 < lo
          · rw [decide_eq_true lt]
            refine iteT (grow _ s3 fun s hs => ?_)
            rcases List.mem_append.mp hs with h | h
            · have h1 := can_app_lt can s h
              have h2 := can.2 x xm
              omega
            · rw [List.mem_singleton.mp h]
              exact lt
          · rw [decide_eq_false lt]
            refine iteF (skip _ _ s3 fun _ => ?_)
            have h1 := before x.1 (ends x xm)
            have h2 : lo ≠ x.2 := fun z => maxi x xm (by rw [← z]; exact hm)
            exact ⟨x, xm, by omega, by omega⟩
      · rw [decide_eq_false (fun z => hm (depth_pos.mp z))]
        exact iteF (iteF (skip _ _ s2 fun z => absurd z hm))
    · rintro σ H' ⟨y2, y3, cvs, acc, rfl, sm, hp', hC, hA, can, sub, maxi, done', ends, al⟩
      rw [List.length_map] at al
      rw [List.length_map, List.take_length] at done'
      have whole : ∀ x, Mem acc x ↔ Mem ss x := fun x => ⟨sub x, fun hx => ?_⟩
      · exact ⟨_, rfl, q H' C cvs acc sm hnC hC hA can whole (can_len can whole)⟩
      obtain ⟨s, hs, h1, h2⟩ := hx
      have b := (isSpan_iff s).mp (ok s hs)
      have e1 : s.1 ∈ ns := (mem s.1).mpr (List.mem_append_left _ (List.mem_map.mpr ⟨s, hs, rfl⟩))
      obtain ⟨t, ht, t1, t2⟩ := done' s.1 e1 ⟨s, hs, Int.le_refl _, b.2.1⟩
      by_cases hx : x < t.2
      · exact ⟨t, ht, by omega, hx⟩
      · exact absurd ⟨s, hs, by omega, by omega⟩ (maxi t ht)
/-! ### what is told has the told form -/
def spWholeL : Sp := fun vs H Q _ => ∃ i : Int, vs = [.int i] ∧ Q (.bl true) H
theorem ok_whole (T : Tx K mg) : FnOk P w K mg base CX0 (1) T.f_l_whole T.fd_l_whole ["_law_number_here"] spWholeL := by
  refine T.F_l_whole.ok sc_l_whole (fun vs H Q E h => ?_) (fun cdv A outer s H vs Q E hr h => ?_)
  · obtain ⟨i, rfl, _⟩ := h
    rfl
  · obtain ⟨i, rfl, q⟩ := h
    refine ⟨_, (pss_one (ps_ret (pe_and (pe_callB call_isi (by rfl) T.m_isinstance (by decide +kernel) (pa_cons (pv 0) (pa_cons (pe_bltn (v := .ty "int") (by rfl) T.m_int (by decide +kernel) rfl) pa_nil))) (pe_one (pe_not (pe_callB call_isi (by rfl) T.m_isinstance (by decide +kernel) (pa_cons (pv 0) (pa_cons (pe_bltn (v := .ty "bool") (by rfl) T.m_bool (by decide +kernel) rfl) pa_nil)))))))), ?_⟩
    refine ⟨_, rfl, _, _, _, _, true, rfl, .ty _, .base (.int i), kit_ty (by decide +kernel), true, rfl, iteT ?_⟩
    exact ⟨_, rfl, _, _, _, _, false, rfl, .ty _, .base (.int i), kit_ty (by decide +kernel), false, rfl, q⟩
def spWholes : Sp := fun vs H Q _ => ∃ (l : Addr) (ns : List Int), vs = [.ref l] ∧ H l = some (.lst (ns.map V.int)) ∧ ∀ H', Same H H' → Q (.bl true) H'
theorem ok_wholes (T : Tx K mg) : FnOk P w K mg base CX0 (2) T.f_l_wholes T.fd_l_wholes ["_law_some"] spWholes := by
  have G_l_whole : FnOk P w K mg base CX0 _ _ _ _ _ := ok_whole T
  refine T.F_l_wholes.ok sc_l_wholes (fun vs H Q E h => ?_) (fun cdv A outer s H vs Q E hr h => ?_)
  · obtain ⟨l, ns, rfl, _⟩ := h
    rfl
  · obtain ⟨l, ns, rfl, hl, q⟩ := h
    refine ⟨_, (pss_one (ps_ret (pe_and (pe_callB call_isi (by rfl) T.m_isinstance (by decide +kernel) (pa_cons (pv 0) (pa_cons (pe_bltn (v := .ty "list") (by rfl) T.m_list (by decide +kernel) rfl) pa_nil))) (pe_one (pe_cmpR (op_eqD hr.units) (pe_lc (own := [("_law_one", 1)]) (g := (gName 1)) (by rfl) sc_l_wholes.nd (pi_list (pv 0)) (blkOk_by (own := [("_law_one", 1)]) (N := N_l_wholes) (sc := defScope s_l_wholes) (by decide +kernel)) (fun _ _ _ _ _ => (pg_name (i := 1) sc_l_wholes.nd rfl (Or.inl rfl))) (fun _ _ _ _ _ => (pts_one (pt_not (pt_val (pe_call G_l_whole (hr.mono (by decide)) (by rfl) T.g_l_whole T.F_l_whole.kp T.b_l_whole .nil pass0 (pa_cons (pv 1) pa_nil)))))) (fun _ _ _ _ _ => (pv 1))) (pe_lst pa_nil) (nomark _)))))), ?_⟩
    refine ⟨_, rfl, _, _, _, _, true, rfl, .ty _, .base (.lst hl), kit_ty (by decide +kernel), true, rfl, iteT ?_⟩
    refine ⟨_, rfl, l, rfl, ⟨_, SqL.of hl⟩, fun D nD => ?_⟩
    refine lc_list (K := K) (a := l) (xs := ns.map V.int) (fun i H' => Same H H' ∧ H' D = some (.lst [])) ⟨same_upd nD, upd_same⟩ (fun i H' _ h => SqL.of (h.1 _ _ hl)) ?_ ?_
    · rintro i y H' hi ⟨sm, hD⟩
      obtain ⟨z, rfl⟩ : ∃ z, y = V.int z := by
        obtain ⟨z, _, e⟩ := List.mem_map.mp (List.mem_of_getElem? hi)
        exact ⟨z, e.symm⟩
      exact ⟨rfl, _, rfl, z, rfl, true, rfl, iteF ⟨sm, hD⟩⟩
    · rintro H' ⟨sm, hD⟩
      refine ⟨Nat.zero_le _, fun e ne => ?_⟩
      obtain ⟨ge, se⟩ := upd_at (o := .lst []) ne
      exact ⟨_, _, .lst (SqL.of (se _ _ hD)) .nil, .lst (SqL.of ge) .nil, shaped_nil, shaped_nil, q _ (sm.trans se)⟩
def spPairs : Sp := fun vs H Q _ => ∃ (l : Addr) (us : List V) (ss : List Span), vs = [.ref l] ∧ H l = some (.lst us) ∧ Sps H us ss ∧ ∀ H', Same H H' → Q (.bl true) H'
theorem ok_pairs (T : Tx K mg) : FnOk P w K mg base CX0 (3) T.f_l_pairs T.fd_l_pairs ["_law_some"] spPairs := by
  have G_l_wholes : FnOk P w K mg base CX0 _ _ _ _ _ := ok_wholes T
  refine T.F_l_pairs.ok sc_l_pairs (fun vs H Q E h => ?_) (fun cdv A outer s H vs Q E hr h => ?_)
  · obtain ⟨l, us, ss, rfl, _⟩ := h
    rfl
  · obtain ⟨l, us, ss, rfl, hl, hS, q⟩ := h
    refine ⟨_, (pss_cons (ps_if (pt_not (pt_val (pe_callB call_isi (by rfl) T.m_isinstance (by decide +kernel) (pa_cons (pv 0) (pa_cons (pe_bltn (v := .ty "list") (by rfl) T.m_list (by decide +kernel) rfl) pa_nil))))) (pss_one (ps_ret pe_bl)) pss_nil)
      (pss_one (ps_ret (pe_cmpR (op_eqD hr.units) (pe_lc (own := [("_law_one", 1)]) (g := (gName 1)) (by rfl) sc_l_pairs.nd (pi_list (pv 0)) (blkOk_by (own := [("_law_one", 1)]) (N := N_l_pairs) (sc := defScope s_l_pairs) (by decide +kernel)) (fun _ _ _ _ _ => (pg_name (i := 1) sc_l_pairs.nd rfl (Or.inl rfl))) (fun _ _ _ _ _ => (pts_one (PW.pt (pw_or (pt_not (pt_val (pe_callB (show CallR _ (.builtin "isinstance") (rIsi K) from call_isi) (by rfl) T.m_isinstance (by decide +kernel) (pa_cons (pv 1) (pa_cons (pe_bltn (v := .ty "tuple") (by rfl) T.m_tuple (by decide +kernel) rfl) pa_nil))))) (pw_or (pt_cmpR op_ne (pe_callB (show CallR _ (.builtin "len") (fun xs H Q => ∃ p ys, xs = [.ref p] ∧ (SqL K H p ys ∨ SqT K H p ys) ∧ Q (.int ys.length) H) from call_len_seq) (by rfl) T.m_len PySem.boot_len (pa_cons (pv 1) pa_nil)) pe_int (nomark _)) (pw_or1 (pt_not (pt_val (pe_call G_l_wholes (hr.mono (by decide)) (by rfl) T.g_l_wholes T.F_l_wholes.kp T.b_l_wholes .nil pass0 (pa_cons (pe_callTy (show CallR _ (.type "list") (fun xs H Q => ∃ p ys, xs = [.ref p] ∧ (SqL K H p ys ∨ SqT K H p ys) ∧ ∀ l, H l = none → Q (.ref l) (upd H l (.lst ys))) from call_list_of) (by rfl) T.m_list (by decide +kernel) (pa_cons (pv 1) pa_nil)) pa_nil)))))))))) (fun _ _ _ _ _ => (pv 1))) (pe_lst pa_nil) (nomark _))))), ?_⟩
    refine ⟨_, rfl, _, _, _, _, true, rfl, .ty _, .base (.lst hl), kit_ty (by decide +kernel), true, rfl, iteF ?_⟩
    refine ⟨_, rfl, l, rfl, ⟨_, SqL.of hl⟩, fun D nD => ?_⟩
    refine lc_list (K := K) (a := l) (xs := us) (fun i H' => Same H H' ∧ H' D = some (.lst [])) ⟨same_upd nD, upd_same⟩ (fun i H' _ h => SqL.of (h.1 _ _ hl)) ?_ ?_
    · rintro i y H' hi ⟨sm, hD⟩
      obtain ⟨sp, _, hsp⟩ := hS.get hi
      obtain ⟨t, rfl, ht⟩ := hsp.same sm
      refine ⟨rfl, _, rfl, _, _, _, _, true, rfl, .ty _, .base (.tup ht), kit_ty (by decide +kernel), true, rfl, iteF ?_⟩
      refine ⟨_, rfl, t, _, rfl, .inr (SqT.of ht), rfl, _, rfl, iteF ?_⟩
      refine ⟨_, rfl, t, _, rfl, .inr (SqT.of ht), fun e ne => ?_⟩
      obtain ⟨ge, se⟩ := upd_at (o := .lst [.int sp.1, .int sp.2]) ne
      refine ⟨e, [sp.1, sp.2], rfl, ge, fun H2 s2 => ⟨true, rfl, iteF ⟨sm.trans (se.trans s2), s2 _ _ (se _ _ hD)⟩⟩⟩
    · rintro H' ⟨sm, hD⟩
      refine ⟨Nat.zero_le _, fun e ne => ?_⟩
      obtain ⟨ge, se⟩ := upd_at (o := .lst []) ne
      exact ⟨_, _, .lst (SqL.of (se _ _ hD)) .nil, .lst (SqL.of ge) .nil, shaped_nil, shaped_nil, q _ (sm.trans se)⟩
end
section
variable {P : Program} {w : World} {K : PySem.W.Frag} {mg : Str → Option Value} {base : Heap}
/-! ### the law: covers of two -/
def inB (ss : List Span) (x : Int) : Bool := decide (0 < (((ss.filter (holdsB x)).length : Nat) : Int))
theorem inB_iff {ss : List Span} {x : Int} : inB ss x = true ↔ Mem ss x := by
  unfold inB
  rw [decide_eq_true_eq]
  exact depth_pos
def spIn : Sp := fun vs H Q _ => ∃ (l : Addr) (us : List V) (ss : List Span) (x : Int), vs = [.ref l, .int x] ∧ H l = some (.lst us) ∧ Sps H us ss ∧ ss.length ≤ 100000 ∧ ∀ H', Same H H' → Q (.bl (inB ss x)) H'
theorem ok_in (T : Tx K mg) : FnOk P w K mg base CX0 (3) T.f_l_in T.fd_l_in ["_law_cover_here", "_law_place"] spIn := by
  have G_l_depth : FnOk P w K mg base CX0 _ _ _ _ _ := ok_depth T
  refine T.F_l_in.ok sc_l_in (fun vs H Q E h => ?_) (fun cdv A outer s H vs Q E hr h => ?_)
  · obtain ⟨l, us, ss, x, rfl, _⟩ := h
    rfl
  · obtain ⟨l, us, ss, x, rfl, hl, hS, hn, q⟩ := h
    refine ⟨_, (pss_one (ps_ret (pe_cmpR op_gt (pe_call G_l_depth (hr.mono (by decide)) (by rfl) T.g_l_depth T.F_l_depth.kp T.b_l_depth .nil pass0 (pa_cons (pv 0) (pa_cons (pv 1) pa_nil))) pe_int (nomark _)))), ?_⟩
    exact ⟨_, rfl, _, rfl, l, us, ss, x, rfl, hl, hS, hn, fun H' s => ⟨_, _, rfl, rfl, q H' s⟩⟩
def wayB (m : Nat) (h t : Bool) : Bool := if m = 0 then h && t else if m = 1 then h || t else h && !t
def wayP (m : Nat) (ss rs : List Span) (x : Int) : Prop := if m = 0 then bothP ss rs x else if m = 1 then eitherP ss rs x else lessP ss rs x
theorem way_iff {m : Nat} {ss rs : List Span} {x : Int} : wayB m (inB ss x) (inB rs x) = true ↔ wayP m ss rs x := by
  unfold wayB wayP bothP eitherP lessP
  split
  · rw [Bool.and_eq_true, inB_iff, inB_iff]
  · split
    · rw [Bool.or_eq_true, inB_iff, inB_iff]
    · rw [Bool.and_eq_true, inB_iff, Bool.not_eq_true', ← Bool.not_eq_true, inB_iff]
theorem way_some {m : Nat} {ss rs : List Span} {x : Int} (h : wayP m ss rs x) : Mem ss x ∨ Mem rs x := by
  unfold wayP bothP eitherP lessP at h
  split at h
  · exact .inl h.1
  · split at h
    · exact h
    · exact .inl h.1
theorem way_at {m : Nat} {h t : Bool} (hm : m < 3) : ([V.bl (h && t), V.bl (h || t), V.bl (h && !t)] : List V)[m]? = some (.bl (wayB m h t)) := by
  rcases m with _ | _ | _ | m
  · rfl
  · rfl
  · rfl
  · omega
theorem pw_le {ns : List Int} (pw : ns.Pairwise (· < ·)) {i j : Nat} {a b : Int} (h : i ≤ j) (hi : ns[i]? = some a) (hj : ns[j]? = some b) : a ≤ b := by
  obtain ⟨h1, e1⟩ := List.getElem?_eq_some_iff.mp hi
  obtain ⟨h2, e2⟩ := List.getElem?_eq_some_iff.mp hj
  rcases Nat.lt_or_eq_of_le h with l | l
  · have := List.pairwise_iff_getElem.mp pw i j h1 h2 l
    omega
  · subst l
    have : a = b := e1.symm.trans e2
    omega
theorem between {ns : List Int} (pw : ns.Pairwise (· < ·)) {k : Nat} {lo hi z : Int} (h1 : ns[k]? = some lo) (h2 : ns[k + 1]? = some hi) (hz : z ∈ ns) : z ≤ lo ∨ hi ≤ z := by
  obtain ⟨j, hj⟩ := List.getElem?_of_mem hz
  by_cases h : j ≤ k
  · exact .inl (pw_le pw h hj h1)
  · exact .inr (pw_le pw (by omega) h2 hj)
theorem mem_piece {ss : List Span} {ns : List Int} {k : Nat} {lo hi x : Int} (pw : ns.Pairwise (· < ·)) (e : ∀ s ∈ ss, s.1 ∈ ns ∧ s.2 ∈ ns) (h1 : ns[k]? = some lo) (h2 : ns[k + 1]? = some hi) (x1 : lo ≤ x) (x2 : x < hi) : Mem ss x ↔ Mem ss lo := by
  constructor
  · rintro ⟨s, hs, a, b⟩
    have c1 := between pw h1 h2 (e s hs).1
    have c2 := between pw h1 h2 (e s hs).2
    exact ⟨s, hs, by omega, by omega⟩
  · rintro ⟨s, hs, a, b⟩
    have c1 := between pw h1 h2 (e s hs).1
    have c2 := between pw h1 h2 (e s hs).2
    exact ⟨s, hs, by omega, by omega⟩
def spKept : Sp := fun vs H Q _ => ∃ (a b : Addr) (m : Nat) (us ws : List V) (ss rs : List Span), vs = [.ref a, .ref b, .int (m : Int)] ∧ m < 3 ∧ H a = some (.lst us) ∧ Sps H us ss ∧ H b = some (.lst ws) ∧ Sps H ws rs ∧ ss.length ≤ 10 ∧ rs.length ≤ 10 ∧ (∀ s ∈ ss, isSpan s = true) ∧ (∀ s ∈ rs, isSpan s = true) ∧
  ∀ (H' : Hp) (p : Addr) (xs : List V) (c : List Span), Same H H' → H p = none → H' p = some (.lst xs) → Sps H' xs c → Can c → (∀ x, Mem c x ↔ wayP m ss rs x) → Q (.ref p) H'
theorem ok_kept_places (T : Tx K mg) : FnOk P w K mg base CX0 (4) T.f_l_kept_places T.fd_l_kept_places ["_law_one", "_law_other", "_law_way"] spKept := by
  have G_l_ends : FnOk P w K mg base CX0 _ _ _ _ _ := ok_ends T
  have G_l_in : FnOk P w K mg base CX0 _ _ _ _ _ := ok_in T
  have G_l_cover : FnOk P w K mg base CX0 _ _ _ _ _ := ok_cover T
  refine T.F_l_kept_places.ok sc_l_kept_places (fun vs H Q E h => ?_) (fun cdv A outer s H vs Q E hr h => ?_)
  · obtain ⟨a, b, m, us, ws, ss, rs, rfl, _⟩ := h
    rfl
  · obtain ⟨a, b, m, us, ws, ss, rs, rfl, hm, ha, hS, hb, hR, l1, l2, okS, okR, q⟩ := h
    refine ⟨_, (pss_cons (ps_set (i := 3) sc_l_kept_places.nd rfl (Or.inl rfl) (pe_call G_l_ends (hr.mono (by decide)) (by rfl) T.g_l_ends T.F_l_ends.kp T.b_l_ends .nil pass0 (pa_cons (pe_op op_cat (pv 0) (pv 1)) pa_nil)))
      (pss_cons (ps_set (i := 4) sc_l_kept_places.nd rfl (Or.inl rfl) (pe_lst pa_nil))
      (pss_cons (ps_for PassesOwn.never (by rfl) (pi_range1 (by rfl) T.m_range (pa_cons (pe_op op_sub (pe_callB call_len_seq (by rfl) T.m_len PySem.boot_len (pa_cons (pv 3) pa_nil)) pe_int) pa_nil)) (pg_name (i := 5) sc_l_kept_places.nd rfl (Or.inl rfl))
        (pss_cons (ps_set (i := 6) sc_l_kept_places.nd rfl (Or.inl rfl) (pe_call G_l_in (hr.mono (by decide)) (by rfl) T.g_l_in T.F_l_in.kp T.b_l_in .nil pass0 (pa_cons (pv 0) (pa_cons (pe_ix ix_list (pv 3) (pv 5) (fun _ _ => rfl)) pa_nil))))
      (pss_cons (ps_set (i := 7) sc_l_kept_places.nd rfl (Or.inl rfl) (pe_call G_l_in (hr.mono (by decide)) (by rfl) T.g_l_in T.F_l_in.kp T.b_l_in .nil pass0 (pa_cons (pv 1) (pa_cons (pe_ix ix_list (pv 3) (pv 5) (fun _ _ => rfl)) pa_nil))))
      (pss_one (ps_if (pt_val (pe_ix ix_list (pe_lst (pa_cons (pe_and (pv 6) (pe_one (pv 7))) (pa_cons (pe_or (pv 6) (pe_one (pv 7))) (pa_cons (pe_and (pv 6) (pe_one (pe_not (pv 7)))) pa_nil)))) (pv 2) (fun _ _ => rfl))) (pss_one (ps_expr (pe_bm PySem.F.plainAttrs_list PySem.F.slot_list_append PySem.F.type_list_append mt_append (pv 4) (pa_cons (pe_tup (pa_cons (pe_ix ix_list (pv 3) (pv 5) (fun _ _ => rfl)) (pa_cons (pe_ix ix_list (pv 3) (pe_op op_add (pv 5) pe_int) (fun _ _ => rfl)) pa_nil))) pa_nil)))) pss_nil)))))
      (pss_one (ps_ret (pe_call G_l_cover (hr.mono (by decide)) (by rfl) T.g_l_cover T.F_l_cover.kp T.b_l_cover .nil pass0 (pa_cons (pv 4) pa_nil))))))), ?_⟩
    have ul := hS.len
    have wl := hR.len
    refine ⟨_, rfl, _, rfl, a, b, us, ws, rfl, rfl, ha, hb, small_le (by omega), fun j nj => ?_⟩
    obtain ⟨gj, sj⟩ := upd_at (o := .lst (us ++ ws)) nj
    have ok : ∀ s ∈ ss ++ rs, isSpan s = true := fun s hs => (List.mem_append.mp hs).elim (okS s) (okR s)
    have len : (ss ++ rs).length ≤ 20 := by
      rw [List.length_append]
      omega
    refine ⟨j, us ++ ws, ss ++ rs, rfl, gj, (hS.app hR).same sj, few_of (by omega), fun H1 p ns s1 np hp pw mem ln => ?_⟩
    refine ⟨Nat.zero_le _, fun f nf => ?_⟩
    obtain ⟨gf, sf⟩ := upd_at (o := .lst []) nf
    have hf0 : H f = none := (sj.trans s1).free nf
    have sm0 := (sj.trans s1).trans sf
    have npf : p ≠ f := ne_of_none hp nf
    have endS : ∀ s ∈ ss, s.1 ∈ ns ∧ s.2 ∈ ns := fun s hs => ⟨(mem _).mpr (List.mem_append_left _ (List.mem_map.mpr ⟨s, List.mem_append_left _ hs, rfl⟩)), (mem _).mpr (List.mem_append_right _ (List.mem_map.mpr ⟨s, List.mem_append_left _ hs, rfl⟩))⟩
    have endR : ∀ s ∈ rs, s.1 ∈ ns ∧ s.2 ∈ ns := fun s hs => ⟨(mem _).mpr (List.mem_append_left _ (List.mem_map.mpr ⟨s, List.mem_append_right _ hs, rfl⟩)), (mem _).mpr (List.mem_append_right _ (List.mem_map.mpr ⟨s, List.mem_append_right _ hs, rfl⟩))⟩
    have bnd : ∀ z ∈ ns, -999999999999 ≤ z ∧ z ≤ 999999999999 := fun z hz => by
      rcases List.mem_append.mp ((mem z).mp hz) with h | h
      · obtain ⟨s, hs, rfl⟩ := List.mem_map.mp h
        have := (isSpan_iff s).mp (ok s hs)
        omega
      · obtain ⟨s, hs, rfl⟩ := List.mem_map.mp h
        have := (isSpan_iff s).mp (ok s hs)
        omega
    have wlo : ∀ x, wayP m ss rs x → (∃ z ∈ ns, z ≤ x) ∧ ∃ z ∈ ns, x < z := fun x hx => by
      rcases way_some hx with ⟨s, hs, a, b⟩ | ⟨s, hs, a, b⟩
      · exact ⟨⟨_, (endS s hs).1, a⟩, ⟨_, (endS s hs).2, b⟩⟩
      · exact ⟨⟨_, (endR s hs).1, a⟩, ⟨_, (endR s hs).2, b⟩⟩
    have piece : ∀ (k : Nat) (lo hi x : Int), ns[k]? = some lo → ns[k + 1]? = some hi → lo ≤ x → x < hi → (wayP m ss rs x ↔ wayP m ss rs lo) := fun k lo hi x h1 h2 x1 x2 => by
      unfold wayP bothP eitherP lessP
      rw [mem_piece pw endS h1 h2 x1 x2, mem_piece pw endR h1 h2 x1 x2]
    have lm : (ns.map V.int).length = ns.length := List.length_map _
    refine ⟨_, rfl, p, _, rfl, .inl (SqL.of (sf _ _ hp)), _, _, rfl, rfl, _, rfl, by omega, by omega, ?_⟩
    refine for_range (lo := 0) (n := (((ns.map V.int).length : Int) - 1).toNat) (fun i σ H' => ∃ (y5 y6 y7 : Option V) (xs : List V) (acc : List Span), σ = [some (.ref a), some (.ref b), some (.int (m : Int)), some (.ref p), some (.ref f), y5, y6, y7] ∧ Same H H' ∧ H' p = some (.lst (ns.map V.int)) ∧ H' f = some (.lst xs) ∧ Sps H' xs acc ∧ acc.length ≤ i ∧ (∀ s ∈ acc, isSpan s = true ∧ s.1 ∈ ns ∧ s.2 ∈ ns) ∧ (∀ x, Mem acc x ↔ wayP m ss rs x ∧ ∀ z, ns[i]? = some z → x < z))
      ⟨none, none, none, [], [], rfl, sm0, sf _ _ hp, gf, .nil, Nat.le_refl _, (fun s hs => nomatch hs), fun x => ⟨fun h => absurd h (mem_nil x), fun ⟨h1, h2⟩ => ?_⟩⟩ ?_ ?_
    · obtain ⟨⟨z, hz, zx⟩, _⟩ := wlo x h1
      cases e : ns[0]? with
      | none =>
        rw [List.getElem?_eq_none_iff] at e
        rw [List.length_eq_zero_iff.mp (Nat.le_zero.mp e)] at hz
        cases hz
      | some z0 =>
        obtain ⟨j, hj⟩ := List.getElem?_of_mem hz
        have a1 := pw_le pw (Nat.zero_le j) e hj
        have a2 := h2 z0 e
        omega
    · rintro i σ H' hi ⟨y5, y6, y7, xs, acc, rfl, sm, hp', hf, hA, al, inn, mm⟩
      have i1 : i + 1 < ns.length := by omega
      obtain ⟨lo, hlo⟩ : ∃ z, ns[i]? = some z := ⟨_, List.getElem?_eq_getElem (by omega)⟩
      obtain ⟨hi', hhi⟩ : ∃ z, ns[i + 1]? = some z := ⟨_, List.getElem?_eq_getElem i1⟩
      have hlo' : (ns.map V.int)[i]? = some (.int lo) := by
        rw [List.getElem?_map, hlo]
        rfl
      have hhi' : (ns.map V.int)[i + 1]? = some (.int hi') := by
        rw [List.getElem?_map, hhi]
        rfl
      have ll : lo < hi' := by
        obtain ⟨h1, e1⟩ := List.getElem?_eq_some_iff.mp hlo
        obtain ⟨h2, e2⟩ := List.getElem?_eq_some_iff.mp hhi
        have := List.pairwise_iff_getElem.mp pw i (i + 1) h1 h2 (Nat.lt_succ_self i)
        omega
      have hxa := hA.len
      refine ⟨_, rfl, _, rfl, _, rfl, p, _, _, _, rfl, rfl, SqL.of hp', at_of (j := i) (by omega) hlo', a, us, ss, lo, rfl, sm _ _ ha, hS.same sm, by omega, fun H2 s2 => ?_⟩
      refine ⟨_, rfl, _, rfl, _, rfl, p, _, _, _, rfl, rfl, SqL.of (s2 _ _ hp'), at_of (j := i) (by omega) hlo', b, ws, rs, lo, rfl, s2 _ _ (sm _ _ hb), (hR.same sm).same s2, by omega, fun H3 s3 => ?_⟩
      have way := way_iff (m := m) (ss := ss) (rs := rs) (x := lo)
      revert way
      generalize inB ss lo = h
      generalize inB rs lo = t
      intro way
      have s23 := s2.trans s3
      have hp3 := s23 _ _ hp'
      have hf3 := s23 _ _ hf
      -- the last piece is kept
      have grow : ∀ (H4 : Hp), Same H3 H4 → wayB m h t = true →
          (tDrop (tBM K "list" rAppend (tVar 4) (tCons (tTup (tCons (tOp (rIxL K) (tVar 3) (tVar 5)) (tCons (tOp (rIxL K) (tVar 3) (tOp (rI0 fun i j => V.int (i + j)) (tVar 5) (tC (V.int 1)))) tNil))) tNil))) { nx := fun σ' H5 => ∃ (y5 y6 y7 : Option V) (xs : List V) (acc : List Span), σ' = [some (.ref a), some (.ref b), some (.int (m : Int)), some (.ref p), some (.ref f), y5, y6, y7] ∧ Same H H5 ∧ H5 p = some (.lst (ns.map V.int)) ∧ H5 f = some (.lst xs) ∧ Sps H5 xs acc ∧ acc.length ≤ i + 1 ∧ (∀ s ∈ acc, isSpan s = true ∧ s.1 ∈ ns ∧ s.2 ∈ ns) ∧ (∀ x, Mem acc x ↔ wayP m ss rs x ∧ ∀ z, ns[i + 1]? = some z → x < z), rt := Q } [some (.ref a), some (.ref b), some (.int (m : Int)), some (.ref p), some (.ref f), some (.int (0 + (i : Int))), some (.bl h), some (.bl t)] H4 := fun H4 s4 hw => by
        have s24 := s23.trans s4
        refine ⟨_, rfl, .inl ⟨rfl, _, SqL.of (s4 _ _ hf3)⟩, _, rfl, _, rfl, p, _, _, _, rfl, rfl, SqL.of (s4 _ _ hp3), at_of (j := i) (by omega) hlo', _, rfl, _, rfl, _, _, rfl, rfl, p, _, _, _, rfl, rfl, SqL.of (s4 _ _ hp3), at_of (j := i + 1) (by omega) hhi', (by show 2 ≤ sizeLine; decide), fun t2 nt => ?_⟩
        obtain ⟨gt, st⟩ := upd_at (o := .tup [.int lo, .int hi']) nt
        have cf : Chg [f] (upd H4 t2 (.tup [.int lo, .int hi'])) (upd (upd H4 t2 (.tup [.int lo, .int hi'])) f (.lst (xs ++ [.ref t2]))) := Chg.upd List.mem_cons_self
        have s5 := s24.trans st
        have lf : Lsts [f] (upd H4 t2 (.tup [.int lo, .int hi'])) := Lsts.of1 (s5 _ _ hf)
        refine ⟨f, xs, .ref t2, rfl, rfl, s5 _ _ hf, small_lt (by omega), _, _, _, xs ++ [.ref t2], acc ++ [(lo, hi')], rfl, same_more (sm.trans s5) hf0, cf _ _ (nmem1 npf) (s5 _ _ hp'), upd_same, ((hA.same s5).app (.one ⟨t2, rfl, gt⟩)).chg cf lf, ?_, fun s hs => ?_, fun x => ?_⟩
        · rw [List.length_append]
          exact Nat.succ_le_succ al
        · rcases List.mem_append.mp hs with h | h
          · exact inn s h
          · rw [List.mem_singleton.mp h]
            have m1 := List.mem_of_getElem? hlo
            have m2 := List.mem_of_getElem? hhi
            exact ⟨(isSpan_iff (lo, hi')).mpr ⟨(bnd lo m1).1, ll, (bnd hi' m2).2⟩, m1, m2⟩
        · rw [mem_app, mem_one, mm x]
          have wl := way.mp hw
          constructor
          · rintro (⟨h1, h2⟩ | ⟨h1, h2⟩)
            · refine ⟨h1, fun z hz => ?_⟩
              rw [hhi] at hz
              have := h2 lo hlo
              cases hz
              omega
            · refine ⟨(piece i lo hi' x hlo hhi h1 h2).mpr wl, fun z hz => ?_⟩
              rw [hhi] at hz
              cases hz
              exact h2
          · rintro ⟨h1, h2⟩
            by_cases hx : x < lo
            · refine .inl ⟨h1, fun z hz => ?_⟩
              rw [hlo] at hz
              cases hz
              exact hx
            · exact .inr ⟨by show lo ≤ x; omega, h2 hi' hhi⟩
      have skip : ∀ (H4 : Hp), Same H3 H4 → ¬ wayB m h t = true → ∃ (y5 y6 y7 : Option V) (xs : List V) (acc : List Span), [some (V.ref a), some (V.ref b), some (V.int (m : Int)), some (V.ref p), some (V.ref f), some (V.int (0 + (i : Int))), some (V.bl h), some (V.bl t)] = [some (.ref a), some (.ref b), some (.int (m : Int)), some (.ref p), some (.ref f), y5, y6, y7] ∧ Same H H4 ∧ H4 p = some (.lst (ns.map V.int)) ∧ H4 f = some (.lst xs) ∧ Sps H4 xs acc ∧ acc.length ≤ i + 1 ∧ (∀ s ∈ acc, isSpan s = true ∧ s.1 ∈ ns ∧ s.2 ∈ ns) ∧ (∀ x, Mem acc x ↔ wayP m ss rs x ∧ ∀ z, ns[i + 1]? = some z → x < z) := fun H4 s4 hw => by
        have s24 := s23.trans s4
        refine ⟨_, _, _, xs, acc, rfl, sm.trans s24, s24 _ _ hp', s24 _ _ hf, hA.same s24, Nat.le_succ_of_le al, inn, fun x => ?_⟩
        rw [mm x]
        constructor
        · rintro ⟨h1, h2⟩
          refine ⟨h1, fun z hz => ?_⟩
          rw [hhi] at hz
          have := h2 lo hlo
          cases hz
          omega
        · rintro ⟨h1, h2⟩
          refine ⟨h1, fun z hz => ?_⟩
          rw [hlo] at hz
          cases hz
          apply Int.not_le.mp
          intro le
          exact hw (way.mpr ((piece i lo hi' x hlo hhi le (h2 hi' hhi)).mp h1))
      cases h <;> cases t
      · refine ⟨_, rfl, false, rfl, iteF ⟨_, rfl, false, rfl, iteF ⟨_, rfl, _, rfl, false, rfl, iteF ⟨small_le (by simp), fun L nL => ?_⟩⟩⟩⟩
        obtain ⟨gL, sL⟩ := upd_at (o := .lst [.bl false, .bl false, .bl false]) nL
        exact ⟨_, rfl, L, _, _, _, rfl, rfl, SqL.of gL, at_of (j := m) (by omega) (way_at (h := false) (t := false) hm), _, rfl, ite2 (fun e => grow _ sL e) (fun e => skip _ sL e)⟩
      · refine ⟨_, rfl, false, rfl, iteF ⟨_, rfl, false, rfl, iteF ⟨_, rfl, _, rfl, false, rfl, iteF ⟨small_le (by simp), fun L nL => ?_⟩⟩⟩⟩
        obtain ⟨gL, sL⟩ := upd_at (o := .lst [.bl false, .bl true, .bl false]) nL
        exact ⟨_, rfl, L, _, _, _, rfl, rfl, SqL.of gL, at_of (j := m) (by omega) (way_at (h := false) (t := true) hm), _, rfl, ite2 (fun e => grow _ sL e) (fun e => skip _ sL e)⟩
      · refine ⟨_, rfl, true, rfl, iteT ⟨_, rfl, _, rfl, true, rfl, iteT ⟨_, rfl, true, rfl, iteT ⟨_, rfl, false, rfl, small_le (by simp), fun L nL => ?_⟩⟩⟩⟩
        obtain ⟨gL, sL⟩ := upd_at (o := .lst [.bl false, .bl true, .bl true]) nL
        exact ⟨_, rfl, L, _, _, _, rfl, rfl, SqL.of gL, at_of (j := m) (by omega) (way_at (h := true) (t := false) hm), _, rfl, ite2 (fun e => grow _ sL e) (fun e => skip _ sL e)⟩
      · refine ⟨_, rfl, true, rfl, iteT ⟨_, rfl, _, rfl, true, rfl, iteT ⟨_, rfl, true, rfl, iteT ⟨_, rfl, true, rfl, small_le (by simp), fun L nL => ?_⟩⟩⟩⟩
        obtain ⟨gL, sL⟩ := upd_at (o := .lst [.bl true, .bl true, .bl false]) nL
        exact ⟨_, rfl, L, _, _, _, rfl, rfl, SqL.of gL, at_of (j := m) (by omega) (way_at (h := true) (t := true) hm), _, rfl, ite2 (fun e => grow _ sL e) (fun e => skip _ sL e)⟩
    · rintro σ H' ⟨y5, y6, y7, xs, acc, rfl, sm, hp', hf, hA, al, inn, mm⟩
      have hfew : Few acc := ⟨by omega, ns, ln, fun s hs => (inn s hs).2⟩
      refine ⟨_, rfl, f, xs, acc, rfl, hf, hA, hfew, fun s hs => (inn s hs).1, fun H2 p2 ds c s2 np2 hp2 hc can memc cl => ?_⟩
      refine q H2 p2 ds c (sm.trans s2) (sm.free np2) hp2 hc can fun x => ?_
      rw [memc x, mm x]
      constructor
      · exact fun h => h.1
      · refine fun h => ⟨h, fun z hz => ?_⟩
        obtain ⟨_, z2, hz2, x2⟩ := wlo x h
        obtain ⟨j, hj⟩ := List.getElem?_of_mem hz2
        have jl := (List.getElem?_eq_some_iff.mp hj).1
        have := pw_le pw (by omega) hj hz
        omega
def spTold (T : Tx K mg) : Sp := fun vs H Q _ => ∃ (m : Nat) (a b : Addr) (us ws : List V) (ss rs : List Span), vs = [.int (m : Int), .ref a, .ref b] ∧ m < 3 ∧ Two T H a b us ws ss rs ∧ ref1 ss = 0 ∧ ref1 rs = 0 ∧
  ∀ (H' : Hp) (p : Addr) (xs : List V) (c : List Span), Chg T.tabs H H' → Tb T.tabs H' → H p = none → H' p = some (.lst xs) → Sps H' xs c → Can c → (∀ s ∈ c, isSpan s = true) → (∀ x, Mem c x ↔ wayP m ss rs x) → c.length ≤ ss.length + rs.length + 1 → Q (.ref p) H'
theorem ok_told (T : Tx K mg) (B : Tbs T base) : FnOk P w K mg base CX0 (9) T.f_l_told T.fd_l_told ["_law_way", "_law_one", "_law_other"] (spTold T) := by
  have G_both : FnOk P w K mg base (L2.CX P w) _ _ _ _ _ := ok_both T B
  have G_either : FnOk P w K mg base (L2.CX P w) _ _ _ _ _ := ok_either T B
  have G_less : FnOk P w K mg base (L2.CX P w) _ _ _ _ _ := ok_less T B
  refine T.F_l_told.ok sc_l_told (fun vs H Q E h => ?_) (fun cdv A outer s H vs Q E hr h => ?_)
  · obtain ⟨m, a, b, us, ws, ss, rs, rfl, _⟩ := h
    rfl
  · obtain ⟨m, a, b, us, ws, ss, rs, rfl, hm, two, r1, r2, q⟩ := h
    refine ⟨_, (pss_cons (ps_if (pt_cmpR op_eq (pv 0) pe_int (nomark _)) (pss_one (ps_ret (pe_call G_both (hr.mono (by decide)) (by rfl) T.g_both T.F_both.kp T.b_both .nil passL (pa_cons (pv 1) (pa_cons (pv 2) pa_nil))))) pss_nil)
      (pss_cons (ps_if (pt_cmpR op_eq (pv 0) pe_int (nomark _)) (pss_one (ps_ret (pe_call G_either (hr.mono (by decide)) (by rfl) T.g_either T.F_either.kp T.b_either .nil passL (pa_cons (pv 1) (pa_cons (pv 2) pa_nil))))) pss_nil)
      (pss_one (ps_ret (pe_call G_less (hr.mono (by decide)) (by rfl) T.g_less T.F_less.kp T.b_less .nil passL (pa_cons (pv 1) (pa_cons (pv 2) pa_nil))))))), ?_⟩
    have no : ∀ n, n ≠ 0 → (ref1 ss = n ∨ (ref1 ss = 0 ∧ ref1 rs = n)) → False := fun n n0 h => by
      rcases h with h | ⟨_, h⟩
      · exact n0 (h.symm.trans r1)
      · exact n0 (h.symm.trans r2)
    obtain rfl | rfl | rfl : m = 0 ∨ m = 1 ∨ m = 2 := by omega
    · refine ⟨_, rfl, rfl, _, rfl, iteT ?_⟩
      exact ⟨_, rfl, _, rfl, a, b, us, ws, ss, rs, rfl, two, fun _ _ H' p xs c c1 tb np hp hc can ok mem cl => q H' p xs c c1 tb np hp hc can ok mem cl, fun n n0 h => (no n n0 h).elim⟩
    · refine ⟨_, rfl, rfl, _, rfl, iteF ?_⟩
      refine ⟨_, rfl, rfl, _, rfl, iteT ?_⟩
      exact ⟨_, rfl, _, rfl, a, b, us, ws, ss, rs, rfl, two, fun _ _ H' p xs c c1 tb np hp hc can ok mem cl => q H' p xs c c1 tb np hp hc can ok mem cl, fun n n0 h => (no n n0 h).elim⟩
    · refine ⟨_, rfl, rfl, _, rfl, iteF ?_⟩
      refine ⟨_, rfl, rfl, _, rfl, iteF ?_⟩
      exact ⟨_, rfl, _, rfl, a, b, us, ws, ss, rs, rfl, two, fun _ _ H' p xs c c1 tb np hp hc can ok mem cl => q H' p xs c c1 tb np hp hc can ok mem cl, fun n n0 h => (no n n0 h).elim⟩
end
section
variable {P : Program} {w : World} {K : PySem.W.Frag} {mg : Str → Option Value} {base : Heap}
def twoD (ss rs : List Span) : PyData := .list [.list (ss.map spD), .list (rs.map spD)]
theorem dp_two {H : Hp} {L a b : Addr} {us ws : List V} {ss rs : List Span} (hL : H L = some (.lst [.ref a, .ref b])) (ha : H a = some (.lst us)) (hs : Sps H us ss) (hb : H b = some (.lst ws)) (hr : Sps H ws rs) : Dp K H (.ref L) (twoD ss rs) :=
  .lst (SqL.of hL) (.cons (hs.dp (SqL.of ha)) (.cons (hr.dp (SqL.of hb)) .nil))
theorem shaped_two (ss rs : List Span) : SeqAt.shaped (twoD ss rs) = true := by
  obtain ⟨h1, h2⟩ := lay_spans ss
  obtain ⟨h3, h4⟩ := lay_spans rs
  show ((PyData.canLayAll0 (ss.map spD) && (PyData.canLayAll0 (rs.map spD) && true)) && decide (max (PyData.depthAll (ss.map spD) + 1) (max (PyData.depthAll (rs.map spD) + 1) 0) + 1 ≤ 64)) = true
  rw [h1, h3, decide_eq_true (by omega)]
  rfl
theorem eqv_two (ss rs : List Span) : PyData.eqv (twoD ss rs) (twoD ss rs) = true := by
  show (PyData.eqv (.list (ss.map spD)) (.list (ss.map spD)) && (PyData.eqv (.list (rs.map spD)) (.list (rs.map spD)) && true)) = true
  rw [eqv_spans, eqv_spans, decide_eq_true rfl, decide_eq_true rfl]
  rfl
theorem sum_list {ss : List Span} : (ss.map fun s => s.2 - s.1).sum = spanSum ss := rfl
def spLaw (T : Tx K mg) : Sp := fun vs H Q _ => ∃ (a : Addr) (ns : List Int), vs = [.ref a] ∧ SqL K H a (ns.map V.int) ∧ ns.length ≤ 63 ∧ Tb T.tabs H ∧ ∀ H', Q (.bl true) H'
theorem ok_law (T : Tx K mg) (B : Tbs T base) {f : Addr} {fd : FuncData} (F : Fun K "law" "law" s_law f fd) : FnOk P w K mg base CX0 (10) f fd ["_law_script"] (spLaw T) := by
  have G_l_purse : FnOk P w K mg base CX0 _ _ _ _ _ := ok_purse T
  have G_l_spans : FnOk P w K mg base CX0 _ _ _ _ _ := ok_spans T
  have G_l_cover : FnOk P w K mg base CX0 _ _ _ _ _ := ok_cover T
  have G_l_kept_places : FnOk P w K mg base CX0 _ _ _ _ _ := ok_kept_places T
  have G_l_told : FnOk P w K mg base CX0 _ _ _ _ _ := ok_told T B
  have G_l_pairs : FnOk P w K mg base CX0 _ _ _ _ _ := ok_pairs T
  have G_held : FnOk P w K mg base (L2.CX P w) _ _ _ _ _ := ok_held T B
  refine F.ok sc_law (fun vs H Q E h => ?_) (fun cdv A outer s H vs Q E hr h => ?_)
  · obtain ⟨a, ns, rfl, _⟩ := h
    rfl
  · obtain ⟨a, ns, rfl, hS, hlen, tb, q⟩ := h
    refine ⟨_, (pss_cons (ps_set (i := 1) sc_law.nd rfl (Or.inl rfl) (pe_call G_l_purse (hr.mono (by decide)) (by rfl) T.g_l_purse T.F_l_purse.kp T.b_l_purse .nil pass0 (pa_cons (pv 0) (pa_cons pe_int pa_nil))))
      (pss_cons (ps_set (i := 2) sc_law.nd rfl (Or.inl rfl) (pe_lst pa_nil))
      (pss_cons (ps_set (i := 3) sc_law.nd rfl (Or.inl rfl) (pe_lst (pa_cons (pe_call G_l_cover (hr.mono (by decide)) (by rfl) T.g_l_cover T.F_l_cover.kp T.b_l_cover .nil pass0 (pa_cons (pe_call G_l_spans (hr.mono (by decide)) (by rfl) T.g_l_spans T.F_l_spans.kp T.b_l_spans .nil pass0 (pa_cons (pv 1) (pa_cons (pv 2) (pa_cons pe_int pa_nil)))) pa_nil)) (pa_cons (pe_call G_l_cover (hr.mono (by decide)) (by rfl) T.g_l_cover T.F_l_cover.kp T.b_l_cover .nil pass0 (pa_cons (pe_call G_l_spans (hr.mono (by decide)) (by rfl) T.g_l_spans T.F_l_spans.kp T.b_l_spans .nil pass0 (pa_cons (pv 1) (pa_cons (pv 2) (pa_cons pe_int pa_nil)))) pa_nil)) pa_nil))))
      (pss_cons (ps_for PassesOwn.never (by rfl) (pi_list (pv 3)) (pg_name (i := 4) sc_law.nd rfl (Or.inl rfl))
        (pss_cons (ps_if (pt_cmpR op_ne (pe_call G_held (hr.mono (by decide)) (by rfl) T.g_held T.F_held.kp T.b_held .nil passL (pa_cons (pv 4) pa_nil)) (pe_callB (cr_sum rfl) (by rfl) T.m_sum (by decide +kernel) (pa_cons (pe_lc (own := [("_law_low", 10), ("_law_high", 11)]) (g := (gTup K 2 (gCons (gName 10) (gCons (gName 11) gNil)))) (by rfl) sc_law.nd (pi_list (pv 4)) (blkOk_by (own := [("_law_low", 10), ("_law_high", 11)]) (N := N_law) (sc := defScope s_law) (by decide +kernel)) (fun _ _ _ _ _ => (by exact (pg_tup rfl (pgs_cons (pg_name (i := 10) sc_law.nd rfl (Or.inl rfl)) (pgs_cons (pg_name (i := 11) sc_law.nd rfl (Or.inl rfl)) pgs_nil))))) (fun _ _ _ _ _ => pts_nil) (fun _ _ _ _ _ => (pe_op op_sub (pv 11) (pv 10)))) pa_nil)) (nomark _)) (pss_one (ps_ret pe_bl)) pss_nil)
      (pss_one (ps_for PassesOwn.never (by rfl) (pi_list (pv 3)) (pg_name (i := 5) sc_law.nd rfl (Or.inl rfl))
        (pss_one (ps_for PassesOwn.never (by rfl) (pi_range1 (by rfl) T.m_range (pa_cons pe_int pa_nil)) (pg_name (i := 6) sc_law.nd rfl (Or.inl rfl))
        (pss_cons (ps_set (i := 7) sc_law.nd rfl (Or.inl rfl) (pe_lst (pa_cons (pe_callTy call_list_of (by rfl) T.m_list (by decide +kernel) (pa_cons (pv 4) pa_nil)) (pa_cons (pe_callTy call_list_of (by rfl) T.m_list (by decide +kernel) (pa_cons (pv 5) pa_nil)) pa_nil))))
      (pss_cons (ps_set (i := 8) sc_law.nd rfl (Or.inl rfl) (pe_call G_l_kept_places (hr.mono (by decide)) (by rfl) T.g_l_kept_places T.F_l_kept_places.kp T.b_l_kept_places .nil pass0 (pa_cons (pe_ix ix_list (pv 7) pe_int (fun _ _ => rfl)) (pa_cons (pe_ix ix_list (pv 7) pe_int (fun _ _ => rfl)) (pa_cons (pv 6) pa_nil)))))
      (pss_cons (ps_set (i := 9) sc_law.nd rfl (Or.inl rfl) (pe_call G_l_told (hr.mono (by decide)) (by rfl) T.g_l_told T.F_l_told.kp T.b_l_told .nil pass0 (pa_cons (pv 6) (pa_cons (pv 4) (pa_cons (pv 5) pa_nil)))))
      (pss_cons (ps_if (PW.pt (pw_or (pt_cmpR (op_neD hr.units) (pv 9) (pv 8) (nomark _)) (pw_or (pt_not (pt_val (pe_call G_l_pairs (hr.mono (by decide)) (by rfl) T.g_l_pairs T.F_l_pairs.kp T.b_l_pairs .nil pass0 (pa_cons (pv 9) pa_nil)))) (pw_or1 (pt_cmpR (op_neD hr.units) (pe_lst (pa_cons (pv 4) (pa_cons (pv 5) pa_nil))) (pv 7) (nomark _)))))) (pss_one (ps_ret pe_bl)) pss_nil)
      (pss_cons (ps_expr (pe_bm PySem.F.plainAttrs_list PySem.F.slot_list_append PySem.F.type_list_append mt_append (pv 9) (pa_cons (pe_tup (pa_cons pe_int (pa_cons pe_int pa_nil))) pa_nil)))
      (pss_one (ps_if (PW.pt (pw_or (pt_cmpR (op_neD hr.units) (pe_call G_l_told (hr.mono (by decide)) (by rfl) T.g_l_told T.F_l_told.kp T.b_l_told .nil pass0 (pa_cons (pv 6) (pa_cons (pv 4) (pa_cons (pv 5) pa_nil)))) (pv 8) (nomark _)) (pw_or1 (pt_cmpR (op_neD hr.units) (pe_lst (pa_cons (pv 4) (pa_cons (pv 5) pa_nil))) (pv 7) (nomark _))))) (pss_one (ps_ret pe_bl)) pss_nil)))))))))))))
      (pss_one (ps_ret pe_bl)))))), ?_⟩
    refine ⟨_, rfl, a, ns, 0, rfl, hS, by decide, by decide, fun H1 p s1 np p1 => ?_⟩
    have tb1 := tb.same s1
    have pT : p ∉ T.tabs := tb.new np
    refine ⟨Nat.zero_le _, fun e ne => ?_⟩
    obtain ⟨ge, s2⟩ := upd_at (o := .lst []) ne
    have eT : e ∉ T.tabs := tb1.new ne
    have tb2 := tb1.same s2
    have nep : e ≠ p := (p1.ne ne).symm
    have out : ∀ P ∈ T.tabs, P ∉ [p, e] := fun P hP => nmem2 (fun z => pT (z ▸ hP)) (fun z => eT (z ▸ hP))
    refine ⟨_, rfl, _, rfl, p, e, 10, 63000, [], rfl, p1.same s2, by decide, ge, nep, by decide, by decide, fun H3 l us ss zs c3 p3 he3 hz nl hl hss ok sl => ?_⟩
    have tb3 : Tb T.tabs H3 := tb2.chg c3 out
    refine ⟨l, us, ss, rfl, hl, hss, few_of (by omega), ok, fun H4 d ds c s4 nd hd hc can mem cl => ?_⟩
    have tb4 := tb3.same s4
    have zl : zs.length ≤ 20 := hz
    refine ⟨_, rfl, _, rfl, p, e, 10, 63213, zs, rfl, (p3.same s4).mono (by decide), by decide, s4 _ _ he3, nep, by omega, by decide, fun H5 l' us' ss' zs' c5 p5 he5 hz' nl' hl' hss' ok' sl' => ?_⟩
    have tb5 : Tb T.tabs H5 := tb4.chg c5 out
    have lp4 : Lsts [p, e] H4 := (p3.same s4).lsts.two (Lsts.of1 (s4 _ _ he3))
    have ndp : d ≠ p := (p3.ne nd).symm
    have nde : d ≠ e := (ne_of_none he3 nd).symm
    have hd5 := c5 _ _ (nmem2 ndp nde) hd
    have hc5 := hc.chg c5 lp4
    refine ⟨l', us', ss', rfl, hl', hss', few_of (by omega), ok', fun H6 d' ds' c' s6 nd' hd' hc' can' mem' cl' => ?_⟩
    have tb6 := tb5.same s6
    have cok : ∀ s ∈ c, isSpan s = true := can_spans can (fun x => (mem x).mp) ok
    have cok' : ∀ s ∈ c', isSpan s = true := can_spans can' (fun x => (mem' x).mp) ok'
    refine ⟨small_le (by simp), fun L nL => ?_⟩
    obtain ⟨gL, sL⟩ := upd_at (o := .lst [.ref d, .ref d']) nL
    have s67 := s6.trans sL
    have two : ∀ (i : Nat) (y : V), ([.ref d, .ref d'] : List V)[i]? = some y → ∃ x xs cx, y = .ref x ∧ (upd H6 L (.lst [.ref d, .ref d'])) x = some (.lst xs) ∧ Sps (upd H6 L (.lst [.ref d, .ref d'])) xs cx ∧ Can cx ∧ (∀ s ∈ cx, isSpan s = true) ∧ cx.length ≤ 10 := fun i y e => by
      rcases i with _ | _ | i
      · exact ⟨d, ds, c, (Option.some.inj e).symm, s67 _ _ hd5, hc5.same s67, can, cok, by omega⟩
      · exact ⟨d', ds', c', (Option.some.inj e).symm, sL _ _ hd', hc'.same sL, can', cok', by omega⟩
      · simp at e
    have tb7 := tb6.same sL
    revert two tb7 gL
    generalize upd H6 L (.lst [.ref d, .ref d']) = H7
    intro gL two tb7
    have LT := tb7.out gL (fun ps z => by cases z)
    refine ⟨_, rfl, L, rfl, ⟨_, SqL.of gL⟩, for_list (K := K) (a := L) (xs := [.ref d, .ref d']) (fun i σ H' => ∃ y4 y5 y6 y7 y8 y9, σ = [some (.ref a), some (.ref p), some (.ref e), some (.ref L), y4, y5, y6, y7, y8, y9, none, none] ∧ Chg T.tabs H7 H' ∧ Tb T.tabs H') ⟨none, none, none, none, none, none, rfl, Chg.refl _ _, tb7⟩ (fun i σ H' _ ⟨_, _, _, _, _, _, _, cc, _⟩ => SqL.of (cc _ _ LT gL)) ?_ ?_⟩
    · rintro i v σ H' hi ⟨y4, y5, y6, y7, y8, y9, rfl, cc, tb'⟩
      obtain ⟨x, xs, cx, rfl, hx, hcx, canx, okx, lx⟩ := two i v hi
      have xT := tb7.out hx (fun ps z => by cases z)
      have xok : cx.all isSpan = true := List.all_eq_true.mpr okx
      have xcov : isCoverB cx = true := cover_can canx (by omega)
      have x0 := ref1_ok xok xcov
      have hx8 := cc _ _ xT hx
      have hcx8 := hcx.chg cc tb7.lsts
      -- held
      refine ⟨_, rfl, x, xs, cx, rfl, hx8, hcx8, tb', fun _ _ H8 c8 tb8 => ?_, fun z => ?_, fun _ z => ?_⟩
      case refine_2 =>
        rw [xok] at z
        cases z
      case refine_3 =>
        rw [xcov] at z
        cases z
      have hx9 := c8 _ _ xT hx8
      have hcx9 := hcx8.chg c8 tb'.lsts
      refine ⟨_, rfl, x, rfl, ⟨_, SqL.of hx9⟩, fun D nD => ?_⟩
      refine lc_list (K := K) (a := x) (xs := xs) (fun j H' => Same H8 H' ∧ H' D = some (.lst (((cx.take j).map fun s => s.2 - s.1).map V.int))) ⟨same_upd nD, upd_same⟩ (fun j H' _ h => SqL.of (h.1 _ _ hx9)) ?_ ?_
      · rintro j v H' hj ⟨sm, hD⟩
        obtain ⟨sp, es, hsp⟩ := hcx9.get hj
        obtain ⟨t, rfl, ht⟩ := hsp.same sm
        refine ⟨t, _, rfl, SqT.of ht, rfl, _, _, rfl, _, _, rfl, rfl, rfl, ?_⟩
        unfold tYes
        refine iteT ⟨_, rfl, _, rfl, _, _, rfl, rfl, _, hD, small_lt ?_, same_more sm nD, ?_⟩
        · rw [List.length_map, List.length_map, List.length_take]
          omega
        · rw [upd_same, List.take_add_one, es, List.map_append, List.map_append]
          rfl
      · rintro H10 ⟨s10, hD⟩
        rw [hcx9.len, List.take_length] at hD
        have tb10 := tb8.same s10
        refine ⟨D, _, rfl, SqL.of hD, ?_⟩
        rw [sum_list]
        refine ⟨rfl, _, rfl, iteNS rfl ?_⟩
        have cc10 : Chg T.tabs H7 H10 := cc.trans (c8.trans (Chg.of_same s10))
        -- the other
        refine ⟨_, rfl, L, rfl, ⟨_, SqL.of (cc10 _ _ LT gL)⟩, for_list (K := K) (a := L) (xs := [.ref d, .ref d']) (fun i σ H' => ∃ y5 y6 y7 y8 y9, σ = [some (.ref a), some (.ref p), some (.ref e), some (.ref L), some (.ref x), y5, y6, y7, y8, y9, none, none] ∧ Chg T.tabs H7 H' ∧ Tb T.tabs H') ⟨_, _, _, _, _, rfl, cc10, tb10⟩ (fun i σ H' _ ⟨_, _, _, _, _, _, cc, _⟩ => SqL.of (cc _ _ LT gL)) ?_ ?_⟩
        · rintro i2 v σ H' hi2 ⟨z5, z6, z7, z8, z9, rfl, cc, tb'⟩
          obtain ⟨y, ys, cy, rfl, hy, hcy, cany, oky, ly⟩ := two i2 v hi2
          have yT := tb7.out hy (fun ps z => by cases z)
          have y0 := ref1_ok (List.all_eq_true.mpr oky) (cover_can cany (by omega))
          refine ⟨_, rfl, by decide, by decide, ?_⟩
          refine for_range (lo := 0) (n := (3 : Int).toNat) (fun i σ H' => ∃ y6 y7 y8 y9, σ = [some (.ref a), some (.ref p), some (.ref e), some (.ref L), some (.ref x), some (.ref y), y6, y7, y8, y9, none, none] ∧ Chg T.tabs H7 H' ∧ Tb T.tabs H') ⟨_, _, _, _, rfl, cc, tb'⟩ ?_ ?_
          · rintro m σ H' hm ⟨z6, z7, z8, z9, rfl, cc, tb'⟩
            have hm : m < 3 := hm
            rw [Int.zero_add]
            have hx' := cc _ _ xT hx
            have hy' := cc _ _ yT hy
            have hcx' := hcx.chg cc tb7.lsts
            have hcy' := hcy.chg cc tb7.lsts
            -- kept
            refine ⟨_, rfl, x, xs, rfl, .inl (SqL.of hx'), fun k1 n1 => ?_⟩
            obtain ⟨g1, s1⟩ := upd_at (o := .lst xs) n1
            refine ⟨_, rfl, y, ys, rfl, .inl (SqL.of (s1 _ _ hy')), fun k2 n2 => ?_⟩
            obtain ⟨g2, s2⟩ := upd_at (o := .lst ys) n2
            refine ⟨small_le (by simp), fun kk nk => ?_⟩
            obtain ⟨gk, sk⟩ := upd_at (o := .lst [.ref k1, .ref k2]) nk
            have a1 := (s1.trans s2).trans sk
            have gk1 := (s2.trans sk) _ _ g1
            have gk2 := sk _ _ g2
            have ak1 := hcx'.same a1
            have ak2 := hcy'.same a1
            have tbA := tb'.same a1
            revert gk gk1 gk2 a1 ak1 ak2 tbA
            generalize upd (upd (upd H' k1 (.lst xs)) k2 (.lst ys)) kk (.lst [.ref k1, .ref k2]) = HA
            intro gk a1 gk1 gk2 ak1 ak2 tbA
            -- due
            refine ⟨_, rfl, kk, _, _, _, rfl, rfl, SqL.of gk, atI_nat (j := 0) rfl, _, rfl, kk, _, _, _, rfl, rfl, SqL.of gk, atI_nat (j := 1) rfl, _, rfl, k1, k2, m, xs, ys, cx, cy, rfl, hm, gk1, ak1, gk2, ak2, lx, ly, okx, oky, fun H2 d2 es2 c2 sd nd2 hd2 hc2 can2 mem2 => ?_⟩
            have a2 := a1.trans sd
            have tbB := tbA.same sd
            -- found
            refine ⟨_, rfl, _, rfl, _, rfl, m, x, y, xs, ys, cx, cy, rfl, hm, ⟨a2 _ _ hx', hcx'.same a2, a2 _ _ hy', hcy'.same a2, tbB⟩, x0, y0, fun H3 g gs c' c3 tb3 ng hg hgs canF okF memF clF => ?_⟩
            have ec : c' = c2 := can_ext canF can2 fun z => (memF z).trans (mem2 z).symm
            subst ec
            have nin : ∀ b o, b ∉ T.tabs → H2 b = some o → b ∉ g :: T.tabs := fun b o nb hb z => by
              rcases List.mem_cons.mp z with e | e
              · rw [e, ng] at hb
                cases hb
              · exact nb e
            have lsts : Lsts (g :: T.tabs) H2 := fun b hb us z => by
              rcases List.mem_cons.mp hb with e | e
              · rw [e, ng] at z
                cases z
              · exact tbB.lsts b e us z
            have isl : ∀ {b : Addr} {us : List V}, H2 b = some (.lst us) → b ∉ g :: T.tabs := fun {b us} hb => nin b _ (tbB.out hb (fun ps z => by cases z)) hb
            have fix : ∀ Hx, Chg (g :: T.tabs) H2 Hx → Hx x = some (.lst xs) ∧ Sps Hx xs cx ∧ Hx y = some (.lst ys) ∧ Sps Hx ys cy ∧ Hx k1 = some (.lst xs) ∧ Hx k2 = some (.lst ys) ∧ Hx kk = some (.lst [.ref k1, .ref k2]) ∧ Hx d2 = some (.lst es2) ∧ Sps Hx es2 c' := fun Hx ch =>
              ⟨ch _ _ (isl (a2 _ _ hx')) (a2 _ _ hx'), (hcx'.same a2).chg ch lsts, ch _ _ (isl (a2 _ _ hy')) (a2 _ _ hy'), (hcy'.same a2).chg ch lsts, ch _ _ (isl (sd _ _ gk1)) (sd _ _ gk1), ch _ _ (isl (sd _ _ gk2)) (sd _ _ gk2), ch _ _ (isl (sd _ _ gk)) (sd _ _ gk), ch _ _ (isl hd2) hd2, hc2.chg ch lsts⟩
            have up : ∀ {X Y : Hp}, Chg T.tabs X Y → Chg (g :: T.tabs) X Y := fun c => c.mono fun b hb => List.mem_cons_of_mem _ hb
            have f3 := up c3
            obtain ⟨_, _, _, _, _, _, _, hd3, hc3⟩ := fix H3 f3
            refine ⟨_, rfl, _, rfl, _, _, hgs.dp (SqL.of hg), hc3.dp (SqL.of hd3), shaped_spans _, shaped_spans _, _, rfl, ?_⟩
            rw [eqv_spans, decide_eq_true rfl]
            refine iteF ?_
            refine ⟨_, rfl, g, gs, _, rfl, hg, hgs, fun H4 s4 => ⟨true, rfl, iteF ?_⟩⟩
            refine ⟨_, rfl, _, rfl, small_le (by simp), fun L4 n4 => ?_⟩
            obtain ⟨g4, s5⟩ := upd_at (o := .lst [.ref x, .ref y]) n4
            have s45 := s4.trans s5
            have f4 := f3.trans (Chg.of_same (L := g :: T.tabs) s45)
            obtain ⟨q1, q2, q3, q4, q5, q6, q7, _, _⟩ := fix _ f4
            refine ⟨_, rfl, _, _, dp_two g4 q1 q2 q3 q4, dp_two q7 q5 q2 q6 q4, shaped_two _ _, shaped_two _ _, _, rfl, ?_⟩
            rw [eqv_two]
            refine iteF ?_
            -- what was told is changed
            have hg5 := s45 _ _ hg
            refine ⟨_, rfl, .inl ⟨rfl, _, SqL.of hg5⟩, (by show 2 ≤ sizeLine; decide), fun t nt => ?_⟩
            obtain ⟨gt, st⟩ := upd_at (o := .tup [.int 5, .int 6]) nt
            have gl := hgs.len
            refine ⟨g, gs, .ref t, rfl, rfl, st _ _ hg5, small_lt (by omega), ?_⟩
            have f6 := f4.trans ((Chg.of_same (L := g :: T.tabs) st).trans (Chg.upd (H := upd (upd H4 L4 (.lst [.ref x, .ref y])) t (.tup [.int 5, .int 6])) (o := .lst (gs ++ [.ref t])) (List.mem_cons_self (a := g) (l := T.tabs))))
            have gT : g ∉ T.tabs := tb3.out hg (fun ps z => by cases z)
            have tb6 : Tb T.tabs (upd (upd (upd H4 L4 (.lst [.ref x, .ref y])) t (.tup [.int 5, .int 6])) g (.lst (gs ++ [.ref t]))) := (((tb3.same s45)).same st).chg (L := [g]) (Chg.upd List.mem_cons_self) fun P hP => nmem1 fun z => gT (z ▸ hP)
            revert f6 tb6
            generalize upd (upd (upd H4 L4 (.lst [.ref x, .ref y])) t (.tup [.int 5, .int 6])) g (.lst (gs ++ [.ref t])) = HB
            intro f6 tb6
            obtain ⟨r1, r2, r3, r4, _, _, _, _, _⟩ := fix _ f6
            refine ⟨_, rfl, _, rfl, _, rfl, m, x, y, xs, ys, cx, cy, rfl, hm, ⟨r1, r2, r3, r4, tb6⟩, x0, y0, fun H9 g9 gs9 c9 ch9 tb9 ng9 hg9 hgs9 can9 ok9 mem9 cl9 => ?_⟩
            have ec : c9 = c' := can_ext can9 can2 fun z => (mem9 z).trans (mem2 z).symm
            subst ec
            have f9 := f6.trans (up ch9)
            obtain ⟨_, _, _, _, _, _, _, hd9, hc9⟩ := fix _ f9
            refine ⟨_, rfl, _, _, hgs9.dp (SqL.of hg9), hc9.dp (SqL.of hd9), shaped_spans _, shaped_spans _, _, rfl, ?_⟩
            rw [eqv_spans, decide_eq_true rfl]
            refine iteF ?_
            refine ⟨_, rfl, _, rfl, small_le (by simp), fun L9 n9 => ?_⟩
            obtain ⟨g10, s10⟩ := upd_at (o := .lst [.ref x, .ref y]) n9
            have f10 := f9.trans (Chg.of_same (L := g :: T.tabs) s10)
            obtain ⟨q1, q2, q3, q4, q5, q6, q7, _, _⟩ := fix _ f10
            refine ⟨_, rfl, _, _, dp_two g10 q1 q2 q3 q4, dp_two q7 q5 q2 q6 q4, shaped_two _ _, shaped_two _ _, _, rfl, ?_⟩
            rw [eqv_two]
            refine iteF ⟨_, _, _, _, rfl, fun b o nb hb => ?_, tb9.same s10⟩
            have h1 := a2 _ _ (cc _ _ nb hb)
            exact f10 _ _ (nin b o nb h1) h1
          · rintro σ H' ⟨z6, z7, z8, z9, rfl, cc, tb'⟩
            exact ⟨_, _, _, _, _, rfl, cc, tb'⟩
        · rintro σ H' ⟨z5, z6, z7, z8, z9, rfl, cc, tb'⟩
          exact ⟨_, _, _, _, _, _, rfl, cc, tb'⟩
    · rintro σ H' ⟨y4, y5, y6, y7, y8, y9, rfl, cc, tb'⟩
      exact q _
end
theorem all_mk {l : PySem.W.OpenLaw} {w : World} {K : PySem.W.Frag} {h : Heap} {mg : Str → Option Value} {fa : Addr} (X : K.In h) (G : h.Ns mainGlobals mg) (hfa : mg "law" = some (.ref fa))
    {f_is_whole : Addr} {od_is_whole an_is_whole : Option Addr} {sl_is_whole : Array (Option Value)} {oc_is_whole kV_is_whole dc_is_whole pm_is_whole cd_is_whole ct_is_whole : Value}
    {f_is_place : Addr} {od_is_place an_is_place : Option Addr} {sl_is_place : Array (Option Value)} {oc_is_place kV_is_place dc_is_place pm_is_place cd_is_place ct_is_place : Value}
    {f_is_span : Addr} {od_is_span an_is_span : Option Addr} {sl_is_span : Array (Option Value)} {oc_is_span kV_is_span dc_is_span pm_is_span cd_is_span ct_is_span : Value}
    {f_check_span : Addr} {od_check_span an_check_span : Option Addr} {sl_check_span : Array (Option Value)} {oc_check_span kV_check_span dc_check_span pm_check_span cd_check_span ct_check_span : Value}
    {f_check_spans : Addr} {od_check_spans an_check_spans : Option Addr} {sl_check_spans : Array (Option Value)} {oc_check_spans kV_check_spans dc_check_spans pm_check_spans cd_check_spans ct_check_spans : Value}
    {f_is_cover : Addr} {od_is_cover an_is_cover : Option Addr} {sl_is_cover : Array (Option Value)} {oc_is_cover kV_is_cover dc_is_cover pm_is_cover ct_is_cover ec_is_cover : Value} {cA_is_cover pA_is_cover : Addr} {dd_is_cover : Option Addr} {vc_is_cover : Array Value} {sc_t_is_cover : Array (Option Value)}
    {f_check_cover : Addr} {od_check_cover an_check_cover : Option Addr} {sl_check_cover : Array (Option Value)} {oc_check_cover kV_check_cover dc_check_cover pm_check_cover cd_check_cover ct_check_cover : Value}
    {f_check_covers : Addr} {od_check_covers an_check_covers : Option Addr} {sl_check_covers : Array (Option Value)} {oc_check_covers kV_check_covers dc_check_covers pm_check_covers cd_check_covers ct_check_covers : Value}
    {f_joined : Addr} {od_joined an_joined : Option Addr} {sl_joined : Array (Option Value)} {oc_joined kV_joined dc_joined pm_joined cd_joined ct_joined : Value}
    {f_common : Addr} {od_common an_common : Option Addr} {sl_common : Array (Option Value)} {oc_common kV_common dc_common pm_common cd_common ct_common : Value}
    {f_gaps_of : Addr} {od_gaps_of an_gaps_of : Option Addr} {sl_gaps_of : Array (Option Value)} {oc_gaps_of kV_gaps_of dc_gaps_of pm_gaps_of cd_gaps_of ct_gaps_of : Value}
    {f_both : Addr} {od_both an_both : Option Addr} {sl_both : Array (Option Value)} {oc_both kV_both dc_both pm_both cd_both ct_both : Value}
    {f_either : Addr} {od_either an_either : Option Addr} {sl_either : Array (Option Value)} {oc_either kV_either dc_either pm_either cd_either ct_either : Value}
    {f_less : Addr} {od_less an_less : Option Addr} {sl_less : Array (Option Value)} {oc_less kV_less dc_less pm_less cd_less ct_less : Value}
    {f_held : Addr} {od_held an_held : Option Addr} {sl_held : Array (Option Value)} {oc_held kV_held dc_held pm_held ct_held ec_held : Value} {cA_held pA_held : Addr} {dd_held : Option Addr} {vc_held : Array Value} {sc_t_held : Array (Option Value)}
    {f_l_at : Addr} {od_l_at an_l_at : Option Addr} {sl_l_at : Array (Option Value)} {oc_l_at kV_l_at dc_l_at pm_l_at cd_l_at ct_l_at : Value}
    {f_l_mixed : Addr} {od_l_mixed an_l_mixed : Option Addr} {sl_l_mixed : Array (Option Value)} {oc_l_mixed kV_l_mixed dc_l_mixed pm_l_mixed cd_l_mixed ct_l_mixed : Value}
    {f_l_purse : Addr} {od_l_purse an_l_purse : Option Addr} {sl_l_purse : Array (Option Value)} {oc_l_purse kV_l_purse dc_l_purse pm_l_purse cd_l_purse ct_l_purse : Value}
    {f_l_draw : Addr} {od_l_draw an_l_draw : Option Addr} {sl_l_draw : Array (Option Value)} {oc_l_draw kV_l_draw dc_l_draw pm_l_draw cd_l_draw ct_l_draw : Value}
    {f_l_number : Addr} {od_l_number an_l_number : Option Addr} {sl_l_number : Array (Option Value)} {oc_l_number kV_l_number dc_l_number pm_l_number cd_l_number ct_l_number : Value}
    {f_l_end : Addr} {od_l_end an_l_end : Option Addr} {sl_l_end : Array (Option Value)} {oc_l_end kV_l_end dc_l_end pm_l_end cd_l_end ct_l_end : Value}
    {f_l_span : Addr} {od_l_span an_l_span : Option Addr} {sl_l_span : Array (Option Value)} {oc_l_span kV_l_span dc_l_span pm_l_span cd_l_span ct_l_span : Value}
    {f_l_spans : Addr} {od_l_spans an_l_spans : Option Addr} {sl_l_spans : Array (Option Value)} {oc_l_spans kV_l_spans dc_l_spans pm_l_spans cd_l_spans ct_l_spans : Value}
    {f_l_holds : Addr} {od_l_holds an_l_holds : Option Addr} {sl_l_holds : Array (Option Value)} {oc_l_holds kV_l_holds dc_l_holds pm_l_holds cd_l_holds ct_l_holds : Value}
    {f_l_depth : Addr} {od_l_depth an_l_depth : Option Addr} {sl_l_depth : Array (Option Value)} {oc_l_depth kV_l_depth dc_l_depth pm_l_depth cd_l_depth ct_l_depth : Value}
    {f_l_ends : Addr} {od_l_ends an_l_ends : Option Addr} {sl_l_ends : Array (Option Value)} {oc_l_ends kV_l_ends dc_l_ends pm_l_ends cd_l_ends ct_l_ends : Value}
    {f_l_cover : Addr} {od_l_cover an_l_cover : Option Addr} {sl_l_cover : Array (Option Value)} {oc_l_cover kV_l_cover dc_l_cover pm_l_cover cd_l_cover ct_l_cover : Value}
    {f_l_whole : Addr} {od_l_whole an_l_whole : Option Addr} {sl_l_whole : Array (Option Value)} {oc_l_whole kV_l_whole dc_l_whole pm_l_whole cd_l_whole ct_l_whole : Value}
    {f_l_wholes : Addr} {od_l_wholes an_l_wholes : Option Addr} {sl_l_wholes : Array (Option Value)} {oc_l_wholes kV_l_wholes dc_l_wholes pm_l_wholes cd_l_wholes ct_l_wholes : Value}
    {f_l_pairs : Addr} {od_l_pairs an_l_pairs : Option Addr} {sl_l_pairs : Array (Option Value)} {oc_l_pairs kV_l_pairs dc_l_pairs pm_l_pairs cd_l_pairs ct_l_pairs : Value}
    {f_l_in : Addr} {od_l_in an_l_in : Option Addr} {sl_l_in : Array (Option Value)} {oc_l_in kV_l_in dc_l_in pm_l_in cd_l_in ct_l_in : Value}
    {f_l_kept_places : Addr} {od_l_kept_places an_l_kept_places : Option Addr} {sl_l_kept_places : Array (Option Value)} {oc_l_kept_places kV_l_kept_places dc_l_kept_places pm_l_kept_places cd_l_kept_places ct_l_kept_places : Value}
    {f_l_told : Addr} {od_l_told an_l_told : Option Addr} {sl_l_told : Array (Option Value)} {oc_l_told kV_l_told dc_l_told pm_l_told cd_l_told ct_l_told : Value}
    {f_law : Addr} {od_law an_law : Option Addr} {sl_law : Array (Option Value)} {oc_law kV_law dc_law pm_law cd_law ct_law : Value}
    {tc_LEAST_PLACE : Tok}
    {tc_GREATEST_PLACE : Tok}
    {tc_MOST_SPANS : Tok}
    {C_ShelfError : Addr}
    {C_NoSpan : Addr}
    {C_NoCover : Addr}
    (a_is_whole : PySem.W.nsIn K mainGlobals "is_whole" = some (some (.ref f_is_whole)))
    (l_is_whole : K.lookup f_is_whole = some ⟨oc_is_whole, od_is_whole, .func (PySem.W.fnOf "is_whole" "is_whole" (defArgs s_is_whole) (defBody s_is_whole) (defScope s_is_whole) .none kV_is_whole dc_is_whole pm_is_whole an_is_whole cd_is_whole ct_is_whole), sl_is_whole⟩)
    (c_is_whole : PySem.W.codeIn K cd_is_whole "is_whole" = true)
    (k_is_whole : PySem.W.keepIn K (.ref f_is_whole) = true)
    (a_is_place : PySem.W.nsIn K mainGlobals "is_place" = some (some (.ref f_is_place)))
    (l_is_place : K.lookup f_is_place = some ⟨oc_is_place, od_is_place, .func (PySem.W.fnOf "is_place" "is_place" (defArgs s_is_place) (defBody s_is_place) (defScope s_is_place) .none kV_is_place dc_is_place pm_is_place an_is_place cd_is_place ct_is_place), sl_is_place⟩)
    (c_is_place : PySem.W.codeIn K cd_is_place "is_place" = true)
    (k_is_place : PySem.W.keepIn K (.ref f_is_place) = true)
    (a_is_span : PySem.W.nsIn K mainGlobals "is_span" = some (some (.ref f_is_span)))
    (l_is_span : K.lookup f_is_span = some ⟨oc_is_span, od_is_span, .func (PySem.W.fnOf "is_span" "is_span" (defArgs s_is_span) (defBody s_is_span) (defScope s_is_span) .none kV_is_span dc_is_span pm_is_span an_is_span cd_is_span ct_is_span), sl_is_span⟩)
    (c_is_span : PySem.W.codeIn K cd_is_span "is_span" = true)
    (k_is_span : PySem.W.keepIn K (.ref f_is_span) = true)
    (a_check_span : PySem.W.nsIn K mainGlobals "check_span" = some (some (.ref f_check_span)))
    (l_check_span : K.lookup f_check_span = some ⟨oc_check_span, od_check_span, .func (PySem.W.fnOf "check_span" "check_span" (defArgs s_check_span) (defBody s_check_span) (defScope s_check_span) .none kV_check_span dc_check_span pm_check_span an_check_span cd_check_span ct_check_span), sl_check_span⟩)
    (c_check_span : PySem.W.codeIn K cd_check_span "check_span" = true)
    (k_check_span : PySem.W.keepIn K (.ref f_check_span) = true)
    (a_check_spans : PySem.W.nsIn K mainGlobals "check_spans" = some (some (.ref f_check_spans)))
    (l_check_spans : K.lookup f_check_spans = some ⟨oc_check_spans, od_check_spans, .func (PySem.W.fnOf "check_spans" "check_spans" (defArgs s_check_spans) (defBody s_check_spans) (defScope s_check_spans) .none kV_check_spans dc_check_spans pm_check_spans an_check_spans cd_check_spans ct_check_spans), sl_check_spans⟩)
    (c_check_spans : PySem.W.codeIn K cd_check_spans "check_spans" = true)
    (k_check_spans : PySem.W.keepIn K (.ref f_check_spans) = true)
    (a_is_cover : PySem.W.nsIn K mainGlobals "is_cover" = some (some (.ref f_is_cover)))
    (l_is_cover : K.lookup f_is_cover = some ⟨oc_is_cover, od_is_cover, .func (PySem.W.fnOf "is_cover" "is_cover" (defArgs s_is_cover) (defBody s_is_cover) (defScope s_is_cover) .none kV_is_cover dc_is_cover pm_is_cover an_is_cover (.ref cA_is_cover) ct_is_cover), sl_is_cover⟩)
    (c_is_cover : PySem.W.codeIn K (.ref cA_is_cover) "is_cover" = true)
    (k_is_cover : PySem.W.keepIn K (.ref f_is_cover) = true)
    (y1_is_cover : K.lookup cA_is_cover = some ⟨ec_is_cover, dd_is_cover, .fields vc_is_cover, sc_t_is_cover⟩)
    (y2_is_cover : vc_is_cover[11]? = some (.ref pA_is_cover))
    (y3_is_cover : K.lookup pA_is_cover = none)
    (a_check_cover : PySem.W.nsIn K mainGlobals "check_cover" = some (some (.ref f_check_cover)))
    (l_check_cover : K.lookup f_check_cover = some ⟨oc_check_cover, od_check_cover, .func (PySem.W.fnOf "check_cover" "check_cover" (defArgs s_check_cover) (defBody s_check_cover) (defScope s_check_cover) .none kV_check_cover dc_check_cover pm_check_cover an_check_cover cd_check_cover ct_check_cover), sl_check_cover⟩)
    (c_check_cover : PySem.W.codeIn K cd_check_cover "check_cover" = true)
    (k_check_cover : PySem.W.keepIn K (.ref f_check_cover) = true)
    (a_check_covers : PySem.W.nsIn K mainGlobals "check_covers" = some (some (.ref f_check_covers)))
    (l_check_covers : K.lookup f_check_covers = some ⟨oc_check_covers, od_check_covers, .func (PySem.W.fnOf "check_covers" "check_covers" (defArgs s_check_covers) (defBody s_check_covers) (defScope s_check_covers) .none kV_check_covers dc_check_covers pm_check_covers an_check_covers cd_check_covers ct_check_covers), sl_check_covers⟩)
    (c_check_covers : PySem.W.codeIn K cd_check_covers "check_covers" = true)
    (k_check_covers : PySem.W.keepIn K (.ref f_check_covers) = true)
    (a_joined : PySem.W.nsIn K mainGlobals "joined" = some (some (.ref f_joined)))
    (l_joined : K.lookup f_joined = some ⟨oc_joined, od_joined, .func (PySem.W.fnOf "joined" "joined" (defArgs s_joined) (defBody s_joined) (defScope s_joined) .none kV_joined dc_joined pm_joined an_joined cd_joined ct_joined), sl_joined⟩)
    (c_joined : PySem.W.codeIn K cd_joined "joined" = true)
    (k_joined : PySem.W.keepIn K (.ref f_joined) = true)
    (a_common : PySem.W.nsIn K mainGlobals "common" = some (some (.ref f_common)))
    (l_common : K.lookup f_common = some ⟨oc_common, od_common, .func (PySem.W.fnOf "common" "common" (defArgs s_common) (defBody s_common) (defScope s_common) .none kV_common dc_common pm_common an_common cd_common ct_common), sl_common⟩)
    (c_common : PySem.W.codeIn K cd_common "common" = true)
    (k_common : PySem.W.keepIn K (.ref f_common) = true)
    (a_gaps_of : PySem.W.nsIn K mainGlobals "gaps_of" = some (some (.ref f_gaps_of)))
    (l_gaps_of : K.lookup f_gaps_of = some ⟨oc_gaps_of, od_gaps_of, .func (PySem.W.fnOf "gaps_of" "gaps_of" (defArgs s_gaps_of) (defBody s_gaps_of) (defScope s_gaps_of) .none kV_gaps_of dc_gaps_of pm_gaps_of an_gaps_of cd_gaps_of ct_gaps_of), sl_gaps_of⟩)
    (c_gaps_of : PySem.W.codeIn K cd_gaps_of "gaps_of" = true)
    (k_gaps_of : PySem.W.keepIn K (.ref f_gaps_of) = true)
    (a_both : PySem.W.nsIn K mainGlobals "both" = some (some (.ref f_both)))
    (l_both : K.lookup f_both = some ⟨oc_both, od_both, .func (PySem.W.fnOf "both" "both" (defArgs s_both) (defBody s_both) (defScope s_both) .none kV_both dc_both pm_both an_both cd_both ct_both), sl_both⟩)
    (c_both : PySem.W.codeIn K cd_both "both" = true)
    (k_both : PySem.W.keepIn K (.ref f_both) = true)
    (a_either : PySem.W.nsIn K mainGlobals "either" = some (some (.ref f_either)))
    (l_either : K.lookup f_either = some ⟨oc_either, od_either, .func (PySem.W.fnOf "either" "either" (defArgs s_either) (defBody s_either) (defScope s_either) .none kV_either dc_either pm_either an_either cd_either ct_either), sl_either⟩)
    (c_either : PySem.W.codeIn K cd_either "either" = true)
    (k_either : PySem.W.keepIn K (.ref f_either) = true)
    (a_less : PySem.W.nsIn K mainGlobals "less" = some (some (.ref f_less)))
    (l_less : K.lookup f_less = some ⟨oc_less, od_less, .func (PySem.W.fnOf "less" "less" (defArgs s_less) (defBody s_less) (defScope s_less) .none kV_less dc_less pm_less an_less cd_less ct_less), sl_less⟩)
    (c_less : PySem.W.codeIn K cd_less "less" = true)
    (k_less : PySem.W.keepIn K (.ref f_less) = true)
    (a_held : PySem.W.nsIn K mainGlobals "held" = some (some (.ref f_held)))
    (l_held : K.lookup f_held = some ⟨oc_held, od_held, .func (PySem.W.fnOf "held" "held" (defArgs s_held) (defBody s_held) (defScope s_held) .none kV_held dc_held pm_held an_held (.ref cA_held) ct_held), sl_held⟩)
    (c_held : PySem.W.codeIn K (.ref cA_held) "held" = true)
    (k_held : PySem.W.keepIn K (.ref f_held) = true)
    (y1_held : K.lookup cA_held = some ⟨ec_held, dd_held, .fields vc_held, sc_t_held⟩)
    (y2_held : vc_held[11]? = some (.ref pA_held))
    (y3_held : K.lookup pA_held = none)
    (a_l_at : PySem.W.nsIn K mainGlobals "_law_at" = some (some (.ref f_l_at)))
    (l_l_at : K.lookup f_l_at = some ⟨oc_l_at, od_l_at, .func (PySem.W.fnOf "_law_at" "_law_at" (defArgs s_l_at) (defBody s_l_at) (defScope s_l_at) .none kV_l_at dc_l_at pm_l_at an_l_at cd_l_at ct_l_at), sl_l_at⟩)
    (c_l_at : PySem.W.codeIn K cd_l_at "_law_at" = true)
    (k_l_at : PySem.W.keepIn K (.ref f_l_at) = true)
    (a_l_mixed : PySem.W.nsIn K mainGlobals "_law_mixed" = some (some (.ref f_l_mixed)))
    (l_l_mixed : K.lookup f_l_mixed = some ⟨oc_l_mixed, od_l_mixed, .func (PySem.W.fnOf "_law_mixed" "_law_mixed" (defArgs s_l_mixed) (defBody s_l_mixed) (defScope s_l_mixed) .none kV_l_mixed dc_l_mixed pm_l_mixed an_l_mixed cd_l_mixed ct_l_mixed), sl_l_mixed⟩)
    (c_l_mixed : PySem.W.codeIn K cd_l_mixed "_law_mixed" = true)
    (k_l_mixed : PySem.W.keepIn K (.ref f_l_mixed) = true)
    (a_l_purse : PySem.W.nsIn K mainGlobals "_law_purse" = some (some (.ref f_l_purse)))
    (l_l_purse : K.lookup f_l_purse = some ⟨oc_l_purse, od_l_purse, .func (PySem.W.fnOf "_law_purse" "_law_purse" (defArgs s_l_purse) (defBody s_l_purse) (defScope s_l_purse) .none kV_l_purse dc_l_purse pm_l_purse an_l_purse cd_l_purse ct_l_purse), sl_l_purse⟩)
    (c_l_purse : PySem.W.codeIn K cd_l_purse "_law_purse" = true)
    (k_l_purse : PySem.W.keepIn K (.ref f_l_purse) = true)
    (a_l_draw : PySem.W.nsIn K mainGlobals "_law_draw" = some (some (.ref f_l_draw)))
    (l_l_draw : K.lookup f_l_draw = some ⟨oc_l_draw, od_l_draw, .func (PySem.W.fnOf "_law_draw" "_law_draw" (defArgs s_l_draw) (defBody s_l_draw) (defScope s_l_draw) .none kV_l_draw dc_l_draw pm_l_draw an_l_draw cd_l_draw ct_l_draw), sl_l_draw⟩)
    (c_l_draw : PySem.W.codeIn K cd_l_draw "_law_draw" = true)
    (k_l_draw : PySem.W.keepIn K (.ref f_l_draw) = true)
    (a_l_number : PySem.W.nsIn K mainGlobals "_law_number" = some (some (.ref f_l_number)))
    (l_l_number : K.lookup f_l_number = some ⟨oc_l_number, od_l_number, .func (PySem.W.fnOf "_law_number" "_law_number" (defArgs s_l_number) (defBody s_l_number) (defScope s_l_number) .none kV_l_number dc_l_number pm_l_number an_l_number cd_l_number ct_l_number), sl_l_number⟩)
    (c_l_number : PySem.W.codeIn K cd_l_number "_law_number" = true)
    (k_l_number : PySem.W.keepIn K (.ref f_l_number) = true)
    (a_l_end : PySem.W.nsIn K mainGlobals "_law_end" = some (some (.ref f_l_end)))
    (l_l_end : K.lookup f_l_end = some ⟨oc_l_end, od_l_end, .func (PySem.W.fnOf "_law_end" "_law_end" (defArgs s_l_end) (defBody s_l_end) (defScope s_l_end) .none kV_l_end dc_l_end pm_l_end an_l_end cd_l_end ct_l_end), sl_l_end⟩)
    (c_l_end : PySem.W.codeIn K cd_l_end "_law_end" = true)
    (k_l_end : PySem.W.keepIn K (.ref f_l_end) = true)
    (a_l_span : PySem.W.nsIn K mainGlobals "_law_span" = some (some (.ref f_l_span)))
    (l_l_span : K.lookup f_l_span = some ⟨oc_l_span, od_l_span, .func (PySem.W.fnOf "_law_span" "_law_span" (defArgs s_l_span) (defBody s_l_span) (defScope s_l_span) .none kV_l_span dc_l_span pm_l_span an_l_span cd_l_span ct_l_span), sl_l_span⟩)
    (c_l_span : PySem.W.codeIn K cd_l_span "_law_span" = true)
    (k_l_span : PySem.W.keepIn K (.ref f_l_span) = true)
    (a_l_spans : PySem.W.nsIn K mainGlobals "_law_spans" = some (some (.ref f_l_spans)))
    (l_l_spans : K.lookup f_l_spans = some ⟨oc_l_spans, od_l_spans, .func (PySem.W.fnOf "_law_spans" "_law_spans" (defArgs s_l_spans) (defBody s_l_spans) (defScope s_l_spans) .none kV_l_spans dc_l_spans pm_l_spans an_l_spans cd_l_spans ct_l_spans), sl_l_spans⟩)
    (c_l_spans : PySem.W.codeIn K cd_l_spans "_law_spans" = true)
    (k_l_spans : PySem.W.keepIn K (.ref f_l_spans) = true)
    (a_l_holds : PySem.W.nsIn K mainGlobals "_law_holds" = some (some (.ref f_l_holds)))
    (l_l_holds : K.lookup f_l_holds = some ⟨oc_l_holds, od_l_holds, .func (PySem.W.fnOf "_law_holds" "_law_holds" (defArgs s_l_holds) (defBody s_l_holds) (defScope s_l_holds) .none kV_l_holds dc_l_holds pm_l_holds an_l_holds cd_l_holds ct_l_holds), sl_l_holds⟩)
    (c_l_holds : PySem.W.codeIn K cd_l_holds "_law_holds" = true)
    (k_l_holds : PySem.W.keepIn K (.ref f_l_holds) = true)
    (a_l_depth : PySem.W.nsIn K mainGlobals "_law_depth" = some (some (.ref f_l_depth)))
    (l_l_depth : K.lookup f_l_depth = some ⟨oc_l_depth, od_l_depth, .func (PySem.W.fnOf "_law_depth" "_law_depth" (defArgs s_l_depth) (defBody s_l_depth) (defScope s_l_depth) .none kV_l_depth dc_l_depth pm_l_depth an_l_depth cd_l_depth ct_l_depth), sl_l_depth⟩)
    (c_l_depth : PySem.W.codeIn K cd_l_depth "_law_depth" = true)
    (k_l_depth : PySem.W.keepIn K (.ref f_l_depth) = true)
    (a_l_ends : PySem.W.nsIn K mainGlobals "_law_ends" = some (some (.ref f_l_ends)))
    (l_l_ends : K.lookup f_l_ends = some ⟨oc_l_ends, od_l_ends, .func (PySem.W.fnOf "_law_ends" "_law_ends" (defArgs s_l_ends) (defBody s_l_ends) (defScope s_l_ends) .none kV_l_ends dc_l_ends pm_l_ends an_l_ends cd_l_ends ct_l_ends), sl_l_ends⟩)
    (c_l_ends : PySem.W.codeIn K cd_l_ends "_law_ends" = true)
    (k_l_ends : PySem.W.keepIn K (.ref f_l_ends) = true)
    (a_l_cover : PySem.W.nsIn K mainGlobals "_law_cover" = some (some (.ref f_l_cover)))
    (l_l_cover : K.lookup f_l_cover = some ⟨oc_l_cover, od_l_cover, .func (PySem.W.fnOf "_law_cover" "_law_cover" (defArgs s_l_cover) (defBody s_l_cover) (defScope s_l_cover) .none kV_l_cover dc_l_cover pm_l_cover an_l_cover cd_l_cover ct_l_cover), sl_l_cover⟩)
    (c_l_cover : PySem.W.codeIn K cd_l_cover "_law_cover" = true)
    (k_l_cover : PySem.W.keepIn K (.ref f_l_cover) = true)
    (a_l_whole : PySem.W.nsIn K mainGlobals "_law_whole" = some (some (.ref f_l_whole)))
    (l_l_whole : K.lookup f_l_whole = some ⟨oc_l_whole, od_l_whole, .func (PySem.W.fnOf "_law_whole" "_law_whole" (defArgs s_l_whole) (defBody s_l_whole) (defScope s_l_whole) .none kV_l_whole dc_l_whole pm_l_whole an_l_whole cd_l_whole ct_l_whole), sl_l_whole⟩)
    (c_l_whole : PySem.W.codeIn K cd_l_whole "_law_whole" = true)
    (k_l_whole : PySem.W.keepIn K (.ref f_l_whole) = true)
    (a_l_wholes : PySem.W.nsIn K mainGlobals "_law_wholes" = some (some (.ref f_l_wholes)))
    (l_l_wholes : K.lookup f_l_wholes = some ⟨oc_l_wholes, od_l_wholes, .func (PySem.W.fnOf "_law_wholes" "_law_wholes" (defArgs s_l_wholes) (defBody s_l_wholes) (defScope s_l_wholes) .none kV_l_wholes dc_l_wholes pm_l_wholes an_l_wholes cd_l_wholes ct_l_wholes), sl_l_wholes⟩)
    (c_l_wholes : PySem.W.codeIn K cd_l_wholes "_law_wholes" = true)
    (k_l_wholes : PySem.W.keepIn K (.ref f_l_wholes) = true)
    (a_l_pairs : PySem.W.nsIn K mainGlobals "_law_pairs" = some (some (.ref f_l_pairs)))
    (l_l_pairs : K.lookup f_l_pairs = some ⟨oc_l_pairs, od_l_pairs, .func (PySem.W.fnOf "_law_pairs" "_law_pairs" (defArgs s_l_pairs) (defBody s_l_pairs) (defScope s_l_pairs) .none kV_l_pairs dc_l_pairs pm_l_pairs an_l_pairs cd_l_pairs ct_l_pairs), sl_l_pairs⟩)
    (c_l_pairs : PySem.W.codeIn K cd_l_pairs "_law_pairs" = true)
    (k_l_pairs : PySem.W.keepIn K (.ref f_l_pairs) = true)
    (a_l_in : PySem.W.nsIn K mainGlobals "_law_in" = some (some (.ref f_l_in)))
    (l_l_in : K.lookup f_l_in = some ⟨oc_l_in, od_l_in, .func (PySem.W.fnOf "_law_in" "_law_in" (defArgs s_l_in) (defBody s_l_in) (defScope s_l_in) .none kV_l_in dc_l_in pm_l_in an_l_in cd_l_in ct_l_in), sl_l_in⟩)
    (c_l_in : PySem.W.codeIn K cd_l_in "_law_in" = true)
    (k_l_in : PySem.W.keepIn K (.ref f_l_in) = true)
    (a_l_kept_places : PySem.W.nsIn K mainGlobals "_law_kept_places" = some (some (.ref f_l_kept_places)))
    (l_l_kept_places : K.lookup f_l_kept_places = some ⟨oc_l_kept_places, od_l_kept_places, .func (PySem.W.fnOf "_law_kept_places" "_law_kept_places" (defArgs s_l_kept_places) (defBody s_l_kept_places) (defScope s_l_kept_places) .none kV_l_kept_places dc_l_kept_places pm_l_kept_places an_l_kept_places cd_l_kept_places ct_l_kept_places), sl_l_kept_places⟩)
    (c_l_kept_places : PySem.W.codeIn K cd_l_kept_places "_law_kept_places" = true)
    (k_l_kept_places : PySem.W.keepIn K (.ref f_l_kept_places) = true)
    (a_l_told : PySem.W.nsIn K mainGlobals "_law_told" = some (some (.ref f_l_told)))
    (l_l_told : K.lookup f_l_told = some ⟨oc_l_told, od_l_told, .func (PySem.W.fnOf "_law_told" "_law_told" (defArgs s_l_told) (defBody s_l_told) (defScope s_l_told) .none kV_l_told dc_l_told pm_l_told an_l_told cd_l_told ct_l_told), sl_l_told⟩)
    (c_l_told : PySem.W.codeIn K cd_l_told "_law_told" = true)
    (k_l_told : PySem.W.keepIn K (.ref f_l_told) = true)
    (a_law : PySem.W.nsIn K mainGlobals "law" = some (some (.ref f_law)))
    (l_law : K.lookup f_law = some ⟨oc_law, od_law, .func (PySem.W.fnOf "law" "law" (defArgs s_law) (defBody s_law) (defScope s_law) .none kV_law dc_law pm_law an_law cd_law ct_law), sl_law⟩)
    (c_law : PySem.W.codeIn K cd_law "law" = true)
    (k_law : PySem.W.keepIn K (.ref f_law) = true)
    (n_LEAST_PLACE : PySem.W.nsIn K mainGlobals "LEAST_PLACE" = some (some (.int (-999999999999) tc_LEAST_PLACE)))
    (n_GREATEST_PLACE : PySem.W.nsIn K mainGlobals "GREATEST_PLACE" = some (some (.int (999999999999) tc_GREATEST_PLACE)))
    (n_MOST_SPANS : PySem.W.nsIn K mainGlobals "MOST_SPANS" = some (some (.int (200) tc_MOST_SPANS)))
    (a_ShelfError : PySem.W.nsIn K mainGlobals "ShelfError" = some (some (.ref C_ShelfError)))
    (x_ShelfError : PySem.W.excIn K C_ShelfError [.type "ValueError", .type "Exception", .type "BaseException", .type "object"] "ValueError.__new__" = true)
    (k_ShelfError : PySem.W.keepIn K (.ref C_ShelfError) = true)
    (b_ShelfError : PySem.W.subIn K (.ref C_ShelfError) (.type "BaseException") = some true)
    (t_ShelfError : PySem.W.typeIn K (.ref C_ShelfError) = some (.type "type"))
    (a_NoSpan : PySem.W.nsIn K mainGlobals "NoSpan" = some (some (.ref C_NoSpan)))
    (x_NoSpan : PySem.W.excIn K C_NoSpan [.type "ValueError", .type "Exception", .type "BaseException", .type "object"] "ValueError.__new__" = true)
    (k_NoSpan : PySem.W.keepIn K (.ref C_NoSpan) = true)
    (b_NoSpan : PySem.W.subIn K (.ref C_NoSpan) (.type "BaseException") = some true)
    (t_NoSpan : PySem.W.typeIn K (.ref C_NoSpan) = some (.type "type"))
    (a_NoCover : PySem.W.nsIn K mainGlobals "NoCover" = some (some (.ref C_NoCover)))
    (x_NoCover : PySem.W.excIn K C_NoCover [.type "ValueError", .type "Exception", .type "BaseException", .type "object"] "ValueError.__new__" = true)
    (k_NoCover : PySem.W.keepIn K (.ref C_NoCover) = true)
    (b_NoCover : PySem.W.subIn K (.ref C_NoCover) (.type "BaseException") = some true)
    (t_NoCover : PySem.W.typeIn K (.ref C_NoCover) = some (.type "type"))
    (z_all : PySem.W.nsIn K mainGlobals "all" = some none)
    (z_bool : PySem.W.nsIn K mainGlobals "bool" = some none)
    (z_int : PySem.W.nsIn K mainGlobals "int" = some none)
    (z_isinstance : PySem.W.nsIn K mainGlobals "isinstance" = some none)
    (z_len : PySem.W.nsIn K mainGlobals "len" = some none)
    (z_list : PySem.W.nsIn K mainGlobals "list" = some none)
    (z_max : PySem.W.nsIn K mainGlobals "max" = some none)
    (z_min : PySem.W.nsIn K mainGlobals "min" = some none)
    (z_range : PySem.W.nsIn K mainGlobals "range" = some none)
    (z_set : PySem.W.nsIn K mainGlobals "set" = some none)
    (z_sorted : PySem.W.nsIn K mainGlobals "sorted" = some none)
    (z_sum : PySem.W.nsIn K mainGlobals "sum" = some none)
    (z_tuple : PySem.W.nsIn K mainGlobals "tuple" = some none)
    (z_zip : PySem.W.nsIn K mainGlobals "zip" = some none)
    (R : ∀ nm ∈ (["is_cover", "held"] : List Str), TabRec h mg nm)
    : LamX.LawAtS l w K CX0 10 63 "_law_script" mg fa h := by
  have e := hfa.symm.trans (PySem.W.mg_of X G a_law)
  cases e
  have F_is_whole := fun_mk (st := s_is_whole) l_is_whole c_is_whole k_is_whole
  have b_is_whole := F_is_whole.binds (ps := ["number"]) fun _ _ _ _ _ _ us hl => match us, hl with | [_], _ => rfl
  have F_is_place := fun_mk (st := s_is_place) l_is_place c_is_place k_is_place
  have b_is_place := F_is_place.binds (ps := ["number"]) fun _ _ _ _ _ _ us hl => match us, hl with | [_], _ => rfl
  have F_is_span := fun_mk (st := s_is_span) l_is_span c_is_span k_is_span
  have b_is_span := F_is_span.binds (ps := ["span"]) fun _ _ _ _ _ _ us hl => match us, hl with | [_], _ => rfl
  have F_check_span := fun_mk (st := s_check_span) l_check_span c_check_span k_check_span
  have b_check_span := F_check_span.binds (ps := ["span"]) fun _ _ _ _ _ _ us hl => match us, hl with | [_], _ => rfl
  have F_check_spans := fun_mk (st := s_check_spans) l_check_spans c_check_spans k_check_spans
  have b_check_spans := F_check_spans.binds (ps := ["spans"]) fun _ _ _ _ _ _ us hl => match us, hl with | [_], _ => rfl
  have F_is_cover := fun_mk (st := s_is_cover) l_is_cover c_is_cover k_is_cover
  have b_is_cover := F_is_cover.binds (ps := ["spans"]) fun _ _ _ _ _ _ us hl => match us, hl with | [_], _ => rfl
  have F_check_cover := fun_mk (st := s_check_cover) l_check_cover c_check_cover k_check_cover
  have b_check_cover := F_check_cover.binds (ps := ["cover"]) fun _ _ _ _ _ _ us hl => match us, hl with | [_], _ => rfl
  have F_check_covers := fun_mk (st := s_check_covers) l_check_covers c_check_covers k_check_covers
  have b_check_covers := F_check_covers.binds (ps := ["one", "other"]) fun _ _ _ _ _ _ us hl => match us, hl with | [_, _], _ => rfl
  have F_joined := fun_mk (st := s_joined) l_joined c_joined k_joined
  have b_joined := F_joined.binds (ps := ["spans"]) fun _ _ _ _ _ _ us hl => match us, hl with | [_], _ => rfl
  have F_common := fun_mk (st := s_common) l_common c_common k_common
  have b_common := F_common.binds (ps := ["one", "other"]) fun _ _ _ _ _ _ us hl => match us, hl with | [_, _], _ => rfl
  have F_gaps_of := fun_mk (st := s_gaps_of) l_gaps_of c_gaps_of k_gaps_of
  have b_gaps_of := F_gaps_of.binds (ps := ["cover"]) fun _ _ _ _ _ _ us hl => match us, hl with | [_], _ => rfl
  have F_both := fun_mk (st := s_both) l_both c_both k_both
  have b_both := F_both.binds (ps := ["one", "other"]) fun _ _ _ _ _ _ us hl => match us, hl with | [_, _], _ => rfl
  have F_either := fun_mk (st := s_either) l_either c_either k_either
  have b_either := F_either.binds (ps := ["one", "other"]) fun _ _ _ _ _ _ us hl => match us, hl with | [_, _], _ => rfl
  have F_less := fun_mk (st := s_less) l_less c_less k_less
  have b_less := F_less.binds (ps := ["one", "other"]) fun _ _ _ _ _ _ us hl => match us, hl with | [_, _], _ => rfl
  have F_held := fun_mk (st := s_held) l_held c_held k_held
  have b_held := F_held.binds (ps := ["cover"]) fun _ _ _ _ _ _ us hl => match us, hl with | [_], _ => rfl
  have F_l_at := fun_mk (st := s_l_at) l_l_at c_l_at k_l_at
  have b_l_at := F_l_at.binds (ps := ["_law_script", "_law_k"]) fun _ _ _ _ _ _ us hl => match us, hl with | [_, _], _ => rfl
  have F_l_mixed := fun_mk (st := s_l_mixed) l_l_mixed c_l_mixed k_l_mixed
  have b_l_mixed := F_l_mixed.binds (ps := ["_law_cell", "_law_k"]) fun _ _ _ _ _ _ us hl => match us, hl with | [_, _], _ => rfl
  have F_l_purse := fun_mk (st := s_l_purse) l_l_purse c_l_purse k_l_purse
  have b_l_purse := F_l_purse.binds (ps := ["_law_script", "_law_at_here"]) fun _ _ _ _ _ _ us hl => match us, hl with | [_, _], _ => rfl
  have F_l_draw := fun_mk (st := s_l_draw) l_l_draw c_l_draw k_l_draw
  have b_l_draw := F_l_draw.binds (ps := ["_law_purse_here", "_law_out_of"]) fun _ _ _ _ _ _ us hl => match us, hl with | [_, _], _ => rfl
  have F_l_number := fun_mk (st := s_l_number) l_l_number c_l_number k_l_number
  have b_l_number := F_l_number.binds (ps := ["_law_purse_here", "_law_most"]) fun _ _ _ _ _ _ us hl => match us, hl with | [_, _], _ => rfl
  have F_l_end := fun_mk (st := s_l_end) l_l_end c_l_end k_l_end
  have b_l_end := F_l_end.binds (ps := ["_law_purse_here", "_law_ends_here", "_law_most"]) fun _ _ _ _ _ _ us hl => match us, hl with | [_, _, _], _ => rfl
  have F_l_span := fun_mk (st := s_l_span) l_l_span c_l_span k_l_span
  have b_l_span := F_l_span.binds (ps := ["_law_purse_here", "_law_ends_here", "_law_most"]) fun _ _ _ _ _ _ us hl => match us, hl with | [_, _, _], _ => rfl
  have F_l_spans := fun_mk (st := s_l_spans) l_l_spans c_l_spans k_l_spans
  have b_l_spans := F_l_spans.binds (ps := ["_law_purse_here", "_law_ends_here", "_law_most"]) fun _ _ _ _ _ _ us hl => match us, hl with | [_, _, _], _ => rfl
  have F_l_holds := fun_mk (st := s_l_holds) l_l_holds c_l_holds k_l_holds
  have b_l_holds := F_l_holds.binds (ps := ["_law_span_here", "_law_place"]) fun _ _ _ _ _ _ us hl => match us, hl with | [_, _], _ => rfl
  have F_l_depth := fun_mk (st := s_l_depth) l_l_depth c_l_depth k_l_depth
  have b_l_depth := F_l_depth.binds (ps := ["_law_spans_here", "_law_place"]) fun _ _ _ _ _ _ us hl => match us, hl with | [_, _], _ => rfl
  have F_l_ends := fun_mk (st := s_l_ends) l_l_ends c_l_ends k_l_ends
  have b_l_ends := F_l_ends.binds (ps := ["_law_spans_here"]) fun _ _ _ _ _ _ us hl => match us, hl with | [_], _ => rfl
  have F_l_cover := fun_mk (st := s_l_cover) l_l_cover c_l_cover k_l_cover
  have b_l_cover := F_l_cover.binds (ps := ["_law_spans_here"]) fun _ _ _ _ _ _ us hl => match us, hl with | [_], _ => rfl
  have F_l_whole := fun_mk (st := s_l_whole) l_l_whole c_l_whole k_l_whole
  have b_l_whole := F_l_whole.binds (ps := ["_law_number_here"]) fun _ _ _ _ _ _ us hl => match us, hl with | [_], _ => rfl
  have F_l_wholes := fun_mk (st := s_l_wholes) l_l_wholes c_l_wholes k_l_wholes
  have b_l_wholes := F_l_wholes.binds (ps := ["_law_some"]) fun _ _ _ _ _ _ us hl => match us, hl with | [_], _ => rfl
  have F_l_pairs := fun_mk (st := s_l_pairs) l_l_pairs c_l_pairs k_l_pairs
  have b_l_pairs := F_l_pairs.binds (ps := ["_law_some"]) fun _ _ _ _ _ _ us hl => match us, hl with | [_], _ => rfl
  have F_l_in := fun_mk (st := s_l_in) l_l_in c_l_in k_l_in
  have b_l_in := F_l_in.binds (ps := ["_law_cover_here", "_law_place"]) fun _ _ _ _ _ _ us hl => match us, hl with | [_, _], _ => rfl
  have F_l_kept_places := fun_mk (st := s_l_kept_places) l_l_kept_places c_l_kept_places k_l_kept_places
  have b_l_kept_places := F_l_kept_places.binds (ps := ["_law_one", "_law_other", "_law_way"]) fun _ _ _ _ _ _ us hl => match us, hl with | [_, _, _], _ => rfl
  have F_l_told := fun_mk (st := s_l_told) l_l_told c_l_told k_l_told
  have b_l_told := F_l_told.binds (ps := ["_law_way", "_law_one", "_law_other"]) fun _ _ _ _ _ _ us hl => match us, hl with | [_, _, _], _ => rfl
  have F_law := fun_mk (st := s_law) l_law c_law k_law
  have b_law := F_law.binds (ps := ["_law_script"]) fun _ _ _ _ _ _ us hl => match us, hl with | [_], _ => rfl
  let T : Tx K mg := { f_is_whole := _, fd_is_whole := _, F_is_whole := F_is_whole, b_is_whole := b_is_whole, g_is_whole := PySem.W.mg_of X G a_is_whole, f_is_place := _, fd_is_place := _, F_is_place := F_is_place, b_is_place := b_is_place, g_is_place := PySem.W.mg_of X G a_is_place, f_is_span := _, fd_is_span := _, F_is_span := F_is_span, b_is_span := b_is_span, g_is_span := PySem.W.mg_of X G a_is_span, f_check_span := _, fd_check_span := _, F_check_span := F_check_span, b_check_span := b_check_span, g_check_span := PySem.W.mg_of X G a_check_span, f_check_spans := _, fd_check_spans := _, F_check_spans := F_check_spans, b_check_spans := b_check_spans, g_check_spans := PySem.W.mg_of X G a_check_spans, f_is_cover := _, fd_is_cover := _, F_is_cover := F_is_cover, b_is_cover := b_is_cover, g_is_cover := PySem.W.mg_of X G a_is_cover, cA_is_cover := cA_is_cover, pA_is_cover := pA_is_cover, FC_is_cover := ⟨⟨_, _, _, _, _, _, _, _, rfl, l_is_cover, c_is_cover⟩⟩, f_check_cover := _, fd_check_cover := _, F_check_cover := F_check_cover, b_check_cover := b_check_cover, g_check_cover := PySem.W.mg_of X G a_check_cover, f_check_covers := _, fd_check_covers := _, F_check_covers := F_check_covers, b_check_covers := b_check_covers, g_check_covers := PySem.W.mg_of X G a_check_covers, f_joined := _, fd_joined := _, F_joined := F_joined, b_joined := b_joined, g_joined := PySem.W.mg_of X G a_joined, f_common := _, fd_common := _, F_common := F_common, b_common := b_common, g_common := PySem.W.mg_of X G a_common, f_gaps_of := _, fd_gaps_of := _, F_gaps_of := F_gaps_of, b_gaps_of := b_gaps_of, g_gaps_of := PySem.W.mg_of X G a_gaps_of, f_both := _, fd_both := _, F_both := F_both, b_both := b_both, g_both := PySem.W.mg_of X G a_both, f_either := _, fd_either := _, F_either := F_either, b_either := b_either, g_either := PySem.W.mg_of X G a_either, f_less := _, fd_less := _, F_less := F_less, b_less := b_less, g_less := PySem.W.mg_of X G a_less, f_held := _, fd_held := _, F_held := F_held, b_held := b_held, g_held := PySem.W.mg_of X G a_held, cA_held := cA_held, pA_held := pA_held, FC_held := ⟨⟨_, _, _, _, _, _, _, _, rfl, l_held, c_held⟩⟩, f_l_at := _, fd_l_at := _, F_l_at := F_l_at, b_l_at := b_l_at, g_l_at := PySem.W.mg_of X G a_l_at, f_l_mixed := _, fd_l_mixed := _, F_l_mixed := F_l_mixed, b_l_mixed := b_l_mixed, g_l_mixed := PySem.W.mg_of X G a_l_mixed, f_l_purse := _, fd_l_purse := _, F_l_purse := F_l_purse, b_l_purse := b_l_purse, g_l_purse := PySem.W.mg_of X G a_l_purse, f_l_draw := _, fd_l_draw := _, F_l_draw := F_l_draw, b_l_draw := b_l_draw, g_l_draw := PySem.W.mg_of X G a_l_draw, f_l_number := _, fd_l_number := _, F_l_number := F_l_number, b_l_number := b_l_number, g_l_number := PySem.W.mg_of X G a_l_number, f_l_end := _, fd_l_end := _, F_l_end := F_l_end, b_l_end := b_l_end, g_l_end := PySem.W.mg_of X G a_l_end, f_l_span := _, fd_l_span := _, F_l_span := F_l_span, b_l_span := b_l_span, g_l_span := PySem.W.mg_of X G a_l_span, f_l_spans := _, fd_l_spans := _, F_l_spans := F_l_spans, b_l_spans := b_l_spans, g_l_spans := PySem.W.mg_of X G a_l_spans, f_l_holds := _, fd_l_holds := _, F_l_holds := F_l_holds, b_l_holds := b_l_holds, g_l_holds := PySem.W.mg_of X G a_l_holds, f_l_depth := _, fd_l_depth := _, F_l_depth := F_l_depth, b_l_depth := b_l_depth, g_l_depth := PySem.W.mg_of X G a_l_depth, f_l_ends := _, fd_l_ends := _, F_l_ends := F_l_ends, b_l_ends := b_l_ends, g_l_ends := PySem.W.mg_of X G a_l_ends, f_l_cover := _, fd_l_cover := _, F_l_cover := F_l_cover, b_l_cover := b_l_cover, g_l_cover := PySem.W.mg_of X G a_l_cover, f_l_whole := _, fd_l_whole := _, F_l_whole := F_l_whole, b_l_whole := b_l_whole, g_l_whole := PySem.W.mg_of X G a_l_whole, f_l_wholes := _, fd_l_wholes := _, F_l_wholes := F_l_wholes, b_l_wholes := b_l_wholes, g_l_wholes := PySem.W.mg_of X G a_l_wholes, f_l_pairs := _, fd_l_pairs := _, F_l_pairs := F_l_pairs, b_l_pairs := b_l_pairs, g_l_pairs := PySem.W.mg_of X G a_l_pairs, f_l_in := _, fd_l_in := _, F_l_in := F_l_in, b_l_in := b_l_in, g_l_in := PySem.W.mg_of X G a_l_in, f_l_kept_places := _, fd_l_kept_places := _, F_l_kept_places := F_l_kept_places, b_l_kept_places := b_l_kept_places, g_l_kept_places := PySem.W.mg_of X G a_l_kept_places, f_l_told := _, fd_l_told := _, F_l_told := F_l_told, b_l_told := b_l_told, g_l_told := PySem.W.mg_of X G a_l_told, f_law := _, fd_law := _, F_law := F_law, b_law := b_law, g_law := PySem.W.mg_of X G a_law, tc_LEAST_PLACE := _, c_LEAST_PLACE := PySem.W.mg_of X G n_LEAST_PLACE, tc_GREATEST_PLACE := _, c_GREATEST_PLACE := PySem.W.mg_of X G n_GREATEST_PLACE, tc_MOST_SPANS := _, c_MOST_SPANS := PySem.W.mg_of X G n_MOST_SPANS, C_ShelfError := _, g_ShelfError := PySem.W.mg_of X G a_ShelfError, x_ShelfError := x_ShelfError, k_ShelfError := k_ShelfError, b_ShelfError := b_ShelfError, t_ShelfError := t_ShelfError, C_NoSpan := _, g_NoSpan := PySem.W.mg_of X G a_NoSpan, x_NoSpan := x_NoSpan, k_NoSpan := k_NoSpan, b_NoSpan := b_NoSpan, t_NoSpan := t_NoSpan, C_NoCover := _, g_NoCover := PySem.W.mg_of X G a_NoCover, x_NoCover := x_NoCover, k_NoCover := k_NoCover, b_NoCover := b_NoCover, t_NoCover := t_NoCover, m_all := PySem.W.mg_none_of X G z_all, m_bool := PySem.W.mg_none_of X G z_bool, m_int := PySem.W.mg_none_of X G z_int, m_isinstance := PySem.W.mg_none_of X G z_isinstance, m_len := PySem.W.mg_none_of X G z_len, m_list := PySem.W.mg_none_of X G z_list, m_max := PySem.W.mg_none_of X G z_max, m_min := PySem.W.mg_none_of X G z_min, m_range := PySem.W.mg_none_of X G z_range, m_set := PySem.W.mg_none_of X G z_set, m_sorted := PySem.W.mg_none_of X G z_sorted, m_sum := PySem.W.mg_none_of X G z_sum, m_tuple := PySem.W.mg_none_of X G z_tuple, m_zip := PySem.W.mg_none_of X G z_zip }
  have z_t0 := tab_of X (R "is_cover" (by simp)) (PySem.W.mg_of X G a_is_cover) l_is_cover rfl y1_is_cover y2_is_cover
  have z_t1 := tab_of X (R "held" (by simp)) (PySem.W.mg_of X G a_held) l_held rfl y1_held y2_held
  have e1 : ∀ p ∈ ([(cA_is_cover, pA_is_cover), (cA_held, pA_held)] : List (Addr × Addr)), h.get? p.2 = some { cls := .none, data := .fields #[] } ∧ K.lookup p.2 = none ∧ PySem.W.CodeHd h p.1 p.2 := fun p hp => by
    simp only [List.mem_cons, List.not_mem_nil, or_false] at hp
    rcases hp with rfl | rfl
    · exact ⟨z_t0.1, y3_is_cover, z_t0.2⟩
    · exact ⟨z_t1.1, y3_held, z_t1.2⟩
  refine ⟨PySem.W.fnOf "law" "law" (defArgs s_law) (defBody s_law) (defScope s_law) .none kV_law dc_law pm_law an_law cd_law ct_law, [(cA_is_cover, pA_is_cover), (cA_held, pA_held)], spLaw T, fun p hp => (e1 p hp).1, fun p hp => (e1 p hp).2.1, fun p hp => (e1 p hp).2.2, fun s v => .of_eq rfl, fun H a ns hl _ hT hS => ?_, fun base _ _ hB => ?_⟩
  · refine ⟨a, ns, rfl, hS, hl, fun P hP => ⟨#[], ?_, True.intro⟩, fun _ => rfl⟩
    have hP : P ∈ [pA_is_cover, pA_held] := hP
    simp only [List.mem_cons, List.not_mem_nil, or_false] at hP
    rcases hP with hP | hP
    · rw [hP]
      exact hT (cA_is_cover, pA_is_cover) (by simp)
    · rw [hP]
      exact hT (cA_held, pA_held) (by simp)
  · exact ok_law T { t_is_cover := ⟨(hB (cA_is_cover, pA_is_cover) (by simp)).code, (hB (cA_is_cover, pA_is_cover) (by simp)).bm, (hB (cA_is_cover, pA_is_cover) (by simp)).gP⟩, t_held := ⟨(hB (cA_held, pA_held) (by simp)).code, (hB (cA_held, pA_held) (by simp)).bm, (hB (cA_held, pA_held) (by simp)).gP⟩ } F_law
end Sp
open PySem PySem.W PyProof.Rows
set_option maxHeartbeats 0 in
theorem PySem.Challenge.cw_spanshelf_k04_covers_of_two_holds : PySem.Challenge.rw_spanshelf_k04_covers_of_two.Holds := by
  w_on; o_law; k_head; (case hw => w_witness2)
  k_fill
  refine Sp.walk_tabs (l := PySem.Challenge.rw_spanshelf_k04_covers_of_two) (n := 63) (k := 10) (x := "_law_script") (CX := fun _ => L2.CX0) ["is_cover", "held"] rfl (by decide) rfl ⟨rfl, by decide, by decide⟩ (by first | rfl | decide +kernel) (fun w h Y => PySem.W.kIn_of Y) ?F (fun _ _ _ _ _ h => h)
  case F =>
    intro w mg fa h KX G hmg hR
    refine' Sp.all_mk KX G hmg ?a_is_whole ?l_is_whole ?c_is_whole ?k_is_whole ?a_is_place ?l_is_place ?c_is_place ?k_is_place ?a_is_span ?l_is_span ?c_is_span ?k_is_span ?a_check_span ?l_check_span ?c_check_span ?k_check_span ?a_check_spans ?l_check_spans ?c_check_spans ?k_check_spans ?a_is_cover ?l_is_cover ?c_is_cover ?k_is_cover ?y1_is_cover ?y2_is_cover ?y3_is_cover ?a_check_cover ?l_check_cover ?c_check_cover ?k_check_cover ?a_check_covers ?l_check_covers ?c_check_covers ?k_check_covers ?a_joined ?l_joined ?c_joined ?k_joined ?a_common ?l_common ?c_common ?k_common ?a_gaps_of ?l_gaps_of ?c_gaps_of ?k_gaps_of ?a_both ?l_both ?c_both ?k_both ?a_either ?l_either ?c_either ?k_either ?a_less ?l_less ?c_less ?k_less ?a_held ?l_held ?c_held ?k_held ?y1_held ?y2_held ?y3_held ?a_l_at ?l_l_at ?c_l_at ?k_l_at ?a_l_mixed ?l_l_mixed ?c_l_mixed ?k_l_mixed ?a_l_purse ?l_l_purse ?c_l_purse ?k_l_purse ?a_l_draw ?l_l_draw ?c_l_draw ?k_l_draw ?a_l_number ?l_l_number ?c_l_number ?k_l_number ?a_l_end ?l_l_end ?c_l_end ?k_l_end ?a_l_span ?l_l_span ?c_l_span ?k_l_span ?a_l_spans ?l_l_spans ?c_l_spans ?k_l_spans ?a_l_holds ?l_l_holds ?c_l_holds ?k_l_holds ?a_l_depth ?l_l_depth ?c_l_depth ?k_l_depth ?a_l_ends ?l_l_ends ?c_l_ends ?k_l_ends ?a_l_cover ?l_l_cover ?c_l_cover ?k_l_cover ?a_l_whole ?l_l_whole ?c_l_whole ?k_l_whole ?a_l_wholes ?l_l_wholes ?c_l_wholes ?k_l_wholes ?a_l_pairs ?l_l_pairs ?c_l_pairs ?k_l_pairs ?a_l_in ?l_l_in ?c_l_in ?k_l_in ?a_l_kept_places ?l_l_kept_places ?c_l_kept_places ?k_l_kept_places ?a_l_told ?l_l_told ?c_l_told ?k_l_told ?a_law ?l_law ?c_law ?k_law ?n_LEAST_PLACE ?n_GREATEST_PLACE ?n_MOST_SPANS ?a_ShelfError ?x_ShelfError ?k_ShelfError ?b_ShelfError ?t_ShelfError ?a_NoSpan ?x_NoSpan ?k_NoSpan ?b_NoSpan ?t_NoSpan ?a_NoCover ?x_NoCover ?k_NoCover ?b_NoCover ?t_NoCover ?z_all ?z_bool ?z_int ?z_isinstance ?z_len ?z_list ?z_max ?z_min ?z_range ?z_set ?z_sorted ?z_sum ?z_tuple ?z_zip hR
    (case a_is_whole => first | k_is | rfl)
    (case l_is_whole => first | k_is | rfl)
    (case c_is_whole => first | k_is | rfl)
    (case k_is_whole => first | k_is | rfl)
    (case a_is_place => first | k_is | rfl)
    (case l_is_place => first | k_is | rfl)
    (case c_is_place => first | k_is | rfl)
    (case k_is_place => first | k_is | rfl)
    (case a_is_span => first | k_is | rfl)
    (case l_is_span => first | k_is | rfl)
    (case c_is_span => first | k_is | rfl)
    (case k_is_span => first | k_is | rfl)
    (case a_check_span => first | k_is | rfl)
    (case l_check_span => first | k_is | rfl)
    (case c_check_span => first | k_is | rfl)
    (case k_check_span => first | k_is | rfl)
    (case a_check_spans => first | k_is | rfl)
    (case l_check_spans => first | k_is | rfl)
    (case c_check_spans => first | k_is | rfl)
    (case k_check_spans => first | k_is | rfl)
    (case a_is_cover => first | k_is | rfl)
    (case l_is_cover => first | k_is | rfl)
    (case c_is_cover => first | k_is | rfl)
    (case k_is_cover => first | k_is | rfl)
    (case y1_is_cover => first | k_is | rfl)
    (case y2_is_cover => rfl)
    (case y3_is_cover => first | k_is | kernel_rfl)
    (case a_check_cover => first | k_is | rfl)
    (case l_check_cover => first | k_is | rfl)
    (case c_check_cover => first | k_is | rfl)
    (case k_check_cover => first | k_is | rfl)
    (case a_check_covers => first | k_is | rfl)
    (case l_check_covers => first | k_is | rfl)
    (case c_check_covers => first | k_is | rfl)
    (case k_check_covers => first | k_is | rfl)
    (case a_joined => first | k_is | rfl)
    (case l_joined => first | k_is | rfl)
    (case c_joined => first | k_is | rfl)
    (case k_joined => first | k_is | rfl)
    (case a_common => first | k_is | rfl)
    (case l_common => first | k_is | rfl)
    (case c_common => first | k_is | rfl)
    (case k_common => first | k_is | rfl)
    (case a_gaps_of => first | k_is | rfl)
    (case l_gaps_of => first | k_is | rfl)
    (case c_gaps_of => first | k_is | rfl)
    (case k_gaps_of => first | k_is | rfl)
    (case a_both => first | k_is | rfl)
    (case l_both => first | k_is | rfl)
    (case c_both => first | k_is | rfl)
    (case k_both => first | k_is | rfl)
    (case a_either => first | k_is | rfl)
    (case l_either => first | k_is | rfl)
    (case c_either => first | k_is | rfl)
    (case k_either => first | k_is | rfl)
    (case a_less => first | k_is | rfl)
    (case l_less => first | k_is | rfl)
    (case c_less => first | k_is | rfl)
    (case k_less => first | k_is | rfl)
    (case a_held => first | k_is | rfl)
    (case l_held => first | k_is | rfl)
    (case c_held => first | k_is | rfl)
    (case k_held => first | k_is | rfl)
    (case y1_held => first | k_is | rfl)
    (case y2_held => rfl)
    (case y3_held => first | k_is | kernel_rfl)
    (case a_l_at => first | k_is | rfl)
    (case l_l_at => first | k_is | rfl)
    (case c_l_at => first | k_is | rfl)
    (case k_l_at => first | k_is | rfl)
    (case a_l_mixed => first | k_is | rfl)
    (case l_l_mixed => first | k_is | rfl)
    (case c_l_mixed => first | k_is | rfl)
    (case k_l_mixed => first | k_is | rfl)
    (case a_l_purse => first | k_is | rfl)
    (case l_l_purse => first | k_is | rfl)
    (case c_l_purse => first | k_is | rfl)
    (case k_l_purse => first | k_is | rfl)
    (case a_l_draw => first | k_is | rfl)
    (case l_l_draw => first | k_is | rfl)
    (case c_l_draw => first | k_is | rfl)
    (case k_l_draw => first | k_is | rfl)
    (case a_l_number => first | k_is | rfl)
    (case l_l_number => first | k_is | rfl)
    (case c_l_number => first | k_is | rfl)
    (case k_l_number => first | k_is | rfl)
    (case a_l_end => first | k_is | rfl)
    (case l_l_end => first | k_is | rfl)
    (case c_l_end => first | k_is | rfl)
    (case k_l_end => first | k_is | rfl)
    (case a_l_span => first | k_is | rfl)
    (case l_l_span => first | k_is | rfl)
    (case c_l_span => first | k_is | rfl)
    (case k_l_span => first | k_is | rfl)
    (case a_l_spans => first | k_is | rfl)
    (case l_l_spans => first | k_is | rfl)
    (case c_l_spans => first | k_is | rfl)
    (case k_l_spans => first | k_is | rfl)
    (case a_l_holds => first | k_is | rfl)
    (case l_l_holds => first | k_is | rfl)
    (case c_l_holds => first | k_is | rfl)
    (case k_l_holds => first | k_is | rfl)
    (case a_l_depth => first | k_is | rfl)
    (case l_l_depth => first | k_is | rfl)
    (case c_l_depth => first | k_is | rfl)
    (case k_l_depth => first | k_is | rfl)
    (case a_l_ends => first | k_is | rfl)
    (case l_l_ends => first | k_is | rfl)
    (case c_l_ends => first | k_is | rfl)
    (case k_l_ends => first | k_is | rfl)
    (case a_l_cover => first | k_is | rfl)
    (case l_l_cover => first | k_is | rfl)
    (case c_l_cover => first | k_is | rfl)
    (case k_l_cover => first | k_is | rfl)
    (case a_l_whole => first | k_is | rfl)
    (case l_l_whole => first | k_is | rfl)
    (case c_l_whole => first | k_is | rfl)
    (case k_l_whole => first | k_is | rfl)
    (case a_l_wholes => first | k_is | rfl)
    (case l_l_wholes => first | k_is | rfl)
    (case c_l_wholes => first | k_is | rfl)
    (case k_l_wholes => first | k_is | rfl)
    (case a_l_pairs => first | k_is | rfl)
    (case l_l_pairs => first | k_is | rfl)
    (case c_l_pairs => first | k_is | rfl)
    (case k_l_pairs => first | k_is | rfl)
    (case a_l_in => first | k_is | rfl)
    (case l_l_in => first | k_is | rfl)
    (case c_l_in => first | k_is | rfl)
    (case k_l_in => first | k_is | rfl)
    (case a_l_kept_places => first | k_is | rfl)
    (case l_l_kept_places => first | k_is | rfl)
    (case c_l_kept_places => first | k_is | rfl)
    (case k_l_kept_places => first | k_is | rfl)
    (case a_l_told => first | k_is | rfl)
    (case l_l_told => first | k_is | rfl)
    (case c_l_told => first | k_is | rfl)
    (case k_l_told => first | k_is | rfl)
    (case a_law => first | k_is | rfl)
    (case l_law => first | k_is | rfl)
    (case c_law => first | k_is | rfl)
    (case k_law => first | k_is | rfl)
    (case n_LEAST_PLACE => first | k_is | rfl)
    (case n_GREATEST_PLACE => first | k_is | rfl)
    (case n_MOST_SPANS => first | k_is | rfl)
    (case a_ShelfError => first | k_is | rfl)
    (case x_ShelfError => k_exc)
    (case k_ShelfError => first | k_is | rfl)
    (case b_ShelfError => first | k_is | rfl)
    (case t_ShelfError => first | k_is | rfl)
    (case a_NoSpan => first | k_is | rfl)
    (case x_NoSpan => k_exc)
    (case k_NoSpan => first | k_is | rfl)
    (case b_NoSpan => first | k_is | rfl)
    (case t_NoSpan => first | k_is | rfl)
    (case a_NoCover => first | k_is | rfl)
    (case x_NoCover => k_exc)
    (case k_NoCover => first | k_is | rfl)
    (case b_NoCover => first | k_is | rfl)
    (case t_NoCover => first | k_is | rfl)
    (case z_all => first | k_is | rfl)
    (case z_bool => first | k_is | rfl)
    (case z_int => first | k_is | rfl)
    (case z_isinstance => first | k_is | rfl)
    (case z_len => first | k_is | rfl)
    (case z_list => first | k_is | rfl)
    (case z_max => first | k_is | rfl)
    (case z_min => first | k_is | rfl)
    (case z_range => first | k_is | rfl)
    (case z_set => first | k_is | rfl)
    (case z_sorted => first | k_is | rfl)
    (case z_sum => first | k_is | rfl)
    (case z_tuple => first | k_is | rfl)
    (case z_zip => first | k_is | rfl)
