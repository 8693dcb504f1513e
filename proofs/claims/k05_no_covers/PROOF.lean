import PyProof.Rows.All
import Wide.All
import OpenK.AllK
import Wide.FinOn
import PySem.Challenge.RW_spanshelf_k05_no_covers
import HandS.ForMost
import HandS.ForExc
import HandS.IsInst
import HandS.Wide
import HandS.WideBits
import HandS.Flt
import HandS.ExcIs
import HandS.ExcValue
import HandS.AnyAll
import HandS.EndTab
import HandS.Strs
import HandS.SetFor
import HandS.SortRule
import HandS.Style
set_option Elab.async false
set_option linter.all false
set_option maxRecDepth 100000
set_option maxHeartbeats 4000000
namespace Sp
open PySem PySem.Spec PyProof.Rows L2
/-! ### heaps -/
theorem same_upd {H : Hp} {p : Addr} {o : HO} (h : H p = none) : Same H (upd H p o) := fun b x e => by
  rw [upd_ne (ne_of_none e h)]
  exact e
theorem upd_at {H : Hp} {p : Addr} {o : HO} (h : H p = none) : (upd H p o) p = some o ∧ Same H (upd H p o) := ⟨upd_same, same_upd h⟩
theorem same_more {H H' : Hp} {p : Addr} {o : HO} (h : Same H H') (n : H p = none) : Same H (upd H' p o) := fun b x e => by
  rw [upd_ne (ne_of_none e n)]
  exact h _ _ e
/-- all but what stands at the addresses of L is kept -/
def Chg (L : List Addr) (H H' : Hp) : Prop := ∀ b o, b ∉ L → H b = some o → H' b = some o
theorem Chg.refl (L : List Addr) (H : Hp) : Chg L H H := fun _ _ _ h => h
theorem Chg.trans {L : List Addr} {H H1 H2 : Hp} (a : Chg L H H1) (b : Chg L H1 H2) : Chg L H H2 := fun c o n h => b c o n (a c o n h)
theorem Chg.of_same {L : List Addr} {H H' : Hp} (a : Same H H') : Chg L H H' := fun c o _ h => a c o h
theorem Chg.same {H H' : Hp} (a : Chg [] H H') : Same H H' := fun c o h => a c o List.not_mem_nil h
theorem Chg.mono {L L' : List Addr} {H H' : Hp} (a : Chg L H H') (h : ∀ x ∈ L, x ∈ L') : Chg L' H H' := fun c o n e => a c o (fun q => n (h c q)) e
theorem Chg.upd {L : List Addr} {H : Hp} {p : Addr} {o : HO} (h : p ∈ L) : Chg L H (upd H p o) := fun b x n e => by
  have hne : b ≠ p := fun z => n (by rw [z]; exact h)
  rw [upd_ne hne]
  exact e
theorem Chg.free {L : List Addr} {H H' : Hp} (a : Chg L H H') {l : Addr} (hl : l ∉ L) (h : H' l = none) : H l = none := by
  cases q : H l with
  | none => rfl
  | some o =>
    rw [a l o hl q] at h
    cases h
theorem Chg.seq {K : PySem.W.Frag} {L : List Addr} {H H' : Hp} {a : Addr} {xs : List V} (e : Chg L H H') (n : a ∉ L) (h : SqL K H a xs) : SqL K H' a xs := by
  rcases h with (h | ⟨o, h⟩) | h
  · exact .inl (.inl (e _ _ n h))
  · exact .inl (.inr ⟨o, e _ _ n h⟩)
  · exact .inr h
theorem same_tup {K : PySem.W.Frag} {H H' : Hp} {a : Addr} {xs : List V} (e : Same H H') (h : SqT K H a xs) : SqT K H' a xs := by
  rcases h with (h | ⟨o, h⟩) | h
  · exact .inl (.inl (e _ _ h))
  · exact .inl (.inr ⟨o, e _ _ h⟩)
  · exact .inr h
theorem nmem1 {a b : Addr} (h : a ≠ b) : a ∉ [b] := fun q => h (List.mem_singleton.mp q)
theorem nmem2 {a b c : Addr} (h : a ≠ b) (h2 : a ≠ c) : a ∉ [b, c] := fun q => by
  rcases List.mem_cons.mp q with q | q
  · exact h q
  · exact h2 (List.mem_singleton.mp q)
theorem small_lt {n : Nat} (h : n ≤ 1000000) : n < sizeLine := Nat.lt_of_le_of_lt h (by decide)
theorem small_le {n : Nat} (h : n ≤ 1000000) : n ≤ sizeLine := Nat.le_of_lt (small_lt h)
/-- a list of whole numbers at p that may be changed -/
def Pu (H : Hp) (p : Addr) (n : Nat) : Prop := ∃ a b c : Int, H p = some (.lst [.int a, .int b, .int c]) ∧ 0 ≤ a ∧ 0 ≤ b ∧ b < 2147483647 ∧ 0 ≤ c ∧ c ≤ n
theorem Pu.chg {L : List Addr} {H H' : Hp} {p : Addr} {n : Nat} (h : Pu H p n) (e : Chg L H H') (hp : p ∉ L) : Pu H' p n := by
  obtain ⟨a, b, c, h1, h2⟩ := h
  exact ⟨a, b, c, e _ _ hp h1, h2⟩
theorem Pu.same {H H' : Hp} {p : Addr} {n : Nat} (h : Pu H p n) (e : Same H H') : Pu H' p n := h.chg (L := []) (Chg.of_same e) List.not_mem_nil
theorem Pu.mono {H : Hp} {p : Addr} {n m : Nat} (h : Pu H p n) (e : n ≤ m) : Pu H p m := by
  obtain ⟨a, b, c, h1, h2, h3, h4, h5, h6⟩ := h
  exact ⟨a, b, c, h1, h2, h3, h4, h5, by omega⟩
theorem Pu.ne {H : Hp} {p q : Addr} {n : Nat} (h : Pu H p n) (e : H q = none) : p ≠ q := by
  obtain ⟨a, b, c, h1, _⟩ := h
  exact ne_of_none h1 e
theorem Pu.at {H : Hp} {p : Addr} {n : Nat} (h : Pu H p n) : ∃ o, H p = some o := by
  obtain ⟨a, b, c, h1, _⟩ := h
  exact ⟨_, h1⟩
/-! ### data: whole numbers, spans, lists of them -/
theorem dpAll_ints {K : PySem.W.Frag} {H : Hp} : ∀ ns : List Int, DpAll K H (ns.map V.int) (ns.map PyData.int)
  | [] => .nil
  | n :: r => .cons (.int n) (dpAll_ints r)
theorem lay_ints : ∀ ns : List Int, PyData.canLayAll0 (ns.map PyData.int) = true ∧ PyData.depthAll (ns.map PyData.int) = 0
  | [] => ⟨rfl, rfl⟩
  | n :: r => by
    obtain ⟨h1, h2⟩ := lay_ints r
    refine ⟨?_, ?_⟩
    · show (PyData.canLay0 (.int n) && PyData.canLayAll0 (r.map PyData.int)) = true
      rw [h1]
      rfl
    · show max (PyData.depth (.int n)) (PyData.depthAll (r.map PyData.int)) = 0
      rw [h2]
      rfl
theorem shaped_ints (ns : List Int) : SeqAt.shaped (.list (ns.map PyData.int)) = true := by
  obtain ⟨h1, h2⟩ := lay_ints ns
  show (PyData.canLayAll0 (ns.map PyData.int) && decide (PyData.depthAll (ns.map PyData.int) + 1 ≤ 64)) = true
  rw [h1, h2]
  rfl
theorem shaped_nil : SeqAt.shaped (.list []) = true := rfl
theorem eqv_ints_nil (ns : List Int) : PyData.eqv (.list (ns.map PyData.int)) (.list []) = decide (ns = []) := by
  cases ns with
  | nil => rfl
  | cons n r => simp [PyData.eqv, PyData.eqvAll]
abbrev Span := Int × Int
def spD (s : Span) : PyData := .tuple [.int s.1, .int s.2]
/-- v is the span s -/
def Spn (H : Hp) (v : V) (s : Span) : Prop := ∃ t, v = .ref t ∧ H t = some (.tup [.int s.1, .int s.2])
inductive Sps (H : Hp) : List V → List Span → Prop where
  | nil : Sps H [] []
  | cons {v : V} {s : Span} {vs : List V} {ss : List Span} : Spn H v s → Sps H vs ss → Sps H (v :: vs) (s :: ss)
theorem Spn.same {H H' : Hp} {v : V} {s : Span} (h : Spn H v s) (e : Same H H') : Spn H' v s := by
  obtain ⟨t, rfl, ht⟩ := h
  exact ⟨t, rfl, e _ _ ht⟩
theorem Sps.same {H H' : Hp} (e : Same H H') : ∀ {vs : List V} {ss : List Span}, Sps H vs ss → Sps H' vs ss
  | _, _, .nil => .nil
  | _, _, .cons h t => .cons (h.same e) (Sps.same e t)
/-- only lists are changed: spans stay -/
def Lsts (L : List Addr) (H : Hp) : Prop := ∀ p ∈ L, ∀ xs, H p ≠ some (.tup xs)
theorem Pu.lsts {H : Hp} {p : Addr} {n : Nat} (h : Pu H p n) : Lsts [p] H := fun b hb xs => by
  obtain ⟨_, _, _, h1, _⟩ := h
  rw [List.mem_singleton.mp hb, h1]
  exact fun z => by cases z
theorem Lsts.of1 {H : Hp} {l : Addr} {ys : List V} (h : H l = some (.lst ys)) : Lsts [l] H := fun b hb xs => by
  rw [List.mem_singleton.mp hb, h]
  exact fun z => by cases z
theorem Lsts.two {H : Hp} {p q : Addr} (h : Lsts [p] H) (h2 : Lsts [q] H) : Lsts [p, q] H := fun b hb xs => by
  rcases List.mem_cons.mp hb with e | e
  · rw [e]
    exact h p List.mem_cons_self xs
  · exact h2 b e xs
theorem Spn.chg {L : List Addr} {H H' : Hp} {v : V} {s : Span} (h : Spn H v s) (e : Chg L H H') (l : Lsts L H) : Spn H' v s := by
  obtain ⟨t, rfl, ht⟩ := h
  exact ⟨t, rfl, e _ _ (fun q => l t q _ ht) ht⟩
theorem Sps.chg {L : List Addr} {H H' : Hp} (e : Chg L H H') (l : Lsts L H) : ∀ {vs : List V} {ss : List Span}, Sps H vs ss → Sps H' vs ss
  | _, _, .nil => .nil
  | _, _, .cons h t => .cons (h.chg e l) (Sps.chg e l t)
theorem Sps.len {H : Hp} : ∀ {vs : List V} {ss : List Span}, Sps H vs ss → vs.length = ss.length
  | _, _, .nil => rfl
  | _, _, .cons _ t => congrArg (· + 1) t.len
theorem Sps.app {H : Hp} : ∀ {vs ws : List V} {ss ts : List Span}, Sps H vs ss → Sps H ws ts → Sps H (vs ++ ws) (ss ++ ts)
  | _, _, _, _, .nil, h => h
  | _, _, _, _, .cons a t, h => .cons a (Sps.app t h)
theorem Sps.one {H : Hp} {v : V} {s : Span} (h : Spn H v s) : Sps H [v] [s] := .cons h .nil
theorem Sps.get {H : Hp} : ∀ {vs : List V} {ss : List Span} {i : Nat} {v : V}, Sps H vs ss → vs[i]? = some v → ∃ s, ss[i]? = some s ∧ Spn H v s
  | _, _, _, _, .nil, e => by simp at e
  | _, _, 0, v, .cons (s := s) h t, e => ⟨s, rfl, by
      have q := Option.some.inj (show some _ = some v from e)
      rw [← q]
      exact h⟩
  | _, _, i + 1, v, .cons h t, e => Sps.get (i := i) t e
theorem Sps.get' {H : Hp} : ∀ {vs : List V} {ss : List Span} {i : Nat} {s : Span}, Sps H vs ss → ss[i]? = some s → ∃ v, vs[i]? = some v ∧ Spn H v s
  | _, _, _, _, .nil, e => by simp at e
  | _, _, 0, s, .cons (v := v) h t, e => ⟨v, rfl, by
      have q := Option.some.inj (show some _ = some s from e)
      rw [← q]
      exact h⟩
  | _, _, i + 1, v, .cons h t, e => Sps.get' (i := i) t e
theorem Spn.dp {K : PySem.W.Frag} {H : Hp} {v : V} {s : Span} (h : Spn H v s) : Dp K H v (spD s) := by
  obtain ⟨t, rfl, ht⟩ := h
  exact .tup (SqT.of ht) (.cons (.int _) (.cons (.int _) .nil))
theorem Sps.dpAll {K : PySem.W.Frag} {H : Hp} : ∀ {vs : List V} {ss : List Span}, Sps H vs ss → DpAll K H vs (ss.map spD)
  | _, _, .nil => .nil
  | _, _, .cons h t => .cons h.dp t.dpAll
theorem Sps.dp {K : PySem.W.Frag} {H : Hp} {a : Addr} {vs : List V} {ss : List Span} (h : Sps H vs ss) (q : SqL K H a vs) : Dp K H (.ref a) (.list (ss.map spD)) := .lst q h.dpAll
theorem lay_spans : ∀ ss : List Span, PyData.canLayAll0 (ss.map spD) = true ∧ PyData.depthAll (ss.map spD) ≤ 1
  | [] => ⟨rfl, by decide⟩
  | s :: r => by
    obtain ⟨h1, h2⟩ := lay_spans r
    refine ⟨?_, ?_⟩
    · show (PyData.canLay0 (spD s) && PyData.canLayAll0 (r.map spD)) = true
      rw [h1]
      rfl
    · show max (PyData.depth (spD s)) (PyData.depthAll (r.map spD)) ≤ 1
      have e : PyData.depth (spD s) = 1 := rfl
      rw [e]
      omega
theorem shaped_spans (ss : List Span) : SeqAt.shaped (.list (ss.map spD)) = true := by
  obtain ⟨h1, h2⟩ := lay_spans ss
  show (PyData.canLayAll0 (ss.map spD) && decide (PyData.depthAll (ss.map spD) + 1 ≤ 64)) = true
  rw [h1, decide_eq_true (by omega)]
  rfl
theorem eqv_span (s t : Span) : PyData.eqv (spD s) (spD t) = decide (s = t) := by
  obtain ⟨a, b⟩ := s
  obtain ⟨c, d⟩ := t
  simp [PyData.eqv, PyData.eqvAll, spD, Bool.beq_eq_decide_eq]
theorem eqvAll_spans : ∀ ss ts : List Span, PyData.eqvAll (ss.map spD) (ts.map spD) = decide (ss = ts)
  | [], [] => rfl
  | [], _ :: _ => rfl
  | _ :: _, [] => rfl
  | s :: ss, t :: ts => by
    show (PyData.eqv (spD s) (spD t) && PyData.eqvAll (ss.map spD) (ts.map spD)) = _
    rw [eqv_span, eqvAll_spans ss ts]
    by_cases h : s = t <;> by_cases h2 : ss = ts <;> simp [h, h2]
theorem eqv_spans (ss ts : List Span) : PyData.eqv (.list (ss.map spD)) (.list (ts.map spD)) = decide (ss = ts) := eqvAll_spans ss ts
theorem eqv_spans_nil (ss : List Span) : PyData.eqv (.list (ss.map spD)) (.list []) = decide (ss = []) := eqvAll_spans ss []
/-! ### generator expressions with two names, over pairs -/
/-- an iterator that yields pairs stands ready in s2; s1 is the state ahead of it -/
structure Src (X : Cx) (pins : List (Addr × Obj)) (σ : L2.St) (P : Addr) (H1 : Hp) (s1 s2 : Shared) (I : Addr) (fp wr : List Addr) (n : Nat) (Pt : Nat → Array Value → Prop) (Sn : Nat → Heap → Prop) (Mid : Nat → Addr → Heap → Prop) : Prop where
  inv : Inv X pins σ H1 s1
  tab : GxR.TabG H1 P
  eta : ∃ h2 tk, s2 = { s1 with heap := h2, toks := tk }
  keep : ∀ b o, s1.heap.get? b = some o → s2.heap.get? b = some o
  size : s1.heap.objs.size ≤ s2.heap.objs.size
  walk : ∀ A' : Around, A'.handled = none → WalksU X.prog X.w A' I fp wr n Pt Sn Mid
  two : ∀ i vals, Pt i vals → ∃ va vb, vals = #[va, vb]
  st : Sn 0 s2.heap
  fpl : ∀ b ∈ fp, b < s2.heap.objs.size ∧ b ≠ P
  new : ∀ b ∈ wr, s1.heap.objs.size ≤ b
/-- the generator expression's own scope: its two names -/
structure GenS2 (env : Env) (scope : Scope) (xa xb : Str) : Prop where
  kind : scope.kind = .function
  co : scope.isCoroutine = false
  cell : ∀ y ∈ scope.names, y.2 ≠ .cell
  dot : scope.names.lookup (".0" : Str) = some NameKind.local
  la : scope.names.lookup xa = some .local
  lb : scope.names.lookup xb = some .local
  ne : xa ≠ xb
  free : ∀ y ∈ scope.names, y.2 = .free → ∃ c, env.cells.lookup y.1 = some c
/-- the element of the i-th pair gives what F says; hr: the heap that is read -/
def EltQ (prog : Program) (w : World) (scope : Scope) (xa xb : Str) (elt : Expr) (Pt : Nat → Array Value → Prop) (F : Nat → Value → Prop) (hr : Heap) : Prop :=
  ∀ (cenv : Env) (A' : Around) (E' : Value → Shared → Prop) (i : Nat) (va vb : Value) (s2 : Shared) (m2 : Str → Option Value), cenv.scope = scope → Pt i #[va, vb] → s2.heap.Ns cenv.locals m2 → m2 xa = some va → m2 xb = some vb →
    (∀ b o, hr.get? b = some o → s2.heap.get? b = some o) → wpAny (model prog w) A' (eval elt cenv) (fun y s3 => F i y ∧ Keeps s2 s3) E' s2
/-- the generator g is ready: n elements, by F -/
def Ready2 (X : Cx) (pins : List (Addr × Obj)) (σ : L2.St) (H1 : Hp) (P : Addr) (n : Nat) (F : Nat → Value → Prop) (g : Addr) (s5 : Shared) : Prop :=
  ∃ (fp wr : List Addr) (G : Array GenState → Array GenState → Prop) (Sn : Nat → Shared → Prop), WalksS X.prog X.w X.A.in1 g fp wr G n F Sn ∧ Sn 0 s5 ∧ (∀ b ∈ fp, b < s5.heap.objs.size) ∧ ∀ s', Moved wr G s5 s' → ∃ H2, GxR.Tabbed P H1 H2 ∧ Inv X pins σ H2 s'
theorem walksS_imp {prog : Program} {w : World} {A : Around} {I : Addr} {fp wr : List Addr} {G : Array GenState → Array GenState → Prop} {n : Nat} {P P' : Nat → Value → Prop} {Sn : Nat → Shared → Prop} (W : WalksS prog w A I fp wr G n P Sn) (h : ∀ i v, P i v → P' i v) : WalksS prog w A I fp wr G n P' Sn where
  sub := W.sub
  grefl := W.grefl
  gtrans := W.gtrans
  frame := W.frame
  item := fun i t Q E hi st hq => W.item i t Q E hi st fun v t' hv => hq v t' (h i v hv)
  done := W.done
  self := W.self
section
variable {X : Cx} {pins : List (Addr × Obj)} {σ : L2.St} {H : Hp} {s : Shared}
theorem gen_two {c P : Addr} {elt iter : Expr} {xa xb : Str} {pa pb pt gpos : Pos} {kt k : Nat} {scope : Scope} {Q' : Value → Shared → Prop}
    (hr : Room k X.A) (TB : GxR.TabB X.base X.mg c P) (hcode : X.env.code = .ref c) (S : GenS2 X.env scope xa xb) (hs : ∀ v, genFold iter X.env v = pure v)
    (hi : wpAny (model X.prog X.w) X.A (eval iter X.env) (fun xv t1 => wpAny (model X.prog X.w) X.A (pyIter xv) (fun it t2 => ∃ (H1 : Hp) (s1 : Shared) (I : Addr) (fp wr : List Addr) (n : Nat) (Pt : Nat → Array Value → Prop) (Sn : Nat → Heap → Prop) (Mid : Nat → Addr → Heap → Prop) (F : Nat → Value → Prop),
      it = .ref I ∧ Src X pins σ P H1 s1 t2 I fp wr n Pt Sn Mid ∧ (∃ hr : Heap, (∀ b o, hr.get? b = some o → s1.heap.get? b = some o ∧ b ≠ P) ∧ EltQ X.prog X.w scope xa xb elt Pt F hr) ∧ ∀ g s5, Ready2 X pins σ H1 P n F g s5 → Q' (.ref g) s5) X.xe t1) X.xe s) :
    wpAny (model X.prog X.w) X.A (eval (.GeneratorExp elt [⟨.Tuple [.Name xa pa, .Name xb pb] kt pt, iter, [], 0⟩] scope gpos) X.env) Q' X.xe s := by
  refine wpAny_GeneratorExp_walksQT hr.hd S.co (closure_ok S.free) S.cell S.dot S.la S.lb S.ne S.kind (by have := hr.dp; omega) ?_ hs
  refine wpAny_mono hi (fun xv t1 h1 => wpAny_mono h1 (fun it t2 h2 => ?_) fun _ _ e => e) fun _ _ e => e
  obtain ⟨H1, s1, I, fp, wr, n, Pt, Sn, Mid, F, rfl, R, ⟨rd, rdk, el⟩, fin⟩ := h2
  have I1 := R.inv
  obtain ⟨ps, hP, tr⟩ := R.tab
  obtain ⟨h2, tk2, rfl⟩ := R.eta
  have gP : s1.heap.get? P = some { cls := .none, data := .fields ps } := I1.hok P _ hP
  have gP2 : h2.get? P = some { cls := .none, data := .fields ps } := R.keep _ _ gP
  have cd : PySem.W.CodeHd h2 c P := TB.code.keeps fun b u e => R.keep _ _ (I1.bk b u e)
  have lim : h2.NoLimit := I1.nolimit.keeps R.keep
  refine ⟨lim, ?_⟩
  -- behind the code object: what is left
  have rest : ∀ (code : Value) (h3 : Heap) (tk : Nat) (qs : Array Value), Heap.ExtBut P h2 h3 → h2.objs.size ≤ h3.objs.size → h3.get? P = some { cls := .none, data := .fields qs } → (∃ more, qs = ps ++ more) → TriplesOk qs.toList →
      wpAny (model X.prog X.w) X.A (builtinsFor X.env.globals X.env.builtins) (fun bi t4 => ∃ J fp wr n0 Pt St0 Mid pz F, Value.ref I = .ref J ∧ (∀ A' : Around, A'.handled = none → WalksU X.prog X.w A' J fp wr n0 Pt St0 Mid) ∧ (∀ i vals, Pt i vals → ∃ va vb, vals = #[va, vb]) ∧ St0 0 t4.heap ∧ (∀ b ∈ fp, b < t4.heap.objs.size) ∧ t4.heap.NoLimit ∧ cStatics ∉ wr ∧
        (∀ hf : Heap, (∀ b o, t4.heap.get? b = some o → hf.get? b = some o) → QuietGenT X.prog X.w (genEnv scope (cloFrom X.env.cells scope.names []) t4.heap.objs.size code bi X.env) xa xb [] elt (List.range t4.heap.objs.size) wr Pt pz F hf) ∧
        (∀ a h5 tk gs, gs.bare = true → t4.heap.objs.size < a → h5.objs.size = a + 1 → (∀ b o, t4.heap.get? b = some o → h5.get? b = some o) →
          WalksS X.prog X.w X.A.in4 a (a :: t4.heap.objs.size :: List.range t4.heap.objs.size) (t4.heap.objs.size :: wr) (GenOnlyQ t4.gens.size) (passing pz n0 0).length
            (fun j y => ∃ i, (passing pz n0 0)[j]? = some i ∧ F i y) (GenAt X.prog X.w X.A.in4 a t4.gens.size t4.heap.objs.size (List.range t4.heap.objs.size) wr pz n0 F) →
          GenAt X.prog X.w X.A.in4 a t4.gens.size t4.heap.objs.size (List.range t4.heap.objs.size) wr pz n0 F 0 { t4 with gens := t4.gens.push gs, toks := tk, heap := h5 } → Q' (.ref a) { t4 with gens := t4.gens.push gs, toks := tk, heap := h5 }))
        X.xe { s1 with heap := h3, toks := tk } := by
    intro code h3 tk qs hx hsz gP3 hmore tr3
    obtain ⟨bm, ob, b1, b2, b3, b4, b5, b6, b7, b8⟩ := TB.bm
    have ncP : cStatics ≠ P := fun e => by
      obtain ⟨_, hns, _⟩ := I1.nolimit
      obtain ⟨o', es, ep, ho, hd, _⟩ := hns
      rw [e, gP] at ho
      cases ho
      cases hd
    have ncl : cStatics < s1.heap.objs.size := let ⟨_, hns, _⟩ := I1.nolimit; hns.lt
    have kp3 : ∀ b u, b ≠ P → s1.heap.get? b = some u → h3.get? b = some u := fun b u hb e => hx b u hb (R.keep _ _ e)
    refine wpAny_builtinsFor (m := X.mg) (by rw [I1.ok.glob]; exact ((I1.mod.glob.keeps I1.bk).keeps R.keep).extBut hx TB.gP) b1 b2 (kp3 _ _ b4 (I1.bk _ _ b5)) b6 b7 b8 ?_
    refine ⟨I, fp, wr, n, Pt, Sn, Mid, (fun _ => true), F, rfl, R.walk, R.two, ?_, ?_, lim.extBut hx ncP, ?_, ?_, ?_⟩
    · exact (R.walk X.A hr.hd).frame _ _ _ R.st fun b hb u e => hx b u (R.fpl b hb).2 e
    · intro b hb
      exact Nat.lt_of_lt_of_le (R.fpl b hb).1 hsz
    · intro z
      exact absurd ncl (Nat.not_lt.mpr (R.new _ z))
    · intro hf hff
      refine ⟨fun A' E' i va vb t m hA hv hn ha hb hk => ?_, fun A' E' i va vb t m hA hv hp hn ha hb hk => ?_⟩
      · simp only [List.forIn_nil]
        exact wpAny_pure ⟨rfl, GxR.keeps_refl _⟩
      · refine el _ A' E' i va vb t m rfl hv hn ha hb fun b o e => ?_
        obtain ⟨e1, nP⟩ := rdk b o e
        have e3 := kp3 b o nP e1
        refine hk b (List.mem_range.mpr (Heap.lt_size e3)) (fun z => ?_) o (hff b o e3)
        have h9 := R.new _ z
        have h10 := Heap.lt_size e1
        exact absurd h10 (Nat.not_lt.mpr h9)
    · intro g h5 tk5 gs gb ga hs5 hk5 W5 hat
      simp only [GxR.passing_true, List.length_range] at W5
      have W6 := walksS_imp (P' := F) W5 fun i v hv => by
        obtain ⟨j, hj, hF⟩ := hv
        obtain ⟨hl, ej⟩ := List.getElem?_eq_some_iff.mp hj
        rw [List.getElem_range] at ej
        rw [ej]
        exact hF
      refine fin g _ ⟨_, _, _, _, W6.in4_1, hat, fun b hb => ?_, fun s' mv => ?_⟩
      · show b < h5.objs.size
        rcases List.mem_cons.mp hb with e | hb
        · rw [e, hs5]
          exact Nat.lt_succ_self _
        · rcases List.mem_cons.mp hb with e | hb
          · rw [e, hs5]
            exact Nat.lt_succ_of_lt ga
          · rw [hs5]
            exact Nat.lt_succ_of_lt (Nat.lt_trans (List.mem_range.mp hb) ga)
      · obtain ⟨more, em⟩ := hmore
        have out : ∀ b u, s1.heap.get? b = some u → b ∉ h3.objs.size :: wr := fun b u e hb => by
          have hl := Heap.lt_size e
          rcases List.mem_cons.mp hb with z | z
          · rw [z] at hl
            exact absurd hl (Nat.not_lt.mpr (Nat.le_trans R.size hsz))
          · exact absurd hl (Nat.not_lt.mpr (R.new _ z))
        have J := GxR.inv_tab (more := more) (h' := s'.heap) (g' := s'.gens) (d' := s'.drawn) (t' := s'.toks) I1 hP (fun b u hb e => mv.heap b u (out b u e) (hk5 b u (kp3 b u hb e)))
          (by rw [← em]; exact mv.heap P _ (out P _ gP) (hk5 P _ gP3)) (AllBare.movedS (I1.bare.push gb) mv)
        rw [GxR.sh_eta s1 s' mv.os] at J
        exact ⟨_, ⟨⟨ps ++ more, upd_same, by rw [← em]; exact tr3⟩, fun b hb => upd_ne hb⟩, J⟩
  cases hf : codeAmong gpos ps.toList with
  | none =>
    refine wpAny_genexprCodeX hcode (cd.code gP2 tr) (cd.tab gP2) hf fun c' h' tk hx hge hlt hco _ htab _ => ?_
    obtain ⟨_, _, _, _, _, _, _, _, _, _, _, _, _, _, _, _, _, _, _, htr, _⟩ := hco
    exact rest _ h' tk _ hx (Nat.le_trans hge (Nat.le_of_lt hlt)) htab.2 ⟨_, rfl⟩ htr
  | some cv =>
    refine wpAny_genexprCode_hit hcode (cd.code gP2 tr) hf ?_
    exact rest cv h2 tk2 ps (Heap.ExtBut.refl _ _) (Nat.le_refl _) gP2 ⟨#[], by simp⟩ tr
end
def genC (scope : Scope) (xa xb : Str) : Bool := decide (scope.kind = .function) && !scope.isCoroutine && scope.names.all (fun y => decide (y.2 ≠ .cell) && decide (y.2 ≠ .free)) && decide (scope.names.lookup (".0" : Str) = some NameKind.local) && decide (scope.names.lookup xa = some .local) && decide (scope.names.lookup xb = some .local) && decide (xa ≠ xb)
theorem genS2_by {env : Env} {scope : Scope} {xa xb : Str} (h : genC scope xa xb = true) : GenS2 env scope xa xb := by
  unfold genC at h
  simp only [Bool.and_eq_true, decide_eq_true_eq, List.all_eq_true, Bool.not_eq_true'] at h
  obtain ⟨⟨⟨⟨⟨⟨h1, h2⟩, h3⟩, h4⟩, h5⟩, h6⟩, h7⟩ := h
  exact ⟨h1, h2, fun y hy => (h3 y hy).1, h4, h5, h6, h7, fun y hy e => absurd e (h3 y hy).2⟩
section
variable {X : Cx} {pins : List (Addr × Obj)} {σ : L2.St} {H : Hp} {s : Shared}
/-! what stands in the machine behind a list of spans -/
theorem sps_objs {vs : List V} {ss : List Span} {its : List Value} (I : Inv X pins σ H s) (h : Sps H vs ss) (rv : Vals vs its) (j : Nat) (hj : j < its.length) :
    ∃ (t : Addr) (a b : Tok), its[j]? = some (.ref t) ∧ IsTup s.heap t #[.int (ss.getD j (0, 0)).1 a, .int (ss.getD j (0, 0)).2 b] ∧ ∃ q, H t = some (.tup q) := by
  have hl := rv.length
  have hl2 := h.len
  have hj2 : j < vs.length := by omega
  obtain ⟨sp, e1, t, e2, e3⟩ := h.get (List.getElem?_eq_getElem hj2)
  obtain ⟨u, e4, ru⟩ := rv.get (List.getElem?_eq_getElem hj2)
  rw [e2] at ru
  cases (show u = Value.ref t from ru)
  obtain ⟨_, ws, rw', p⟩ := (show ObjOk X.prog X.w H s.heap t (.tup [.int sp.1, .int sp.2]) from I.hok t _ e3)
  obtain ⟨u1, u2, rfl, ⟨a, rfl⟩, ⟨b, rfl⟩⟩ := vals2 rw'
  refine ⟨t, a, b, e4, ?_, _, e3⟩
  rw [List.getD_eq_getElem?_getD, e1]
  exact p
/-- what the rest of the machine needs of a list of spans: its items' addresses and their numbers -/
theorem sps_arr {vs : List V} {ss : List Span} {its : List Value} (I : Inv X pins σ H s) (h : Sps H vs ss) (rv : Vals vs its) :
    ∃ (Ts : Nat → Addr) (A B : Nat → Tok), ∀ j, j < its.length → its[j]? = some (.ref (Ts j)) ∧ IsTup s.heap (Ts j) #[.int (ss.getD j (0, 0)).1 (A j), .int (ss.getD j (0, 0)).2 (B j)] ∧ ∃ q, H (Ts j) = some (.tup q) := by
  have key : ∀ j, ∃ (r : Addr × Tok × Tok), j < its.length → its[j]? = some (.ref r.1) ∧ IsTup s.heap r.1 #[.int (ss.getD j (0, 0)).1 r.2.1, .int (ss.getD j (0, 0)).2 r.2.2] ∧ ∃ q, H r.1 = some (.tup q) := fun j => by
    by_cases hj : j < its.length
    · obtain ⟨t, a, b, e⟩ := sps_objs I h rv j hj
      exact ⟨(t, a, b), fun _ => e⟩
    · exact ⟨(0, 0, 0), fun z => absurd z hj⟩
  obtain ⟨f, hf⟩ := Classical.axiomOfChoice key
  exact ⟨fun j => (f j).1, fun j => (f j).2.1, fun j => (f j).2.2, hf⟩
/-! sum(b - a for a, b in spans) -/
def spanSum (ss : List Span) : Int := (ss.map fun s => s.2 - s.1).sum
theorem preSum_spans : ∀ (ss : List Span) (n : Nat), n ≤ ss.length → preSum (fun j => (ss.getD j (0, 0)).2 - (ss.getD j (0, 0)).1) n = spanSum (ss.take n)
  | _, 0, _ => rfl
  | ss, n + 1, h => by
    show preSum _ n + ((ss.getD n (0, 0)).2 - (ss.getD n (0, 0)).1) = _
    rw [preSum_spans ss n (by omega)]
    have hn : n < ss.length := by omega
    unfold spanSum
    rw [List.take_add_one, List.getElem?_eq_getElem hn, List.map_append, List.sum_append, List.getD_eq_getElem?_getD, List.getElem?_eq_getElem hn]
    simp
def tSumP (K : PySem.W.Frag) (P : Addr) (te : TE) : TE := fun σ H Q => te σ H fun v H1 => ∃ (l : Addr) (vs : List V) (ss : List Span), v = .ref l ∧ SqL K H1 l vs ∧ l ≠ P ∧ Sps H1 vs ss ∧ GxR.TabG H1 P ∧ ∀ H2, GxR.Tabbed P H1 H2 → Q (.int (spanSum ss)) H2
theorem pe_sumP {c P : Addr} {iter : Expr} {xa xb : Str} {pa pb pt gpos p pos p1 p2 p3 : Pos} {kt k : Nat} {scope : Scope} {te : TE}
    (hr : Room k X.A) (hg : Gl X "sum") (hm : X.mg "sum" = none) (TB : GxR.TabB X.base X.mg c P) (hcode : X.env.code = .ref c) (S : GenS2 X.env scope xa xb) (hi : PE X iter te) (hs : ∀ v, genFold iter X.env v = pure v)
    (ha : (xa == ("__debug__" : Str)) = false) (hb : (xb == ("__debug__" : Str)) = false)
    (he : starEach [.GeneratorExp (.BinOp (.Name xb p1) .Sub (.Name xa p2) p3) [⟨.Tuple [.Name xa pa, .Name xb pb] kt pt, iter, [], 0⟩] scope gpos] X.env = (false, eval (.GeneratorExp (.BinOp (.Name xb p1) .Sub (.Name xa p2) p3) [⟨.Tuple [.Name xa pa, .Name xb pb] kt pt, iter, [], 0⟩] scope gpos) X.env) :: starEach [] X.env := by rfl) :
    PE X (.Call (.Name "sum" p) [.GeneratorExp (.BinOp (.Name xb p1) .Sub (.Name xa p2) p3) [⟨.Tuple [.Name xa pa, .Name xb pb] kt pt, iter, [], 0⟩] scope gpos] [] pos) (tSumP X.K P te) := by
  constructor
  intro pins s σ H Q I hh
  refine wpAny_Call_Name_kw (ld_blt I hg hm boot_sum ?_)
  refine PyProof.Rows.callWith_builtin1 ?_ he (by rfl)
  rw [he]
  show wpAny _ _ (spliced ((false, eval (.GeneratorExp (.BinOp (.Name xb p1) .Sub (.Name xa p2) p3) [⟨.Tuple [.Name xa pa, .Name xb pb] kt pt, iter, [], 0⟩] scope gpos) X.env) :: backTo pos (starEach [] X.env))) _ _ s
  refine Calls.spliced_cons (gen_two (pins := pins) (σ := σ) hr TB hcode S hs ?_)
  refine thn (hi.run pins s σ H _ I hh) fun v s1 got => ?_
  obtain ⟨x, H1, I1, r1, l, vs, ss, rfl, hq, nlP, hS, tab, q⟩ := got
  cases (show v = Value.ref l from r1)
  obtain ⟨its, rv, pl, hz⟩ := I1.list hq
  obtain ⟨Ts, A, B, hT⟩ := sps_arr I1 hS rv
  have hlen : its.length = ss.length := by rw [← rv.length, hS.len]
  have isl := pl.isList
  refine wpAny_pyIter_list isl ?_
  obtain ⟨ps, hP, _⟩ := id tab
  have gP : s1.heap.get? P = some { cls := .none, data := .fields ps } := I1.hok P _ hP
  have kp : ∀ b o, s1.heap.get? b = some o → (s1.heap.push { cls := .type "list_iterator", data := .fields #[.ref l, .int 0 0] }).get? b = some o := fun b o e => Heap.get?_push_of_some _ e
  have ltT : ∀ j, j < its.length → Ts j < s1.heap.objs.size := fun j hj => by
    obtain ⟨_, ⟨o, ho, _⟩, _⟩ := hT j hj
    exact Heap.lt_size ho
  have llt : l < s1.heap.objs.size := pl.lt
  have size_a : its.toArray.size = its.length := by simp
  have hTP : ∀ j, j < its.length → Ts j ≠ P := fun j hj z => by
    obtain ⟨_, _, w, hw⟩ := hT j hj
    rw [z, hP] at hw
    cases hw
  obtain ⟨hd, _, hd2⟩ := restrict s1.heap fun _ => false
  refine ⟨H1, s1, s1.heap.objs.size, _, _, _, _, _, _, fun j y => j < its.length ∧ ∃ t, y = .int ((ss.getD j (0, 0)).2 - (ss.getD j (0, 0)).1) t, rfl,
    { inv := I1, tab := tab, eta := ⟨_, _, rfl⟩, keep := kp, size := ?_,
      walk := fun A' hA => (WalksU.listOfTuples hA s1.heap.objs.size l (Nat.ne_of_lt llt) its.toArray Ts (fun j => #[.int (ss.getD j (0, 0)).1 (A j), .int (ss.getD j (0, 0)).2 (B j)]) (fun j hj => by rw [size_a] at hj; simpa using (hT j hj).1) (fun j hj => by rw [size_a] at hj; exact Nat.ne_of_lt (ltT j hj))).bound,
      two := fun i vals h => ⟨_, _, h.2⟩, st := ⟨⟨_, Heap.get?_push_size _ rfl, rfl, rfl⟩, isl.push _, fun j hj => ?_⟩, fpl := fun b hb => ?_, new := fun b hb => ?_ }, ⟨hd, fun b o e => ?_, ?_⟩, fun g s5 R => ?_⟩
  · show s1.heap.objs.size ≤ (s1.heap.push _).objs.size
    rw [Heap.size_push]
    exact Nat.le_succ _
  · rw [size_a] at hj
    obtain ⟨_, ⟨o, ho, r⟩, _⟩ := hT j hj
    exact ⟨o, kp _ _ ho, r⟩
  · have sz : (s1.heap.push { cls := .type "list_iterator", data := .fields #[.ref l, .int 0 0] }).objs.size = s1.heap.objs.size + 1 := Heap.size_push ..
    rcases List.mem_cons.mp hb with e | hb
    · refine ⟨?_, fun z => ?_⟩
      · rw [e]
        show s1.heap.objs.size < (s1.heap.push _).objs.size
        rw [sz]
        exact Nat.lt_succ_self _
      · rw [← z, e] at gP
        exact absurd (Heap.lt_size gP) (Nat.lt_irrefl _)
    · rcases List.mem_cons.mp hb with e | hb
      · refine ⟨?_, ?_⟩
        · rw [e]
          show l < (s1.heap.push _).objs.size
          rw [sz]
          exact Nat.lt_succ_of_lt llt
        · rw [e]
          exact nlP
      · obtain ⟨j, hj, e⟩ := List.mem_map.mp hb
        have hj := List.mem_range.mp hj
        rw [size_a] at hj
        refine ⟨?_, ?_⟩
        · rw [← e]
          show Ts j < (s1.heap.push _).objs.size
          rw [sz]
          exact Nat.lt_succ_of_lt (ltT j hj)
        · rw [← e]
          exact hTP j hj
  · rw [List.mem_singleton.mp hb]
    exact Nat.le_refl _
  · rw [hd2 b rfl] at e
    cases e
  · intro cenv A' E' i va vb t m hc hv hn h1 h2 _
    obtain ⟨hi, hv⟩ := hv
    have hv := Array.toList_inj.mpr hv
    simp only [List.cons.injEq, and_true] at hv
    obtain ⟨rfl, rfl⟩ := hv
    rw [size_a] at hi
    refine wpAny_BinOp ?_
    refine wpAny_Name (wpAny_loadName_local (by rw [hc]; exact S.kind) (show cenv.scope.names.lookup xb = some .local by rw [hc]; exact S.lb) hn h2 ?_) hb
    refine wpAny_Name (wpAny_loadName_local (by rw [hc]; exact S.kind) (show cenv.scope.names.lookup xa = some .local by rw [hc]; exact S.la) hn h1 ?_) ha
    exact sub_int ⟨⟨hi, _, rfl⟩, GxR.keeps_tok _ _⟩
  · obtain ⟨fp, wr, G, Sn, W, st, lt, mv⟩ := R
    refine Calls.spliced_nil ?_
    refine call_sum_walkAnyS (W.self 0 _ _ _ st ⟨g, fp, wr, G, its.toArray.size, _, Sn, fun j => (ss.getD j (0, 0)).2 - (ss.getD j (0, 0)).1, rfl, W, st, lt, fun i v hv => hv.2, fun s' t' hm => ?_⟩)
    obtain ⟨H2, hT2, J⟩ := mv s' hm
    refine ⟨.int _, H2, J, ⟨t', rfl⟩, ?_⟩
    rw [size_a, hlen, preSum_spans ss ss.length (Nat.le_refl _), List.take_length]
    exact q H2 hT2
/-! all(a[1] < b[0] for a, b in zip(xs, ys)) -/
def gapAll (ss rs : List Span) : Bool := (List.range (min ss.length rs.length)).all fun i => decide ((ss.getD i (0, 0)).2 < (rs.getD i (0, 0)).1)
def tAllZ (K : PySem.W.Frag) (P : Addr) (ta : TA) : TE := fun σ H Q => ta σ H fun us H1 => ∃ (a b : Addr) (xs ys : List V) (ss rs : List Span), us = [.ref a, .ref b] ∧ SqL K H1 a xs ∧ SqL K H1 b ys ∧ a ≠ P ∧ b ≠ P ∧ Sps H1 xs ss ∧ Sps H1 ys rs ∧ GxR.TabG H1 P ∧ ∀ H2, GxR.Tabbed P H1 H2 → Q (.bl (gapAll ss rs)) H2
theorem ev_item {prog : Program} {w : World} {A : Around} {E : Value → Shared → Prop} {Q : Value → Shared → Prop} {cenv : Env} {s : Shared} {m : Str → Option Value} {x : Str} {t : Addr} {u0 u1 : Value} {i : Nat} {v : Value} {j : Nat} {p1 p2 p3 : Pos}
    (hk : cenv.scope.kind = .function) (hl : cenv.scope.names.lookup x = some .local) (hn : s.heap.Ns cenv.locals m) (hm : m x = some (.ref t)) (hd : (x == ("__debug__" : Str)) = false) (ht : IsTup s.heap t #[u0, u1]) (hi : i < 2) (hv : #[u0, u1][i]? = some v) (h : Q v { s with toks := s.toks + 1 }) :
    wpAny (model prog w) A (eval (.Subscript (.Name x p1) (.Constant (.int (i : Int)) j p2) p3) cenv) Q E s := by
  refine Subscript_ (wpAny_Name (wpAny_loadName_local hk hl hn hm (wpAny_Constant_int ?_)) hd)
  refine subscriptTail_builtinR (x := v) (show Shared.TypeIs _ (.ref t) "tuple" from IsTup.typeIs (s := { s with toks := s.toks + 1 }) ht) slot_tuple_getitem.lookup
    (PyProof.Rows.getItem_tuple (j := i) (Q := fun r s' => r = v ∧ Q r s') (s := { s with toks := s.toks + 1 }) ht (by omega) (by omega) (seqIndex_of (by omega) (by show (i : Int) < ((#[u0, u1].size : Nat) : Int); simp; omega)) hv ⟨rfl, h⟩) (by first | rfl | with_unfolding_all rfl)
theorem pe_allZ {c P : Addr} {e1 e2 : Expr} {xa xb : Str} {pa pb pt gpos p pos p1 p2 p3 p4 p5 p6 p7 zp zpos : Pos} {kt k j1 j2 : Nat} {scope : Scope} {ta : TA}
    (hr : Room k X.A) (hg : Gl X "all") (hm : X.mg "all" = none) (hba : bootBuiltins "all" = some (.builtin "all")) (hgz : Gl X "zip") (hmz : X.mg "zip" = none) (TB : GxR.TabB X.base X.mg c P) (hcode : X.env.code = .ref c) (S : GenS2 X.env scope xa xb) (hi : PA X [e1, e2] ta)
    (hs : ∀ v, genFold (.Call (.Name "zip" zp) [e1, e2] [] zpos) X.env v = pure v)
    (ha : (xa == ("__debug__" : Str)) = false) (hb : (xb == ("__debug__" : Str)) = false)
    (hz : starEach [e1, e2] X.env = (false, eval e1 X.env) :: starEach [e2] X.env := by rfl) (hpl : (backTo zpos (starEach [e2] X.env)).any (·.1) = false := by rfl)
    (he : starEach [.GeneratorExp (.Compare (.Subscript (.Name xa p1) (.Constant (.int 1) j1 p2) p3) [.Lt] [.Subscript (.Name xb p4) (.Constant (.int 0) j2 p5) p6] p7) [⟨.Tuple [.Name xa pa, .Name xb pb] kt pt, .Call (.Name "zip" zp) [e1, e2] [] zpos, [], 0⟩] scope gpos] X.env = (false, eval (.GeneratorExp (.Compare (.Subscript (.Name xa p1) (.Constant (.int 1) j1 p2) p3) [.Lt] [.Subscript (.Name xb p4) (.Constant (.int 0) j2 p5) p6] p7) [⟨.Tuple [.Name xa pa, .Name xb pb] kt pt, .Call (.Name "zip" zp) [e1, e2] [] zpos, [], 0⟩] scope gpos) X.env) :: starEach [] X.env := by rfl) :
    PE X (.Call (.Name "all" p) [.GeneratorExp (.Compare (.Subscript (.Name xa p1) (.Constant (.int 1) j1 p2) p3) [.Lt] [.Subscript (.Name xb p4) (.Constant (.int 0) j2 p5) p6] p7) [⟨.Tuple [.Name xa pa, .Name xb pb] kt pt, .Call (.Name "zip" zp) [e1, e2] [] zpos, [], 0⟩] scope gpos] [] pos) (tAllZ X.K P ta) := by
  constructor
  intro pins s σ H Q I hh
  refine wpAny_Call_Name_kw (ld_blt I hg hm hba ?_)
  refine PyProof.Rows.callWith_builtin1 ?_ he (by rfl)
  rw [he]
  show wpAny _ _ (spliced ((false, eval (.GeneratorExp (.Compare (.Subscript (.Name xa p1) (.Constant (.int 1) j1 p2) p3) [.Lt] [.Subscript (.Name xb p4) (.Constant (.int 0) j2 p5) p6] p7) [⟨.Tuple [.Name xa pa, .Name xb pb] kt pt, .Call (.Name "zip" zp) [e1, e2] [] zpos, [], 0⟩] scope gpos) X.env) :: backTo pos (starEach [] X.env))) _ _ s
  refine Calls.spliced_cons (gen_two (pins := pins) (σ := σ) hr TB hcode S hs ?_)
  refine Call_ (ld_blt I hgz hmz PyProof.Rows.boot_zip (PyProof.Rows.callWith_type1 (thn (hi.run zpos pins s σ H _ I hh) fun us s1 got => ?_) hz hpl))
  obtain ⟨ws, H1, I1, r1, a, b, xs, ys, ss, rs, rfl, hqx, hqy, naP, nbP, hS, hR, tab, q⟩ := got
  obtain ⟨u1, u2, rfl, ra, rb⟩ := vals2 r1
  cases (show u1 = Value.ref a from ra)
  cases (show u2 = Value.ref b from rb)
  obtain ⟨its, rv, pl, hz1⟩ := I1.list hqx
  obtain ⟨its2, rv2, pl2, hz2⟩ := I1.list hqy
  obtain ⟨Ts, A, B, hT⟩ := sps_arr I1 hS rv
  obtain ⟨Us, A2, B2, hU⟩ := sps_arr I1 hR rv2
  have hlen : its.length = ss.length := by rw [← rv.length, hS.len]
  have hlen2 : its2.length = rs.length := by rw [← rv2.length, hR.len]
  have isl := pl.isList
  have isl2 := pl2.isList
  obtain ⟨ps, hP, _⟩ := id tab
  have gP : s1.heap.get? P = some { cls := .none, data := .fields ps } := I1.hok P _ hP
  refine call_zip_2 isl isl2 fun h' hz' hTI hTO h1 h2 hsz hk => wpAny_pyIter_zip hz' ?_
  have PL := Heap.lt_size gP
  have newP : ∀ n : Nat, s1.heap.objs.size + n ≠ P := fun n z => by
    rw [← z] at PL
    exact absurd PL (Nat.not_lt.mpr (Nat.le_add_right _ _))
  have D := PySem.W.ktu_apart s1.heap.objs.size a b pl.lt pl2.lt
  let rd : Heap := s1.heap
  have mn : min its.toArray.size its2.toArray.size = min ss.length rs.length := by simp [hlen, hlen2]
  -- what is read while it runs: all that stood but the table
  obtain ⟨hd, hd1, hd2⟩ := restrict s1.heap fun b => decide (b ≠ P)
  refine ⟨H1, s1, s1.heap.objs.size + 4, _, _, _, _, _, _, fun j y => j < min ss.length rs.length ∧ y = .bool (decide ((ss.getD j (0, 0)).2 < (rs.getD j (0, 0)).1)), rfl,
    { inv := I1, tab := tab, eta := ⟨_, _, rfl⟩, keep := hk, size := ?_,
      walk := fun A' hA => (WalksT.zip2 hA (s1.heap.objs.size + 4) (s1.heap.objs.size + 2) (s1.heap.objs.size + 3) s1.heap.objs.size (s1.heap.objs.size + 1) a b D its.toArray its2.toArray).toU.bound,
      two := fun i vals h => ?_, st := ⟨hz', hTI, ⟨_, _, hTO⟩, h1, h2, (by obtain ⟨o, ho, r⟩ := isl; exact ⟨o, hk _ _ ho, r⟩), (by obtain ⟨o, ho, r⟩ := isl2; exact ⟨o, hk _ _ ho, r⟩)⟩, fpl := fun c hc => ?_, new := fun c hc => ?_ }, ⟨hd, fun c o e => ?_, ?_⟩, fun g s5 R => ?_⟩
  · show s1.heap.objs.size ≤ h'.objs.size
    rw [hsz]
    exact Nat.le_add_right _ _
  · obtain ⟨_, x, y, _, _, e⟩ := h
    exact ⟨x, y, e⟩
  · have hc' : c = s1.heap.objs.size + 4 ∨ c = s1.heap.objs.size + 2 ∨ c = s1.heap.objs.size + 3 ∨ c = s1.heap.objs.size ∨ c = s1.heap.objs.size + 1 ∨ c = a ∨ c = b := by simpa using hc
    have al : a < s1.heap.objs.size := pl.lt
    have bl : b < s1.heap.objs.size := pl2.lt
    have sz : h'.objs.size = s1.heap.objs.size + 5 := hsz
    refine ⟨?_, ?_⟩
    · show c < h'.objs.size
      rw [sz]
      rcases hc' with e | e | e | e | e | e | e <;> rw [e]
      · exact Nat.add_lt_add_left (by decide) _
      · exact Nat.add_lt_add_left (by decide) _
      · exact Nat.add_lt_add_left (by decide) _
      · exact Nat.lt_add_of_pos_right (by decide)
      · exact Nat.add_lt_add_left (by decide) _
      · exact Nat.lt_of_lt_of_le al (Nat.le_add_right _ _)
      · exact Nat.lt_of_lt_of_le bl (Nat.le_add_right _ _)
    · rcases hc' with e | e | e | e | e | e | e <;> rw [e]
      · exact newP 4
      · exact newP 2
      · exact newP 3
      · exact newP 0
      · exact newP 1
      · exact naP
      · exact nbP
  · have hc' : c = s1.heap.objs.size + 4 ∨ c = s1.heap.objs.size + 3 ∨ c = s1.heap.objs.size ∨ c = s1.heap.objs.size + 1 := by simpa using hc
    rcases hc' with e | e | e | e <;> rw [e]
    · exact Nat.le_add_right _ _
    · exact Nat.le_add_right _ _
    · exact Nat.le_refl _
    · exact Nat.le_add_right _ _
  · by_cases hc : c = P
    · rw [hd2 c (by simp [hc])] at e
      cases e
    · rw [hd1 c (decide_eq_true hc)] at e
      exact ⟨e, hc⟩
  · intro cenv A' E' i va vb t m hc hv hn h3 h4 hk2
    obtain ⟨hi', x, y, ex, ey, hv⟩ := hv
    have hv := Array.toList_inj.mpr hv
    simp only [List.cons.injEq, and_true] at hv
    obtain ⟨rfl, rfl⟩ := hv
    rw [mn] at hi'
    have i1 : i < its.length := by omega
    have i2 : i < its2.length := by omega
    obtain ⟨e1, t1, w1, g1⟩ := hT i i1
    obtain ⟨e2, t2, w2, g2⟩ := hU i i2
    have ex' : va = .ref (Ts i) := by
      have : its[i]? = some va := by simpa using ex
      rw [e1] at this
      exact (Option.some.inj this).symm
    have ey' : vb = .ref (Us i) := by
      have : its2[i]? = some vb := by simpa using ey
      rw [e2] at this
      exact (Option.some.inj this).symm
    subst ex' ey'
    have rd : ∀ {z : Addr} {ar : Array Value}, IsTup s1.heap z ar → (∃ q, H1 z = some (.tup q)) → IsTup t.heap z ar := fun {z ar} h q => by
      obtain ⟨o, ho, r⟩ := h
      refine ⟨o, hk2 _ _ ?_, r⟩
      rw [hd1 z (decide_eq_true fun zP => ?_)]
      · exact ho
      · obtain ⟨q, hq⟩ := q
        rw [zP, hP] at hq
        cases hq
    refine wpAny_Compare1 ?_
    refine ev_item (i := 1) (by rw [hc]; exact S.kind) (show cenv.scope.names.lookup xa = some .local by rw [hc]; exact S.la) hn h3 ha (rd t1 ⟨w1, g1⟩) (by decide) rfl ?_
    refine ev_item (i := 0) (s := { t with toks := t.toks + 1 }) (by rw [hc]; exact S.kind) (show cenv.scope.names.lookup xb = some .local by rw [hc]; exact S.lb) hn h4 hb (rd t2 ⟨w2, g2⟩) (by decide) rfl ?_
    exact lt_int ⟨⟨hi', rfl⟩, GxR.keeps_tok t _⟩
  · obtain ⟨fp, wr, G, Sn, W, st, lt, mv⟩ := R
    refine Calls.spliced_nil ?_
    refine call_all_walkS (W.self 0 _ _ _ st ⟨g, fp, wr, G, _, _, Sn, fun j => decide ((ss.getD j (0, 0)).2 < (rs.getD j (0, 0)).1), rfl, W, st, fun i v t Q1 E1 hv hq => ?_, fun s' hmv => ?_⟩)
    · rw [hv.2]
      exact wpAny_truthy_bool hq
    · obtain ⟨H2, hT2, J⟩ := mv s' hmv
      refine ⟨.bl _, H2, J, rfl, ?_⟩
      rw [mn]
      exact q H2 hT2
end
/-! ### defs that hold generator expressions: their code objects and tables -/
structure FunC (K : PySem.W.Frag) (x qual : Str) (st : Stmt) (f : Addr) (fd : FuncData) (c : Addr) : Prop where
  ex : ∃ (oc : Value) (od : Option Addr) (kV doc pm : Value) (an : Option Addr) (ct : Value) (osl : Array (Option Value)),
    fd = PySem.W.fnOf x qual (defArgs st) (defBody st) (defScope st) .none kV doc pm an (.ref c) ct ∧ K.lookup f = some ⟨oc, od, .func fd, osl⟩ ∧ PySem.W.codeIn K (.ref c) qual = true
section
variable {P : Program} {w : World} {K : PySem.W.Frag} {mg : Str → Option Value} {base : Heap}
theorem FunC.ok {x qual : Str} {st : Stmt} {f c : Addr} {fd : FuncData} {N ps : List Str} {k : Nat} {sp : Sp} (F : FunC K x qual st f fd c) (S : FnScope N ps (defScope st)) (len : ∀ vs H Q E, sp vs H Q E → vs.length = ps.length)
    (hbody : ∀ (A : Around) (outer : List Env) (s : Shared) (H : Hp) (vs : List V) (Q : VK) (E : XK), Room k (A.deeper (envOfC qual (defScope st) s.heap.objs.size f (.ref c))) → sp vs H Q E →
      ∃ t, PSs (cxOf CX0 P w K mg base N qual (defScope st) f (.ref c) A outer s H E).nox (defBody st) t ∧ t { nx := fun _ H' => Q .non H', rt := Q } (start N vs) H) : FnOk P w K mg base CX0 (k + 1) f fd ps sp := by
  obtain ⟨oc, od, kV, doc, pm, an, ct, osl, rfl, lk, hcd⟩ := F.ex
  refine fn_of lk hcd S len fun A outer s H vs Q E hr hsp => ?_
  obtain ⟨t, h, q⟩ := hbody A outer s H vs Q E hr hsp
  exact ⟨t, h.nox, q⟩
theorem FunC.okX {x qual : Str} {st : Stmt} {f c : Addr} {fd : FuncData} {N ps : List Str} {k : Nat} {sp : Sp} (F : FunC K x qual st f fd c) (S : FnScope N ps (defScope st)) (len : ∀ vs H Q E, sp vs H Q E → vs.length = ps.length)
    (hbody : ∀ (A : Around) (outer : List Env) (s : Shared) (H : Hp) (vs : List V) (Q : VK) (E : XK), Room k (A.deeper (envOfC qual (defScope st) s.heap.objs.size f (.ref c))) → sp vs H Q E →
      ∃ t, PSs (cxOf (L2.CX P w) P w K mg base N qual (defScope st) f (.ref c) A outer s H E) (defBody st) t ∧ t { nx := fun _ H' => Q .non H', rt := Q } (start N vs) H) : FnOk P w K mg base (L2.CX P w) (k + 1) f fd ps sp := by
  obtain ⟨oc, od, kV, doc, pm, an, ct, osl, rfl, lk, hcd⟩ := F.ex
  exact fn_of lk hcd S len fun A outer s H vs Q E hr hsp => hbody A outer s H vs Q E hr hsp
end
/-- the head's word about a def's code object and its table -/
def TabRec (h : Heap) (mg : Str → Option Value) (nm : Str) : Prop := ∃ (a : Addr) (o : Obj) (fd : FuncData) (c P : Addr), mg nm = some (.ref a) ∧ h.get? a = some o ∧ o.data = .func fd ∧ fd.code = .ref c ∧ h.IsCode c P #[] ∧ h.TableAt c P #[]
theorem walk_tabs {l : PySem.W.OpenLaw} {n k : Nat} {q : Program} {loose : List Str} {XP : (Str → Option Value) → Heap → Prop} {YP : World → Heap → Prop} {d : DefRec} {K : Params → PySem.W.Frag} {CX : World → CXT} {x : Str} (nms : List Str)
    (hn : l.most = some n) (hn2 : n ≤ sizeLine) (hdf : d.params.defaults = []) (hr : Room k callerA) (hrec : (nms.all fun nm => (recsOf q).any fun e => e.name == nm) = true) (hY : ∀ (w : World) (h : Heap), YP w h → (K w.params).In h)
    (F : ∀ (w : World) (mg : Str → Option Value) (fa : Addr) (h : Heap), (K w.params).In h → h.Ns mainGlobals mg → mg d.name = some (.ref fa) → (∀ nm ∈ nms, TabRec h mg nm) → LamX.LawAtS l w (K w.params) (CX w) k n x mg fa h)
    (hCX : ∀ (w : World) (H : Hp) (s : Shared) (e : Value) (s' : Shared), CX w [] H s (fun _ _ _ => False) e s' → False) :
    PySem.W.WalkO q loose XP YP l.row.toRowW d [] (fun f vs => PySem.call f vs) := by
  refine Att.attach_callB hn hdf fun w s0 s1 mg mb fa o pm cd doc a vs ns G Y ho hd hcd hmg hobj hints hlen hbits hg => ?_
  have KX := hY w _ Y
  have tabs : ∀ nm ∈ nms, TabRec s1.heap mg nm := fun nm hm => by
    obtain ⟨dL, h1, h2⟩ := List.any_eq_true.mp (List.all_eq_true.mp hrec nm hm)
    obtain ⟨a', o', fd', c', P', k1, k2, k3, k4, k5, k6⟩ := G.T.tab dL h1
    rw [beq_iff_eq.mp h2] at k1
    exact ⟨a', o', fd', c', P', k1, k2, k3, k4, k5, k6⟩
  obtain ⟨fd, cs, sp, hT, nT, C, hb, hsp, hF⟩ := F w mg fa _ KX G.T.g hmg tabs
  exact LamX.law_callTs KX G.T.g G.T.b G.T.builtins G.T.nolimit hg hT nT C G.T.bmain hobj hints (Nat.le_trans hlen hn2) hr hF hb (fun H hH hS => hsp H a ns hlen hbits hH hS) fun H e s' => hCX w H s1 e s'
/-- the table of the def at f, as the written part names it -/
theorem tab_of {K : PySem.W.Frag} {h : Heap} {mg : Str → Option Value} {nm : Str} {f c P : Addr} {fd : FuncData} {oc : Value} {od : Option Addr} {osl : Array (Option Value)} {ec : Value} {dc : Option Addr} {vc : Array Value} {sl : Array (Option Value)} (X : K.In h) (R : TabRec h mg nm)
    (g : mg nm = some (.ref f)) (lf : K.lookup f = some ⟨oc, od, .func fd, osl⟩) (hc : fd.code = .ref c) (lc : K.lookup c = some ⟨ec, dc, .fields vc, sl⟩) (h11 : vc[11]? = some (.ref P)) :
    h.get? P = some { cls := .none, data := .fields #[] } ∧ PySem.W.CodeHd h c P := by
  obtain ⟨a, o, fd', c', P', k1, k2, k3, k4, k5, k6⟩ := R
  rw [g] at k1
  cases k1
  rw [X _ _ lf] at k2
  cases k2
  cases k3
  rw [hc] at k4
  cases k4
  have hd := PySem.W.CodeHd.of k5 k6
  obtain ⟨⟨o2, v2, e1, _, e3, e4⟩, hP⟩ := k6
  rw [X _ _ lc] at e1
  cases e1
  cases e3
  rw [h11] at e4
  cases e4
  exact ⟨hP, hd⟩
/-- the tables stand -/
def Tb (Ps : List Addr) (H : Hp) : Prop := ∀ P ∈ Ps, GxR.TabG H P
theorem Tb.same {Ps : List Addr} {H H' : Hp} (t : Tb Ps H) (e : Same H H') : Tb Ps H' := fun P hP => by
  obtain ⟨ps, h1, h2⟩ := t P hP
  exact ⟨ps, e _ _ h1, h2⟩
theorem Tb.chg {Ps L : List Addr} {H H' : Hp} (t : Tb Ps H) (e : Chg L H H') (n : ∀ P ∈ Ps, P ∉ L) : Tb Ps H' := fun P hP => by
  obtain ⟨ps, h1, h2⟩ := t P hP
  exact ⟨ps, e _ _ (n P hP) h1, h2⟩
theorem Tb.out {Ps : List Addr} {H : Hp} {a : Addr} {o : HO} (t : Tb Ps H) (h : H a = some o) (n : ∀ ps, o ≠ .tbl ps) : a ∉ Ps := fun hm => by
  obtain ⟨ps, h1, _⟩ := t a hm
  rw [h] at h1
  exact n ps (Option.some.inj h1)
theorem Tb.new {Ps : List Addr} {H : Hp} {a : Addr} (t : Tb Ps H) (h : H a = none) : a ∉ Ps := fun hm => by
  obtain ⟨ps, h1, _⟩ := t a hm
  rw [h] at h1
  cases h1
theorem Tb.lsts {Ps : List Addr} {H : Hp} (t : Tb Ps H) : Lsts Ps H := fun P hP xs z => by
  obtain ⟨ps, h1, _⟩ := t P hP
  rw [h1] at z
  cases z
theorem Tb.tabbed {Ps : List Addr} {H H' : Hp} {P : Addr} (t : Tb Ps H) (hP : P ∈ Ps) (e : GxR.Tabbed P H H') : Tb Ps H' ∧ Chg Ps H H' := by
  refine ⟨fun Q hQ => ?_, fun b o n h => ?_⟩
  · by_cases z : Q = P
    · rw [z]
      exact e.1
    · obtain ⟨ps, h1, h2⟩ := t Q hQ
      exact ⟨ps, by rw [e.2 Q z]; exact h1, h2⟩
  · have z : b ≠ P := fun z => n (by rw [z]; exact hP)
    rw [e.2 b z]
    exact h
theorem nodup_len : ∀ {l m : List Int}, l.Nodup → (∀ x ∈ l, x ∈ m) → l.length ≤ m.length
  | [], _, _, _ => Nat.zero_le _
  | a :: l, m, h, sub => by
    have ha := sub a List.mem_cons_self
    have h1 := List.nodup_cons.mp h
    have ih := nodup_len (l := l) (m := m.erase a) h1.2 fun x hx => by
      have ne : x ≠ a := fun z => h1.1 (by rw [← z]; exact hx)
      exact (List.mem_erase_of_ne ne).mpr (sub x (List.mem_cons_of_mem _ hx))
    rw [List.length_erase_of_mem ha] at ih
    have hp := List.length_pos_of_mem ha
    show l.length + 1 ≤ m.length
    omega
def topS (i : Nat) : Stmt := PySem.Challenge.pw_spanshelf_k05_no_covers.main.body.getD i (.Pass ⟨0, 0, 0, 0⟩)
abbrev s_is_whole : Stmt := topS 17
abbrev N_is_whole : List Str := ["number"]
theorem sc_is_whole : FnScope N_is_whole ["number"] (defScope s_is_whole) := ⟨rfl, rfl, rfl, by decide +kernel, rfl, by decide +kernel, by decide +kernel⟩
abbrev s_is_place : Stmt := topS 18
abbrev N_is_place : List Str := ["number"]
theorem sc_is_place : FnScope N_is_place ["number"] (defScope s_is_place) := ⟨rfl, rfl, rfl, by decide +kernel, rfl, by decide +kernel, by decide +kernel⟩
abbrev s_is_span : Stmt := topS 19
abbrev N_is_span : List Str := ["span", "low", "high"]
theorem sc_is_span : FnScope N_is_span ["span"] (defScope s_is_span) := ⟨rfl, rfl, rfl, by decide +kernel, rfl, by decide +kernel, by decide +kernel⟩
abbrev s_check_span : Stmt := topS 20
abbrev N_check_span : List Str := ["span"]
theorem sc_check_span : FnScope N_check_span ["span"] (defScope s_check_span) := ⟨rfl, rfl, rfl, by decide +kernel, rfl, by decide +kernel, by decide +kernel⟩
abbrev s_check_spans : Stmt := topS 21
abbrev N_check_spans : List Str := ["spans", "span"]
theorem sc_check_spans : FnScope N_check_spans ["spans"] (defScope s_check_spans) := ⟨rfl, rfl, rfl, by decide +kernel, rfl, by decide +kernel, by decide +kernel⟩
abbrev s_is_cover : Stmt := topS 24
abbrev N_is_cover : List Str := ["spans"]
theorem sc_is_cover : FnScope N_is_cover ["spans"] (defScope s_is_cover) := ⟨rfl, rfl, rfl, by decide +kernel, rfl, by decide +kernel, by decide +kernel⟩
abbrev s_check_cover : Stmt := topS 25
abbrev N_check_cover : List Str := ["cover"]
theorem sc_check_cover : FnScope N_check_cover ["cover"] (defScope s_check_cover) := ⟨rfl, rfl, rfl, by decide +kernel, rfl, by decide +kernel, by decide +kernel⟩
abbrev s_check_covers : Stmt := topS 26
abbrev N_check_covers : List Str := ["one", "other"]
theorem sc_check_covers : FnScope N_check_covers ["one", "other"] (defScope s_check_covers) := ⟨rfl, rfl, rfl, by decide +kernel, rfl, by decide +kernel, by decide +kernel⟩
abbrev s_joined : Stmt := topS 27
abbrev N_joined : List Str := ["spans", "cover", "low", "high", "begin", "end"]
theorem sc_joined : FnScope N_joined ["spans"] (defScope s_joined) := ⟨rfl, rfl, rfl, by decide +kernel, rfl, by decide +kernel, by decide +kernel⟩
abbrev s_common : Stmt := topS 28
abbrev N_common : List Str := ["one", "other", "found", "first", "second", "low", "high"]
theorem sc_common : FnScope N_common ["one", "other"] (defScope s_common) := ⟨rfl, rfl, rfl, by decide +kernel, rfl, by decide +kernel, by decide +kernel⟩
abbrev s_gaps_of : Stmt := topS 29
abbrev N_gaps_of : List Str := ["cover", "gaps", "low", "begin", "end"]
theorem sc_gaps_of : FnScope N_gaps_of ["cover"] (defScope s_gaps_of) := ⟨rfl, rfl, rfl, by decide +kernel, rfl, by decide +kernel, by decide +kernel⟩
abbrev s_both : Stmt := topS 30
abbrev N_both : List Str := ["one", "other"]
theorem sc_both : FnScope N_both ["one", "other"] (defScope s_both) := ⟨rfl, rfl, rfl, by decide +kernel, rfl, by decide +kernel, by decide +kernel⟩
abbrev s_either : Stmt := topS 31
abbrev N_either : List Str := ["one", "other"]
theorem sc_either : FnScope N_either ["one", "other"] (defScope s_either) := ⟨rfl, rfl, rfl, by decide +kernel, rfl, by decide +kernel, by decide +kernel⟩
abbrev s_less : Stmt := topS 32
abbrev N_less : List Str := ["one", "other"]
theorem sc_less : FnScope N_less ["one", "other"] (defScope s_less) := ⟨rfl, rfl, rfl, by decide +kernel, rfl, by decide +kernel, by decide +kernel⟩
abbrev s_held : Stmt := topS 33
abbrev N_held : List Str := ["cover"]
theorem sc_held : FnScope N_held ["cover"] (defScope s_held) := ⟨rfl, rfl, rfl, by decide +kernel, rfl, by decide +kernel, by decide +kernel⟩
abbrev s_l_at : Stmt := topS 35
abbrev N_l_at : List Str := ["_law_script", "_law_k"]
theorem sc_l_at : FnScope N_l_at ["_law_script", "_law_k"] (defScope s_l_at) := ⟨rfl, rfl, rfl, by decide +kernel, rfl, by decide +kernel, by decide +kernel⟩
abbrev s_l_mixed : Stmt := topS 36
abbrev N_l_mixed : List Str := ["_law_cell", "_law_k", "_law_number_here"]
theorem sc_l_mixed : FnScope N_l_mixed ["_law_cell", "_law_k"] (defScope s_l_mixed) := ⟨rfl, rfl, rfl, by decide +kernel, rfl, by decide +kernel, by decide +kernel⟩
abbrev s_l_purse : Stmt := topS 37
abbrev N_l_purse : List Str := ["_law_script", "_law_at_here", "_law_cell"]
theorem sc_l_purse : FnScope N_l_purse ["_law_script", "_law_at_here"] (defScope s_l_purse) := ⟨rfl, rfl, rfl, by decide +kernel, rfl, by decide +kernel, by decide +kernel⟩
abbrev s_l_draw : Stmt := topS 38
abbrev N_l_draw : List Str := ["_law_purse_here", "_law_out_of", "_law_drawn", "_law_number_here", "_law_k"]
theorem sc_l_draw : FnScope N_l_draw ["_law_purse_here", "_law_out_of"] (defScope s_l_draw) := ⟨rfl, rfl, rfl, by decide +kernel, rfl, by decide +kernel, by decide +kernel⟩
abbrev s_l_number : Stmt := topS 39
abbrev N_l_number : List Str := ["_law_purse_here", "_law_most", "_law_far"]
theorem sc_l_number : FnScope N_l_number ["_law_purse_here", "_law_most"] (defScope s_l_number) := ⟨rfl, rfl, rfl, by decide +kernel, rfl, by decide +kernel, by decide +kernel⟩
abbrev s_l_kinds : Stmt := topS 40
abbrev N_l_kinds : List Str := ["_law_e", "_law_found", "_law_k"]
theorem sc_l_kinds : FnScope N_l_kinds ["_law_e"] (defScope s_l_kinds) := ⟨rfl, rfl, rfl, by decide +kernel, rfl, by decide +kernel, by decide +kernel⟩
abbrev s_l_bad_span : Stmt := topS 41
abbrev N_l_bad_span : List Str := ["_law_purse_here", "_law_far", "_law_one", "_law_some"]
theorem sc_l_bad_span : FnScope N_l_bad_span ["_law_purse_here"] (defScope s_l_bad_span) := ⟨rfl, rfl, rfl, by decide +kernel, rfl, by decide +kernel, by decide +kernel⟩
abbrev s_l_caught : Stmt := topS 42
abbrev N_l_caught : List Str := ["_law_way", "_law_one", "_law_other", "_law_caught_here", "_law_e"]
theorem sc_l_caught : FnScope N_l_caught ["_law_way", "_law_one", "_law_other"] (defScope s_l_caught) := ⟨rfl, rfl, rfl, by decide +kernel, rfl, by decide +kernel, by decide +kernel⟩
abbrev s_l_good_cover : Stmt := topS 43
abbrev N_l_good_cover : List Str := ["_law_purse_here", "_law_low", "_law_found", "_law_k", "_law_high"]
theorem sc_l_good_cover : FnScope N_l_good_cover ["_law_purse_here"] (defScope s_l_good_cover) := ⟨rfl, rfl, rfl, by decide +kernel, rfl, by decide +kernel, by decide +kernel⟩
abbrev s_l_bent : Stmt := topS 44
abbrev N_l_bent : List Str := ["_law_purse_here", "_law_cover", "_law_way", "_law_at_here", "_law_low", "_law_high", "_law_cut"]
theorem sc_l_bent : FnScope N_l_bent ["_law_purse_here", "_law_cover"] (defScope s_l_bent) := ⟨rfl, rfl, rfl, by decide +kernel, rfl, by decide +kernel, by decide +kernel⟩
abbrev s_l_refused : Stmt := topS 45
abbrev N_l_refused : List Str := ["_law_one", "_law_other", "_law_due", "_law_kept", "_law_way"]
theorem sc_l_refused : FnScope N_l_refused ["_law_one", "_law_other", "_law_due"] (defScope s_l_refused) := ⟨rfl, rfl, rfl, by decide +kernel, rfl, by decide +kernel, by decide +kernel⟩
abbrev s_law : Stmt := topS 46
abbrev N_law : List Str := ["_law_script", "_law_purse_here", "_law_good", "_law_bent_here", "_law_at_here", "_law_bad", "_law_worse", "_law_low", "_law_step", "_law_great", "_law_cases", "_law_one", "_law_due", "_law_kept", "_law_k"]
theorem sc_law : FnScope N_law ["_law_script"] (defScope s_law) := ⟨rfl, rfl, rfl, by decide +kernel, rfl, by decide +kernel, by decide +kernel⟩

structure Tx (K : PySem.W.Frag) (mg : Str → Option Value) where
  f_is_whole : Addr
  fd_is_whole : FuncData
  F_is_whole : Fun K "is_whole" "is_whole" s_is_whole f_is_whole fd_is_whole
  b_is_whole : Binds K fd_is_whole ["number"] []
  g_is_whole : mg "is_whole" = some (.ref f_is_whole)
  f_is_place : Addr
  fd_is_place : FuncData
  F_is_place : Fun K "is_place" "is_place" s_is_place f_is_place fd_is_place
  b_is_place : Binds K fd_is_place ["number"] []
  g_is_place : mg "is_place" = some (.ref f_is_place)
  f_is_span : Addr
  fd_is_span : FuncData
  F_is_span : Fun K "is_span" "is_span" s_is_span f_is_span fd_is_span
  b_is_span : Binds K fd_is_span ["span"] []
  g_is_span : mg "is_span" = some (.ref f_is_span)
  f_check_span : Addr
  fd_check_span : FuncData
  F_check_span : Fun K "check_span" "check_span" s_check_span f_check_span fd_check_span
  b_check_span : Binds K fd_check_span ["span"] []
  g_check_span : mg "check_span" = some (.ref f_check_span)
  f_check_spans : Addr
  fd_check_spans : FuncData
  F_check_spans : Fun K "check_spans" "check_spans" s_check_spans f_check_spans fd_check_spans
  b_check_spans : Binds K fd_check_spans ["spans"] []
  g_check_spans : mg "check_spans" = some (.ref f_check_spans)
  f_is_cover : Addr
  fd_is_cover : FuncData
  F_is_cover : Fun K "is_cover" "is_cover" s_is_cover f_is_cover fd_is_cover
  b_is_cover : Binds K fd_is_cover ["spans"] []
  g_is_cover : mg "is_cover" = some (.ref f_is_cover)
  cA_is_cover : Addr
  pA_is_cover : Addr
  FC_is_cover : FunC K "is_cover" "is_cover" s_is_cover f_is_cover fd_is_cover cA_is_cover
  f_check_cover : Addr
  fd_check_cover : FuncData
  F_check_cover : Fun K "check_cover" "check_cover" s_check_cover f_check_cover fd_check_cover
  b_check_cover : Binds K fd_check_cover ["cover"] []
  g_check_cover : mg "check_cover" = some (.ref f_check_cover)
  f_check_covers : Addr
  fd_check_covers : FuncData
  F_check_covers : Fun K "check_covers" "check_covers" s_check_covers f_check_covers fd_check_covers
  b_check_covers : Binds K fd_check_covers ["one", "other"] []
  g_check_covers : mg "check_covers" = some (.ref f_check_covers)
  f_joined : Addr
  fd_joined : FuncData
  F_joined : Fun K "joined" "joined" s_joined f_joined fd_joined
  b_joined : Binds K fd_joined ["spans"] []
  g_joined : mg "joined" = some (.ref f_joined)
  f_common : Addr
  fd_common : FuncData
  F_common : Fun K "common" "common" s_common f_common fd_common
  b_common : Binds K fd_common ["one", "other"] []
  g_common : mg "common" = some (.ref f_common)
  f_gaps_of : Addr
  fd_gaps_of : FuncData
  F_gaps_of : Fun K "gaps_of" "gaps_of" s_gaps_of f_gaps_of fd_gaps_of
  b_gaps_of : Binds K fd_gaps_of ["cover"] []
  g_gaps_of : mg "gaps_of" = some (.ref f_gaps_of)
  f_both : Addr
  fd_both : FuncData
  F_both : Fun K "both" "both" s_both f_both fd_both
  b_both : Binds K fd_both ["one", "other"] []
  g_both : mg "both" = some (.ref f_both)
  f_either : Addr
  fd_either : FuncData
  F_either : Fun K "either" "either" s_either f_either fd_either
  b_either : Binds K fd_either ["one", "other"] []
  g_either : mg "either" = some (.ref f_either)
  f_less : Addr
  fd_less : FuncData
  F_less : Fun K "less" "less" s_less f_less fd_less
  b_less : Binds K fd_less ["one", "other"] []
  g_less : mg "less" = some (.ref f_less)
  f_held : Addr
  fd_held : FuncData
  F_held : Fun K "held" "held" s_held f_held fd_held
  b_held : Binds K fd_held ["cover"] []
  g_held : mg "held" = some (.ref f_held)
  cA_held : Addr
  pA_held : Addr
  FC_held : FunC K "held" "held" s_held f_held fd_held cA_held
  f_l_at : Addr
  fd_l_at : FuncData
  F_l_at : Fun K "_law_at" "_law_at" s_l_at f_l_at fd_l_at
  b_l_at : Binds K fd_l_at ["_law_script", "_law_k"] []
  g_l_at : mg "_law_at" = some (.ref f_l_at)
  f_l_mixed : Addr
  fd_l_mixed : FuncData
  F_l_mixed : Fun K "_law_mixed" "_law_mixed" s_l_mixed f_l_mixed fd_l_mixed
  b_l_mixed : Binds K fd_l_mixed ["_law_cell", "_law_k"] []
  g_l_mixed : mg "_law_mixed" = some (.ref f_l_mixed)
  f_l_purse : Addr
  fd_l_purse : FuncData
  F_l_purse : Fun K "_law_purse" "_law_purse" s_l_purse f_l_purse fd_l_purse
  b_l_purse : Binds K fd_l_purse ["_law_script", "_law_at_here"] []
  g_l_purse : mg "_law_purse" = some (.ref f_l_purse)
  f_l_draw : Addr
  fd_l_draw : FuncData
  F_l_draw : Fun K "_law_draw" "_law_draw" s_l_draw f_l_draw fd_l_draw
  b_l_draw : Binds K fd_l_draw ["_law_purse_here", "_law_out_of"] []
  g_l_draw : mg "_law_draw" = some (.ref f_l_draw)
  f_l_number : Addr
  fd_l_number : FuncData
  F_l_number : Fun K "_law_number" "_law_number" s_l_number f_l_number fd_l_number
  b_l_number : Binds K fd_l_number ["_law_purse_here", "_law_most"] []
  g_l_number : mg "_law_number" = some (.ref f_l_number)
  f_l_kinds : Addr
  fd_l_kinds : FuncData
  F_l_kinds : Fun K "_law_kinds" "_law_kinds" s_l_kinds f_l_kinds fd_l_kinds
  b_l_kinds : Binds K fd_l_kinds ["_law_e"] []
  g_l_kinds : mg "_law_kinds" = some (.ref f_l_kinds)
  f_l_bad_span : Addr
  fd_l_bad_span : FuncData
  F_l_bad_span : Fun K "_law_bad_span" "_law_bad_span" s_l_bad_span f_l_bad_span fd_l_bad_span
  b_l_bad_span : Binds K fd_l_bad_span ["_law_purse_here"] []
  g_l_bad_span : mg "_law_bad_span" = some (.ref f_l_bad_span)
  f_l_caught : Addr
  fd_l_caught : FuncData
  F_l_caught : Fun K "_law_caught" "_law_caught" s_l_caught f_l_caught fd_l_caught
  b_l_caught : Binds K fd_l_caught ["_law_way", "_law_one", "_law_other"] []
  g_l_caught : mg "_law_caught" = some (.ref f_l_caught)
  f_l_good_cover : Addr
  fd_l_good_cover : FuncData
  F_l_good_cover : Fun K "_law_good_cover" "_law_good_cover" s_l_good_cover f_l_good_cover fd_l_good_cover
  b_l_good_cover : Binds K fd_l_good_cover ["_law_purse_here"] []
  g_l_good_cover : mg "_law_good_cover" = some (.ref f_l_good_cover)
  f_l_bent : Addr
  fd_l_bent : FuncData
  F_l_bent : Fun K "_law_bent" "_law_bent" s_l_bent f_l_bent fd_l_bent
  b_l_bent : Binds K fd_l_bent ["_law_purse_here", "_law_cover"] []
  g_l_bent : mg "_law_bent" = some (.ref f_l_bent)
  f_l_refused : Addr
  fd_l_refused : FuncData
  F_l_refused : Fun K "_law_refused" "_law_refused" s_l_refused f_l_refused fd_l_refused
  b_l_refused : Binds K fd_l_refused ["_law_one", "_law_other", "_law_due"] []
  g_l_refused : mg "_law_refused" = some (.ref f_l_refused)
  f_law : Addr
  fd_law : FuncData
  F_law : Fun K "law" "law" s_law f_law fd_law
  b_law : Binds K fd_law ["_law_script"] []
  g_law : mg "law" = some (.ref f_law)
  tc_LEAST_PLACE : Tok
  c_LEAST_PLACE : mg "LEAST_PLACE" = some (.int (-999999999999) tc_LEAST_PLACE)
  tc_GREATEST_PLACE : Tok
  c_GREATEST_PLACE : mg "GREATEST_PLACE" = some (.int (999999999999) tc_GREATEST_PLACE)
  tc_MOST_SPANS : Tok
  c_MOST_SPANS : mg "MOST_SPANS" = some (.int (200) tc_MOST_SPANS)
  C_ShelfError : Addr
  g_ShelfError : mg "ShelfError" = some (.ref C_ShelfError)
  x_ShelfError : PySem.W.excIn K C_ShelfError [.type "ValueError", .type "Exception", .type "BaseException", .type "object"] "ValueError.__new__" = true
  k_ShelfError : PySem.W.keepIn K (.ref C_ShelfError) = true
  b_ShelfError : PySem.W.subIn K (.ref C_ShelfError) (.type "BaseException") = some true
  t_ShelfError : PySem.W.typeIn K (.ref C_ShelfError) = some (.type "type")
  C_NoSpan : Addr
  g_NoSpan : mg "NoSpan" = some (.ref C_NoSpan)
  x_NoSpan : PySem.W.excIn K C_NoSpan [.type "ValueError", .type "Exception", .type "BaseException", .type "object"] "ValueError.__new__" = true
  k_NoSpan : PySem.W.keepIn K (.ref C_NoSpan) = true
  b_NoSpan : PySem.W.subIn K (.ref C_NoSpan) (.type "BaseException") = some true
  t_NoSpan : PySem.W.typeIn K (.ref C_NoSpan) = some (.type "type")
  C_NoPlace : Addr
  g_NoPlace : mg "NoPlace" = some (.ref C_NoPlace)
  x_NoPlace : PySem.W.excIn K C_NoPlace [.type "ValueError", .type "Exception", .type "BaseException", .type "object"] "ValueError.__new__" = true
  k_NoPlace : PySem.W.keepIn K (.ref C_NoPlace) = true
  b_NoPlace : PySem.W.subIn K (.ref C_NoPlace) (.type "BaseException") = some true
  t_NoPlace : PySem.W.typeIn K (.ref C_NoPlace) = some (.type "type")
  C_NoCover : Addr
  g_NoCover : mg "NoCover" = some (.ref C_NoCover)
  x_NoCover : PySem.W.excIn K C_NoCover [.type "ValueError", .type "Exception", .type "BaseException", .type "object"] "ValueError.__new__" = true
  k_NoCover : PySem.W.keepIn K (.ref C_NoCover) = true
  b_NoCover : PySem.W.subIn K (.ref C_NoCover) (.type "BaseException") = some true
  t_NoCover : PySem.W.typeIn K (.ref C_NoCover) = some (.type "type")
  C_NoWeight : Addr
  g_NoWeight : mg "NoWeight" = some (.ref C_NoWeight)
  x_NoWeight : PySem.W.excIn K C_NoWeight [.type "ValueError", .type "Exception", .type "BaseException", .type "object"] "ValueError.__new__" = true
  k_NoWeight : PySem.W.keepIn K (.ref C_NoWeight) = true
  b_NoWeight : PySem.W.subIn K (.ref C_NoWeight) (.type "BaseException") = some true
  t_NoWeight : PySem.W.typeIn K (.ref C_NoWeight) = some (.type "type")
  C_NoCount : Addr
  g_NoCount : mg "NoCount" = some (.ref C_NoCount)
  x_NoCount : PySem.W.excIn K C_NoCount [.type "ValueError", .type "Exception", .type "BaseException", .type "object"] "ValueError.__new__" = true
  k_NoCount : PySem.W.keepIn K (.ref C_NoCount) = true
  b_NoCount : PySem.W.subIn K (.ref C_NoCount) (.type "BaseException") = some true
  t_NoCount : PySem.W.typeIn K (.ref C_NoCount) = some (.type "type")
  C_NoName : Addr
  g_NoName : mg "NoName" = some (.ref C_NoName)
  x_NoName : PySem.W.excIn K C_NoName [.type "ValueError", .type "Exception", .type "BaseException", .type "object"] "ValueError.__new__" = true
  k_NoName : PySem.W.keepIn K (.ref C_NoName) = true
  b_NoName : PySem.W.subIn K (.ref C_NoName) (.type "BaseException") = some true
  t_NoName : PySem.W.typeIn K (.ref C_NoName) = some (.type "type")
  C_Twice : Addr
  g_Twice : mg "Twice" = some (.ref C_Twice)
  x_Twice : PySem.W.excIn K C_Twice [.type "ValueError", .type "Exception", .type "BaseException", .type "object"] "ValueError.__new__" = true
  k_Twice : PySem.W.keepIn K (.ref C_Twice) = true
  b_Twice : PySem.W.subIn K (.ref C_Twice) (.type "BaseException") = some true
  t_Twice : PySem.W.typeIn K (.ref C_Twice) = some (.type "type")
  C_Full : Addr
  g_Full : mg "Full" = some (.ref C_Full)
  x_Full : PySem.W.excIn K C_Full [.type "ValueError", .type "Exception", .type "BaseException", .type "object"] "ValueError.__new__" = true
  k_Full : PySem.W.keepIn K (.ref C_Full) = true
  b_Full : PySem.W.subIn K (.ref C_Full) (.type "BaseException") = some true
  t_Full : PySem.W.typeIn K (.ref C_Full) = some (.type "type")
  C_Bare : Addr
  g_Bare : mg "Bare" = some (.ref C_Bare)
  x_Bare : PySem.W.excIn K C_Bare [.type "ValueError", .type "Exception", .type "BaseException", .type "object"] "ValueError.__new__" = true
  k_Bare : PySem.W.keepIn K (.ref C_Bare) = true
  b_Bare : PySem.W.subIn K (.ref C_Bare) (.type "BaseException") = some true
  t_Bare : PySem.W.typeIn K (.ref C_Bare) = some (.type "type")
  C_NoDeed : Addr
  g_NoDeed : mg "NoDeed" = some (.ref C_NoDeed)
  x_NoDeed : PySem.W.excIn K C_NoDeed [.type "ValueError", .type "Exception", .type "BaseException", .type "object"] "ValueError.__new__" = true
  k_NoDeed : PySem.W.keepIn K (.ref C_NoDeed) = true
  b_NoDeed : PySem.W.subIn K (.ref C_NoDeed) (.type "BaseException") = some true
  t_NoDeed : PySem.W.typeIn K (.ref C_NoDeed) = some (.type "type")
  C_NoText : Addr
  g_NoText : mg "NoText" = some (.ref C_NoText)
  x_NoText : PySem.W.excIn K C_NoText [.type "ValueError", .type "Exception", .type "BaseException", .type "object"] "ValueError.__new__" = true
  k_NoText : PySem.W.keepIn K (.ref C_NoText) = true
  b_NoText : PySem.W.subIn K (.ref C_NoText) (.type "BaseException") = some true
  t_NoText : PySem.W.typeIn K (.ref C_NoText) = some (.type "type")
  C_NoLine : Addr
  g_NoLine : mg "NoLine" = some (.ref C_NoLine)
  x_NoLine : PySem.W.excIn K C_NoLine [.type "ValueError", .type "Exception", .type "BaseException", .type "object"] "ValueError.__new__" = true
  k_NoLine : PySem.W.keepIn K (.ref C_NoLine) = true
  b_NoLine : PySem.W.subIn K (.ref C_NoLine) (.type "BaseException") = some true
  t_NoLine : PySem.W.typeIn K (.ref C_NoLine) = some (.type "type")
  m_ValueError : mg "ValueError" = none
  m_all : mg "all" = none
  m_bool : mg "bool" = none
  m_int : mg "int" = none
  m_isinstance : mg "isinstance" = none
  m_len : mg "len" = none
  m_list : mg "list" = none
  m_max : mg "max" = none
  m_min : mg "min" = none
  m_range : mg "range" = none
  m_sorted : mg "sorted" = none
  m_sum : mg "sum" = none
  m_tuple : mg "tuple" = none
  m_zip : mg "zip" = none
  excs : ([C_ShelfError, C_NoSpan, C_NoPlace, C_NoCover, C_NoWeight, C_NoCount, C_NoName, C_Twice, C_Full, C_Bare, C_NoDeed, C_NoText, C_NoLine].map fun (D : Addr) => (PySem.W.findIn K (.ref D) "__getattribute__", PySem.W.findIn K (.ref D) "__getattr__", PySem.W.subIn K (.ref D) (.type "BaseException"), PySem.W.hasDictIn K D, PySem.W.findIn K (.ref D) "__class__", PySem.W.mroIn K D (.type "object"))) = [C_ShelfError, C_NoSpan, C_NoPlace, C_NoCover, C_NoWeight, C_NoCount, C_NoName, C_Twice, C_Full, C_Bare, C_NoDeed, C_NoText, C_NoLine].map fun (_ : Addr) => (some (some (.builtin "BaseException.__getattribute__")), some none, some true, true, some (some (.builtin "object.__class__")), some true)
  gets : (PySem.W.specialIn K (.builtin "object.__class__") "__get__", PySem.W.takesIn K (.builtin "object.__class__")) = (some (some (.builtin "getset_descriptor.__get__")), some true)
  kits : ([C_ShelfError, C_NoSpan, C_NoPlace, C_NoCover, C_NoWeight, C_NoCount, C_NoName, C_Twice, C_Full, C_Bare, C_NoDeed, C_NoText, C_NoLine].map fun (D : Addr) => [C_NoSpan, C_NoPlace, C_NoCover, C_NoWeight, C_NoCount, C_NoName, C_Twice, C_Full, C_Bare, C_NoDeed, C_NoText, C_NoLine].map fun (C : Addr) => PySem.W.kitOne K (.ref D) (.ref C)) = (List.range 13).map fun i => (List.range 12).map fun j => some (i == j + 1)
  tops : ([C_ShelfError, C_NoSpan, C_NoPlace, C_NoCover, C_NoWeight, C_NoCount, C_NoName, C_Twice, C_Full, C_Bare, C_NoDeed, C_NoText, C_NoLine].map fun (D : Addr) => (PySem.W.kitOne K (.ref D) (.ref C_ShelfError), PySem.W.kitOne K (.ref D) (.type "ValueError"))) = [C_ShelfError, C_NoSpan, C_NoPlace, C_NoCover, C_NoWeight, C_NoCount, C_NoName, C_Twice, C_Full, C_Bare, C_NoDeed, C_NoText, C_NoLine].map fun (_ : Addr) => (some true, some true)
  nones : ([C_ShelfError, C_NoSpan, C_NoPlace, C_NoCover, C_NoWeight, C_NoCount, C_NoName, C_Twice, C_Full, C_Bare, C_NoDeed, C_NoText, C_NoLine].map fun (C : Addr) => PySem.W.kitOne K (.type "NoneType") (.ref C)) = [C_ShelfError, C_NoSpan, C_NoPlace, C_NoCover, C_NoWeight, C_NoCount, C_NoName, C_Twice, C_Full, C_Bare, C_NoDeed, C_NoText, C_NoLine].map fun (_ : Addr) => some false
  exms : ([C_ShelfError, C_NoSpan, C_NoPlace, C_NoCover, C_NoWeight, C_NoCount, C_NoName, C_Twice, C_Full, C_Bare, C_NoDeed, C_NoText, C_NoLine].map fun (D : Addr) => PySem.W.exmOne K (.ref D) (.ref C_ShelfError)) = [C_ShelfError, C_NoSpan, C_NoPlace, C_NoCover, C_NoWeight, C_NoCount, C_NoName, C_Twice, C_Full, C_Bare, C_NoDeed, C_NoText, C_NoLine].map fun (_ : Addr) => some true
structure Tbs {K : PySem.W.Frag} {mg : Str → Option Value} (T : Tx K mg) (base : Heap) : Prop where
  t_is_cover : GxR.TabB base mg T.cA_is_cover T.pA_is_cover
  t_held : GxR.TabB base mg T.cA_held T.pA_held
def Tx.tabs {K : PySem.W.Frag} {mg : Str → Option Value} (T : Tx K mg) : List Addr := [T.pA_is_cover, T.pA_held]
section
variable {P : Program} {w : World} {K : PySem.W.Frag} {mg : Str → Option Value} {base : Heap}
/-! ### the cell, the mixing, the purse, a draw -/
def spAt (K : PySem.W.Frag) : Sp := fun vs H Q _ => ∃ (a : Addr) (ns : List Int) (k : Int), vs = [.ref a, .int k] ∧ SqL K H a (ns.map V.int) ∧ 0 ≤ k ∧ ∀ z, Q (.int z) H
theorem ok_at (T : Tx K mg) : FnOk P w K mg base CX0 (1) T.f_l_at T.fd_l_at ["_law_script", "_law_k"] (spAt K) := by
  refine T.F_l_at.ok sc_l_at (fun vs H Q E h => ?_) (fun cdv A outer s H vs Q E hr h => ?_)
  · obtain ⟨a, ns, k, rfl, _⟩ := h
    rfl
  · obtain ⟨a, ns, k, rfl, hS, h0, q⟩ := h
    refine ⟨_, (pss_cons (ps_if (pt_cmpR op_lt (pv 1) (pe_callB call_len_seq (by rfl) T.m_len PySem.boot_len (pa_cons (pv 0) pa_nil)) (nomark _)) (pss_one (ps_ret (pe_ix ix_list (pv 0) (pv 1) (fun _ _ => rfl)))) pss_nil)
      (pss_one (ps_ret pe_int))), ?_⟩
    refine ⟨_, rfl, _, rfl, a, _, rfl, .inl hS, _, _, rfl, rfl, _, rfl, ite2 (fun e => ?_) (fun e => ?_)⟩
    · have e0 : k < ((ns.map V.int).length : Int) := of_decide_eq_true e
      rw [List.length_map] at e0
      have h1 : k.toNat < ns.length := by omega
      refine ⟨_, rfl, _, rfl, a, _, k, .int ns[k.toNat], rfl, rfl, hS, at_of (j := k.toNat) (by omega) ?_, q _⟩
      rw [List.getElem?_map, List.getElem?_eq_getElem h1]
      rfl
    · exact q 0
def spMixed : Sp := fun vs H Q _ => ∃ (a k : Int), vs = [.int a, .int k] ∧ 0 ≤ k ∧ k < 2 ^ 60 ∧ 0 ≤ a ∧ a < 2 ^ 60 ∧ ∀ z : Int, 0 ≤ z → z < 2147483587 → Q (.int z) H
theorem ok_mixed (T : Tx K mg) : FnOk P w K mg base CX0 (1) T.f_l_mixed T.fd_l_mixed ["_law_cell", "_law_k"] spMixed := by
  refine T.F_l_mixed.ok sc_l_mixed (fun vs H Q E h => ?_) (fun cdv A outer s H vs Q E hr h => ?_)
  · obtain ⟨a, k, rfl, _⟩ := h
    rfl
  · obtain ⟨a, k, rfl, h0, h1, h2, h3, q⟩ := h
    refine ⟨_, (pss_cons (ps_set (i := 2) sc_l_mixed.nd rfl (Or.inl rfl) (pe_op op_mod (pe_op op_add (pe_op op_add (pe_op op_add (pe_op op_mul (pv 0) pe_int) (pe_op op_mul (pe_op op_mul pe_int (pv 1)) (pv 1))) (pv 1)) pe_int) pe_int))
      (pss_cons (ps_set (i := 2) sc_l_mixed.nd rfl (Or.inl rfl) (pe_op op_mod (pe_op op_add (pe_op op_mul (pv 2) (pv 2)) pe_int) pe_int))
      (pss_one (ps_ret (pe_op op_mod (pe_op op_mul (pv 2) pe_int) pe_int))))), ?_⟩
    refine ⟨_, rfl, _, _, rfl, rfl, .inr ⟨by decide, by decide⟩, _, rfl, _, _, rfl, rfl, .inl ⟨by decide, by decide⟩, _, rfl, _, _, rfl, rfl, .inr ⟨by omega, by omega⟩, _, _, rfl, rfl, _, rfl, _, _, rfl, rfl, _, _, rfl, rfl, _, _, rfl, rfl, by show (0 : Int) < 2147483647; decide, ?_⟩
    generalize hx : (a * 1103515245 + 7919 * k * k + k + 1) % 2147483647 = x
    have x0 : 0 ≤ x := by omega
    have x1 : x < 2147483647 := by omega
    clear hx
    refine ⟨_, rfl, _, rfl, _, _, rfl, rfl, .inl ⟨by omega, by omega⟩, _, _, rfl, rfl, _, _, rfl, rfl, by show (0 : Int) < 2147483629; decide, ?_⟩
    generalize hy : (x * x + 69621) % 2147483629 = y
    have y0 : 0 ≤ y := by omega
    have y1 : y < 2147483629 := by omega
    clear hy
    refine ⟨_, rfl, _, _, rfl, rfl, .inl ⟨by omega, by omega⟩, _, _, rfl, rfl, by show (0 : Int) < 2147483587; decide, ?_⟩
    exact q _ (by omega) (by omega)
def spPurse (K : PySem.W.Frag) : Sp := fun vs H Q _ => ∃ (a : Addr) (ns : List Int) (k : Int), vs = [.ref a, .int k] ∧ SqL K H a (ns.map V.int) ∧ 0 ≤ k ∧ k ≤ 63 ∧ ∀ H' p, Same H H' → H p = none → Pu H' p 63000 → Q (.ref p) H'
theorem ok_purse (T : Tx K mg) : FnOk P w K mg base CX0 (2) T.f_l_purse T.fd_l_purse ["_law_script", "_law_at_here"] (spPurse K) := by
  have G_l_at : FnOk P w K mg base CX0 _ _ _ _ _ := ok_at T
  refine T.F_l_purse.ok sc_l_purse (fun vs H Q E h => ?_) (fun cdv A outer s H vs Q E hr h => ?_)
  · obtain ⟨a, ns, k, rfl, _⟩ := h
    rfl
  · obtain ⟨a, ns, k, rfl, hS, h0, h1, q⟩ := h
    refine ⟨_, (pss_cons (ps_set (i := 2) sc_l_purse.nd rfl (Or.inl rfl) (pe_call G_l_at (hr.mono (by decide)) (by rfl) T.g_l_at T.F_l_at.kp T.b_l_at .nil pass0 (pa_cons (pv 0) (pa_cons (pv 1) pa_nil))))
      (pss_one (ps_ret (pe_lst (pa_cons (pe_callB (call_max2 rfl) (by rfl) T.m_max (by decide +kernel) (pa_cons (pe_op op_sub (pv 2) (pe_op op_pow pe_int pe_int)) (pa_cons pe_int pa_nil))) (pa_cons (pe_op op_mod (pv 2) pe_int) (pa_cons (pe_op op_mul pe_int (pv 1)) pa_nil))))))), ?_⟩
    refine ⟨_, rfl, _, rfl, a, ns, k, rfl, hS, h0, fun z => ?_⟩
    refine ⟨_, rfl, _, _, rfl, rfl, ⟨by decide, by decide, by decide⟩, _, _, rfl, rfl, _, _, rfl, _, rfl, _, _, rfl, rfl, by show (0 : Int) < 2147483647; decide, _, rfl, _, _, rfl, rfl, .inl ⟨by decide, by decide⟩, small_le (by simp), fun p np => ?_⟩
    refine q _ p (same_upd np) np ⟨_, _, _, upd_same, ?_, by omega, by omega, by omega, by omega⟩
    split <;> omega
def spDraw : Sp := fun vs H Q _ => ∃ (p : Addr) (m : Int) (n : Nat), vs = [.ref p, .int m] ∧ Pu H p n ∧ n ≤ 1000000000 ∧ 0 < m ∧ m < 2 ^ 88 ∧ ∀ H' r, Chg [p] H H' → Pu H' p (n + 3) → 0 ≤ r → r < m → Q (.int r) H'
theorem bits_le {m : Int} (h0 : 0 < m) (h1 : m < 2 ^ 88) : (Builtin.Int.intBits m : Nat) ≤ 88 := by
  have h : m.natAbs < 2 ^ 88 := by
    have e : (2 : Int) ^ 88 = ((2 ^ 88 : Nat) : Int) := by decide
    rw [e] at h1
    omega
  exact PyProof.Rows.intBits_le h
theorem ok_draw (T : Tx K mg) : FnOk P w K mg base CX0 (2) T.f_l_draw T.fd_l_draw ["_law_purse_here", "_law_out_of"] spDraw := by
  have G_l_mixed : FnOk P w K mg base CX0 _ _ _ _ _ := ok_mixed T
  refine T.F_l_draw.ok sc_l_draw (fun vs H Q E h => ?_) (fun cdv A outer s H vs Q E hr h => ?_)
  · obtain ⟨p, m, n, rfl, _⟩ := h
    rfl
  · obtain ⟨p, m, n, rfl, hp, hn, h0, h1, q⟩ := h
    obtain ⟨a, b, c, hP, ha, hb, hb1, hc, hc1⟩ := hp
    refine ⟨_, (pss_cons (ps_if (pt_cmpR op_gt (pe_ix ix_list (pv 0) pe_int (fun _ _ => rfl)) pe_int (nomark _)) (pss_cons (ps_set (i := 2) sc_l_draw.nd rfl (Or.inl rfl) (pe_op op_mod (pe_ix ix_list (pv 0) pe_int (fun _ _ => rfl)) (pv 1)))
      (pss_cons (ps_asg (pe_op op_fdivW (pe_ix ix_list (pv 0) pe_int (fun _ _ => rfl)) (pv 1)) (pg_sub (pv 0) pe_int set_list))
      (pss_one (ps_ret (pv 2))))) pss_nil)
      (pss_cons (ps_set (i := 3) sc_l_draw.nd rfl (Or.inl rfl) pe_int)
      (pss_cons (ps_for PassesOwn.never (by rfl) (pi_range1 (by rfl) T.m_range (pa_cons (pe_op op_add pe_int (pe_op op_fdiv (pe_bits (pv 1)) pe_int)) pa_nil)) (pg_name (i := 4) sc_l_draw.nd rfl (Or.inl rfl))
        (pss_cons (ps_asg (pe_op op_add (pe_ix ix_list (pv 0) pe_int (fun _ _ => rfl)) pe_int) (pg_sub (pv 0) pe_int set_list))
      (pss_one (ps_set (i := 3) sc_l_draw.nd rfl (Or.inl rfl) (pe_op op_add (pe_op op_mul (pv 3) pe_int) (pe_call G_l_mixed (hr.mono (by decide)) (by rfl) T.g_l_mixed T.F_l_mixed.kp T.b_l_mixed .nil pass0 (pa_cons (pe_ix ix_list (pv 0) pe_int (fun _ _ => rfl)) (pa_cons (pe_ix ix_list (pv 0) pe_int (fun _ _ => rfl)) pa_nil))))))))
      (pss_one (ps_ret (pe_op op_mod (pv 3) (pv 1))))))), ?_⟩
    have hS : SqL K H p [.int a, .int b, .int c] := SqL.of hP
    refine ⟨_, rfl, p, _, _, _, rfl, rfl, hS, atI_nat (j := 0) rfl, _, _, rfl, rfl, _, rfl, ite2 (fun e => ?_) (fun e => ?_)⟩
    · have ea : 0 < a := of_decide_eq_true e
      refine ⟨_, rfl, p, _, _, _, rfl, rfl, hS, atI_nat (j := 0) rfl, _, rfl, _, _, rfl, rfl, h0, ?_⟩
      refine ⟨_, rfl, p, _, _, _, rfl, rfl, hS, atI_nat (j := 0) rfl, _, rfl, _, _, rfl, rfl, wide_div (b := 88) h0 ?_ (by decide) (by decide), ?_⟩
      · have e : (2 : Int) ^ 88 = ((2 ^ 88 : Nat) : Int) := by decide
        rw [e] at h1
        omega
      refine ⟨_, rfl, p, _, _, 0, rfl, rfl, hP, rfl, ?_⟩
      refine ⟨_, rfl, ?_⟩
      refine q _ _ (Chg.upd List.mem_cons_self) ⟨a / m, b, c, upd_same, Int.ediv_nonneg ha (by omega), hb, hb1, hc, by omega⟩ (Int.emod_nonneg _ (by omega)) (Int.emod_lt_of_pos _ h0)
    · have hb88 := bits_le h0 h1
      refine ⟨_, rfl, _, rfl, _, _, rfl, rfl, ⟨by decide, by decide⟩, _, _, rfl, rfl, _, rfl, by omega, by omega, ?_⟩
      refine for_range (lo := 0) (n := (1 + ((Builtin.Int.intBits m : Nat) : Int) / 30).toNat) (fun i σ H' => ∃ (x : Int) (c' : Int) (y4 : Option V), σ = [some (.ref p), some (.int m), none, some (.int x), y4] ∧ Chg [p] H H' ∧ H' p = some (.lst [.int a, .int b, .int c']) ∧ c' = c + i ∧ 0 ≤ x ∧ x < 2 ^ (32 * i)) ⟨0, c, none, rfl, Chg.refl _ _, hP, by omega, by omega, by decide⟩ ?_ ?_
      · rintro i σ H' hi ⟨x, c', y4, rfl, hch, hP', hc', x0, x1⟩
        have hi3 : i ≤ 2 := by omega
        refine ⟨_, rfl, p, _, _, _, rfl, rfl, SqL.of hP', atI_nat (j := 2) rfl, _, _, rfl, rfl, _, rfl, p, _, _, 2, rfl, rfl, hP', rfl, ?_⟩
        have hP2 : (upd H' p (.lst [.int a, .int b, .int (c' + 1)])) p = some (.lst [.int a, .int b, .int (c' + 1)]) := upd_same
        refine ⟨_, rfl, _, _, rfl, rfl, .inr ⟨by decide, by decide⟩, _, rfl, p, _, _, _, rfl, rfl, SqL.of hP2, atI_nat (j := 1) rfl, _, rfl, p, _, _, _, rfl, rfl, SqL.of hP2, atI_nat (j := 2) rfl, b, c' + 1, rfl, by omega, by omega, hb, by omega, fun z z0 z1 => ?_⟩
        refine ⟨_, _, rfl, rfl, x * 2147483587 + z, c' + 1, _, rfl, hch.trans (Chg.upd List.mem_cons_self), hP2, by omega, by omega, ?_⟩
        have e : (2 : Int) ^ (32 * (i + 1)) = 2 ^ (32 * i) * 4294967296 := by
          rw [Nat.mul_add, Int.pow_add]
          rfl
        rw [e]
        omega
      · rintro σ H' ⟨x, c', y4, rfl, hch, hP', hc', x0, x1⟩
        refine ⟨_, rfl, _, rfl, _, _, rfl, rfl, h0, ?_⟩
        exact q _ _ hch ⟨a, b, c', hP', ha, hb, hb1, by omega, by omega⟩ (Int.emod_nonneg _ (by omega)) (Int.emod_lt_of_pos _ h0)
end
section
variable {P : Program} {w : World} {K : PySem.W.Frag} {mg : Str → Option Value} {base : Heap}
/-! ### a number, an end, a span -/
def spNumber : Sp := fun vs H Q _ => ∃ (p : Addr) (m : Int) (n : Nat), vs = [.ref p, .int m] ∧ Pu H p n ∧ n + 6 ≤ 1000000000 ∧ 30 ≤ m ∧ m < 2 ^ 60 ∧ ∀ H' r, Chg [p] H H' → Pu H' p (n + 6) → -m ≤ r → r ≤ m → Q (.int r) H'
theorem far_of {m r : Int} (h0 : 0 ≤ r) (h1 : r < 4) (hm : 30 ≤ m) : ∃ f, ([.int 1, .int 4, .int 30, .int m] : List V)[r.toNat]? = some (.int f) ∧ 1 ≤ f ∧ f ≤ m := by
  have h : r = 0 ∨ r = 1 ∨ r = 2 ∨ r = 3 := by omega
  rcases h with rfl | rfl | rfl | rfl
  · exact ⟨1, rfl, by omega, by omega⟩
  · exact ⟨4, rfl, by omega, by omega⟩
  · exact ⟨30, rfl, by omega, by omega⟩
  · exact ⟨m, rfl, by omega, by omega⟩
theorem ok_number (T : Tx K mg) : FnOk P w K mg base CX0 (3) T.f_l_number T.fd_l_number ["_law_purse_here", "_law_most"] spNumber := by
  have G_l_draw : FnOk P w K mg base CX0 _ _ _ _ _ := ok_draw T
  refine T.F_l_number.ok sc_l_number (fun vs H Q E h => ?_) (fun cdv A outer s H vs Q E hr h => ?_)
  · obtain ⟨p, m, n, rfl, _⟩ := h
    rfl
  · obtain ⟨p, m, n, rfl, hp, hn, h0, h1, q⟩ := h
    refine ⟨_, (pss_cons (ps_set (i := 2) sc_l_number.nd rfl (Or.inl rfl) (pe_ix ix_list (pe_lst (pa_cons pe_int (pa_cons pe_int (pa_cons pe_int (pa_cons (pv 1) pa_nil))))) (pe_call G_l_draw (hr.mono (by decide)) (by rfl) T.g_l_draw T.F_l_draw.kp T.b_l_draw .nil pass0 (pa_cons (pv 0) (pa_cons pe_int pa_nil))) (fun _ _ => rfl)))
      (pss_one (ps_ret (pe_op op_sub (pe_call G_l_draw (hr.mono (by decide)) (by rfl) T.g_l_draw T.F_l_draw.kp T.b_l_draw .nil pass0 (pa_cons (pv 0) (pa_cons (pe_op op_add (pe_op op_mul pe_int (pv 2)) pe_int) pa_nil))) (pv 2))))), ?_⟩
    refine ⟨_, rfl, small_le (by simp), fun l nl => ?_⟩
    have s1 := same_upd (o := .lst [.int 1, .int 4, .int 30, .int m]) nl
    have npl : p ≠ l := hp.ne nl
    refine ⟨_, rfl, p, 4, n, rfl, hp.same s1, by omega, by decide, by decide, fun H1 r c1 p1 r0 r1 => ?_⟩
    obtain ⟨f, hf, f0, f1⟩ := far_of r0 r1 h0
    refine ⟨l, _, r, _, rfl, rfl, SqL.of (c1 _ _ (nmem1 npl.symm) upd_same), at_of (j := r.toNat) (by omega) hf, ?_⟩
    refine ⟨_, rfl, _, rfl, _, _, rfl, rfl, .inl ⟨by decide, by decide⟩, _, _, rfl, rfl, p, 2 * f + 1, n + 3, rfl, p1, by omega, by omega, by omega, fun H2 x c2 p2 x0 x1 => ?_⟩
    refine ⟨_, rfl, _, _, rfl, rfl, q _ _ ((Chg.of_same s1).trans (c1.trans c2)) p2 (by omega) (by omega)⟩
end
section
variable {P : Program} {w : World} {K : PySem.W.Frag} {mg : Str → Option Value} {base : Heap}
/-! ### the program: spans -/
def isPlace (i : Int) : Bool := decide (-999999999999 ≤ i) && decide (i ≤ 999999999999)
def isSpan (s : Span) : Bool := isPlace s.1 && isPlace s.2 && decide (s.1 < s.2)
theorem isSpan_iff (s : Span) : isSpan s = true ↔ (-999999999999 ≤ s.1 ∧ s.1 < s.2 ∧ s.2 ≤ 999999999999) := by
  unfold isSpan isPlace
  simp only [Bool.and_eq_true, decide_eq_true_eq]
  omega
def spWhole : Sp := fun vs H Q _ => ∃ i : Int, vs = [.int i] ∧ Q (.bl true) H
theorem ok_is_whole (T : Tx K mg) : FnOk P w K mg base CX0 (1) T.f_is_whole T.fd_is_whole ["number"] spWhole := by
  refine T.F_is_whole.ok sc_is_whole (fun vs H Q E h => ?_) (fun cdv A outer s H vs Q E hr h => ?_)
  · obtain ⟨i, rfl, _⟩ := h
    rfl
  · obtain ⟨i, rfl, q⟩ := h
    refine ⟨_, (pss_one (ps_ret (pe_and (pe_callB call_isi (by rfl) T.m_isinstance (by decide +kernel) (pa_cons (pv 0) (pa_cons (pe_bltn (v := .ty "int") (by rfl) T.m_int (by decide +kernel) rfl) pa_nil))) (pe_one (pe_not (pe_callB call_isi (by rfl) T.m_isinstance (by decide +kernel) (pa_cons (pv 0) (pa_cons (pe_bltn (v := .ty "bool") (by rfl) T.m_bool (by decide +kernel) rfl) pa_nil)))))))), ?_⟩
    refine ⟨_, rfl, _, _, _, _, true, rfl, .ty _, .base (.int i), kit_ty (by decide +kernel), true, rfl, iteT ?_⟩
    exact ⟨_, rfl, _, _, _, _, false, rfl, .ty _, .base (.int i), kit_ty (by decide +kernel), false, rfl, q⟩
def spPlace : Sp := fun vs H Q _ => ∃ i : Int, vs = [.int i] ∧ Q (.bl (isPlace i)) H
theorem ok_is_place (T : Tx K mg) : FnOk P w K mg base CX0 (2) T.f_is_place T.fd_is_place ["number"] spPlace := by
  have G_is_whole : FnOk P w K mg base CX0 _ _ _ _ _ := ok_is_whole T
  refine T.F_is_place.ok sc_is_place (fun vs H Q E h => ?_) (fun cdv A outer s H vs Q E hr h => ?_)
  · obtain ⟨i, rfl, _⟩ := h
    rfl
  · obtain ⟨i, rfl, q⟩ := h
    refine ⟨_, (pss_one (ps_ret (pe_and (pe_call G_is_whole (hr.mono (by decide)) (by rfl) T.g_is_whole T.F_is_whole.kp T.b_is_whole .nil pass0 (pa_cons (pv 0) pa_nil)) (pe_one (pe_chain op_le op_le (pe_glob (v := .int (-999999999999)) (by rfl) T.c_LEAST_PLACE ⟨_, rfl⟩) (pv 0) (pe_glob (v := .int (999999999999)) (by rfl) T.c_GREATEST_PLACE ⟨_, rfl⟩)))))), ?_⟩
    refine ⟨_, rfl, i, rfl, true, rfl, iteT ?_⟩
    refine ⟨_, rfl, _, _, rfl, rfl, _, rfl, ?_⟩
    unfold isPlace at q
    by_cases h : -999999999999 ≤ i
    · rw [decide_eq_true h] at q ⊢
      exact iteT ⟨_, _, rfl, rfl, q⟩
    · rw [decide_eq_false h] at q ⊢
      exact iteF q
def spIsSpan : Sp := fun vs H Q _ => ∃ (v : V) (s : Span), vs = [v] ∧ Spn H v s ∧ Q (.bl (isSpan s)) H
theorem ok_is_span (T : Tx K mg) : FnOk P w K mg base CX0 (3) T.f_is_span T.fd_is_span ["span"] spIsSpan := by
  have G_is_place : FnOk P w K mg base CX0 _ _ _ _ _ := ok_is_place T
  refine T.F_is_span.ok sc_is_span (fun vs H Q E h => ?_) (fun cdv A outer s H vs Q E hr h => ?_)
  · obtain ⟨v, s, rfl, _⟩ := h
    rfl
  · obtain ⟨v, s, rfl, ⟨t, rfl, ht⟩, q⟩ := h
    refine ⟨_, (pss_cons (ps_if (PW.pt (pw_or (pt_not (pt_val (pe_callB call_isi (by rfl) T.m_isinstance (by decide +kernel) (pa_cons (pv 0) (pa_cons (pe_bltn (v := .ty "tuple") (by rfl) T.m_tuple (by decide +kernel) rfl) pa_nil))))) (pw_or1 (pt_cmpR op_ne (pe_callB call_len_seq (by rfl) T.m_len PySem.boot_len (pa_cons (pv 0) pa_nil)) pe_int (nomark _))))) (pss_one (ps_ret pe_bl)) pss_nil)
      (pss_cons (ps_asg (pv 0) (pg_tup rfl (pgs_cons (pg_name (i := 1) sc_is_span.nd rfl (Or.inl rfl)) (pgs_cons (pg_name (i := 2) sc_is_span.nd rfl (Or.inl rfl)) pgs_nil))))
      (pss_one (ps_ret (pe_and (pe_call G_is_place (hr.mono (by decide)) (by rfl) T.g_is_place T.F_is_place.kp T.b_is_place .nil pass0 (pa_cons (pv 1) pa_nil)) (pe_and (pe_call G_is_place (hr.mono (by decide)) (by rfl) T.g_is_place T.F_is_place.kp T.b_is_place .nil pass0 (pa_cons (pv 2) pa_nil)) (pe_one (pe_cmpR op_lt (pv 1) (pv 2) (nomark _))))))))), ?_⟩
    refine ⟨_, rfl, _, _, _, _, true, rfl, .ty _, .base (.tup ht), kit_ty (by decide +kernel), true, rfl, iteF ?_⟩
    refine ⟨_, rfl, t, _, rfl, .inr (SqT.of ht), rfl, _, rfl, iteF ?_⟩
    refine ⟨_, rfl, t, _, rfl, SqT.of ht, rfl, _, _, rfl, _, _, rfl, rfl, ?_⟩
    unfold isSpan at q
    refine ⟨_, rfl, s.1, rfl, _, rfl, ?_⟩
    by_cases h1 : isPlace s.1 = true
    · rw [h1] at q ⊢
      refine iteT ⟨_, rfl, s.2, rfl, _, rfl, ?_⟩
      by_cases h2 : isPlace s.2 = true
      · rw [h2] at q ⊢
        exact iteT ⟨_, rfl, _, rfl, _, _, rfl, rfl, q⟩
      · rw [Bool.not_eq_true] at h2
        rw [h2] at q ⊢
        exact iteF q
    · rw [Bool.not_eq_true] at h1
      rw [h1] at q ⊢
      exact iteF q
def spCheck (C : Addr) : Sp := fun vs H Q E => ∃ (v : V) (s : Span), vs = [v] ∧ Spn H v s ∧ (isSpan s = true → Q .non H) ∧ (isSpan s = false → E (.ref C) none H)
theorem ok_check_span (T : Tx K mg) : FnOk P w K mg base (L2.CX P w) (4) T.f_check_span T.fd_check_span ["span"] (spCheck T.C_NoSpan) := by
  have G_is_span : FnOk P w K mg base CX0 _ _ _ _ _ := ok_is_span T
  refine T.F_check_span.okX sc_check_span (fun vs H Q E h => ?_) (fun cdv A outer s H vs Q E hr h => ?_)
  · obtain ⟨v, s, rfl, _⟩ := h
    rfl
  · obtain ⟨v, s, rfl, hv, q, e⟩ := h
    refine ⟨_, (pss_one (ps_if (pt_not (pt_val (pe_call G_is_span (hr.mono (by decide)) (by rfl) T.g_is_span T.F_is_span.kp T.b_is_span .nil pass0 (pa_cons (pv 0) pa_nil)))) (pss_one (ps_raise (by rfl) (takes_of rfl rfl rfl rfl) (pmk_own PySem.F.excBase_ValueError T.x_NoSpan T.g_NoSpan T.k_NoSpan (raises_own T.b_NoSpan T.t_NoSpan) (by exact rfl)))) pss_nil)), ?_⟩
    refine ⟨_, rfl, v, s, rfl, hv, _, rfl, ?_⟩
    by_cases h : isSpan s = true
    · rw [h]
      exact iteF (q h)
    · rw [Bool.not_eq_true] at h
      rw [h]
      exact iteT (e h)
end
/-! ### the mathematics of covers -/
def Mem (ss : List Span) (x : Int) : Prop := ∃ s ∈ ss, s.1 ≤ x ∧ x < s.2
def Can (c : List Span) : Prop := c.Pairwise (fun s t => s.2 < t.1) ∧ ∀ s ∈ c, s.1 < s.2
theorem mem_nil (x : Int) : ¬ Mem [] x := fun ⟨_, h, _⟩ => nomatch h
theorem mem_cons {s : Span} {ss : List Span} {x : Int} : Mem (s :: ss) x ↔ (s.1 ≤ x ∧ x < s.2) ∨ Mem ss x := by
  constructor
  · rintro ⟨t, ht, h⟩
    rcases List.mem_cons.mp ht with e | ht
    · rw [← e]
      exact .inl h
    · exact .inr ⟨t, ht, h⟩
  · rintro (h | ⟨t, ht, h⟩)
    · exact ⟨s, List.mem_cons_self, h⟩
    · exact ⟨t, List.mem_cons_of_mem _ ht, h⟩
theorem mem_app {a b : List Span} {x : Int} : Mem (a ++ b) x ↔ Mem a x ∨ Mem b x := by
  constructor
  · rintro ⟨t, ht, h⟩
    rcases List.mem_append.mp ht with m | m
    · exact .inl ⟨t, m, h⟩
    · exact .inr ⟨t, m, h⟩
  · rintro (⟨t, m, h⟩ | ⟨t, m, h⟩)
    · exact ⟨t, List.mem_append_left _ m, h⟩
    · exact ⟨t, List.mem_append_right _ m, h⟩
theorem mem_one {s : Span} {x : Int} : Mem [s] x ↔ s.1 ≤ x ∧ x < s.2 := by
  rw [mem_cons]
  constructor
  · rintro (h | h)
    · exact h
    · exact absurd h (mem_nil x)
  · exact .inl
theorem mem_perm {a b : List Span} (h : a.Perm b) (x : Int) : Mem a x ↔ Mem b x := by
  constructor
  · rintro ⟨t, m, q⟩
    exact ⟨t, h.mem_iff.mp m, q⟩
  · rintro ⟨t, m, q⟩
    exact ⟨t, h.mem_iff.mpr m, q⟩
theorem can_nil : Can [] := ⟨List.Pairwise.nil, fun _ h => nomatch h⟩
theorem can_one {s : Span} (h : s.1 < s.2) : Can [s] := ⟨List.pairwise_singleton _ _, fun t m => by
  rw [List.mem_singleton.mp m]
  exact h⟩
theorem can_tail {s : Span} {c : List Span} (h : Can (s :: c)) : Can c := ⟨(List.pairwise_cons.mp h.1).2, fun t m => h.2 t (List.mem_cons_of_mem _ m)⟩
theorem can_head {s : Span} {c : List Span} (h : Can (s :: c)) {x : Int} (m : Mem c x) : s.2 < x := by
  obtain ⟨t, ht, h1, _⟩ := m
  have := (List.pairwise_cons.mp h.1).1 t ht
  omega
theorem can_snoc {c : List Span} {s : Span} (h : Can c) (hs : s.1 < s.2) (l : ∀ t ∈ c, t.2 < s.1) : Can (c ++ [s]) := by
  refine ⟨List.pairwise_append.mpr ⟨h.1, List.pairwise_singleton _ _, fun a ha b hb => ?_⟩, fun t m => ?_⟩
  · rw [List.mem_singleton.mp hb]
    exact l a ha
  · rcases List.mem_append.mp m with m | m
    · exact h.2 t m
    · rw [List.mem_singleton.mp m]
      exact hs
theorem can_app_l {a b : List Span} (h : Can (a ++ b)) : Can a := ⟨(List.pairwise_append.mp h.1).1, fun t m => h.2 t (List.mem_append_left _ m)⟩
theorem can_app_lt {a : List Span} {s : Span} (h : Can (a ++ [s])) : ∀ t ∈ a, t.2 < s.1 := fun t m => (List.pairwise_append.mp h.1).2.2 t m s (List.mem_singleton.mpr rfl)
theorem can_drop {c : List Span} (h : Can c) (n : Nat) : Can (c.drop n) := ⟨h.1.sublist (List.drop_sublist n c), fun t m => h.2 t (List.mem_of_mem_drop m)⟩
/-- a cover is told by its places -/
theorem can_ext : ∀ {c d : List Span}, Can c → Can d → (∀ x, Mem c x ↔ Mem d x) → c = d
  | [], [], _, _, _ => rfl
  | [], t :: d, _, hd, e => by
    have h := hd.2 t List.mem_cons_self
    exact absurd ((e t.1).mpr (mem_cons.mpr (.inl ⟨Int.le_refl _, h⟩))) (mem_nil _)
  | s :: c, [], hc, _, e => by
    have h := hc.2 s List.mem_cons_self
    exact absurd ((e s.1).mp (mem_cons.mpr (.inl ⟨Int.le_refl _, h⟩))) (mem_nil _)
  | s :: c, t :: d, hc, hd, e => by
    have h1 := hc.2 s List.mem_cons_self
    have h2 := hd.2 t List.mem_cons_self
    have a1 : t.1 ≤ s.1 := by
      rcases mem_cons.mp ((e s.1).mp (mem_cons.mpr (.inl ⟨Int.le_refl _, h1⟩))) with m | m
      · exact m.1
      · have := can_head hd m
        omega
    have a2 : s.1 ≤ t.1 := by
      rcases mem_cons.mp ((e t.1).mpr (mem_cons.mpr (.inl ⟨Int.le_refl _, h2⟩))) with m | m
      · exact m.1
      · have := can_head hc m
        omega
    have b1 : s.2 ≤ t.2 := by
      apply Int.not_lt.mp
      intro lt
      rcases mem_cons.mp ((e t.2).mp (mem_cons.mpr (.inl ⟨by omega, lt⟩))) with m | m
      · omega
      · have := can_head hd m
        omega
    have b2 : t.2 ≤ s.2 := by
      apply Int.not_lt.mp
      intro lt
      rcases mem_cons.mp ((e s.2).mpr (mem_cons.mpr (.inl ⟨by omega, lt⟩))) with m | m
      · omega
      · have := can_head hc m
        omega
    have st : s = t := Prod.ext (by omega) (by omega)
    subst st
    have tl : ∀ x, Mem c x ↔ Mem d x := fun x => by
      constructor
      · intro m
        have h := can_head hc m
        rcases mem_cons.mp ((e x).mp (mem_cons.mpr (.inr m))) with q | q
        · omega
        · exact q
      · intro m
        have h := can_head hd m
        rcases mem_cons.mp ((e x).mpr (mem_cons.mpr (.inr m))) with q | q
        · omega
        · exact q
    rw [can_ext (can_tail hc) (can_tail hd) tl]
/-- spans of a cover lie where the spans lie whose places it holds -/
theorem can_spans {c ss : List Span} (hc : Can c) (e : ∀ x, Mem c x → Mem ss x) (h : ∀ s ∈ ss, isSpan s = true) : ∀ s ∈ c, isSpan s = true := fun s m => by
  have h1 := hc.2 s m
  obtain ⟨t, mt, t1, t2⟩ := e s.1 ⟨s, m, Int.le_refl _, h1⟩
  obtain ⟨u, mu, u1, u2⟩ := e (s.2 - 1) ⟨s, m, by omega, by omega⟩
  have bt := (isSpan_iff t).mp (h t mt)
  have bu := (isSpan_iff u).mp (h u mu)
  exact (isSpan_iff s).mpr ⟨by omega, h1, by omega⟩
theorem gap_can {c : List Span} (h : Can c) : gapAll c (c.drop 1) = true := by
  unfold gapAll
  rw [List.all_eq_true]
  intro i hi
  have hi := List.mem_range.mp hi
  rw [List.length_drop] at hi
  have h1 : i < c.length := by omega
  have h2 : i + 1 < c.length := by omega
  rw [decide_eq_true_eq, List.getD_eq_getElem?_getD, List.getD_eq_getElem?_getD, List.getElem?_drop, Nat.add_comm 1 i, List.getElem?_eq_getElem h1, List.getElem?_eq_getElem h2]
  exact List.pairwise_iff_getElem.mp h.1 i (i + 1) h1 h2 (Nat.lt_succ_self i)
def isCoverB (ss : List Span) : Bool := decide (ss.length ≤ 200) && gapAll ss (ss.drop 1)
theorem cover_can {c : List Span} (h : Can c) (l : c.length ≤ 200) : isCoverB c = true := by
  unfold isCoverB
  rw [decide_eq_true l, gap_can h]
  rfl
theorem can_lows {c : List Span} (h : Can c) : (c.map (·.1)).Nodup := by
  rw [List.Nodup, List.pairwise_map]
  refine (List.pairwise_iff_forall_sublist.mpr fun {a b} hs => ?_)
  have h1 : a.2 < b.1 := List.pairwise_iff_forall_sublist.mp h.1 hs
  have h2 := h.2 a (hs.subset List.mem_cons_self)
  omega
/-- a cover has no more spans than what it covers -/
theorem can_len {c ss : List Span} (hc : Can c) (e : ∀ x, Mem c x ↔ Mem ss x) : c.length ≤ ss.length := by
  have sub : ∀ x ∈ c.map (·.1), x ∈ ss.map (·.1) := fun x hx => by
    obtain ⟨s, hs, rfl⟩ := List.mem_map.mp hx
    have h1 := hc.2 s hs
    obtain ⟨t, ht, t1, t2⟩ := (e s.1).mp ⟨s, hs, Int.le_refl _, h1⟩
    by_cases hlt : t.1 < s.1
    · obtain ⟨u, hu, u1, u2⟩ := (e (s.1 - 1)).mpr ⟨t, ht, by omega, by omega⟩
      -- u lies ahead of s, or is s
      rcases List.mem_iff_getElem.mp hs with ⟨i, hi, ei⟩
      rcases List.mem_iff_getElem.mp hu with ⟨j, hj, ej⟩
      rcases Nat.lt_trichotomy i j with h | h | h
      · have := List.pairwise_iff_getElem.mp hc.1 i j hi hj h
        rw [ei, ej] at this
        omega
      · subst h
        rw [ei] at ej
        rw [← ej] at u1
        omega
      · have := List.pairwise_iff_getElem.mp hc.1 j i hj hi h
        rw [ei, ej] at this
        omega
    · have : t.1 = s.1 := by omega
      rw [← this]
      exact List.mem_map.mpr ⟨t, ht, rfl⟩
  have := nodup_len (can_lows hc) sub
  simpa using this
theorem can_of_cover {c : List Span} (h : c.all isSpan = true) (hc : isCoverB c = true) : Can c := by
  have pos : ∀ s ∈ c, s.1 < s.2 := fun s hs => ((isSpan_iff s).mp (List.all_eq_true.mp h s hs)).2.1
  refine ⟨?_, pos⟩
  unfold isCoverB gapAll at hc
  rw [Bool.and_eq_true, List.all_eq_true] at hc
  have nxt : ∀ (i : Nat) (hi : i + 1 < c.length), (c[i]).2 < (c[i + 1]).1 := fun i hi => by
    have h1 := hc.2 i (List.mem_range.mpr (by rw [List.length_drop]; omega))
    rw [decide_eq_true_eq, List.getD_eq_getElem?_getD, List.getD_eq_getElem?_getD, List.getElem?_drop, Nat.add_comm 1 i, List.getElem?_eq_getElem (by omega), List.getElem?_eq_getElem hi] at h1
    exact h1
  have far : ∀ (k i : Nat) (hi : i + k + 1 < c.length), (c[i]'(by omega)).2 < (c[i + k + 1]).1 := fun k => by
    induction k with
    | zero => exact fun i hi => nxt i hi
    | succ k ih =>
      intro i hi
      have h1 := ih i (by omega)
      have h2 := nxt (i + k + 1) (by omega)
      have h3 := pos (c[i + k + 1]'(by omega)) (List.getElem_mem _)
      have h4 : (c[i + k + 1 + 1]'(by omega)).1 = (c[i + (k + 1) + 1]'hi).1 := rfl
      omega
  rw [List.pairwise_iff_getElem]
  intro i j hi hj hij
  obtain ⟨k, rfl⟩ : ∃ k, j = i + k + 1 := ⟨j - i - 1, by omega⟩
  exact far k i hj
section
variable {P : Program} {w : World} {K : PySem.W.Frag} {mg : Str → Option Value} {base : Heap}
/-! ### the program: covers -/
def spCheckSpans (C : Addr) : Sp := fun vs H Q E => ∃ (l : Addr) (us : List V) (ss : List Span), vs = [.ref l] ∧ H l = some (.lst us) ∧ Sps H us ss ∧ (ss.all isSpan = true → Q .non H) ∧ (ss.all isSpan = false → E (.ref C) none H)
theorem ok_check_spans (T : Tx K mg) : FnOk P w K mg base (L2.CX P w) (5) T.f_check_spans T.fd_check_spans ["spans"] (spCheckSpans T.C_NoSpan) := by
  have G_check_span : FnOk P w K mg base (L2.CX P w) _ _ _ _ _ := ok_check_span T
  refine T.F_check_spans.okX sc_check_spans (fun vs H Q E h => ?_) (fun cdv A outer s H vs Q E hr h => ?_)
  · obtain ⟨l, us, ss, rfl, _⟩ := h
    rfl
  · obtain ⟨l, us, ss, rfl, hl, hS, q, e⟩ := h
    refine ⟨_, (pss_one (ps_for (passes_of rfl) (by rfl) (pi_list (pv 0)) (pg_name (i := 1) sc_check_spans.nd rfl (Or.inl rfl))
        (pss_one (ps_expr (pe_call G_check_span (hr.mono (by decide)) (by rfl) T.g_check_span T.F_check_span.kp T.b_check_span .nil (passes_call (takes_of rfl rfl rfl rfl) (fun _ _ _ _ h => h)) (pa_cons (pv 1) pa_nil)))))), ?_⟩
    refine ⟨_, rfl, l, rfl, ⟨_, SqL.of hl⟩, for_list (K := K) (a := l) (xs := us) (fun i σ H' => ∃ y1, σ = [some (.ref l), y1] ∧ H' = H ∧ (ss.take i).all isSpan = true) ⟨none, rfl, rfl, rfl⟩ (fun i σ H' _ ⟨_, _, e, _⟩ => by rw [e]; exact SqL.of hl) ?_ ?_⟩
    · rintro i y σ H' hi ⟨y1, rfl, rfl, ha⟩
      obtain ⟨sp, hs, hv⟩ := hS.get hi
      have tk : ss.take (i + 1) = ss.take i ++ [sp] := by
        rw [List.take_add_one, hs]
        rfl
      refine ⟨_, rfl, y, sp, rfl, hv, fun ok => ⟨_, rfl, rfl, ?_⟩, fun no => e ?_⟩
      · rw [tk, List.all_append, ha, List.all_cons, ok]
        rfl
      · rw [List.all_eq_false]
        exact ⟨sp, List.mem_of_getElem? hs, by rw [no]; decide⟩
    · rintro σ H' ⟨y1, rfl, rfl, ha⟩
      rw [hS.len, List.take_length] at ha
      exact q ha
theorem cut_one (xs : List V) : cutV xs (some 1) none = xs.drop 1 := by
  unfold cutV
  rw [show HT.sIx xs.length 0 (some 1) = min 1 xs.length from HT.sIx_nat xs.length 0 1, HT.sIx_none]
  cases xs with
  | nil => rfl
  | cons x r =>
    rw [show min 1 (x :: r).length = 1 from Nat.min_eq_left (Nat.succ_le_succ (Nat.zero_le _))]
    exact List.take_of_length_le (by simp)
theorem Sps.drop {H : Hp} : ∀ {vs : List V} {ss : List Span} (n : Nat), Sps H vs ss → Sps H (vs.drop n) (ss.drop n)
  | _, _, 0, h => h
  | _, _, _ + 1, .nil => .nil
  | _, _, n + 1, .cons _ t => Sps.drop n t
def spIsCover (T : Tx K mg) : Sp := fun vs H Q _ => ∃ (l : Addr) (us : List V) (ss : List Span), vs = [.ref l] ∧ H l = some (.lst us) ∧ Sps H us ss ∧ Tb T.tabs H ∧ ∀ H', Chg T.tabs H H' → Tb T.tabs H' → Q (.bl (isCoverB ss)) H'
theorem ok_is_cover (T : Tx K mg) (B : Tbs T base) : FnOk P w K mg base CX0 (1) T.f_is_cover T.fd_is_cover ["spans"] (spIsCover T) := by
  refine T.FC_is_cover.ok sc_is_cover (fun vs H Q E h => ?_) (fun A outer s H vs Q E hr h => ?_)
  · obtain ⟨l, us, ss, rfl, _⟩ := h
    rfl
  · obtain ⟨l, us, ss, rfl, hl, hS, tb, q⟩ := h
    refine ⟨_, (pss_cons (ps_if (pt_cmpR op_gt (pe_callB call_len_seq (by rfl) T.m_len PySem.boot_len (pa_cons (pv 0) pa_nil)) (pe_glob (v := .int (200)) (by rfl) T.c_MOST_SPANS ⟨_, rfl⟩) (nomark _)) (pss_one (ps_ret pe_bl)) pss_nil)
      (pss_one (ps_ret (pe_allZ hr (by rfl) T.m_all (by decide +kernel) (by rfl) T.m_zip B.t_is_cover rfl (genS2_by (by decide +kernel)) (pa_cons (pv 0) (pa_cons (pe_slice sl_list (pv 0) (po_some pe_int) po_none) pa_nil)) (fun _ => rfl) (by decide) (by decide))))), ?_⟩
    have hlen := hS.len
    unfold isCoverB at q
    refine ⟨_, rfl, l, _, rfl, .inl (SqL.of hl), _, _, rfl, rfl, _, rfl, ite2 (fun e => ?_) (fun e => ?_)⟩
    · have e0 : (200 : Int) < ((us.length : Nat) : Int) := of_decide_eq_true e
      have no : ¬ ss.length ≤ 200 := by omega
      have q1 := q H (Chg.refl _ _) tb
      rw [decide_eq_false no] at q1
      exact q1
    · have e0 : ¬ (200 : Int) < ((us.length : Nat) : Int) := fun z => e (decide_eq_true z)
      have yes : ss.length ≤ 200 := by omega
      refine ⟨_, rfl, _, rfl, 1, rfl, l, us, rfl, SqL.of hl, fun c nc => ?_⟩
      rw [cut_one]
      obtain ⟨gc, sc⟩ := upd_at (o := .lst (us.drop 1)) nc
      have tb1 := tb.same sc
      have mP : T.pA_is_cover ∈ T.tabs := by
        unfold Tx.tabs
        simp
      refine ⟨l, c, us, us.drop 1, ss, ss.drop 1, rfl, SqL.of (sc _ _ hl), SqL.of gc, ?_, ?_, hS.same sc, (hS.same sc).drop 1, tb1 _ mP, fun H2 t2 => ?_⟩
      · exact fun z => tb.out hl (fun ps z => by cases z) (by rw [z]; exact mP)
      · exact fun z => tb.new nc (by rw [z]; exact mP)
      · obtain ⟨tb2, c2⟩ := tb1.tabbed mP t2
        have q1 := q H2 ((Chg.of_same sc).trans c2) tb2
        rw [decide_eq_true yes] at q1
        exact q1
def spCheckCover (T : Tx K mg) : Sp := fun vs H Q E => ∃ (l : Addr) (us : List V) (ss : List Span), vs = [.ref l] ∧ H l = some (.lst us) ∧ Sps H us ss ∧ Tb T.tabs H ∧ (ss.all isSpan = true → isCoverB ss = true → ∀ H', Chg T.tabs H H' → Tb T.tabs H' → Q .non H') ∧
  (ss.all isSpan = false → E (.ref T.C_NoSpan) none H) ∧ (ss.all isSpan = true → isCoverB ss = false → ∀ H', Chg T.tabs H H' → Tb T.tabs H' → E (.ref T.C_NoCover) none H')
theorem ok_check_cover (T : Tx K mg) (B : Tbs T base) : FnOk P w K mg base (L2.CX P w) (6) T.f_check_cover T.fd_check_cover ["cover"] (spCheckCover T) := by
  have G_check_spans : FnOk P w K mg base (L2.CX P w) _ _ _ _ _ := ok_check_spans T
  have G_is_cover : FnOk P w K mg base CX0 _ _ _ _ _ := ok_is_cover T B
  refine T.F_check_cover.okX sc_check_cover (fun vs H Q E h => ?_) (fun cdv A outer s H vs Q E hr h => ?_)
  · obtain ⟨l, us, ss, rfl, _⟩ := h
    rfl
  · obtain ⟨l, us, ss, rfl, hl, hS, tb, q, e1, e2⟩ := h
    refine ⟨_, (pss_cons (ps_expr (pe_call G_check_spans (hr.mono (by decide)) (by rfl) T.g_check_spans T.F_check_spans.kp T.b_check_spans .nil (passes_call (takes_of rfl rfl rfl rfl) (fun _ _ _ _ h => h)) (pa_cons (pv 0) pa_nil)))
      (pss_one (ps_if (pt_not (pt_val (pe_call G_is_cover (hr.mono (by decide)) (by rfl) T.g_is_cover T.F_is_cover.kp T.b_is_cover .nil pass0 (pa_cons (pv 0) pa_nil)))) (pss_one (ps_raise (by rfl) (takes_of rfl rfl rfl rfl) (pmk_own PySem.F.excBase_ValueError T.x_NoCover T.g_NoCover T.k_NoCover (raises_own T.b_NoCover T.t_NoCover) (by exact rfl)))) pss_nil))), ?_⟩
    refine ⟨_, rfl, l, us, ss, rfl, hl, hS, fun ok => ?_, e1⟩
    refine ⟨_, rfl, l, us, ss, rfl, hl, hS, tb, fun H1 c1 tb1 => ⟨_, rfl, ?_⟩⟩
    by_cases hc : isCoverB ss = true
    · rw [hc]
      exact iteF (q ok hc H1 c1 tb1)
    · rw [Bool.not_eq_true] at hc
      rw [hc]
      exact iteT (e2 ok hc H1 c1 tb1)
def spHeld (T : Tx K mg) : Sp := fun vs H Q E => ∃ (l : Addr) (us : List V) (ss : List Span), vs = [.ref l] ∧ H l = some (.lst us) ∧ Sps H us ss ∧ Tb T.tabs H ∧ (ss.all isSpan = true → isCoverB ss = true → ∀ H', Chg T.tabs H H' → Tb T.tabs H' → Q (.int (spanSum ss)) H') ∧
  (ss.all isSpan = false → E (.ref T.C_NoSpan) none H) ∧ (ss.all isSpan = true → isCoverB ss = false → ∀ H', Chg T.tabs H H' → Tb T.tabs H' → E (.ref T.C_NoCover) none H')
theorem ok_held (T : Tx K mg) (B : Tbs T base) : FnOk P w K mg base (L2.CX P w) (7) T.f_held T.fd_held ["cover"] (spHeld T) := by
  have G_check_cover : FnOk P w K mg base (L2.CX P w) _ _ _ _ _ := ok_check_cover T B
  refine T.FC_held.okX sc_held (fun vs H Q E h => ?_) (fun A outer s H vs Q E hr h => ?_)
  · obtain ⟨l, us, ss, rfl, _⟩ := h
    rfl
  · obtain ⟨l, us, ss, rfl, hl, hS, tb, q, e1, e2⟩ := h
    refine ⟨_, (pss_cons (ps_expr (pe_call G_check_cover (hr.mono (by decide)) (by rfl) T.g_check_cover T.F_check_cover.kp T.b_check_cover .nil (passes_call (takes_of rfl rfl rfl rfl) (fun _ _ _ _ h => h)) (pa_cons (pv 0) pa_nil)))
      (pss_one (ps_ret (pe_sumP hr (by rfl) T.m_sum B.t_held rfl (genS2_by (by decide +kernel)) (pv 0) (fun _ => rfl) (by decide) (by decide))))), ?_⟩
    have mP : T.pA_held ∈ T.tabs := by
      unfold Tx.tabs
      simp
    have nl := tb.out hl (fun ps z => by cases z)
    refine ⟨_, rfl, l, us, ss, rfl, hl, hS, tb, fun ok hc H1 c1 tb1 => ?_, e1, e2⟩
    refine ⟨_, rfl, l, us, ss, rfl, SqL.of (c1 _ _ nl hl), fun z => nl (by rw [z]; exact mP), hS.chg c1 tb.lsts, tb1 _ mP, fun H2 t2 => ?_⟩
    obtain ⟨tb2, c2⟩ := tb1.tabbed mP t2
    exact q ok hc H2 (c1.trans c2) tb2
/-! joined -/
/-- the two numbers of the tuple at v -/
def kOf (H : Hp) (v : V) : Span := match v with
  | .ref t => (match H t with | some (.tup [.int a, .int b]) => (a, b) | _ => (0, 0))
  | _ => (0, 0)
theorem kOf_spn {H : Hp} {v : V} {s : Span} (h : Spn H v s) : kOf H v = s := by
  obtain ⟨t, rfl, ht⟩ := h
  show (match H t with | some (.tup [.int a, .int b]) => (a, b) | _ => (0, 0)) = s
  rw [ht]
theorem Sps.kmap {H : Hp} : ∀ {vs : List V} {ss : List Span}, Sps H vs ss → vs.map (kOf H) = ss
  | _, _, .nil => rfl
  | _, _, .cons h t => by rw [List.map_cons, kOf_spn h, t.kmap]
theorem sps_of {H : Hp} : ∀ {vs : List V}, (∀ v ∈ vs, Spn H v (kOf H v)) → Sps H vs (vs.map (kOf H))
  | [], _ => .nil
  | v :: vs, h => .cons (h v List.mem_cons_self) (sps_of fun u hu => h u (List.mem_cons_of_mem _ hu))
theorem Sps.mem {H : Hp} {vs : List V} {ss : List Span} (h : Sps H vs ss) {v : V} (hv : v ∈ vs) : ∃ s ∈ ss, Spn H v s := by
  obtain ⟨i, hi⟩ := List.getElem?_of_mem hv
  obtain ⟨s, e, sp⟩ := h.get hi
  exact ⟨s, List.mem_of_getElem? e, sp⟩
def spJoined : Sp := fun vs H Q _ => ∃ (l : Addr) (us : List V) (ss : List Span), vs = [.ref l] ∧ H l = some (.lst us) ∧ Sps H us ss ∧ (∀ s ∈ ss, s.1 < s.2) ∧ ss.length ≤ 100000 ∧
  ∀ H' p ws c, Same H H' → H p = none → H' p = some (.lst ws) → Sps H' ws c → Can c → (∀ x, Mem c x ↔ Mem ss x) → c.length ≤ ss.length → Q (.ref p) H'
theorem snoc_of {α : Type} {l : List α} (h : l ≠ []) : ∃ a x, l = a ++ [x] := ⟨l.dropLast, l.getLast h, (List.dropLast_concat_getLast h).symm⟩
theorem Sps.snoc {H : Hp} {vs : List V} {c : List Span} {x : Span} (h : Sps H vs (c ++ [x])) : ∃ us v, vs = us ++ [v] ∧ Sps H us c ∧ Spn H v x := by
  have hl := h.len
  have ne : vs ≠ [] := fun z => by
    rw [z] at hl
    simp at hl
  obtain ⟨us, v, rfl⟩ := snoc_of ne
  have hl2 : us.length = c.length := by simpa using hl
  refine ⟨us, v, rfl, ?_, ?_⟩
  · have h1 : ∀ {vs : List V} {ss : List Span} (n : Nat), Sps H vs ss → Sps H (vs.take n) (ss.take n) := fun {vs ss} n h => by
      induction h generalizing n with
      | nil => simp [Sps.nil]
      | cons a b ih =>
        cases n with
        | zero => exact .nil
        | succ n => exact .cons a (ih n)
    have h2 := h1 us.length h
    rw [List.take_left, hl2, List.take_left] at h2
    exact h2
  · obtain ⟨s, e, sp⟩ := h.get (i := us.length) (v := v) (by simp)
    rw [hl2] at e
    have e2 : s = x := by simpa using e.symm
    rw [← e2]
    exact sp
theorem ok_joined (T : Tx K mg) : FnOk P w K mg base CX0 (1) T.f_joined T.fd_joined ["spans"] spJoined := by
  refine T.F_joined.ok sc_joined (fun vs H Q E h => ?_) (fun cdv A outer s H vs Q E hr h => ?_)
  · obtain ⟨l, us, ss, rfl, _⟩ := h
    rfl
  · obtain ⟨l, us, ss, rfl, hl, hS, pos, hlen, q⟩ := h
    refine ⟨_, (pss_cons (ps_set (i := 1) sc_joined.nd rfl (Or.inl rfl) (pe_lst pa_nil))
      (pss_cons (ps_for PassesOwn.never (by rfl) (pi_list (pe_callB cr_sortedPO (by rfl) T.m_sorted (by decide +kernel) (pa_cons (pv 0) pa_nil))) (pg_tup rfl (pgs_cons (pg_name (i := 2) sc_joined.nd rfl (Or.inl rfl)) (pgs_cons (pg_name (i := 3) sc_joined.nd rfl (Or.inl rfl)) pgs_nil)))
        (pss_one (ps_if (PW.pt (pw_and (pt_truth (pv 1) (by intro _; rfl)) (pw_and1 (pt_cmpR op_le (pv 2) (pe_ix ix_tup (pe_ix ix_list (pv 1) (pe_un un_neg pe_int) (fun _ _ => rfl)) pe_int (fun _ _ => rfl)) (nomark _))))) (pss_cons (ps_asg (pe_ix ix_list (pv 1) (pe_un un_neg pe_int) (fun _ _ => rfl)) (pg_tup rfl (pgs_cons (pg_name (i := 4) sc_joined.nd rfl (Or.inl rfl)) (pgs_cons (pg_name (i := 5) sc_joined.nd rfl (Or.inl rfl)) pgs_nil))))
      (pss_one (ps_asg (pe_tup (pa_cons (pv 4) (pa_cons (pe_callB (call_max2 rfl) (by rfl) T.m_max (by decide +kernel) (pa_cons (pv 5) (pa_cons (pv 3) pa_nil))) pa_nil))) (pg_sub (pv 1) (pe_un un_neg pe_int) set_list)))) (pss_one (ps_expr (pe_bm PySem.F.plainAttrs_list PySem.F.slot_list_append PySem.F.type_list_append mt_append (pv 1) (pa_cons (pe_tup (pa_cons (pv 2) (pa_cons (pv 3) pa_nil))) pa_nil)))))))
      (pss_one (ps_ret (pv 1))))), ?_⟩
    refine ⟨Nat.zero_le _, fun C nC => ?_⟩
    obtain ⟨gC, sC⟩ := upd_at (o := .lst []) nC
    have hS1 := hS.same sC
    refine ⟨_, rfl, l, us, kOf (upd H C (.lst [])), rfl, SqL.of (sC _ _ hl), fun x hx => ?_, fun ys p srt stb np => ?_⟩
    · obtain ⟨sp, _, t, e, ht⟩ := hS1.mem hx
      refine ⟨t, e, ?_⟩
      rw [kOf_spn ⟨t, e, ht⟩]
      exact ht
    have mem : ∀ v ∈ ys, v ∈ us := fun v hv => stb.perm.mem_iff.mp hv
    have hY : Sps (upd H C (.lst [])) ys (ys.map (kOf (upd H C (.lst [])))) := sps_of fun v hv => by
      obtain ⟨sp, _, h1⟩ := hS1.mem (mem v hv)
      rw [kOf_spn h1]
      exact h1
    have prm : (ys.map (kOf (upd H C (.lst [])))).Perm ss := by
      rw [← hS1.kmap]
      exact stb.perm.map _
    have ord : (ys.map (kOf (upd H C (.lst [])))).Pairwise (fun a b => a.1 ≤ b.1) := by
      rw [List.pairwise_map]
      refine srt.imp fun {a b} h => ?_
      have := SrtO.lexB_no.mp h
      omega
    revert hY prm ord
    generalize ys.map (kOf (upd H C (.lst []))) = rs
    intro hY prm ord
    have posR : ∀ s ∈ rs, s.1 < s.2 := fun s hs => pos s (prm.mem_iff.mp hs)
    have lenR := prm.length_eq
    obtain ⟨gp, sp⟩ := upd_at (o := .lst ys) np
    have nCp : C ≠ p := ne_of_none gC np
    have hnC : H C = none := nC
    refine ⟨p, rfl, ⟨_, SqL.of gp⟩, ?_⟩
    have hYlen := hY.len
    refine for_list (K := K) (a := p) (xs := ys) (fun i σ H' => ∃ y2 y3 y4 y5 cvs acc, σ = [some (.ref l), some (.ref C), y2, y3, y4, y5] ∧ Same H H' ∧ H' p = some (.lst ys) ∧ Sps H' ys rs ∧ H' C = some (.lst cvs) ∧ Sps H' cvs acc ∧ Can acc ∧ (∀ x, Mem acc x ↔ Mem (rs.take i) x) ∧ acc.length ≤ i ∧ ∀ s ∈ acc, ∀ r ∈ rs.drop i, s.1 ≤ r.1)
      ⟨none, none, none, none, [], [], rfl, sC.trans sp, gp, hY.same sp, sp _ _ gC, .nil, can_nil, fun x => Iff.rfl, Nat.le_refl _, fun s hs => nomatch hs⟩ (fun i σ H' _ ⟨_, _, _, _, _, _, _, _, h, _⟩ => SqL.of h) ?_ ?_
    · rintro i y σ H' hi ⟨y2, y3, y4, y5, cvs, acc, rfl, sm, hp, hY', hC, hA, can, mm, al, low⟩
      obtain ⟨r, hr', t, rfl, ht⟩ := hY'.get hi
      have hrm : r ∈ rs := List.mem_of_getElem? hr'
      have hil : i < rs.length := (List.getElem?_eq_some_iff.mp hr').1
      have rpos := posR r hrm
      have tk : rs.take (i + 1) = rs.take i ++ [r] := by
        rw [List.take_add_one, hr']
        rfl
      have dr : rs.drop i = r :: rs.drop (i + 1) := by
        obtain ⟨h1, h2⟩ := List.getElem?_eq_some_iff.mp hr'
        rw [List.drop_eq_getElem_cons h1, h2]
      have rl : ∀ s ∈ acc, s.1 ≤ r.1 := fun s hs => low s hs r (by rw [dr]; exact List.mem_cons_self)
      have rr : ∀ u ∈ rs.drop (i + 1), r.1 ≤ u.1 := fun u hu => by
        have h1 := ord.sublist (List.drop_sublist i rs)
        rw [dr] at h1
        exact (List.pairwise_cons.mp h1).1 u hu
      have low' : ∀ s ∈ acc, ∀ u ∈ rs.drop (i + 1), s.1 ≤ u.1 := fun s hs u hu => low s hs u (by rw [dr]; exact List.mem_cons_of_mem _ hu)
      -- a step's end: C holds the spans acc2
      have fin : ∀ (H2 : Hp) (z2 z3 z4 z5 : Option V) (cvs2 : List V) (acc2 : List Span), Same H' H2 → Sps H2 cvs2 acc2 → Can acc2 → (∀ x, Mem acc2 x ↔ Mem acc x ∨ (r.1 ≤ x ∧ x < r.2)) → acc2.length ≤ i + 1 → (∀ s ∈ acc2, s.1 ≤ r.1) →
          ∃ y2 y3 y4 y5 cvs acc, [some (V.ref l), some (V.ref C), z2, z3, z4, z5] = [some (V.ref l), some (V.ref C), y2, y3, y4, y5] ∧ Same H (upd H2 C (.lst cvs2)) ∧ (upd H2 C (.lst cvs2)) p = some (.lst ys) ∧ Sps (upd H2 C (.lst cvs2)) ys rs ∧ (upd H2 C (.lst cvs2)) C = some (.lst cvs) ∧ Sps (upd H2 C (.lst cvs2)) cvs acc ∧ Can acc ∧ (∀ x, Mem acc x ↔ Mem (rs.take (i + 1)) x) ∧ acc.length ≤ i + 1 ∧ ∀ s ∈ acc, ∀ u ∈ rs.drop (i + 1), s.1 ≤ u.1 :=
        fun H2 z2 z3 z4 z5 cvs2 acc2 s2 hA2 can2 m2 l2 lo2 => by
          have cC : Chg [C] H2 (upd H2 C (.lst cvs2)) := Chg.upd List.mem_cons_self
          have lC : Lsts [C] H2 := Lsts.of1 (s2 _ _ hC)
          refine ⟨z2, z3, z4, z5, cvs2, acc2, rfl, same_more (sm.trans s2) hnC, cC _ _ (nmem1 nCp.symm) (s2 _ _ hp), (hY'.same s2).chg cC lC, upd_same, hA2.chg cC lC, can2, fun x => ?_, l2, fun s hs u hu => Int.le_trans (lo2 s hs) (rr u hu)⟩
          rw [m2, mm, tk, mem_app, mem_one]
      refine ⟨t, _, rfl, SqT.of ht, rfl, _, _, rfl, _, _, rfl, rfl, ?_⟩
      by_cases hn : acc = []
      · -- nothing yet
        have cn : cvs = [] := by
          have := hA.len
          rw [hn] at this
          exact List.length_eq_zero_iff.mp this
        refine ⟨_, rfl, false, .inl ⟨_, SqL.of hC, by rw [cn]; rfl⟩, iteF (iteF ?_)⟩
        refine ⟨_, rfl, .inl ⟨rfl, _, SqL.of hC⟩, _, rfl, _, rfl, (by show 2 ≤ sizeLine; decide), fun t2 n2 => ?_⟩
        obtain ⟨g2, s2⟩ := upd_at (o := .tup [.int r.1, .int r.2]) n2
        refine ⟨C, cvs, .ref t2, rfl, rfl, s2 _ _ hC, ?_, ?_⟩
        · rw [cn]
          exact small_lt (by simp)
        · refine fin _ _ _ _ _ _ [r] s2 ?_ (can_one rpos) (fun x => ?_) (by simp) (fun s hs => ?_)
          · rw [cn]
            exact .one ⟨t2, rfl, g2⟩
          · rw [hn, mem_one]
            constructor
            · exact .inr
            · rintro (h | h)
              · exact absurd h (mem_nil x)
              · exact h
          · rw [List.mem_singleton.mp hs]
            exact Int.le_refl _
      · obtain ⟨a, x, rfl⟩ := snoc_of hn
        obtain ⟨ua, vx, rfl, hAa, tx, rfl, htx⟩ := hA.snoc
        have lx := can_app_lt can
        have xpos := can.2 x (List.mem_append_right _ (List.mem_singleton.mpr rfl))
        have xr := rl x (List.mem_append_right _ (List.mem_singleton.mpr rfl))
        have alen : a.length + 1 ≤ i := by simpa using al
        refine ⟨_, rfl, true, .inl ⟨_, SqL.of hC, by simp⟩, iteT ?_⟩
        refine ⟨_, rfl, _, rfl, 1, rfl, C, _, -1, .ref tx, rfl, rfl, SqL.of hC, atI_last _ _, tx, _, _, _, rfl, rfl, SqT.of htx, atI_nat (j := 1) rfl, _, _, rfl, rfl, _, rfl, ?_⟩
        by_cases ov : r.1 ≤ x.2
        · rw [decide_eq_true ov]
          refine iteT ?_
          refine ⟨_, rfl, 1, rfl, C, _, -1, .ref tx, rfl, rfl, SqL.of hC, atI_last _ _, tx, _, rfl, SqT.of htx, rfl, _, _, rfl, _, _, rfl, rfl, ?_⟩
          refine ⟨_, rfl, _, rfl, _, rfl, _, _, rfl, (by show 2 ≤ sizeLine; decide), fun t2 n2 => ?_⟩
          generalize hmx : (if r.2 > x.2 then r.2 else x.2) = mx
          obtain ⟨g2, s2⟩ := upd_at (o := .tup [.int x.1, .int mx]) n2
          have mx1 : x.2 ≤ mx := by
            split at hmx <;> omega
          have mx2 : r.2 ≤ mx := by
            split at hmx <;> omega
          have mx3 : mx = r.2 ∨ mx = x.2 := by
            split at hmx <;> omega
          refine ⟨_, rfl, 1, rfl, C, ua ++ [.ref tx], -1, ua.length, rfl, rfl, s2 _ _ hC, ?_, ?_⟩
          · unfold ixN
            rw [if_neg (by decide), if_pos (by simp; omega)]
            congr 1
            simp
            omega
          · have st : (ua ++ [V.ref tx]).set ua.length (.ref t2) = ua ++ [.ref t2] := by simp
            rw [st]
            refine fin _ _ _ _ _ _ (a ++ [(x.1, mx)]) s2 ((hAa.same s2).app (.one ⟨t2, rfl, g2⟩)) (can_snoc (can_app_l can) (by show x.1 < mx; omega) lx) (fun z => ?_) (by simpa using Nat.le_succ_of_le alen) (fun s hs => ?_)
            · rw [mem_app, mem_one, mem_app, mem_one]
              constructor
              · rintro (h | h)
                · exact .inl (.inl h)
                · by_cases hz : z < x.2
                  · exact .inl (.inr ⟨h.1, hz⟩)
                  · exact .inr ⟨by omega, by have := h.2; rcases mx3 with e | e <;> omega⟩
              · rintro ((h | h) | h)
                · exact .inl h
                · exact .inr ⟨h.1, by have := h.2; omega⟩
                · exact .inr ⟨by show x.1 ≤ z; omega, by show z < mx; omega⟩
            · rcases List.mem_append.mp hs with m | m
              · exact rl s (List.mem_append_left _ m)
              · rw [List.mem_singleton.mp m]
                exact xr
        · rw [decide_eq_false ov]
          refine iteF ?_
          refine ⟨_, rfl, .inl ⟨rfl, _, SqL.of hC⟩, _, rfl, _, rfl, (by show 2 ≤ sizeLine; decide), fun t2 n2 => ?_⟩
          obtain ⟨g2, s2⟩ := upd_at (o := .tup [.int r.1, .int r.2]) n2
          refine ⟨C, _, .ref t2, rfl, rfl, s2 _ _ hC, ?_, ?_⟩
          · have := hAa.len
            exact small_lt (by simp; omega)
          · have hA2 : Sps _ (ua ++ [.ref tx]) (a ++ [x]) := ((hAa.app (.one ⟨tx, rfl, htx⟩)).same s2)
            refine fin _ _ _ _ _ _ ((a ++ [x]) ++ [r]) s2 (hA2.app (.one ⟨t2, rfl, g2⟩)) (can_snoc can rpos fun s hs => ?_) (fun z => ?_) (by simpa using alen) (fun s hs => ?_)
            · rcases List.mem_append.mp hs with m | m
              · have := lx s m
                omega
              · rw [List.mem_singleton.mp m]
                omega
            · rw [mem_app, mem_one]
            · rcases List.mem_append.mp hs with m | m
              · exact rl s m
              · rw [List.mem_singleton.mp m]
                exact Int.le_refl _
    · rintro σ H' ⟨y2, y3, y4, y5, cvs, acc, rfl, sm, hp, hY', hC, hA, can, mm, al, low⟩
      rw [hYlen, List.take_length] at mm
      refine ⟨_, rfl, q H' C cvs acc sm hnC hC hA can (fun x => (mm x).trans (mem_perm prm x)) ?_⟩
      rw [← lenR, ← hYlen]
      exact al
theorem all_pos {ss : List Span} (h : ss.all isSpan = true) : ∀ s ∈ ss, s.1 < s.2 := fun s hs => ((isSpan_iff s).mp (List.all_eq_true.mp h s hs)).2.1
end
section
variable {P : Program} {w : World} {K : PySem.W.Frag} {mg : Str → Option Value} {base : Heap}
/-! ### two covers -/
/-- 0 a cover, 1 no spans, 2 no cover -/
def ref1 (ss : List Span) : Nat := if ss.all isSpan = true then (if isCoverB ss = true then 0 else 2) else 1
theorem ref1_ok {ss : List Span} (h : ss.all isSpan = true) (h2 : isCoverB ss = true) : ref1 ss = 0 := by
  unfold ref1
  rw [if_pos h, if_pos h2]
theorem ref1_span {ss : List Span} (h : ss.all isSpan = false) : ref1 ss = 1 := by
  unfold ref1
  rw [if_neg (by rw [h]; decide)]
theorem ref1_cov {ss : List Span} (h : ss.all isSpan = true) (h2 : isCoverB ss = false) : ref1 ss = 2 := by
  unfold ref1
  rw [if_pos h, if_neg (by rw [h2]; decide)]
theorem ref1_can {ss : List Span} (h : ref1 ss = 0) : ss.all isSpan = true ∧ isCoverB ss = true ∧ Can ss ∧ ss.length ≤ 200 := by
  unfold ref1 at h
  by_cases h1 : ss.all isSpan = true
  · rw [if_pos h1] at h
    by_cases h2 : isCoverB ss = true
    · refine ⟨h1, h2, can_of_cover h1 h2, ?_⟩
      unfold isCoverB at h2
      rw [Bool.and_eq_true, decide_eq_true_eq] at h2
      exact h2.1
    · rw [if_neg h2] at h
      cases h
  · rw [if_neg h1] at h
    cases h
theorem can_ref1 {c : List Span} (h : Can c) (hs : ∀ s ∈ c, isSpan s = true) (hl : c.length ≤ 200) : ref1 c = 0 := ref1_ok (List.all_eq_true.mpr hs) (cover_can h hl)
/-- the class of a refusal -/
def Tx.refC (T : Tx K mg) (n : Nat) : Addr := if n = 1 then T.C_NoSpan else T.C_NoCover
/-- two lists of spans are handed in -/
def Two (T : Tx K mg) (H : Hp) (a b : Addr) (us ws : List V) (ss rs : List Span) : Prop := H a = some (.lst us) ∧ Sps H us ss ∧ H b = some (.lst ws) ∧ Sps H ws rs ∧ Tb T.tabs H
def spCheckCovers (T : Tx K mg) : Sp := fun vs H Q E => ∃ (a b : Addr) (us ws : List V) (ss rs : List Span), vs = [.ref a, .ref b] ∧ Two T H a b us ws ss rs ∧ (ref1 ss = 0 → ref1 rs = 0 → ∀ H', Chg T.tabs H H' → Tb T.tabs H' → Q .non H') ∧
  (∀ n, n ≠ 0 → (ref1 ss = n ∨ (ref1 ss = 0 ∧ ref1 rs = n)) → ∀ H', Chg T.tabs H H' → Tb T.tabs H' → E (.ref (T.refC n)) none H')
theorem ok_check_covers (T : Tx K mg) (B : Tbs T base) : FnOk P w K mg base (L2.CX P w) (7) T.f_check_covers T.fd_check_covers ["one", "other"] (spCheckCovers T) := by
  have G_check_cover : FnOk P w K mg base (L2.CX P w) _ _ _ _ _ := ok_check_cover T B
  refine T.F_check_covers.okX sc_check_covers (fun vs H Q E h => ?_) (fun cdv A outer s H vs Q E hr h => ?_)
  · obtain ⟨a, b, us, ws, ss, rs, rfl, _⟩ := h
    rfl
  · obtain ⟨a, b, us, ws, ss, rs, rfl, ⟨ha, hS, hb, hR, tb⟩, q, e⟩ := h
    refine ⟨_, (pss_cons (ps_expr (pe_call G_check_cover (hr.mono (by decide)) (by rfl) T.g_check_cover T.F_check_cover.kp T.b_check_cover .nil (passes_call (takes_of rfl rfl rfl rfl) (fun _ _ _ _ h => h)) (pa_cons (pv 0) pa_nil)))
      (pss_one (ps_expr (pe_call G_check_cover (hr.mono (by decide)) (by rfl) T.g_check_cover T.F_check_cover.kp T.b_check_cover .nil (passes_call (takes_of rfl rfl rfl rfl) (fun _ _ _ _ h => h)) (pa_cons (pv 1) pa_nil))))), ?_⟩
    have bT := tb.out hb (fun ps z => by cases z)
    refine ⟨_, rfl, a, us, ss, rfl, ha, hS, tb, fun s1 s2 H1 c1 tb1 => ?_, fun s1 => e 1 (by decide) (.inl (ref1_span s1)) H (Chg.refl _ _) tb, fun s1 s2 H1 c1 tb1 => e 2 (by decide) (.inl (ref1_cov s1 s2)) H1 c1 tb1⟩
    have z := ref1_ok s1 s2
    refine ⟨_, rfl, b, ws, rs, rfl, c1 _ _ bT hb, hR.chg c1 tb.lsts, tb1, fun r1 r2 H2 c2 tb2 => q z (ref1_ok r1 r2) H2 (c1.trans c2) tb2, fun r1 => e 1 (by decide) (.inr ⟨z, ref1_span r1⟩) H1 c1 tb1, fun r1 r2 H2 c2 tb2 => e 2 (by decide) (.inr ⟨z, ref1_cov r1 r2⟩) H2 (c1.trans c2) tb2⟩
/-! common -/
def spCommon : Sp := fun vs H Q _ => ∃ (a b : Addr) (us ws : List V) (ss rs : List Span), vs = [.ref a, .ref b] ∧ H a = some (.lst us) ∧ Sps H us ss ∧ H b = some (.lst ws) ∧ Sps H ws rs ∧ Can ss ∧ Can rs ∧ ss.length ≤ 10000 ∧ rs.length ≤ 10000 ∧
  ∀ (H' : Hp) (p : Addr) (xs : List V) (c : List Span), Same H H' → H p = none → H' p = some (.lst xs) → Sps H' xs c → Can c → (∀ x, Mem c x ↔ Mem ss x ∧ Mem rs x) → c.length ≤ ss.length + rs.length → Q (.ref p) H'
theorem drop_at {α : Type} {l : List α} {i : Nat} {x : α} (h : l[i]? = some x) : l.drop i = x :: l.drop (i + 1) := by
  obtain ⟨h1, h2⟩ := List.getElem?_eq_some_iff.mp h
  rw [List.drop_eq_getElem_cons h1, h2]
theorem ok_common (T : Tx K mg) : FnOk P w K mg base CX0 (1) T.f_common T.fd_common ["one", "other"] spCommon := by
  refine T.F_common.ok sc_common (fun vs H Q E h => ?_) (fun cdv A outer s H vs Q E hr h => ?_)
  · obtain ⟨a, b, us, ws, ss, rs, rfl, _⟩ := h
    rfl
  · obtain ⟨a, b, us, ws, ss, rs, rfl, ha, hS, hb, hR, canS, canR, ls, lr, q⟩ := h
    refine ⟨_, (pss_cons (ps_set (i := 2) sc_common.nd rfl (Or.inl rfl) (pe_lst pa_nil))
      (pss_cons (ps_set (i := 3) sc_common.nd rfl (Or.inl rfl) pe_int)
      (pss_cons (ps_set (i := 4) sc_common.nd rfl (Or.inl rfl) pe_int)
      (pss_cons (ps_while PassesOwn.never (PW.pt (pw_and (pt_cmpR op_lt (pv 3) (pe_callB call_len_seq (by rfl) T.m_len PySem.boot_len (pa_cons (pv 0) pa_nil)) (nomark _)) (pw_and1 (pt_cmpR op_lt (pv 4) (pe_callB call_len_seq (by rfl) T.m_len PySem.boot_len (pa_cons (pv 1) pa_nil)) (nomark _)))))
        (pss_cons (ps_set (i := 5) sc_common.nd rfl (Or.inl rfl) (pe_callB (call_max2 rfl) (by rfl) T.m_max (by decide +kernel) (pa_cons (pe_ix ix_tup (pe_ix ix_list (pv 0) (pv 3) (fun _ _ => rfl)) pe_int (fun _ _ => rfl)) (pa_cons (pe_ix ix_tup (pe_ix ix_list (pv 1) (pv 4) (fun _ _ => rfl)) pe_int (fun _ _ => rfl)) pa_nil))))
      (pss_cons (ps_set (i := 6) sc_common.nd rfl (Or.inl rfl) (pe_callB (call_min2 rfl) (by rfl) T.m_min (by decide +kernel) (pa_cons (pe_ix ix_tup (pe_ix ix_list (pv 0) (pv 3) (fun _ _ => rfl)) pe_int (fun _ _ => rfl)) (pa_cons (pe_ix ix_tup (pe_ix ix_list (pv 1) (pv 4) (fun _ _ => rfl)) pe_int (fun _ _ => rfl)) pa_nil))))
      (pss_cons (ps_if (pt_cmpR op_lt (pv 5) (pv 6) (nomark _)) (pss_one (ps_expr (pe_bm PySem.F.plainAttrs_list PySem.F.slot_list_append PySem.F.type_list_append mt_append (pv 2) (pa_cons (pe_tup (pa_cons (pv 5) (pa_cons (pv 6) pa_nil))) pa_nil)))) pss_nil)
      (pss_one (ps_if (pt_cmpR op_lt (pe_ix ix_tup (pe_ix ix_list (pv 0) (pv 3) (fun _ _ => rfl)) pe_int (fun _ _ => rfl)) (pe_ix ix_tup (pe_ix ix_list (pv 1) (pv 4) (fun _ _ => rfl)) pe_int (fun _ _ => rfl)) (nomark _)) (pss_one (ps_aug (i := 3) sc_common.nd rfl (Or.inl rfl) pe_int ip_add)) (pss_one (ps_aug (i := 4) sc_common.nd rfl (Or.inl rfl) pe_int ip_add))))))))
      (pss_one (ps_ret (pv 2))))))), ?_⟩
    have l1 := hS.len
    have l2 := hR.len
    refine ⟨Nat.zero_le _, fun f nf => ?_⟩
    obtain ⟨gf, sf⟩ := upd_at (o := .lst []) nf
    have hf0 : H f = none := nf
    refine ⟨fun m σ H' => ∃ (i j : Nat) (xs : List V) (acc : List Span) (y5 y6 : Option V), σ = [some (.ref a), some (.ref b), some (.ref f), some (.int (i : Int)), some (.int (j : Int)), y5, y6] ∧ i ≤ ss.length ∧ j ≤ rs.length ∧ Same H H' ∧ H' f = some (.lst xs) ∧ Sps H' xs acc ∧ Can acc ∧
      (∀ x, (Mem ss x ∧ Mem rs x) ↔ (Mem acc x ∨ (Mem (ss.drop i) x ∧ Mem (rs.drop j) x))) ∧ (∀ s ∈ acc, ∀ t ∈ ss.drop i, ∀ u ∈ rs.drop j, s.2 < t.1 ∨ s.2 < u.1) ∧ acc.length ≤ i + j ∧ m = (ss.length - i) + (rs.length - j),
      ⟨_, 0, 0, [], [], none, none, rfl, Nat.zero_le _, Nat.zero_le _, sf, gf, .nil, can_nil, fun x => ⟨fun h => .inr h, fun h => h.elim (fun z => absurd z (mem_nil x)) (fun z => z)⟩, (fun s hs => nomatch hs), Nat.le_refl _, rfl⟩, ?_⟩
    rintro m σ H' ⟨i, j, xs, acc, y5, y6, rfl, hi, hj, sm, hf, hA, can, mm, gap, al, rfl⟩
    have ha' := sm _ _ ha
    have hb' := sm _ _ hb
    refine ⟨_, rfl, _, rfl, a, _, rfl, .inl (SqL.of ha'), _, _, rfl, rfl, _, rfl, ?_⟩
    have done' : ss.drop i = [] ∨ rs.drop j = [] → ∀ (h : True), ((tRet (tVar 2)) { nx := fun _ H' => Q .non H', rt := Q } [some (.ref a), some (.ref b), some (.ref f), some (.int (i : Int)), some (.int (j : Int)), y5, y6] H') := fun hd _ => by
      refine ⟨_, rfl, q H' f xs acc sm hf0 hf hA can (fun x => ?_) (by omega)⟩
      rw [mm]
      constructor
      · exact .inl
      · rintro (h | ⟨h1, h2⟩)
        · exact h
        · rcases hd with e | e
          · rw [e] at h1
            exact absurd h1 (mem_nil x)
          · rw [e] at h2
            exact absurd h2 (mem_nil x)
    by_cases hi2 : (i : Int) < ((us.length : Nat) : Int)
    · rw [decide_eq_true hi2]
      refine iteT ⟨_, rfl, _, rfl, b, _, rfl, .inl (SqL.of hb'), _, _, rfl, rfl, _, rfl, ?_⟩
      by_cases hj2 : (j : Int) < ((ws.length : Nat) : Int)
      · rw [decide_eq_true hj2]
        have iu : i < us.length := by omega
        have jw : j < ws.length := by omega
        obtain ⟨s, es, hs⟩ := (hS.same sm).get (List.getElem?_eq_getElem iu)
        obtain ⟨r, er, hr'⟩ := (hR.same sm).get (List.getElem?_eq_getElem jw)
        have ds := drop_at es
        have dr := drop_at er
        have cs : Can (s :: ss.drop (i + 1)) := by
          rw [← ds]
          exact can_drop canS i
        have cr : Can (r :: rs.drop (j + 1)) := by
          rw [← dr]
          exact can_drop canR j
        have sp := cs.2 s List.mem_cons_self
        have rp := cr.2 r List.mem_cons_self
        have gu : us[i]? = some us[i] := List.getElem?_eq_getElem iu
        have gw : ws[j]? = some ws[j] := List.getElem?_eq_getElem jw
        obtain ⟨t1, e1, g1⟩ := hs
        obtain ⟨t2, e2, g2⟩ := hr'
        rw [e1] at gu
        rw [e2] at gw
        refine iteT ⟨fun σ' H2 => ∃ (i2 j2 : Nat) (xs : List V) (acc : List Span) (y5 y6 : Option V), σ' = [some (.ref a), some (.ref b), some (.ref f), some (.int (i2 : Int)), some (.int (j2 : Int)), y5, y6] ∧ i2 ≤ ss.length ∧ j2 ≤ rs.length ∧ Same H H2 ∧ H2 f = some (.lst xs) ∧ Sps H2 xs acc ∧ Can acc ∧
          (∀ x, (Mem ss x ∧ Mem rs x) ↔ (Mem acc x ∨ (Mem (ss.drop i2) x ∧ Mem (rs.drop j2) x))) ∧ (∀ s ∈ acc, ∀ t ∈ ss.drop i2, ∀ u ∈ rs.drop j2, s.2 < t.1 ∨ s.2 < u.1) ∧ acc.length ≤ i2 + j2 ∧ i2 + j2 = i + j + 1, fun σ' H2 hN => ?_, ?_⟩
        · obtain ⟨i2, j2, xs2, acc2, z5, z6, h1, h2, h3, h4, h5, h6, h7, h8, h9, h10, h11⟩ := hN
          exact ⟨(ss.length - i2) + (rs.length - j2), by omega, i2, j2, xs2, acc2, z5, z6, h1, h2, h3, h4, h5, h6, h7, h8, h9, h10, rfl⟩
        · refine ⟨_, rfl, _, rfl, a, _, _, _, rfl, rfl, SqL.of ha', atI_nat gu, t1, _, _, _, rfl, rfl, SqT.of g1, atI_nat (j := 0) rfl, _, rfl, _, rfl, b, _, _, _, rfl, rfl, SqL.of hb', atI_nat gw, t2, _, _, _, rfl, rfl, SqT.of g2, atI_nat (j := 0) rfl, _, _, rfl, ?_⟩
          refine ⟨_, rfl, _, rfl, a, _, _, _, rfl, rfl, SqL.of ha', atI_nat gu, t1, _, _, _, rfl, rfl, SqT.of g1, atI_nat (j := 1) rfl, _, rfl, _, rfl, b, _, _, _, rfl, rfl, SqL.of hb', atI_nat gw, t2, _, _, _, rfl, rfl, SqT.of g2, atI_nat (j := 1) rfl, _, _, rfl, ?_⟩
          generalize hlo : (if r.1 > s.1 then r.1 else s.1) = lo
          generalize hhi : (if r.2 < s.2 then r.2 else s.2) = hi'
          have lo1 : s.1 ≤ lo ∧ r.1 ≤ lo ∧ (lo = s.1 ∨ lo = r.1) := by
            split at hlo <;> omega
          have hi1 : hi' ≤ s.2 ∧ hi' ≤ r.2 ∧ (hi' = s.2 ∨ hi' = r.2) ∧ (s.2 < r.2 → hi' = s.2) ∧ (¬ s.2 < r.2 → hi' = r.2) := by
            split at hhi <;> omega
          -- the last test, behind what was found
          have last : ∀ (H2 : Hp) (xs2 : List V) (acc2 : List Span), Same H' H2 ∨ (∃ H3, Same H' H3 ∧ H2 = upd H3 f (.lst xs2)) → Same H H2 → H2 f = some (.lst xs2) → Sps H2 xs2 acc2 → Can acc2 → (∀ x, Mem acc2 x ↔ Mem acc x ∨ (lo ≤ x ∧ x < hi')) → acc2.length ≤ acc.length + 1 → (∀ s0 ∈ acc2, s0 ∈ acc ∨ s0.2 = hi') →
              H2 a = some (.lst us) → H2 b = some (.lst ws) → H2 t1 = some (.tup [.int s.1, .int s.2]) → H2 t2 = some (.tup [.int r.1, .int r.2]) →
              ((tIfS (tTest (tOp (rI0 fun i j => .bl (decide (i < j))) (tOp (rIxT K) (tOp (rIxL K) (tVar 0) (tVar 3)) (tC (.int 1))) (tOp (rIxT K) (tOp (rIxL K) (tVar 1) (tVar 4)) (tC (.int 1))))) (tAug 3 (tC (.int 1)) rAdd) (tAug 4 (tC (.int 1)) rAdd))
                { nx := fun σ' H2 => ∃ (i2 j2 : Nat) (xs : List V) (acc : List Span) (y5 y6 : Option V), σ' = [some (.ref a), some (.ref b), some (.ref f), some (.int (i2 : Int)), some (.int (j2 : Int)), y5, y6] ∧ i2 ≤ ss.length ∧ j2 ≤ rs.length ∧ Same H H2 ∧ H2 f = some (.lst xs) ∧ Sps H2 xs acc ∧ Can acc ∧
                  (∀ x, (Mem ss x ∧ Mem rs x) ↔ (Mem acc x ∨ (Mem (ss.drop i2) x ∧ Mem (rs.drop j2) x))) ∧ (∀ s ∈ acc, ∀ t ∈ ss.drop i2, ∀ u ∈ rs.drop j2, s.2 < t.1 ∨ s.2 < u.1) ∧ acc.length ≤ i2 + j2 ∧ i2 + j2 = i + j + 1, rt := Q } [some (.ref a), some (.ref b), some (.ref f), some (.int (i : Int)), some (.int (j : Int)), some (.int lo), some (.int hi')] H2) := fun H2 xs2 acc2 _ sm2 hf2 hA2 can2 mm2 al2 new2 ha2 hb2 g12 g22 => by
            refine ⟨_, rfl, _, rfl, a, _, _, _, rfl, rfl, SqL.of ha2, atI_nat gu, t1, _, _, _, rfl, rfl, SqT.of g12, atI_nat (j := 1) rfl, _, rfl, _, rfl, b, _, _, _, rfl, rfl, SqL.of hb2, atI_nat gw, t2, _, _, _, rfl, rfl, SqT.of g22, atI_nat (j := 1) rfl, _, _, rfl, rfl, _, rfl, ?_⟩
            by_cases lt : s.2 < r.2
            · rw [decide_eq_true lt]
              have hh := hi1.2.2.2.1 lt
              refine iteT ⟨_, rfl, _, _, rfl, rfl, i + 1, j, xs2, acc2, _, _, rfl, by omega, hj, sm2, hf2, hA2, can2, fun x => ?_, fun s0 h0 t ht u hu => ?_, by omega, by omega⟩
              · rw [mm x, ds, dr, mm2 x, mem_cons]
                constructor
                · rintro (h | ⟨h1, h2⟩)
                  · exact .inl (.inl h)
                  · rcases h1 with h1 | h1
                    · rcases mem_cons.mp h2 with h2 | h2
                      · exact .inl (.inr ⟨by omega, by omega⟩)
                      · have := can_head cr h2
                        omega
                    · exact .inr ⟨h1, h2⟩
                · rintro ((h | h) | ⟨h1, h2⟩)
                  · exact .inl h
                  · exact .inr ⟨.inl ⟨by omega, by omega⟩, mem_cons.mpr (.inl ⟨by omega, by omega⟩)⟩
                  · exact .inr ⟨.inr h1, h2⟩
              · rcases new2 s0 h0 with h | h
                · exact gap s0 h t (by rw [ds]; exact List.mem_cons_of_mem _ ht) u hu
                · have := (List.pairwise_cons.mp cs.1).1 t ht
                  exact .inl (by omega)
            · rw [decide_eq_false lt]
              have hh := hi1.2.2.2.2 lt
              refine iteF ⟨_, rfl, _, _, rfl, rfl, i, j + 1, xs2, acc2, _, _, rfl, hi, by omega, sm2, hf2, hA2, can2, fun x => ?_, fun s0 h0 t ht u hu => ?_, by omega, by omega⟩
              · rw [mm x, ds, dr, mm2 x, mem_cons (s := r)]
                constructor
                · rintro (h | ⟨h1, h2⟩)
                  · exact .inl (.inl h)
                  · rcases h2 with h2 | h2
                    · rcases mem_cons.mp h1 with h1 | h1
                      · exact .inl (.inr ⟨by omega, by omega⟩)
                      · have := can_head cs h1
                        omega
                    · exact .inr ⟨h1, h2⟩
                · rintro ((h | h) | ⟨h1, h2⟩)
                  · exact .inl h
                  · exact .inr ⟨mem_cons.mpr (.inl ⟨by omega, by omega⟩), .inl ⟨by omega, by omega⟩⟩
                  · exact .inr ⟨h1, .inr h2⟩
              · rcases new2 s0 h0 with h | h
                · exact gap s0 h t ht u (by rw [dr]; exact List.mem_cons_of_mem _ hu)
                · have := (List.pairwise_cons.mp cr.1).1 u hu
                  exact .inr (by omega)
          refine ⟨_, rfl, _, rfl, _, _, rfl, rfl, _, rfl, ?_⟩
          by_cases lt : lo < hi'
          · rw [decide_eq_true lt]
            refine iteT ⟨_, rfl, .inl ⟨rfl, _, SqL.of hf⟩, _, rfl, _, rfl, (by show 2 ≤ sizeLine; decide), fun t nt => ?_⟩
            obtain ⟨gt, st⟩ := upd_at (o := .tup [.int lo, .int hi']) nt
            have alen := hA.len
            have cf : Chg [f] (upd H' t (.tup [.int lo, .int hi'])) (upd (upd H' t (.tup [.int lo, .int hi'])) f (.lst (xs ++ [.ref t]))) := Chg.upd List.mem_cons_self
            have lf : Lsts [f] (upd H' t (.tup [.int lo, .int hi'])) := Lsts.of1 (st _ _ hf)
            have naf : a ≠ f := ne_of_none ha hf0
            have nbf : b ≠ f := ne_of_none hb hf0
            have nt1 : t1 ≠ f := fun z => by
              rw [z, hf] at g1
              cases g1
            have nt2 : t2 ≠ f := fun z => by
              rw [z, hf] at g2
              cases g2
            refine ⟨f, xs, .ref t, rfl, rfl, st _ _ hf, small_lt (by omega), ?_⟩
            refine last _ (xs ++ [.ref t]) (acc ++ [(lo, hi')]) (.inr ⟨_, st, rfl⟩) (same_more (sm.trans st) hf0) upd_same (((hA.same st).app (.one ⟨t, rfl, gt⟩)).chg cf lf) (can_snoc can lt fun s0 h0 => ?_) (fun x => ?_) (by rw [List.length_append]; exact Nat.le_refl _) (fun s0 h0 => ?_) (cf _ _ (nmem1 naf) (st _ _ ha')) (cf _ _ (nmem1 nbf) (st _ _ hb')) (cf _ _ (nmem1 nt1) (st _ _ g1)) (cf _ _ (nmem1 nt2) (st _ _ g2))
            · have := gap s0 h0 s (by rw [ds]; exact List.mem_cons_self) r (by rw [dr]; exact List.mem_cons_self)
              show s0.2 < lo
              omega
            · rw [mem_app, mem_one]
            · rcases List.mem_append.mp h0 with h | h
              · exact .inl h
              · rw [List.mem_singleton.mp h]
                exact .inr rfl
          · rw [decide_eq_false lt]
            refine iteF (last H' xs acc (.inl (Same.refl _)) sm hf hA can (fun x => ?_) (Nat.le_succ _) (fun s0 h0 => .inl h0) ha' hb' g1 g2)
            constructor
            · exact .inl
            · rintro (h | h)
              · exact h
              · omega
      · rw [decide_eq_false hj2]
        exact iteF (done' (.inr (List.drop_eq_nil_iff.mpr (by omega))) trivial)
    · rw [decide_eq_false hi2]
      exact iteF (iteF (done' (.inl (List.drop_eq_nil_iff.mpr (by omega))) trivial))
/-! gaps -/
def spGaps : Sp := fun vs H Q _ => ∃ (l : Addr) (us : List V) (ss : List Span), vs = [.ref l] ∧ H l = some (.lst us) ∧ Sps H us ss ∧ Can ss ∧ (∀ s ∈ ss, isSpan s = true) ∧ ss.length ≤ 10000 ∧
  ∀ (H' : Hp) (p : Addr) (xs : List V) (c : List Span), Same H H' → H p = none → H' p = some (.lst xs) → Sps H' xs c → Can c → (∀ x, Mem c x ↔ -999999999999 ≤ x ∧ x < 999999999999 ∧ ¬ Mem ss x) → c.length ≤ ss.length + 1 → Q (.ref p) H'
theorem ok_gaps_of (T : Tx K mg) : FnOk P w K mg base CX0 (1) T.f_gaps_of T.fd_gaps_of ["cover"] spGaps := by
  refine T.F_gaps_of.ok sc_gaps_of (fun vs H Q E h => ?_) (fun cdv A outer s H vs Q E hr h => ?_)
  · obtain ⟨l, us, ss, rfl, _⟩ := h
    rfl
  · obtain ⟨l, us, ss, rfl, hl, hS, canS, ok, ls, q⟩ := h
    refine ⟨_, (pss_cons (ps_set (i := 1) sc_gaps_of.nd rfl (Or.inl rfl) (pe_lst pa_nil))
      (pss_cons (ps_set (i := 2) sc_gaps_of.nd rfl (Or.inl rfl) (pe_glob (v := .int (-999999999999)) (by rfl) T.c_LEAST_PLACE ⟨_, rfl⟩))
      (pss_cons (ps_for PassesOwn.never (by rfl) (pi_list (pv 0)) (pg_tup rfl (pgs_cons (pg_name (i := 3) sc_gaps_of.nd rfl (Or.inl rfl)) (pgs_cons (pg_name (i := 4) sc_gaps_of.nd rfl (Or.inl rfl)) pgs_nil)))
        (pss_cons (ps_if (pt_cmpR op_lt (pv 2) (pv 3) (nomark _)) (pss_one (ps_expr (pe_bm PySem.F.plainAttrs_list PySem.F.slot_list_append PySem.F.type_list_append mt_append (pv 1) (pa_cons (pe_tup (pa_cons (pv 2) (pa_cons (pv 3) pa_nil))) pa_nil)))) pss_nil)
      (pss_one (ps_set (i := 2) sc_gaps_of.nd rfl (Or.inl rfl) (pv 4)))))
      (pss_cons (ps_if (pt_cmpR op_lt (pv 2) (pe_glob (v := .int (999999999999)) (by rfl) T.c_GREATEST_PLACE ⟨_, rfl⟩) (nomark _)) (pss_one (ps_expr (pe_bm PySem.F.plainAttrs_list PySem.F.slot_list_append PySem.F.type_list_append mt_append (pv 1) (pa_cons (pe_tup (pa_cons (pv 2) (pa_cons (pe_glob (v := .int (999999999999)) (by rfl) T.c_GREATEST_PLACE ⟨_, rfl⟩) pa_nil))) pa_nil)))) pss_nil)
      (pss_one (ps_ret (pv 1))))))), ?_⟩
    have hul := hS.len
    refine ⟨Nat.zero_le _, fun f nf => ?_⟩
    obtain ⟨gf, sf⟩ := upd_at (o := .lst []) nf
    have hf0 : H f = none := nf
    refine ⟨_, rfl, l, rfl, ⟨_, SqL.of (sf _ _ hl)⟩, ?_⟩
    refine for_list (K := K) (a := l) (xs := us) (fun i σ H' => ∃ (low : Int) (xs : List V) (acc : List Span) (y3 y4 : Option V), σ = [some (.ref l), some (.ref f), some (.int low), y3, y4] ∧ Same H H' ∧ H' f = some (.lst xs) ∧ Sps H' xs acc ∧ Can acc ∧ acc.length ≤ i ∧ (∀ t ∈ ss.drop i, low ≤ t.1) ∧ (∀ s ∈ acc, s.2 < low) ∧ (∀ s ∈ ss.take i, s.2 ≤ low) ∧ (∀ x, Mem acc x ↔ -999999999999 ≤ x ∧ x < low ∧ ¬ Mem ss x) ∧ -999999999999 ≤ low ∧ low ≤ 999999999999)
      ⟨-999999999999, [], [], none, none, rfl, sf, gf, .nil, can_nil, Nat.le_refl _, (fun t ht => ((isSpan_iff t).mp (ok t ht)).1), (fun s hs => nomatch hs), (fun s hs => nomatch hs), (fun x => ⟨fun h => absurd h (mem_nil x), fun h => by omega⟩), Int.le_refl _, by decide⟩ (fun i σ H' _ ⟨_, _, _, _, _, _, sm, _⟩ => SqL.of (sm _ _ hl)) ?_ ?_
    · rintro i y σ H' hi ⟨low, xs, acc, y3, y4, rfl, sm, hf, hA, can, al, fore, ends, back, mm, b1, b2⟩
      obtain ⟨s, es, hs⟩ := (hS.same sm).get hi
      obtain ⟨t, rfl, ht⟩ := hs
      have ds := drop_at es
      have il : i < us.length := (List.getElem?_eq_some_iff.mp hi).1
      have sm' : s ∈ ss := List.mem_of_getElem? es
      have bs := (isSpan_iff s).mp (ok s sm')
      have ls1 := fore s (by rw [ds]; exact List.mem_cons_self)
      have cs : Can (s :: ss.drop (i + 1)) := by
        rw [← ds]
        exact can_drop canS i
      have tk : ss.take (i + 1) = ss.take i ++ [s] := by
        rw [List.take_add_one, es]
        rfl
      -- what lies below s
      have split : ∀ x, Mem ss x ↔ Mem (ss.take i) x ∨ (s.1 ≤ x ∧ x < s.2) ∨ Mem (ss.drop (i + 1)) x := fun x => by
        have e : ss = ss.take i ++ (s :: ss.drop (i + 1)) := by
          rw [← ds]
          exact (List.take_append_drop i ss).symm
        have h := mem_app (a := ss.take i) (b := s :: ss.drop (i + 1)) (x := x)
        rw [← e, mem_cons] at h
        exact h
      have take_lt : ∀ x, Mem (ss.take i) x → x < low := fun x ⟨u, hu, _, u2⟩ => by
        have := back u hu
        omega
      refine ⟨t, _, rfl, SqT.of ht, rfl, _, _, rfl, _, _, rfl, rfl, ?_⟩
      have fin : ∀ (H2 : Hp) (xs2 : List V) (acc2 : List Span), Same H H2 → H2 f = some (.lst xs2) → Sps H2 xs2 acc2 → Can acc2 → acc2.length ≤ i + 1 → (∀ s0 ∈ acc2, s0.2 < s.2) → (∀ x, Mem acc2 x ↔ Mem acc x ∨ (low ≤ x ∧ x < s.1)) →
          ((tAsg (tVar 4) (gName 2)) { nx := fun σ' H3 => ∃ (low : Int) (xs : List V) (acc : List Span) (y3 y4 : Option V), σ' = [some (.ref l), some (.ref f), some (.int low), y3, y4] ∧ Same H H3 ∧ H3 f = some (.lst xs) ∧ Sps H3 xs acc ∧ Can acc ∧ acc.length ≤ i + 1 ∧ (∀ t ∈ ss.drop (i + 1), low ≤ t.1) ∧ (∀ s ∈ acc, s.2 < low) ∧ (∀ s ∈ ss.take (i + 1), s.2 ≤ low) ∧ (∀ x, Mem acc x ↔ -999999999999 ≤ x ∧ x < low ∧ ¬ Mem ss x) ∧ -999999999999 ≤ low ∧ low ≤ 999999999999, rt := Q } [some (.ref l), some (.ref f), some (.int low), some (.int s.1), some (.int s.2)] H2) := fun H2 xs2 acc2 sm2 hf2 hA2 can2 al2 en2 mm2 => by
        refine ⟨_, rfl, s.2, xs2, acc2, _, _, rfl, sm2, hf2, hA2, can2, al2, fun u hu => ?_, en2, fun u hu => ?_, fun x => ?_, by omega, bs.2.2⟩
        · have := (List.pairwise_cons.mp cs.1).1 u hu
          omega
        · rw [tk] at hu
          rcases List.mem_append.mp hu with h | h
          · have := back u h
            omega
          · rw [List.mem_singleton.mp h]
            exact Int.le_refl _
        · rw [mm2 x, mm x]
          constructor
          · rintro (h | h)
            · exact ⟨h.1, by omega, h.2.2⟩
            · refine ⟨by omega, by omega, fun z => ?_⟩
              rcases (split x).mp z with h1 | h1 | h1
              · have := take_lt x h1
                omega
              · omega
              · have := can_head cs h1
                omega
          · rintro ⟨h1, h2, h3⟩
            by_cases hx : x < low
            · exact .inl ⟨h1, hx, h3⟩
            · refine .inr ⟨by omega, ?_⟩
              apply Int.not_le.mp
              intro z
              exact h3 ((split x).mpr (.inr (.inl ⟨z, h2⟩)))
      refine ⟨_, rfl, _, rfl, _, _, rfl, rfl, _, rfl, ?_⟩
      by_cases lt : low < s.1
      · rw [decide_eq_true lt]
        refine iteT ⟨_, rfl, .inl ⟨rfl, _, SqL.of hf⟩, _, rfl, _, rfl, (by show 2 ≤ sizeLine; decide), fun t2 nt => ?_⟩
        obtain ⟨gt, st⟩ := upd_at (o := .tup [.int low, .int s.1]) nt
        have alen := hA.len
        have cf : Chg [f] (upd H' t2 (.tup [.int low, .int s.1])) (upd (upd H' t2 (.tup [.int low, .int s.1])) f (.lst (xs ++ [.ref t2]))) := Chg.upd List.mem_cons_self
        have lf : Lsts [f] (upd H' t2 (.tup [.int low, .int s.1])) := Lsts.of1 (st _ _ hf)
        refine ⟨f, xs, .ref t2, rfl, rfl, st _ _ hf, small_lt (by omega), ?_⟩
        refine fin _ (xs ++ [.ref t2]) (acc ++ [(low, s.1)]) (same_more (sm.trans st) hf0) upd_same (((hA.same st).app (.one ⟨t2, rfl, gt⟩)).chg cf lf) (can_snoc can lt ends) (by rw [List.length_append]; exact Nat.succ_le_succ al) (fun s0 h0 => ?_) (fun x => ?_)
        · rcases List.mem_append.mp h0 with h | h
          · have := ends s0 h
            omega
          · rw [List.mem_singleton.mp h]
            exact bs.2.1
        · rw [mem_app, mem_one]
      · rw [decide_eq_false lt]
        refine iteF (fin H' xs acc sm hf hA can (by omega) (fun s0 h0 => by have := ends s0 h0; omega) (fun x => ?_))
        constructor
        · exact .inl
        · rintro (h | h)
          · exact h
          · omega
    · rintro σ H' ⟨low, xs, acc, y3, y4, rfl, sm, hf, hA, can, al, fore, ends, back, mm, b1, b2⟩
      rw [hul] at al
      rw [hul, List.take_length] at back
      have none_up : ∀ x, low ≤ x → ¬ Mem ss x := fun x hx ⟨u, hu, _, u2⟩ => by
        have := back u hu
        omega
      refine ⟨_, rfl, _, _, rfl, rfl, _, rfl, ?_⟩
      by_cases lt : low < 999999999999
      · rw [decide_eq_true lt]
        refine iteT ⟨_, rfl, .inl ⟨rfl, _, SqL.of hf⟩, _, rfl, (by show 2 ≤ sizeLine; decide), fun t2 nt => ?_⟩
        obtain ⟨gt, st⟩ := upd_at (o := .tup [.int low, .int 999999999999]) nt
        have alen := hA.len
        have cf : Chg [f] (upd H' t2 (.tup [.int low, .int 999999999999])) (upd (upd H' t2 (.tup [.int low, .int 999999999999])) f (.lst (xs ++ [.ref t2]))) := Chg.upd List.mem_cons_self
        have lf : Lsts [f] (upd H' t2 (.tup [.int low, .int 999999999999])) := Lsts.of1 (st _ _ hf)
        refine ⟨f, xs, .ref t2, rfl, rfl, st _ _ hf, small_lt (by omega), ?_⟩
        refine ⟨_, rfl, q _ f (xs ++ [.ref t2]) (acc ++ [(low, 999999999999)]) (same_more (sm.trans st) hf0) hf0 upd_same (((hA.same st).app (.one ⟨t2, rfl, gt⟩)).chg cf lf) (can_snoc can lt ends) (fun x => ?_) (by rw [List.length_append]; exact Nat.succ_le_succ al)⟩
        rw [mem_app, mem_one, mm x]
        constructor
        · rintro (h | h)
          · exact ⟨h.1, by omega, h.2.2⟩
          · exact ⟨by have := h.1; omega, h.2, none_up x h.1⟩
        · rintro ⟨h1, h2, h3⟩
          by_cases hx : x < low
          · exact .inl ⟨h1, hx, h3⟩
          · exact .inr ⟨by omega, h2⟩
      · rw [decide_eq_false lt]
        refine iteF ⟨_, rfl, q H' f xs acc sm hf0 hf hA can (fun x => ?_) (by omega)⟩
        rw [mm x]
        constructor
        · rintro ⟨h1, h2, h3⟩
          exact ⟨h1, by omega, h3⟩
        · rintro ⟨h1, h2, h3⟩
          exact ⟨h1, by omega, h3⟩
/-! both, either, less -/
def spTwoC (T : Tx K mg) (g : List Span → List Span → Int → Prop) : Sp := fun vs H Q E => ∃ (a b : Addr) (us ws : List V) (ss rs : List Span), vs = [.ref a, .ref b] ∧ Two T H a b us ws ss rs ∧
  (ref1 ss = 0 → ref1 rs = 0 → ∀ (H' : Hp) (p : Addr) (xs : List V) (c : List Span), Chg T.tabs H H' → Tb T.tabs H' → H p = none → H' p = some (.lst xs) → Sps H' xs c → Can c → (∀ s ∈ c, isSpan s = true) → (∀ x, Mem c x ↔ g ss rs x) → c.length ≤ ss.length + rs.length + 1 → Q (.ref p) H') ∧
  (∀ n, n ≠ 0 → (ref1 ss = n ∨ (ref1 ss = 0 ∧ ref1 rs = n)) → ∀ H', Chg T.tabs H H' → Tb T.tabs H' → E (.ref (T.refC n)) none H')
def bothP (ss rs : List Span) (x : Int) : Prop := Mem ss x ∧ Mem rs x
def eitherP (ss rs : List Span) (x : Int) : Prop := Mem ss x ∨ Mem rs x
def lessP (ss rs : List Span) (x : Int) : Prop := Mem ss x ∧ ¬ Mem rs x
theorem ok_both (T : Tx K mg) (B : Tbs T base) : FnOk P w K mg base (L2.CX P w) (8) T.f_both T.fd_both ["one", "other"] (spTwoC T bothP) := by
  have G_check_covers : FnOk P w K mg base (L2.CX P w) _ _ _ _ _ := ok_check_covers T B
  have G_common : FnOk P w K mg base CX0 _ _ _ _ _ := ok_common T
  refine T.F_both.okX sc_both (fun vs H Q E h => ?_) (fun cdv A outer s H vs Q E hr h => ?_)
  · obtain ⟨a, b, us, ws, ss, rs, rfl, _⟩ := h
    rfl
  · obtain ⟨a, b, us, ws, ss, rs, rfl, two, q, e⟩ := h
    refine ⟨_, (pss_cons (ps_expr (pe_call G_check_covers (hr.mono (by decide)) (by rfl) T.g_check_covers T.F_check_covers.kp T.b_check_covers .nil (passes_call (takes_of rfl rfl rfl rfl) (fun _ _ _ _ h => h)) (pa_cons (pv 0) (pa_cons (pv 1) pa_nil))))
      (pss_one (ps_ret (pe_call G_common (hr.mono (by decide)) (by rfl) T.g_common T.F_common.kp T.b_common .nil pass0 (pa_cons (pv 0) (pa_cons (pv 1) pa_nil)))))), ?_⟩
    obtain ⟨ha, hS, hb, hR, tb⟩ := id two
    have aT := tb.out ha (fun ps z => by cases z)
    have bT := tb.out hb (fun ps z => by cases z)
    refine ⟨_, rfl, _, rfl, a, b, us, ws, ss, rs, rfl, two, fun r1 r2 H1 c1 tb1 => ?_, e⟩
    obtain ⟨s1, s2, canS, lS⟩ := ref1_can r1
    obtain ⟨_, _, canR, lR⟩ := ref1_can r2
    refine ⟨_, rfl, _, rfl, a, b, us, ws, ss, rs, rfl, c1 _ _ aT ha, hS.chg c1 tb.lsts, c1 _ _ bT hb, hR.chg c1 tb.lsts, canS, canR, by omega, by omega, fun H2 p xs c sm np hp hc can mem cl => ?_⟩
    refine q r1 r2 H2 p xs c (c1.trans (Chg.of_same sm)) (tb1.same sm) (c1.free (tb1.new np) np) hp hc can (can_spans can (fun x h => ((mem x).mp h).1) (List.all_eq_true.mp s1)) mem (by omega)
theorem ok_either (T : Tx K mg) (B : Tbs T base) : FnOk P w K mg base (L2.CX P w) (8) T.f_either T.fd_either ["one", "other"] (spTwoC T eitherP) := by
  have G_check_covers : FnOk P w K mg base (L2.CX P w) _ _ _ _ _ := ok_check_covers T B
  have G_joined : FnOk P w K mg base CX0 _ _ _ _ _ := ok_joined T
  refine T.F_either.okX sc_either (fun vs H Q E h => ?_) (fun cdv A outer s H vs Q E hr h => ?_)
  · obtain ⟨a, b, us, ws, ss, rs, rfl, _⟩ := h
    rfl
  · obtain ⟨a, b, us, ws, ss, rs, rfl, two, q, e⟩ := h
    refine ⟨_, (pss_cons (ps_expr (pe_call G_check_covers (hr.mono (by decide)) (by rfl) T.g_check_covers T.F_check_covers.kp T.b_check_covers .nil (passes_call (takes_of rfl rfl rfl rfl) (fun _ _ _ _ h => h)) (pa_cons (pv 0) (pa_cons (pv 1) pa_nil))))
      (pss_one (ps_ret (pe_call G_joined (hr.mono (by decide)) (by rfl) T.g_joined T.F_joined.kp T.b_joined .nil pass0 (pa_cons (pe_op op_cat (pv 0) (pv 1)) pa_nil))))), ?_⟩
    obtain ⟨ha, hS, hb, hR, tb⟩ := id two
    have aT := tb.out ha (fun ps z => by cases z)
    have bT := tb.out hb (fun ps z => by cases z)
    refine ⟨_, rfl, _, rfl, a, b, us, ws, ss, rs, rfl, two, fun r1 r2 H1 c1 tb1 => ?_, e⟩
    obtain ⟨s1, s2, canS, lS⟩ := ref1_can r1
    obtain ⟨s3, _, canR, lR⟩ := ref1_can r2
    have hS1 := hS.chg c1 tb.lsts
    have hR1 := hR.chg c1 tb.lsts
    have l1 := hS1.len
    have l2 := hR1.len
    refine ⟨_, rfl, _, rfl, a, b, us, ws, rfl, rfl, c1 _ _ aT ha, c1 _ _ bT hb, small_le (by omega), fun j nj => ?_⟩
    obtain ⟨gj, sj⟩ := upd_at (o := .lst (us ++ ws)) nj
    have al : (ss ++ rs).all isSpan = true := by
      rw [List.all_append, s1, s3]
      rfl
    refine ⟨j, us ++ ws, ss ++ rs, rfl, gj, (hS1.app hR1).same sj, all_pos al, by rw [List.length_append]; omega, fun H2 p xs c sm np hp hc can mem cl => ?_⟩
    have tb2 := tb1.same sj
    have nP := sj.free np
    refine q r1 r2 H2 p xs c (c1.trans (Chg.of_same (sj.trans sm))) (tb2.same sm) (c1.free (tb1.new nP) nP) hp hc can (can_spans can (fun x => (mem x).mp) (List.all_eq_true.mp al)) (fun x => (mem x).trans mem_app) ?_
    rw [List.length_append] at cl
    omega
theorem ok_less (T : Tx K mg) (B : Tbs T base) : FnOk P w K mg base (L2.CX P w) (8) T.f_less T.fd_less ["one", "other"] (spTwoC T lessP) := by
  have G_check_covers : FnOk P w K mg base (L2.CX P w) _ _ _ _ _ := ok_check_covers T B
  have G_common : FnOk P w K mg base CX0 _ _ _ _ _ := ok_common T
  have G_gaps_of : FnOk P w K mg base CX0 _ _ _ _ _ := ok_gaps_of T
  refine T.F_less.okX sc_less (fun vs H Q E h => ?_) (fun cdv A outer s H vs Q E hr h => ?_)
  · obtain ⟨a, b, us, ws, ss, rs, rfl, _⟩ := h
    rfl
  · obtain ⟨a, b, us, ws, ss, rs, rfl, two, q, e⟩ := h
    refine ⟨_, (pss_cons (ps_expr (pe_call G_check_covers (hr.mono (by decide)) (by rfl) T.g_check_covers T.F_check_covers.kp T.b_check_covers .nil (passes_call (takes_of rfl rfl rfl rfl) (fun _ _ _ _ h => h)) (pa_cons (pv 0) (pa_cons (pv 1) pa_nil))))
      (pss_one (ps_ret (pe_call G_common (hr.mono (by decide)) (by rfl) T.g_common T.F_common.kp T.b_common .nil pass0 (pa_cons (pv 0) (pa_cons (pe_call G_gaps_of (hr.mono (by decide)) (by rfl) T.g_gaps_of T.F_gaps_of.kp T.b_gaps_of .nil pass0 (pa_cons (pv 1) pa_nil)) pa_nil)))))), ?_⟩
    obtain ⟨ha, hS, hb, hR, tb⟩ := id two
    have aT := tb.out ha (fun ps z => by cases z)
    have bT := tb.out hb (fun ps z => by cases z)
    refine ⟨_, rfl, _, rfl, a, b, us, ws, ss, rs, rfl, two, fun r1 r2 H1 c1 tb1 => ?_, e⟩
    obtain ⟨s1, s2, canS, lS⟩ := ref1_can r1
    obtain ⟨s3, _, canR, lR⟩ := ref1_can r2
    refine ⟨_, rfl, _, rfl, b, ws, rs, rfl, c1 _ _ bT hb, hR.chg c1 tb.lsts, canR, List.all_eq_true.mp s3, by omega, fun H2 g gs gg sg ng hg hgg canG memG gl => ?_⟩
    refine ⟨a, g, us, gs, ss, gg, rfl, sg _ _ (c1 _ _ aT ha), (hS.chg c1 tb.lsts).same sg, hg, hgg, canS, canG, by omega, by omega, fun H3 p xs c sm np hp hc can mem cl => ?_⟩
    have tb2 := tb1.same sg
    have nP := sg.free np
    refine q r1 r2 H3 p xs c (c1.trans (Chg.of_same (sg.trans sm))) (tb2.same sm) (c1.free (tb1.new nP) nP) hp hc can (can_spans can (fun x h => ((mem x).mp h).1) (List.all_eq_true.mp s1)) (fun x => ?_) (by omega)
    rw [mem x, memG x]
    constructor
    · rintro ⟨h1, h2⟩
      exact ⟨h1, h2.2.2⟩
    · rintro ⟨h1, h2⟩
      obtain ⟨t, ht, t1, t2⟩ := id h1
      have bt := (isSpan_iff t).mp (List.all_eq_true.mp s1 t ht)
      exact ⟨h1, by omega, by omega, h2⟩
end
/-! ### exceptions as values -/
/-- what stands at a is an exception of the class cls -/
def ExP (cls : Value) (a : Addr) : HO := .ext fun h => ∃ (ob : Obj) (fv : Array Value), h.get? a = some ob ∧ Zc cls none ob ∧ ob.data = .fields fv
def IsEx (H : Hp) (cls : Value) (a : Addr) : Prop := ∃ φ : Heap → Prop, H a = some (.ext φ) ∧ ∀ h, φ h → ∃ (ob : Obj) (fv : Array Value), h.get? a = some ob ∧ Zc cls none ob ∧ ob.data = .fields fv
theorem isEx_P {H : Hp} {cls : Value} {a : Addr} (e : H a = some (ExP cls a)) : IsEx H cls a := ⟨_, e, fun _ q => q⟩
theorem isEx_O {H : Hp} {cls : Value} {a : Addr} (e : H a = some (ExO cls a)) : IsEx H cls a := ⟨_, e, fun _ q => by
  obtain ⟨ob, fv, h1, h2, h3, _⟩ := q
  exact ⟨ob, fv, h1, h2, h3⟩⟩
theorem IsEx.same {H H' : Hp} {cls : Value} {a : Addr} (x : IsEx H cls a) (e : Same H H') : IsEx H' cls a := by
  obtain ⟨φ, h1, h2⟩ := x
  exact ⟨φ, e _ _ h1, h2⟩
/-- isinstance(x, c), x an exception that is tracked -/
def rIsX (K : PySem.W.Frag) : List V → Hp → VK → Prop := fun xs H Q => ∃ (a D : Addr) (c : V) (u : Value) (b : Bool), xs = [.ref a, c] ∧ IsEx H (.ref D) a ∧ ExcC K D ∧ ClsV c u ∧ PySem.W.kitOne K (.ref D) u = some b ∧ Q (.bl b) H
theorem call_isX {X : Cx} : CallR X (.builtin "isinstance") (rIsX X.K) := by
  intro pins s σ H xs us Q I r hh
  obtain ⟨a, D, c, u, b, rfl, ⟨φ, hφ, ex⟩, C, kc, e, q⟩ := hh
  obtain ⟨u1, u2, rfl, r1, r2⟩ := vals2 r
  have e2 := kc.eq r2
  subst e2
  cases (show u1 = Value.ref a from r1)
  obtain ⟨p, _, _⟩ := (show ObjOk X.prog X.w H s.heap a (.ext φ) from I.hok a _ hφ)
  obtain ⟨⟨oc, od, oda, osl⟩, fv, h1, ⟨z1, z2⟩, h3⟩ := ex _ p
  dsimp only at z1 z2 h3
  subst z1 z2 h3
  have J : PySem.W.InstAt s.heap a ⟨.ref D, none, .fields fv, osl⟩ D none := ⟨h1, rfl, rfl, trivial⟩
  have kx := PySem.W.handS_kitx_exc (ox := ⟨.ref D, none, .fields fv, osl⟩) (x := a) C.hg C.hk C.hs C.hd C.ha C.hn C.ht C.hm
  exact PySem.W.kia_one kx I.kIn J e (fun z => nomatch z) fun tk => ⟨.bl b, H, I.tok tk, rfl, q⟩
/-- a tracked exception, or any other value -/
def rIsY (K : PySem.W.Frag) : List V → Hp → VK → Prop := fun xs H Q => rIsX K xs H Q ∨ rIsi K xs H Q
theorem call_isY {X : Cx} : CallR X (.builtin "isinstance") (rIsY X.K) := fun pins s σ H xs us Q I r hh => by
  rcases hh with hh | hh
  · exact call_isX pins s σ H xs us Q I r hh
  · exact call_isi pins s σ H xs us Q I r hh
/-- X(), an own exception class without own __init__, as a value -/
theorem pe_exc0 {X : Cx} {C : Addr} {bmB : List Value} {B newId initId : String} {x : Str} {p pos : Pos} (F : ExcBaseFacts B newId initId bmB) (q : PySem.W.excIn X.K C bmB newId = true) (gC : X.mg x = some (.ref C))
    (kC : PySem.W.keepIn X.K (.ref C) = true) (hg : Gl X x) (hdb : (x == ("__debug__" : Str)) = false := by decide) :
    PE X (.Call (.Name x p) [] [] pos) (fun _ H Q => ∀ a, H a = none → Q (.ref a) (upd H a (ExO (.ref C) a))) := by
  constructor
  intro pins s σ H Q I hh
  refine wpAny_Call_Name_kw (ld_glob I hg gC ?_ hdb)
  refine PySem.W.callWith_K0 I.kIn kC ?_
  rw [List.append_nil]
  obtain ⟨_, _, _, _, _, _, _, _, _, _, _, _, _, _, _, _, _, hC, hN, hni, tl⟩ := exc_obj I.kIn q
  refine wpAny_call_exc_subT F tl hC hN hni (fun h' a hm => ?_) (Nat.zero_le _)
  have hn : H a = none := I.hok.gone hm.new
  obtain ⟨t, ht, _, _⟩ := hm.there
  exact ⟨.ref a, _, I.laidN hm.keeps hm.new hn (exO_ok ht ⟨rfl, rfl⟩ rfl rfl rfl (by decide : 4 < 6)), rfl, hh a hn⟩
/-- an exception that stands pinned, younger than the entry, may be tracked -/
theorem inv_track {X : Cx} {pins : List (Addr × Obj)} {σ : L2.St} {H : Hp} {s : Shared} {a : Addr} {ob : Obj} {fv : Array Value} {cls : Value} (I : Inv X ((a, ob) :: pins) σ H s) (hz : Zc cls none ob) (hd : ob.data = .fields fv)
    (h0 : ∀ o, X.s_0.heap.get? a ≠ some o) (hp : ∀ p ∈ X.pn ++ pins, p.1 ≠ a) : Inv X pins σ (upd H a (ExP cls a)) s := by
  obtain ⟨g1, g2, g3, g4, g5⟩ := I.pin (a, ob) (List.mem_append_right _ List.mem_cons_self)
  have out : ∀ p ∈ X.pn ++ pins, p ∈ X.pn ++ (a, ob) :: pins := fun p m => by
    rcases List.mem_append.mp m with m | m
    · exact List.mem_append_left _ m
    · exact List.mem_append_right _ (List.mem_cons_of_mem _ m)
  refine { ok := I.ok, os := I.os, bare := I.bare, loc := I.loc, cell := I.cell, len := I.len, base := ?b, free := ?f, freeC := ?c, pin := ?p, hok := ?k }
  case b =>
    refine { keep := I.base.keep, slot := I.base.slot, there := I.base.there, free := fun b o e n x => ?_, tups := fun b xs e => ?_, frzs := fun b o u e => ?_, tbls := fun b ps e => ?_ }
    · have nb : b ≠ a := fun z => h0 o (by rw [← z]; exact e)
      rw [upd_ne nb]
      exact I.base.free b o e n x
    · have h1 := I.base.tups b xs e
      rw [upd_ne (ne_of_none h1 g2)]
      exact h1
    · have h1 := I.base.frzs b o u e
      rw [upd_ne (ne_of_none h1 g2)]
      exact h1
    · obtain ⟨m, h1⟩ := I.base.tbls b ps e
      exact ⟨m, by rw [upd_ne (ne_of_none h1 g2)]; exact h1⟩
  case f =>
    rw [upd_ne (Ne.symm g3)]
    exact I.free
  case c =>
    intro y c e
    have nc : c ≠ a := fun z => by
      obtain ⟨v, o, h1, h2⟩ := I.cell y c e
      rw [z, g1] at h1
      cases h1
      exact g5 _ h2
    rw [upd_ne nc]
    exact I.freeC y c e
  case p =>
    intro p m
    obtain ⟨k1, k2, k3, k4, k5⟩ := I.pin p (out p m)
    exact ⟨k1, by rw [upd_ne (hp p m)]; exact k2, k3, k4, k5⟩
  case k =>
    refine HOk.laidN I.hok (fun _ _ z => z) g2 ⟨⟨ob, fv, g1, hz, hd⟩, ⟨ob, g1⟩, fun h1 h2 x y => ?_⟩
    obtain ⟨o', f', q1, q2⟩ := x
    exact ⟨o', f', y _ q1, q2⟩
/-- the wish of a clause «except c as n: y = n»: slots i of n, j of y -/
def wKept (K : PySem.W.Frag) (c : Value) (i j : Nat) (D : Ends) : WX := fun cls d σ H => d = none ∧ PySem.W.exmOne K cls c = some true ∧ ∀ a, H a = none → D.nx ((σ.set j (some (.ref a))).set i none) (upd H a (ExP cls a))
/-- behind the look at the frame: the handlers -/
def atHandlers (X : Cx) (pins : List (Addr × Obj)) (D : Ends) (hs : List ExceptHandler) : Value → Shared → Prop := fun e t => wpAny (model X.prog X.w) X.A (noteFrame e X.env)
  (fun _ t1 => wpAny (model X.prog X.w) X.A (setFlight e none) (fun _ t2 => wpAny (model X.prog X.w) X.A (handleBy e X.env hs) (SP X pins D) X.xe t2) X.xe t1) X.xe t
section
variable {X : Cx} {x n y : Str} {c : Value} {i j : Nat} {body : List Stmt} {np pos pos' py pv' sp' : Pos} {tb : WX → TS}
theorem kept_catch (hs : X.stack = X.env :: X.outer) (hf : X.env.frame = some X.env.locals) (hN : X.N.Nodup) (hi : X.N[i]? = some n) (hln : X.env.kindOf n = some .local) (hj : X.N[j]? = some y) (hly : X.env.scope.names.lookup y = some .local)
    (nd : (n == ("__debug__" : Str)) = false) (ncd : (n == ("__classdict__" : Str)) = false) (hsw : swapsWith (.Name n pv') (some (.Name y py)) sp'.line X.env = pure false) (hc : Names X x c) (hex : X.ex = [])
    {pins : List (Addr × Obj)} {D : Ends} {u : Value} {s' : Shared} (ok : X.Ok) {pn0 : List (Addr × Obj)} {xe0 : Value → Shared → Prop} (hpn : pn0 = X.pn ++ pins)
    (z : XE (X.tr pn0 xe0) (wKept X.K c i j D) u s') : atHandlers X pins D [.ExceptHandler (some (.Name x np)) (some n) [.Assign [.Name y py] (.Name n pv') sp'] pos'] u s' := by
  subst hpn
  obtain ⟨a, B, sI, pq, τ, H', cls, d, rfl, J0, nb, up, sky, na, os, ag, rfl, te, nx⟩ := z
  have J : Inv X pins τ H' sI := J0.ofTry ok
  have hfr : X.A.frames = some (X.env :: X.outer) := by
    rw [← hs]
    exact ok.frames
  unfold atHandlers
  refine Sky.land Zc.steady hfr hf (by rw [← hs]; exact sky) fun h3 fl3 up3 => ?_
  have J3 : Inv X pins τ H' { s' with heap := h3 } := J.landed nb fl3.1 (up.trans up3) os ag
  obtain ⟨o3, f3, ho3, hz3, hd3⟩ := fl3.there
  have nfr : a ∉ frs (X.env :: X.outer) := fun hm => by
    obtain ⟨_, o', e', hnf⟩ := fl3.2.2.1.mem hm
    rw [ho3] at e'
    cases e'
    exact hnf _ hd3
  have nL : a ≠ X.env.locals := fun e => nfr (List.mem_filterMap.mpr ⟨X.env, List.mem_cons_self, by rw [hf, e]⟩)
  have nF : a ∉ X.fs := fun hm => by
    obtain ⟨e, he, q⟩ := List.mem_filterMap.mp hm
    exact nfr (List.mem_filterMap.mpr ⟨e, List.mem_cons_of_mem _ he, q⟩)
  have newI : ∀ o, sI.heap.get? a ≠ some o := fun o e => by
    have h1 := nb a o e (by rw [show frs (X.tr (X.pn ++ pins) xe0).stack = frs (X.env :: X.outer) from congrArg frs hs]; exact nfr)
    rw [fl3.2.1] at h1
    cases h1
  have new0 : ∀ o, X.s_0.heap.get? a ≠ some o := fun o e => by
    obtain ⟨o', e'⟩ := J.base.there a o e (by rw [hex]; exact List.not_mem_nil)
    exact newI _ e'
  have newP : ∀ p ∈ X.pn ++ pins, p.1 ≠ a := fun p m e => newI _ (by rw [← e]; exact (J.pin p m).1)
  have S3 := J3.suite ho3 hd3 na nL nF
  refine wpAny_handleBy_cons (codeAny_handlers_test ?_) (by intro q; cases q)
  have isT : PySem.W.Looks (model X.prog X.w) h3 (typeOf (.ref a)) cls := fun A Q E t k q => wpAny_typeOf_ref (k _ _ ho3) (by rw [hz3.1]; exact q)
  have isM := PySem.W.exm_one (M := model X.prog X.w) J3.kIn isT te
  have nm : ∀ {Q : Value → Shared → Prop} {E : Value → Shared → Prop}, Q c { s' with heap := h3 } → wpAny (model X.prog X.w) (X.A.mark (some (.ref a))) (eval (.Name x np) X.env) Q E { s' with heap := h3 } := fun q => by
    obtain ⟨k1, k2, k3 | ⟨k3, k4, k5⟩⟩ := hc
    · exact ld_glob (X := X.suite a ((a, o3) :: (X.pn ++ pins))) S3 k1 k3 q k2
    · exact ld_blt (X := X.suite a ((a, o3) :: (X.pn ++ pins))) S3 k1 k3 k4 q k5 k2
  refine nm (isM.here (codeAny_handlers_suite_as ?_))
  refine HandSPX.lands_againZ fl3 fun h4 fl4 up4 => ?_
  have J4 : Inv X pins τ H' { s' with heap := h4 } := J.landed nb fl4.1 ((up.trans up3).trans up4) os ag
  obtain ⟨o4, f4, ho4, hz4, hd4⟩ := fl4.there
  have S4 := J4.suite ho4 hd4 na nL nF
  refine store_ok (X := X.suite a ((a, o4) :: (X.pn ++ pins))) (v := .ref a) S4 hN hi (.inl hln) rfl (fun s5 S5 => ?_) (.inr hln)
  have hlen : i < τ.length := by
    rw [J.len]
    exact (List.getElem?_eq_some_iff.mp hi).1
  have suite : PSs (X.suite a ((a, o4) :: (X.pn ++ pins))) [.Assign [.Name y py] (.Name n pv') sp'] (tAsg (tVar i) (gName j)) :=
    pss_one (ps_set (i := j) hN hj (.inl hly) (pe_var hi (.inl hln) nd ncd) hsw (.inr hly))
  let D5 : Ends := { nx := fun σ6 H6 => σ6 = (τ.set i (some (.ref a))).set j (some (.ref a)) ∧ H6 = H', rt := fun _ _ => False, bk := fun _ _ => False, ct := fun _ _ => False }
  refine wpAny_mono (suite.run [] s5 _ H' D5 S5 ⟨.ref a, by rw [List.getElem?_set_self hlen], rfl, rfl⟩) (fun f s6 got => ?_) (fun _ _ w => False.elim w)
  cases f with
  | next =>
    obtain ⟨σ6, H6, S6, rfl, rfl⟩ := got
    have J6 : Inv X ((a, o4) :: pins) ((τ.set i (some (.ref a))).set j (some (.ref a))) H6 s6 :=
      { ok := ok, os := S6.os, bare := S6.bare, base := S6.base, loc := S6.loc, cell := S6.cell, free := S6.free, freeC := S6.freeC, hok := S6.hok, len := S6.len,
        pin := fun p m => S6.pin p (by
          rw [List.append_nil]
          rcases List.mem_append.mp m with m | m
          · exact List.mem_cons_of_mem _ (List.mem_append_left _ m)
          · rcases List.mem_cons.mp m with m | m
            · rw [m]
              exact List.mem_cons_self
            · exact List.mem_cons_of_mem _ (List.mem_append_right _ m)) }
    refine gone_ok J6 hN hi hln fun s7 J7 => ⟨_, _, inv_track J7 hz4 hd4 new0 newP, ?_⟩
    have hsl : ((τ.set i (some (V.ref a))).set j (some (.ref a))).set i none = (τ.set j (some (.ref a))).set i none := by
      apply List.ext_getElem?
      intro k
      simp only [List.getElem?_set, List.length_set]
      by_cases h1 : i = k <;> by_cases h2 : j = k <;> simp [h1, h2]
    rw [hsl]
    exact nx a na
  | brk =>
    obtain ⟨_, _, _, w⟩ := got
    exact w.elim
  | cont =>
    obtain ⟨_, _, _, w⟩ := got
    exact w.elim
  | ret v =>
    obtain ⟨_, _, _, _, _, w⟩ := got
    exact w.elim
/-- try: body except x as n: y = n -/
theorem ps_try_kept (i j : Nat) (hs : X.stack = X.env :: X.outer) (hf : X.env.frame = some X.env.locals) (hN : X.N.Nodup) (hi : X.N[i]? = some n) (hln : X.env.kindOf n = some .local) (hj : X.N[j]? = some y) (hly : X.env.scope.names.lookup y = some .local) (hc : Names X x c) (hex : X.ex = [])
    (hb : ∀ (W : WX) (pn : List (Addr × Obj)) (xe : Value → Shared → Prop), Takes (X.tr pn xe) W → PassesOwn (model X.prog X.w) X.A X.env xe → PSs (X.tr pn xe) body (tb W))
    (nd : (n == ("__debug__" : Str)) = false := by decide) (ncd : (n == ("__classdict__" : Str)) = false := by decide) (hsw : swapsWith (.Name n pv') (some (.Name y py)) sp'.line X.env = pure false := by rfl) :
    PS X (.Try body [.ExceptHandler (some (.Name x np)) (some n) [.Assign [.Name y py] (.Name n pv') sp'] pos'] [] [] pos) (fun D σ H => tb (wKept X.K c i j D) D σ H) := by
  constructor
  intro pins s σ H D I hh
  have ok := I.ok
  refine wpAny_Try_except ?_
  have run := (hb (wKept X.K c i j D) (X.pn ++ pins) (atHandlers X pins D [.ExceptHandler (some (.Name x np)) (some n) [.Assign [.Name y py] (.Name n pv') sp'] pos']) (fun u s' z => kept_catch hs hf hN hi hln hj hly nd ncd hsw hc hex ok rfl z) PassesOwn.looking).run [] s σ H D (I.toTry _) hh
  refine wpAny_mono run (fun f s1 got => ?_) (fun _ _ w => w)
  cases f with
  | next =>
    obtain ⟨σ1, H1, J1, q⟩ := got
    exact wpAny_execs_nil ⟨σ1, H1, J1.ofTry ok, q⟩
  | brk =>
    obtain ⟨σ1, H1, J1, q⟩ := got
    exact ⟨σ1, H1, J1.ofTry ok, q⟩
  | cont =>
    obtain ⟨σ1, H1, J1, q⟩ := got
    exact ⟨σ1, H1, J1.ofTry ok, q⟩
  | ret v =>
    obtain ⟨v1, σ1, H1, J1, r, q⟩ := got
    exact ⟨v1, σ1, H1, J1.ofTry ok, r, q⟩
end
section
variable {P : Program} {w : World} {K : PySem.W.Frag} {mg : Str → Option Value} {base : Heap}
/-! ### the kinds of refusals -/
def Tx.Cs (T : Tx K mg) : List Addr := [T.C_NoSpan, T.C_NoPlace, T.C_NoCover, T.C_NoWeight, T.C_NoCount, T.C_NoName, T.C_Twice, T.C_Full, T.C_Bare, T.C_NoDeed, T.C_NoText, T.C_NoLine]
theorem excC_of (T : Tx K mg) {D : Addr} (h : D ∈ T.C_ShelfError :: T.Cs) : ExcC K D := by
  have hd := (List.map_inj_left.mp T.excs) D h
  simp only [Prod.mk.injEq] at hd
  obtain ⟨h1, h2, h3, h4, h5, h6⟩ := hd
  have hg := T.gets
  simp only [Prod.mk.injEq] at hg
  exact ⟨h1, h2, h3, h4, h5, hg.1, hg.2, h6⟩
theorem kit_row (T : Tx K mg) {i j : Nat} {D C : Addr} (hi : (T.C_ShelfError :: T.Cs)[i]? = some D) (hj : T.Cs[j]? = some C) : PySem.W.kitOne K (.ref D) (.ref C) = some (i == j + 1) := by
  have e := congrArg (fun l => l[i]?) T.kits
  rw [List.getElem?_map, show ([T.C_ShelfError, T.C_NoSpan, T.C_NoPlace, T.C_NoCover, T.C_NoWeight, T.C_NoCount, T.C_NoName, T.C_Twice, T.C_Full, T.C_Bare, T.C_NoDeed, T.C_NoText, T.C_NoLine] : List Addr) = T.C_ShelfError :: T.Cs from rfl, hi] at e
  have hl : i < 13 := by
    have := (List.getElem?_eq_some_iff.mp hi).1
    simpa [Tx.Cs] using this
  have hl2 : j < 12 := by
    have := (List.getElem?_eq_some_iff.mp hj).1
    simpa [Tx.Cs] using this
  rw [List.getElem?_map, List.getElem?_range hl] at e
  have e := Option.some.inj e
  have e2 := congrArg (fun l => l[j]?) e
  rw [List.getElem?_map, List.getElem?_map, show ([T.C_NoSpan, T.C_NoPlace, T.C_NoCover, T.C_NoWeight, T.C_NoCount, T.C_NoName, T.C_Twice, T.C_Full, T.C_Bare, T.C_NoDeed, T.C_NoText, T.C_NoLine] : List Addr) = T.Cs from rfl, hj, List.getElem?_range hl2] at e2
  exact Option.some.inj e2
theorem kit_tops (T : Tx K mg) {D : Addr} (h : D ∈ T.C_ShelfError :: T.Cs) : PySem.W.kitOne K (.ref D) (.ref T.C_ShelfError) = some true ∧ PySem.W.kitOne K (.ref D) (.type "ValueError") = some true := by
  have hd := (List.map_inj_left.mp T.tops) D h
  simp only [Prod.mk.injEq] at hd
  exact hd
theorem kit_none (T : Tx K mg) {C : Addr} (h : C ∈ T.C_ShelfError :: T.Cs) : PySem.W.kitOne K (.type "NoneType") (.ref C) = some false := (List.map_inj_left.mp T.nones) C h
theorem exm_all (T : Tx K mg) {D : Addr} (h : D ∈ T.C_ShelfError :: T.Cs) : PySem.W.exmOne K (.ref D) (.ref T.C_ShelfError) = some true := (List.map_inj_left.mp T.exms) D h
/-- v is a refusal of the kind r, or None, or a bare ShelfError (r is empty) -/
def Kd (T : Tx K mg) (H : Hp) (v : V) (r : List Int) : Prop :=
  (∃ (a : Addr) (i : Nat) (D : Addr), v = .ref a ∧ (T.C_ShelfError :: T.Cs)[i]? = some D ∧ IsEx H (.ref D) a ∧ r = if i = 0 then [] else [(i : Int) - 1]) ∨ (v = .non ∧ r = [])
theorem Kd.same {T : Tx K mg} {H H' : Hp} {v : V} {r : List Int} (h : Kd T H v r) (e : Same H H') : Kd T H' v r := by
  rcases h with ⟨a, i, D, h1, h2, h3, h4⟩ | h
  · exact .inl ⟨a, i, D, h1, h2, h3.same e, h4⟩
  · exact .inr h
theorem Kd.is {T : Tx K mg} {H : Hp} {v : V} {r : List Int} {Q : VK} (h : Kd T H v r) (j : Nat) {C : Addr} (hj : T.Cs[j]? = some C) (q : Q (.bl (decide (r = [(j : Int)]))) H) : rIsY K [v, .ref C] H Q := by
  rcases h with ⟨a, i, D, rfl, h2, h3, h4⟩ | ⟨rfl, h4⟩
  · refine .inl ⟨a, D, _, _, _, rfl, h3, excC_of T (List.mem_of_getElem? h2), .own C, kit_row T h2 hj, ?_⟩
    have e : decide (r = [(j : Int)]) = (i == j + 1) := by
      rw [h4]
      by_cases hi : i = 0
      · rw [if_pos hi, hi]
        simp
      · rw [if_neg hi]
        by_cases h5 : i = j + 1
        · subst h5
          simp
        · have : ¬ ((i : Int) - 1 = (j : Int)) := by omega
          simp [h5, this]
    rw [← e]
    exact q
  · refine .inr ⟨_, _, _, _, false, rfl, .own C, .base .non, kit_none T (List.mem_cons_of_mem _ (List.mem_of_getElem? hj)), ?_⟩
    have e : decide (r = [(j : Int)]) = false := by
      rw [h4]
      simp
    rw [← e]
    exact q
def spKinds (T : Tx K mg) : Sp := fun vs H Q _ => ∃ (v : V) (r : List Int), vs = [v] ∧ Kd T H v r ∧ ∀ H' p, Same H H' → H p = none → H' p = some (.lst (r.map V.int)) → Q (.ref p) H'
theorem kd_twelve {T : Tx K mg} {H : Hp} {v : V} {r : List Int} (h : Kd T H v r) : ((List.range 12).filter (fun (k : Nat) => decide (r = [(k : Int)]))).map (fun (k : Nat) => (k : Int)) = r := by
  have key : ∀ i : Nat, i < 13 → ((List.range 12).filter (fun (k : Nat) => decide ((if i = 0 then [] else [(i : Int) - 1]) = [(k : Int)]))).map (fun (k : Nat) => (k : Int)) = if i = 0 then [] else [(i : Int) - 1] := by decide +kernel
  rcases h with ⟨a, i, D, rfl, h2, h3, h4⟩ | ⟨rfl, h4⟩
  · have hl : i < 13 := by
      have := (List.getElem?_eq_some_iff.mp h2).1
      simpa [Tx.Cs] using this
    rw [h4]
    exact key i hl
  · rw [h4]
    exact key 0 (by decide)
theorem ok_kinds (T : Tx K mg) : FnOk P w K mg base CX0 (1) T.f_l_kinds T.fd_l_kinds ["_law_e"] (spKinds T) := by
  refine T.F_l_kinds.ok sc_l_kinds (fun vs H Q E h => ?_) (fun cdv A outer s H vs Q E hr h => ?_)
  · obtain ⟨v, r, rfl, _⟩ := h
    rfl
  · obtain ⟨v, r, rfl, h, q⟩ := h
    refine ⟨_, (pss_cons (ps_set (i := 1) sc_l_kinds.nd rfl (Or.inr rfl) (pe_lst (pa_cons (pe_callB call_isY (by rfl) T.m_isinstance (by decide +kernel) (pa_cons (pv 0) (pa_cons (pe_glob (v := .ref T.C_NoSpan) (by rfl) T.g_NoSpan rfl) pa_nil))) (pa_cons (pe_callB call_isY (by rfl) T.m_isinstance (by decide +kernel) (pa_cons (pv 0) (pa_cons (pe_glob (v := .ref T.C_NoPlace) (by rfl) T.g_NoPlace rfl) pa_nil))) (pa_cons (pe_callB call_isY (by rfl) T.m_isinstance (by decide +kernel) (pa_cons (pv 0) (pa_cons (pe_glob (v := .ref T.C_NoCover) (by rfl) T.g_NoCover rfl) pa_nil))) (pa_cons (pe_callB call_isY (by rfl) T.m_isinstance (by decide +kernel) (pa_cons (pv 0) (pa_cons (pe_glob (v := .ref T.C_NoWeight) (by rfl) T.g_NoWeight rfl) pa_nil))) pa_nil))))))
      (pss_cons (ps_set (i := 1) sc_l_kinds.nd rfl (Or.inr rfl) (pe_op op_cat (pv 1) (pe_lst (pa_cons (pe_callB call_isY (by rfl) T.m_isinstance (by decide +kernel) (pa_cons (pv 0) (pa_cons (pe_glob (v := .ref T.C_NoCount) (by rfl) T.g_NoCount rfl) pa_nil))) (pa_cons (pe_callB call_isY (by rfl) T.m_isinstance (by decide +kernel) (pa_cons (pv 0) (pa_cons (pe_glob (v := .ref T.C_NoName) (by rfl) T.g_NoName rfl) pa_nil))) (pa_cons (pe_callB call_isY (by rfl) T.m_isinstance (by decide +kernel) (pa_cons (pv 0) (pa_cons (pe_glob (v := .ref T.C_Twice) (by rfl) T.g_Twice rfl) pa_nil))) (pa_cons (pe_callB call_isY (by rfl) T.m_isinstance (by decide +kernel) (pa_cons (pv 0) (pa_cons (pe_glob (v := .ref T.C_Full) (by rfl) T.g_Full rfl) pa_nil))) pa_nil)))))))
      (pss_cons (ps_set (i := 1) sc_l_kinds.nd rfl (Or.inr rfl) (pe_op op_cat (pv 1) (pe_lst (pa_cons (pe_callB call_isY (by rfl) T.m_isinstance (by decide +kernel) (pa_cons (pv 0) (pa_cons (pe_glob (v := .ref T.C_Bare) (by rfl) T.g_Bare rfl) pa_nil))) (pa_cons (pe_callB call_isY (by rfl) T.m_isinstance (by decide +kernel) (pa_cons (pv 0) (pa_cons (pe_glob (v := .ref T.C_NoDeed) (by rfl) T.g_NoDeed rfl) pa_nil))) (pa_cons (pe_callB call_isY (by rfl) T.m_isinstance (by decide +kernel) (pa_cons (pv 0) (pa_cons (pe_glob (v := .ref T.C_NoText) (by rfl) T.g_NoText rfl) pa_nil))) (pa_cons (pe_callB call_isY (by rfl) T.m_isinstance (by decide +kernel) (pa_cons (pv 0) (pa_cons (pe_glob (v := .ref T.C_NoLine) (by rfl) T.g_NoLine rfl) pa_nil))) pa_nil)))))))
      (pss_cons (ps_if (PW.pt (pw_or (pt_not (pt_val (pe_callB call_isY (by rfl) T.m_isinstance (by decide +kernel) (pa_cons (pv 0) (pa_cons (pe_glob (v := .ref T.C_ShelfError) (by rfl) T.g_ShelfError rfl) pa_nil))))) (pw_or1 (pt_not (pt_val (pe_callB call_isY (by rfl) T.m_isinstance (by decide +kernel) (pa_cons (pv 0) (pa_cons (pe_bltn (v := .ty "ValueError") (by rfl) T.m_ValueError (by decide +kernel) rfl) pa_nil)))))))) (pss_one (ps_ret (pe_lst pa_nil))) pss_nil)
      (pss_one (ps_ret (pe_lc (own := [("_law_k", 2)]) (g := (gName 2)) (by rfl) sc_l_kinds.nd (pi_range1 (by rfl) T.m_range (pa_cons pe_int pa_nil)) (blkOk_by (own := [("_law_k", 2)]) (N := N_l_kinds) (sc := defScope s_l_kinds) (by decide +kernel)) (fun _ _ _ _ _ => (pg_name (i := 2) sc_l_kinds.nd rfl (Or.inl rfl))) (fun _ _ _ _ _ => (pts_one (pt_val (pe_ix (show IxR _ (rIxL K) from ix_list) (pv 1) (pv 2) (fun _ _ => rfl))))) (fun _ _ _ _ _ => (pv 2))))))))), ?_⟩
    refine ⟨_, rfl, h.is 0 rfl ⟨_, rfl, h.is 1 rfl ⟨_, rfl, h.is 2 rfl ⟨_, rfl, h.is 3 rfl ⟨small_le (by simp), fun l1 n1 => ?_⟩⟩⟩⟩⟩
    have s1 := same_upd (o := .lst [.bl (decide (r = [((0 : Nat) : Int)])), .bl (decide (r = [((1 : Nat) : Int)])), .bl (decide (r = [((2 : Nat) : Int)])), .bl (decide (r = [((3 : Nat) : Int)]))]) n1
    have h := h.same s1
    refine ⟨_, rfl, _, rfl, h.is 4 rfl ⟨_, rfl, h.is 5 rfl ⟨_, rfl, h.is 6 rfl ⟨_, rfl, h.is 7 rfl ⟨small_le (by simp), fun l2 n2 => ?_⟩⟩⟩⟩⟩
    have s2 := same_upd (o := .lst [.bl (decide (r = [((4 : Nat) : Int)])), .bl (decide (r = [((5 : Nat) : Int)])), .bl (decide (r = [((6 : Nat) : Int)])), .bl (decide (r = [((7 : Nat) : Int)]))]) n2
    have h := h.same s2
    refine ⟨l1, l2, _, _, rfl, rfl, s2 _ _ upd_same, upd_same, small_le (by simp), fun l3 n3 => ?_⟩
    have s3 := same_upd (o := .lst ([.bl (decide (r = [((0 : Nat) : Int)])), .bl (decide (r = [((1 : Nat) : Int)])), .bl (decide (r = [((2 : Nat) : Int)])), .bl (decide (r = [((3 : Nat) : Int)]))] ++ [.bl (decide (r = [((4 : Nat) : Int)])), .bl (decide (r = [((5 : Nat) : Int)])), .bl (decide (r = [((6 : Nat) : Int)])), .bl (decide (r = [((7 : Nat) : Int)]))])) n3
    have h := h.same s3
    refine ⟨_, rfl, _, rfl, h.is 8 rfl ⟨_, rfl, h.is 9 rfl ⟨_, rfl, h.is 10 rfl ⟨_, rfl, h.is 11 rfl ⟨small_le (by simp), fun l4 n4 => ?_⟩⟩⟩⟩⟩
    have s4 := same_upd (o := .lst [.bl (decide (r = [((8 : Nat) : Int)])), .bl (decide (r = [((9 : Nat) : Int)])), .bl (decide (r = [((10 : Nat) : Int)])), .bl (decide (r = [((11 : Nat) : Int)]))]) n4
    have h := h.same s4
    refine ⟨l3, l4, _, _, rfl, rfl, s4 _ _ upd_same, upd_same, small_le (by simp), fun l5 n5 => ?_⟩
    obtain ⟨e5, s5⟩ := upd_at (o := .lst ([.bl (decide (r = [((0 : Nat) : Int)])), .bl (decide (r = [((1 : Nat) : Int)])), .bl (decide (r = [((2 : Nat) : Int)])), .bl (decide (r = [((3 : Nat) : Int)]))] ++ [.bl (decide (r = [((4 : Nat) : Int)])), .bl (decide (r = [((5 : Nat) : Int)])), .bl (decide (r = [((6 : Nat) : Int)])), .bl (decide (r = [((7 : Nat) : Int)]))] ++ [.bl (decide (r = [((8 : Nat) : Int)])), .bl (decide (r = [((9 : Nat) : Int)])), .bl (decide (r = [((10 : Nat) : Int)])), .bl (decide (r = [((11 : Nat) : Int)]))])) n5
    have h := h.same s5
    have all := s1.trans (s2.trans (s3.trans (s4.trans s5)))
    have h0 := h
    rcases h0 with ⟨a, i, D, rfl, h2, h3, h4⟩ | ⟨rfl, h4⟩
    · have hm := List.mem_of_getElem? h2
      have kt := kit_tops T hm
      refine ⟨_, rfl, .inl ⟨a, D, _, _, true, rfl, h3, excC_of T hm, .own _, kt.1, true, rfl, iteF ?_⟩⟩
      refine ⟨_, rfl, .inl ⟨a, D, _, _, true, rfl, h3, excC_of T hm, .ty _, kt.2, true, rfl, iteF ?_⟩⟩
      refine ⟨12, rfl, by decide, by decide, fun Dl nD => ?_⟩
      have nD0 := all.free nD
      have nl5 : l5 ≠ Dl := ne_of_none e5 nD
      refine lc_range (lo := 0) (n := 12) (fun k H' => Same H H' ∧ H' l5 = some (.lst ((List.range 12).map fun (k : Nat) => V.bl (decide (r = [(k : Int)])))) ∧ H' Dl = some (.lst ((((List.range k).filter (fun (k : Nat) => decide (r = [(k : Int)]))).map (fun (k : Nat) => (k : Int))).map V.int))) ⟨same_more all nD0, same_upd nD _ _ e5, upd_same⟩ ?_ ?_
      · rintro k H' hk ⟨sm, h5, hD⟩
        refine ⟨rfl, _, rfl, _, rfl, l5, _, _, _, rfl, rfl, SqL.of h5, at_of (j := k) (by omega) (v := V.bl (decide (r = [(k : Int)]))) ?_, _, rfl, ?_⟩
        · rw [List.getElem?_map, List.getElem?_range hk]
          rfl
        have hr : List.range (k + 1) = List.range k ++ [k] := List.range_succ
        by_cases hq : r = [(k : Int)]
        · rw [decide_eq_true hq]
          refine iteT ⟨_, rfl, _, hD, ?_, same_more sm nD0, ?_, ?_⟩
          · refine small_lt ?_
            rw [List.length_map, List.length_map]
            refine Nat.le_trans (List.length_filter_le _ _) ?_
            rw [List.length_range]
            omega
          · rw [upd_ne nl5]
            exact h5
          · rw [upd_same, hr, List.filter_append, List.map_append, List.map_append]
            simp [hq]
        · rw [decide_eq_false hq]
          refine iteF ⟨sm, h5, ?_⟩
          rw [hr, List.filter_append, List.map_append, List.map_append, hD]
          simp [hq]
      · rintro H' ⟨sm, h5, hD⟩
        rw [kd_twelve h] at hD
        exact q _ _ sm nD0 hD
    · refine ⟨_, rfl, .inr ⟨_, _, _, _, false, rfl, .own _, .base .non, kit_none T List.mem_cons_self, false, rfl, iteT (iteT ?_)⟩⟩
      refine ⟨Nat.zero_le _, fun p np => ?_⟩
      subst h4
      exact q _ p (all.trans (same_upd np)) (all.free np) upd_same
end
section
variable {P : Program} {w : World} {K : PySem.W.Frag} {mg : Str → Option Value} {base : Heap}
/-! ### a tuple that is no span -/
def spBad : Sp := fun vs H Q _ => ∃ (p : Addr) (n : Nat), vs = [.ref p] ∧ Pu H p n ∧ n + 12 ≤ 1000000000 ∧ ∀ H' v s, Chg [p] H H' → Pu H' p (n + 12) → Spn H' v s → isSpan s = false → (∀ a, v = .ref a → H a = none) → Q v H'
theorem not_span {a b : Int} (h : ¬ (-999999999999 ≤ a ∧ a < b ∧ b ≤ 999999999999)) : isSpan (a, b) = false := by
  cases e : isSpan (a, b) with
  | false => rfl
  | true => exact absurd ((isSpan_iff (a, b)).mp e) h
theorem ok_bad_span (T : Tx K mg) : FnOk P w K mg base CX0 (4) T.f_l_bad_span T.fd_l_bad_span ["_law_purse_here"] spBad := by
  have G_l_draw : FnOk P w K mg base CX0 _ _ _ _ _ := ok_draw T
  have G_l_number : FnOk P w K mg base CX0 _ _ _ _ _ := ok_number T
  refine T.F_l_bad_span.ok sc_l_bad_span (fun vs H Q E h => ?_) (fun cdv A outer s H vs Q E hr h => ?_)
  · obtain ⟨p, n, rfl, _⟩ := h
    rfl
  · obtain ⟨p, n, rfl, hp, hn, q⟩ := h
    refine ⟨_, (pss_cons (ps_set (i := 1) sc_l_bad_span.nd rfl (Or.inl rfl) (pe_op op_add (pe_op op_pow pe_int pe_int) (pe_call G_l_draw (hr.mono (by decide)) (by rfl) T.g_l_draw T.F_l_draw.kp T.b_l_draw .nil pass0 (pa_cons (pv 0) (pa_cons (pe_op op_pow pe_int pe_int) pa_nil)))))
      (pss_cons (ps_set (i := 2) sc_l_bad_span.nd rfl (Or.inl rfl) (pe_call G_l_number (hr.mono (by decide)) (by rfl) T.g_l_number T.F_l_number.kp T.b_l_number .nil pass0 (pa_cons (pv 0) (pa_cons (pe_op op_sub (pe_op op_pow pe_int pe_int) pe_int) pa_nil))))
      (pss_cons (ps_set (i := 3) sc_l_bad_span.nd rfl (Or.inl rfl) (pe_lst (pa_cons (pe_tup (pa_cons (pv 2) (pa_cons (pv 2) pa_nil))) (pa_cons (pe_tup (pa_cons (pe_op op_add (pv 2) pe_int) (pa_cons (pv 2) pa_nil))) (pa_cons (pe_tup (pa_cons (pv 2) (pa_cons (pv 1) pa_nil))) (pa_cons (pe_tup (pa_cons (pe_op op_sub pe_int (pv 1)) (pa_cons (pv 2) pa_nil))) (pa_cons (pe_tup (pa_cons (pv 1) (pa_cons (pe_op op_add (pv 1) pe_int) pa_nil))) (pa_cons (pe_tup (pa_cons (pe_op op_sub (pe_op op_sub pe_int (pv 1)) pe_int) (pa_cons (pe_op op_sub pe_int (pv 1)) pa_nil))) pa_nil))))))))
      (pss_cons (ps_set (i := 3) sc_l_bad_span.nd rfl (Or.inl rfl) (pe_op op_cat (pv 3) (pe_lst (pa_cons (pe_tup (pa_cons (pe_op op_sub pe_int (pe_op op_pow pe_int pe_int)) (pa_cons pe_int pa_nil))) (pa_cons (pe_tup (pa_cons pe_int (pa_cons (pe_op op_pow pe_int pe_int) pa_nil))) (pa_cons (pe_tup (pa_cons (pe_op op_pow pe_int pe_int) (pa_cons (pe_op op_sub pe_int (pe_op op_pow pe_int pe_int)) pa_nil))) pa_nil))))))
      (pss_one (ps_ret (pe_ix ix_list (pv 3) (pe_call G_l_draw (hr.mono (by decide)) (by rfl) T.g_l_draw T.F_l_draw.kp T.b_l_draw .nil pass0 (pa_cons (pv 0) (pa_cons pe_int pa_nil))) (fun _ _ => rfl)))))))), ?_⟩
    have e12 : (10 : Int) ^ (12 : Int).toNat = 1000000000000 := by decide
    have e18 : (10 : Int) ^ (18 : Int).toNat = 1000000000000000000 := by decide
    have e29 : (10 : Int) ^ (29 : Int).toNat = 100000000000000000000000000000 := by decide
    refine ⟨_, _, rfl, rfl, ⟨by decide, by decide, by decide⟩, _, rfl, _, _, rfl, rfl, ⟨by decide, by decide, by decide⟩, p, _, n, rfl, hp, by omega, ?_, ?_, fun H1 r c1 p1 r0 r1 => ?_⟩
    · rw [e18]
      decide
    · rw [e18]
      decide
    rw [e18] at r1
    refine ⟨_, _, rfl, rfl, ?_⟩
    rw [e12]
    refine ⟨_, rfl, _, _, rfl, rfl, ⟨by decide, by decide, by decide⟩, _, _, rfl, rfl, p, _, n + 3, rfl, p1, by omega, ?_, ?_, fun H2 x c2 p2 x0 x1 => ?_⟩
    · rw [e12]
      decide
    · rw [e12]
      decide
    rw [e12] at x0 x1
    refine ⟨_, rfl, _, rfl, (by show 2 ≤ sizeLine; decide), fun t1 n1 => ?_⟩
    obtain ⟨g1, s1⟩ := upd_at (o := .tup [.int x, .int x]) n1
    refine ⟨_, rfl, _, _, rfl, rfl, _, rfl, (by show 2 ≤ sizeLine; decide), fun t2 n2 => ?_⟩
    obtain ⟨g2, s2⟩ := upd_at (o := .tup [.int (x + 1), .int x]) n2
    refine ⟨_, rfl, _, rfl, (by show 2 ≤ sizeLine; decide), fun t3 n3 => ?_⟩
    obtain ⟨g3, s3⟩ := upd_at (o := .tup [.int x, .int (1000000000000 + r)]) n3
    refine ⟨_, rfl, _, _, rfl, rfl, _, rfl, (by show 2 ≤ sizeLine; decide), fun t4 n4 => ?_⟩
    obtain ⟨g4, s4⟩ := upd_at (o := .tup [.int (0 - (1000000000000 + r)), .int x]) n4
    refine ⟨_, rfl, _, rfl, _, _, rfl, rfl, (by show 2 ≤ sizeLine; decide), fun t5 n5 => ?_⟩
    obtain ⟨g5, s5⟩ := upd_at (o := .tup [.int (1000000000000 + r), .int (1000000000000 + r + 1)]) n5
    refine ⟨_, rfl, _, _, rfl, rfl, _, _, rfl, rfl, _, rfl, _, _, rfl, rfl, (by show 2 ≤ sizeLine; decide), fun t6 n6 => ?_⟩
    obtain ⟨g6, s6⟩ := upd_at (o := .tup [.int (0 - (1000000000000 + r) - 1), .int (0 - (1000000000000 + r))]) n6
    refine ⟨small_le (by simp), fun l1 m1 => ?_⟩
    obtain ⟨k1, u1⟩ := upd_at (o := .lst [.ref t1, .ref t2, .ref t3, .ref t4, .ref t5, .ref t6]) m1
    refine ⟨_, rfl, _, _, rfl, rfl, ⟨by decide, by decide, by decide⟩, _, _, rfl, rfl, (by show 2 ≤ sizeLine; decide), fun t7 n7 => ?_⟩
    obtain ⟨g7, s7⟩ := upd_at (o := .tup [.int (0 - (10 : Int) ^ (12 : Int).toNat), .int 0]) n7
    refine ⟨_, _, rfl, rfl, ⟨by decide, by decide, by decide⟩, (by show 2 ≤ sizeLine; decide), fun t8 n8 => ?_⟩
    obtain ⟨g8, s8⟩ := upd_at (o := .tup [.int 0, .int ((10 : Int) ^ (12 : Int).toNat)]) n8
    refine ⟨_, _, rfl, rfl, ⟨by decide, by decide, by decide⟩, _, _, rfl, rfl, ⟨by decide, by decide, by decide⟩, _, _, rfl, rfl, (by show 2 ≤ sizeLine; decide), fun t9 n9 => ?_⟩
    obtain ⟨g9, s9⟩ := upd_at (o := .tup [.int ((10 : Int) ^ (29 : Int).toNat), .int (0 - (10 : Int) ^ (29 : Int).toNat)]) n9
    refine ⟨small_le (by simp), fun l2 m2 => ?_⟩
    obtain ⟨k2, u2⟩ := upd_at (o := .lst [.ref t7, .ref t8, .ref t9]) m2
    refine ⟨l1, l2, _, _, rfl, rfl, u2 _ _ (s9 _ _ (s8 _ _ (s7 _ _ k1))), k2, small_le (by simp), fun l3 m3 => ?_⟩
    obtain ⟨k3, u3⟩ := upd_at (o := .lst ([.ref t1, .ref t2, .ref t3, .ref t4, .ref t5, .ref t6] ++ [.ref t7, .ref t8, .ref t9])) m3
    have z9 := u2.trans u3
    have z8 := s9.trans z9
    have z7 := s8.trans z8
    have z6 := u1.trans (s7.trans z7)
    have z5 := s6.trans z6
    have z4 := s5.trans z5
    have z3 := s4.trans z4
    have z2 := s3.trans z3
    have z1 := s2.trans z2
    have z0 := s1.trans z1
    have cc : Chg [p] H _ := c1.trans (c2.trans (Chg.of_same z0))
    have pp := p2.same z0
    have old : ∀ a, H2 a = none → a ≠ p → H a = none := fun a h ne => (c1.trans c2).free (nmem1 ne) h
    have fr : ∀ (b : Addr) (H' : Hp), Same H2 H' → H' b = none → H b = none := fun b H' e h => old b (e.free h) (fun z => by
      obtain ⟨o, ho⟩ := p2.at
      rw [z, e _ _ ho] at h
      cases h)
    have f1 := fr t1 _ (Same.refl _) n1
    have f2 := fr t2 _ s1 n2
    have f3 := fr t3 _ (s1.trans s2) n3
    have f4 := fr t4 _ (s1.trans (s2.trans s3)) n4
    have f5 := fr t5 _ (s1.trans (s2.trans (s3.trans s4))) n5
    have f6 := fr t6 _ (s1.trans (s2.trans (s3.trans (s4.trans s5)))) n6
    have f7 := fr t7 _ (s1.trans (s2.trans (s3.trans (s4.trans (s5.trans (s6.trans u1)))))) n7
    have f8 := fr t8 _ (s1.trans (s2.trans (s3.trans (s4.trans (s5.trans (s6.trans (u1.trans s7))))))) n8
    have f9 := fr t9 _ (s1.trans (s2.trans (s3.trans (s4.trans (s5.trans (s6.trans (u1.trans (s7.trans s8)))))))) n9
    have nine : ∀ i : Nat, i < 9 → ∃ t s, ([.ref t1, .ref t2, .ref t3, .ref t4, .ref t5, .ref t6] ++ [.ref t7, .ref t8, .ref t9] : List V)[i]? = some (.ref t) ∧ Spn _ (.ref t) s ∧ isSpan s = false ∧ H t = none := fun i hi => by
      rcases i with _ | _ | _ | _ | _ | _ | _ | _ | _ | i
      · exact ⟨t1, (x, x), rfl, ⟨t1, rfl, z1 _ _ g1⟩, not_span (by omega), f1⟩
      · exact ⟨t2, (x + 1, x), rfl, ⟨t2, rfl, z2 _ _ g2⟩, not_span (by omega), f2⟩
      · exact ⟨t3, (x, 1000000000000 + r), rfl, ⟨t3, rfl, z3 _ _ g3⟩, not_span (by omega), f3⟩
      · exact ⟨t4, (0 - (1000000000000 + r), x), rfl, ⟨t4, rfl, z4 _ _ g4⟩, not_span (by omega), f4⟩
      · exact ⟨t5, (1000000000000 + r, 1000000000000 + r + 1), rfl, ⟨t5, rfl, z5 _ _ g5⟩, not_span (by omega), f5⟩
      · exact ⟨t6, (0 - (1000000000000 + r) - 1, 0 - (1000000000000 + r)), rfl, ⟨t6, rfl, z6 _ _ g6⟩, not_span (by omega), f6⟩
      · exact ⟨t7, (0 - (10 : Int) ^ (12 : Int).toNat, 0), rfl, ⟨t7, rfl, z7 _ _ g7⟩, not_span (by rw [e12]; omega), f7⟩
      · exact ⟨t8, (0, (10 : Int) ^ (12 : Int).toNat), rfl, ⟨t8, rfl, z8 _ _ g8⟩, not_span (by rw [e12]; omega), f8⟩
      · exact ⟨t9, ((10 : Int) ^ (29 : Int).toNat, 0 - (10 : Int) ^ (29 : Int).toNat), rfl, ⟨t9, rfl, z9 _ _ g9⟩, not_span (by rw [e29]; omega), f9⟩
      · omega
    refine ⟨_, rfl, _, rfl, p, 9, n + 9, rfl, pp, by omega, by decide, by decide, fun H3 y c3 p3 y0 y1 => ?_⟩
    obtain ⟨t, sp, hi, hs, bad, ft⟩ := nine y.toNat (by omega)
    have l3p : l3 ≠ p := fun z => by
      obtain ⟨o, ho⟩ := (p2.same (s1.trans (s2.trans (s3.trans (s4.trans (s5.trans (s6.trans (u1.trans (s7.trans (s8.trans (s9.trans u2))))))))))).at
      rw [z, ho] at m3
      cases m3
    have ls := pp.lsts
    refine ⟨l3, _, y, .ref t, rfl, rfl, SqL.of (c3 _ _ (nmem1 l3p) k3), at_of (j := y.toNat) (by omega) hi, ?_⟩
    exact q _ _ sp (cc.trans c3) (p3.mono (by omega)) (hs.chg c3 ls) bad (fun a ha => by cases ha; exact ft)
end
section
variable {P : Program} {w : World} {K : PySem.W.Frag} {mg : Str → Option Value} {base : Heap}
/-! ### the law: no covers -/
/-- v is a list of the spans ss, which may be none -/
def Ls (H : Hp) (v : V) (ss : List Span) : Prop := ∃ l us, v = .ref l ∧ H l = some (.lst us) ∧ Sps H us ss
theorem Ls.same {H H' : Hp} {v : V} {ss : List Span} (h : Ls H v ss) (e : Same H H') : Ls H' v ss := by
  obtain ⟨l, us, h1, h2, h3⟩ := h
  exact ⟨l, us, h1, e _ _ h2, h3.same e⟩
theorem Ls.tb {H H' : Hp} {v : V} {ss : List Span} {Ps : List Addr} (h : Ls H v ss) (t : Tb Ps H) (e : Chg Ps H H') : Ls H' v ss := by
  obtain ⟨l, us, h1, h2, h3⟩ := h
  exact ⟨l, us, h1, e _ _ (t.out h2 (fun ps z => by cases z)) h2, h3.chg e t.lsts⟩
theorem Ls.dp {H : Hp} {v : V} {ss : List Span} (h : Ls H v ss) : Dp K H v (.list (ss.map spD)) := by
  obtain ⟨l, us, rfl, h2, h3⟩ := h
  exact h3.dp (SqL.of h2)
theorem eqv_ints_self : ∀ ns : List Int, PyData.eqvAll (ns.map PyData.int) (ns.map PyData.int) = true
  | [] => rfl
  | n :: r => by
    show (PyData.eqv (.int n) (.int n) && PyData.eqvAll (r.map PyData.int) (r.map PyData.int)) = true
    rw [eqv_ints_self r]
    simp [PyData.eqv]
theorem eqv_ints (ns : List Int) : PyData.eqv (.list (ns.map PyData.int)) (.list (ns.map PyData.int)) = true := eqv_ints_self ns
/-- the kinds told of a refusal: 0 of none, 1 of NoSpan, else of NoCover -/
def codeR (n : Nat) : List Int := if n = 0 then [] else if n = 1 then [0] else [2]
def first2 (a b : Nat) : Nat := if a = 0 then b else a
theorem refC_kd (T : Tx K mg) {n : Nat} (hn : n ≠ 0) {H : Hp} {a : Addr} (h : IsEx H (.ref (T.refC n)) a) : Kd T H (.ref a) (codeR n) := by
  unfold Tx.refC at h
  unfold codeR
  rw [if_neg hn]
  by_cases e : n = 1
  · rw [if_pos e] at h ⊢
    exact .inl ⟨a, 1, _, rfl, rfl, h, rfl⟩
  · rw [if_neg e] at h ⊢
    exact .inl ⟨a, 3, _, rfl, rfl, h, rfl⟩
theorem refC_mem (T : Tx K mg) (n : Nat) : T.refC n ∈ T.C_ShelfError :: T.Cs := by
  unfold Tx.refC Tx.Cs
  split <;> simp
theorem ref1_not {ss : List Span} : ref1 ss = 0 ∨ ref1 ss = 1 ∨ ref1 ss = 2 := by
  unfold ref1
  split
  · split
    · exact .inl rfl
    · exact .inr (.inr rfl)
  · exact .inr (.inl rfl)
def spCaughtC (T : Tx K mg) : Sp := fun vs H Q _ => ∃ (wy : Int) (v u : V) (ss rs : List Span), vs = [.int wy, v, u] ∧ Tb T.tabs H ∧ Ls H v ss ∧ Ls H u rs ∧
  ∀ H' p, Chg T.tabs H H' → Tb T.tabs H' → H' p = some (.lst ((codeR (if wy = 0 then ref1 ss else first2 (ref1 ss) (ref1 rs))).map V.int)) → Q (.ref p) H'
theorem ok_caught (T : Tx K mg) (B : Tbs T base) : FnOk P w K mg base CX0 (9) T.f_l_caught T.fd_l_caught ["_law_way", "_law_one", "_law_other"] (spCaughtC T) := by
  have G_held : FnOk P w K mg base (L2.CX P w) _ _ _ _ _ := ok_held T B
  have G_both : FnOk P w K mg base (L2.CX P w) _ _ _ _ _ := ok_both T B
  have G_either : FnOk P w K mg base (L2.CX P w) _ _ _ _ _ := ok_either T B
  have G_less : FnOk P w K mg base (L2.CX P w) _ _ _ _ _ := ok_less T B
  have G_l_kinds : FnOk P w K mg base CX0 _ _ _ _ _ := ok_kinds T
  refine T.F_l_caught.ok sc_l_caught (fun vs H Q E h => ?_) (fun cdv A outer s H vs Q E hr h => ?_)
  · obtain ⟨wy, v, u, ss, rs, rfl, _⟩ := h
    rfl
  · obtain ⟨wy, v, u, ss, rs, rfl, tb, hv, hu, q⟩ := h
    obtain ⟨a, us, rfl, ha, hS⟩ := hv
    obtain ⟨b, ws, rfl, hb, hR⟩ := hu
    refine ⟨_, (pss_cons (ps_set (i := 3) sc_l_caught.nd rfl (Or.inl rfl) pe_non)
      (pss_cons (ps_try_kept 4 3 rfl rfl sc_l_caught.nd rfl rfl rfl rfl ⟨rfl, by decide, Or.inl T.g_ShelfError⟩ rfl (fun W pn xe tk _ => (pss_one (ps_if (pt_cmpR op_eq (pv 0) pe_int (nomark _)) (pss_one (ps_expr (pe_callS G_held (hr.mono (by decide)) (by rfl) T.g_held T.F_held.kp T.b_held (fun σ => passAt tk σ) (pa_cons (pv 1) pa_nil)))) (pss_one (ps_if (pt_cmpR op_eq (pv 0) pe_int (nomark _)) (pss_one (ps_expr (pe_callS G_both (hr.mono (by decide)) (by rfl) T.g_both T.F_both.kp T.b_both (fun σ => passAt tk σ) (pa_cons (pv 1) (pa_cons (pv 2) pa_nil))))) (pss_one (ps_if (pt_cmpR op_eq (pv 0) pe_int (nomark _)) (pss_one (ps_expr (pe_callS G_either (hr.mono (by decide)) (by rfl) T.g_either T.F_either.kp T.b_either (fun σ => passAt tk σ) (pa_cons (pv 1) (pa_cons (pv 2) pa_nil))))) (pss_one (ps_expr (pe_callS G_less (hr.mono (by decide)) (by rfl) T.g_less T.F_less.kp T.b_less (fun σ => passAt tk σ) (pa_cons (pv 1) (pa_cons (pv 2) pa_nil)))))))))))))
      (pss_one (ps_ret (pe_call G_l_kinds (hr.mono (by decide)) (by rfl) T.g_l_kinds T.F_l_kinds.kp T.b_l_kinds .nil pass0 (pa_cons (pv 3) pa_nil)))))), ?_⟩
    generalize hn : (if wy = 0 then ref1 ss else first2 (ref1 ss) (ref1 rs)) = n at q
    have good : ∀ H1, Chg T.tabs H H1 → Tb T.tabs H1 → n = 0 → (tRet (tCall (spKinds T) [] E0 (tCons (tVar 3) tNil))) { nx := fun _ H' => Q .non H', rt := Q } [some (.int wy), some (.ref a), some (.ref b), some .non, none] H1 := fun H1 c1 tb1 e => by
      refine ⟨_, rfl, .non, [], rfl, .inr ⟨rfl, rfl⟩, fun H' p s1 np hp => q H' p (c1.trans (Chg.of_same s1)) (tb1.same s1) ?_⟩
      rw [e]
      exact hp
    have bad : ∀ H1, Chg T.tabs H H1 → Tb T.tabs H1 → n ≠ 0 → ∀ x, H1 x = none → (tRet (tCall (spKinds T) [] E0 (tCons (tVar 3) tNil))) { nx := fun _ H' => Q .non H', rt := Q } [some (.int wy), some (.ref a), some (.ref b), some (.ref x), none] (upd H1 x (ExP (.ref (T.refC n)) x)) := fun H1 c1 tb1 e x nx => by
      obtain ⟨ea, sa⟩ := upd_at (o := ExP (.ref (T.refC n)) x) nx
      exact ⟨_, rfl, .ref x, codeR n, rfl, refC_kd T e (isEx_P ea), fun H' p s1 np hp => q H' p (c1.trans (Chg.of_same (sa.trans s1))) ((tb1.same sa).same s1) hp⟩
    have two : wy ≠ 0 → n = first2 (ref1 ss) (ref1 rs) := fun e => by
      rw [if_neg e] at hn
      exact hn.symm
    -- what both, either and less have in common
    have z0 : wy ≠ 0 → ref1 ss = 0 → ref1 rs = 0 → n = 0 := fun e e1 e2 => by
      rw [two e, e1, e2]
      rfl
    have z1 : wy ≠ 0 → ∀ m, m ≠ 0 → (ref1 ss = m ∨ (ref1 ss = 0 ∧ ref1 rs = m)) → n = m := fun e m m0 h => by
      rw [two e]
      unfold first2
      rcases h with h | ⟨h1, h2⟩
      · rw [if_neg (by omega)]
        exact h
      · rw [if_pos h1]
        exact h2
    refine ⟨_, rfl, rfl, _, rfl, ite2 (fun e => ?_) (fun e => ?_)⟩
    · have e0 : wy = 0 := V.int.inj (of_decide_eq_true e)
      have en : n = ref1 ss := by
        rw [if_pos e0] at hn
        exact hn.symm
      refine ⟨_, rfl, a, us, ss, rfl, ha, hS, tb, fun h1 h2 H1 c1 tb1 => good H1 c1 tb1 (by rw [en, ref1_ok h1 h2]), fun h1 => ?_, fun h1 h2 H1 c1 tb1 => ?_⟩
      · have e1 : n = 1 := by rw [en, ref1_span h1]
        subst e1
        exact ⟨rfl, exm_all T (refC_mem T 1), fun x nx => bad H (Chg.refl _ _) tb (by decide) x nx⟩
      · have e2 : n = 2 := by rw [en, ref1_cov h1 h2]
        subst e2
        exact ⟨rfl, exm_all T (refC_mem T 2), fun x nx => bad H1 c1 tb1 (by decide) x nx⟩
    · have e0 : ¬ wy = 0 := fun z => e (decide_eq_true (congrArg V.int z))
      refine ⟨_, rfl, rfl, _, rfl, ite2 (fun _ => ?_) (fun _ => ?_)⟩
      · exact ⟨_, rfl, _, rfl, a, b, us, ws, ss, rs, rfl, ⟨ha, hS, hb, hR, tb⟩, fun r1 r2 H1 p xs c c1 tb1 _ _ _ _ _ _ _ => good H1 c1 tb1 (z0 e0 r1 r2), fun m m0 h H1 c1 tb1 => ⟨rfl, exm_all T (refC_mem T m), fun x nx => by
          have em := z1 e0 m m0 h
          subst em
          exact bad H1 c1 tb1 m0 x nx⟩⟩
      · refine ⟨_, rfl, rfl, _, rfl, ite2 (fun _ => ?_) (fun _ => ?_)⟩
        · exact ⟨_, rfl, _, rfl, a, b, us, ws, ss, rs, rfl, ⟨ha, hS, hb, hR, tb⟩, fun r1 r2 H1 p xs c c1 tb1 _ _ _ _ _ _ _ => good H1 c1 tb1 (z0 e0 r1 r2), fun m m0 h H1 c1 tb1 => ⟨rfl, exm_all T (refC_mem T m), fun x nx => by
            have em := z1 e0 m m0 h
            subst em
            exact bad H1 c1 tb1 m0 x nx⟩⟩
        · exact ⟨_, rfl, _, rfl, a, b, us, ws, ss, rs, rfl, ⟨ha, hS, hb, hR, tb⟩, fun r1 r2 H1 p xs c c1 tb1 _ _ _ _ _ _ _ => good H1 c1 tb1 (z0 e0 r1 r2), fun m m0 h H1 c1 tb1 => ⟨rfl, exm_all T (refC_mem T m), fun x nx => by
            have em := z1 e0 m m0 h
            subst em
            exact bad H1 c1 tb1 m0 x nx⟩⟩
end
section
variable {P : Program} {w : World} {K : PySem.W.Frag} {mg : Str → Option Value} {base : Heap}
theorem not_cover {A B : List Span} {x y : Span} (h : ¬ x.2 < y.1) : isCoverB (A ++ x :: y :: B) = false := by
  cases e : isCoverB (A ++ x :: y :: B) with
  | false => rfl
  | true =>
    unfold isCoverB gapAll at e
    rw [Bool.and_eq_true, List.all_eq_true] at e
    have h1 := e.2 A.length (List.mem_range.mpr (by simp))
    rw [decide_eq_true_eq, List.getD_eq_getElem?_getD, List.getD_eq_getElem?_getD, List.getElem?_drop, Nat.add_comm 1 A.length] at h1
    simp at h1
    exact absurd h1 h
theorem bent_ref {A B : List Span} {x y : Span} (ok : ∀ s ∈ A ++ x :: y :: B, isSpan s = true) (h : ¬ x.2 < y.1) : ref1 (A ++ x :: y :: B) = 2 := ref1_cov (List.all_eq_true.mpr ok) (not_cover h)
theorem cut_takeZ {xs : List V} {z : Int} {k : Nat} (e : z = (k : Int)) : cutV xs none (some z) = xs.take k := by
  subst e
  unfold cutV
  rw [HT.sIx_none, HT.sIx_nat, List.drop_zero, Nat.sub_zero]
  by_cases h : k ≤ xs.length
  · rw [Nat.min_eq_left h]
  · rw [Nat.min_eq_right (by omega), List.take_length, List.take_of_length_le (by omega)]
theorem cut_dropZ {xs : List V} {z : Int} {k : Nat} (e : z = (k : Int)) (h : k ≤ xs.length) : cutV xs (some z) none = xs.drop k := by
  subst e
  unfold cutV
  rw [HT.sIx_none, HT.sIx_nat, Nat.min_eq_left h]
  exact List.take_of_length_le (by rw [List.length_drop]; exact Nat.le_refl _)
theorem Sps.take {H : Hp} : ∀ {vs : List V} {ss : List Span} (n : Nat), Sps H vs ss → Sps H (vs.take n) (ss.take n)
  | _, _, 0, _ => by
    rw [List.take_zero, List.take_zero]
    exact .nil
  | _, _, _ + 1, .nil => .nil
  | _, _, n + 1, .cons h t => .cons h (Sps.take n t)
def spGood : Sp := fun vs H Q _ => ∃ (p : Addr) (n : Nat), vs = [.ref p] ∧ Pu H p n ∧ n + 100 ≤ 1000000000 ∧
  ∀ (H' : Hp) (l : Addr) (us : List V) (ss : List Span), Chg [p] H H' → Pu H' p (n + 100) → H l = none → H' l = some (.lst us) → Sps H' us ss → Can ss → (∀ s ∈ ss, s.1 + 2 ≤ s.2) → (∀ s ∈ ss, isSpan s = true) → 2 ≤ ss.length → ss.length ≤ 8 → Q (.ref l) H'
theorem ok_good_cover (T : Tx K mg) : FnOk P w K mg base CX0 (4) T.f_l_good_cover T.fd_l_good_cover ["_law_purse_here"] spGood := by
  have G_l_draw : FnOk P w K mg base CX0 _ _ _ _ _ := ok_draw T
  have G_l_number : FnOk P w K mg base CX0 _ _ _ _ _ := ok_number T
  refine T.F_l_good_cover.ok sc_l_good_cover (fun vs H Q E h => ?_) (fun cdv A outer s H vs Q E hr h => ?_)
  · obtain ⟨p, n, rfl, _⟩ := h
    rfl
  · obtain ⟨p, n, rfl, hp, hn, q⟩ := h
    refine ⟨_, (pss_cons (ps_set (i := 1) sc_l_good_cover.nd rfl (Or.inl rfl) (pe_call G_l_number (hr.mono (by decide)) (by rfl) T.g_l_number T.F_l_number.kp T.b_l_number .nil pass0 (pa_cons (pv 0) (pa_cons (pe_op op_pow pe_int pe_int) pa_nil))))
      (pss_cons (ps_set (i := 2) sc_l_good_cover.nd rfl (Or.inl rfl) (pe_lst pa_nil))
      (pss_cons (ps_for PassesOwn.never (by rfl) (pi_range1 (by rfl) T.m_range (pa_cons (pe_op op_add pe_int (pe_call G_l_draw (hr.mono (by decide)) (by rfl) T.g_l_draw T.F_l_draw.kp T.b_l_draw .nil pass0 (pa_cons (pv 0) (pa_cons pe_int pa_nil)))) pa_nil)) (pg_name (i := 3) sc_l_good_cover.nd rfl (Or.inl rfl))
        (pss_cons (ps_set (i := 4) sc_l_good_cover.nd rfl (Or.inl rfl) (pe_op op_add (pe_op op_add (pv 1) pe_int) (pe_call G_l_draw (hr.mono (by decide)) (by rfl) T.g_l_draw T.F_l_draw.kp T.b_l_draw .nil pass0 (pa_cons (pv 0) (pa_cons (pe_ix ix_list (pe_lst (pa_cons pe_int (pa_cons (pe_op op_pow pe_int pe_int) pa_nil))) (pe_call G_l_draw (hr.mono (by decide)) (by rfl) T.g_l_draw T.F_l_draw.kp T.b_l_draw .nil pass0 (pa_cons (pv 0) (pa_cons pe_int pa_nil))) (fun _ _ => rfl)) pa_nil)))))
      (pss_cons (ps_expr (pe_bm PySem.F.plainAttrs_list PySem.F.slot_list_append PySem.F.type_list_append mt_append (pv 2) (pa_cons (pe_tup (pa_cons (pv 1) (pa_cons (pv 4) pa_nil))) pa_nil)))
      (pss_one (ps_set (i := 1) sc_l_good_cover.nd rfl (Or.inl rfl) (pe_op op_add (pe_op op_add (pv 4) pe_int) (pe_call G_l_draw (hr.mono (by decide)) (by rfl) T.g_l_draw T.F_l_draw.kp T.b_l_draw .nil pass0 (pa_cons (pv 0) (pa_cons pe_int pa_nil)))))))))
      (pss_one (ps_ret (pv 2)))))), ?_⟩
    have e11 : (10 : Int) ^ (11 : Int).toNat = 100000000000 := by decide
    have e9 : (10 : Int) ^ (9 : Int).toNat = 1000000000 := by decide
    refine ⟨_, rfl, _, _, rfl, rfl, ⟨by decide, by decide, by decide⟩, p, _, n, rfl, hp, by omega, ?_, ?_, fun H1 x c1 p1 x0 x1 => ?_⟩
    · rw [e11]
      decide
    · rw [e11]
      decide
    rw [e11] at x0 x1
    refine ⟨Nat.zero_le _, fun f nf => ?_⟩
    obtain ⟨gf, sf⟩ := upd_at (o := .lst []) nf
    have nfp : f ≠ p := (p1.ne nf).symm
    have hf0 : H f = none := c1.free (nmem1 nfp) nf
    refine ⟨_, rfl, p, 7, n + 6, rfl, p1.same sf, by omega, by decide, by decide, fun H2 r c2 p2 r0 r1 => ?_⟩
    refine ⟨_, _, rfl, rfl, _, rfl, by omega, by omega, ?_⟩
    refine for_range (lo := 0) (n := (2 + r).toNat) (fun i σ H' => ∃ (low : Int) (y3 y4 : Option V) (us : List V) (ss : List Span), σ = [some (.ref p), some (.int low), some (.ref f), y3, y4] ∧ Chg [p] H H' ∧ Pu H' p (n + 9 + 9 * i) ∧ H' f = some (.lst us) ∧ Sps H' us ss ∧ Can ss ∧ (∀ s ∈ ss, s.1 + 2 ≤ s.2 ∧ s.2 < low) ∧ (∀ s ∈ ss, isSpan s = true) ∧ ss.length = i ∧ -100000000000 ≤ low ∧ low ≤ 100000000000 + (i : Int) * 1000000005)
      ⟨x, none, none, [], [], rfl, c1.trans ((Chg.of_same sf).trans c2), p2, c2 _ _ (nmem1 nfp) gf, .nil, can_nil, (fun s hs => nomatch hs), (fun s hs => nomatch hs), rfl, by omega, by omega⟩ ?_ ?_
    · rintro i σ H' hi ⟨low, y3, y4, us, ss, rfl, cc, pu, hf, hS, can, far, ok, hl, b1, b2⟩
      have i8 : i < 8 := by omega
      have hul := hS.len
      refine ⟨_, rfl, _, _, rfl, rfl, _, rfl, _, _, rfl, rfl, ⟨by decide, by decide, by decide⟩, small_le (by simp), fun l nl => ?_⟩
      obtain ⟨gl, sl⟩ := upd_at (o := .lst [.int 3, .int ((10 : Int) ^ (9 : Int).toNat)]) nl
      have nlp : l ≠ p := (pu.ne nl).symm
      refine ⟨_, rfl, p, 2, _, rfl, pu.same sl, by omega, by decide, by decide, fun H3 z c3 p3 z0 z1 => ?_⟩
      obtain ⟨m, hm, m0, m1⟩ : ∃ m : Int, ([.int 3, .int ((10 : Int) ^ (9 : Int).toNat)] : List V)[z.toNat]? = some (.int m) ∧ 3 ≤ m ∧ m ≤ 1000000000 := by
        obtain rfl | rfl : z = 0 ∨ z = 1 := by omega
        · exact ⟨3, rfl, by decide, by decide⟩
        · exact ⟨_, rfl, by rw [e9]; decide, by rw [e9]; decide⟩
      refine ⟨l, _, z, _, rfl, rfl, SqL.of (c3 _ _ (nmem1 nlp) gl), at_of (j := z.toNat) (by omega) hm, p, m, _, rfl, p3, by omega, by omega, by omega, fun H4 d c4 p4 d0 d1 => ?_⟩
      refine ⟨_, _, rfl, rfl, ?_⟩
      have c34 := c3.trans c4
      have hf4 := c34 _ _ (nmem1 nfp) (sl _ _ hf)
      have hS4 := (hS.same sl).chg c34 (pu.same sl).lsts
      refine ⟨_, rfl, .inl ⟨rfl, _, SqL.of hf4⟩, _, rfl, _, rfl, (by show 2 ≤ sizeLine; decide), fun t nt => ?_⟩
      obtain ⟨gt, st⟩ := upd_at (o := .tup [.int low, .int (low + 2 + d)]) nt
      have hf5 := st _ _ hf4
      have cf : Chg [f] (upd H4 t (.tup [.int low, .int (low + 2 + d)])) (upd (upd H4 t (.tup [.int low, .int (low + 2 + d)])) f (.lst (us ++ [.ref t]))) := Chg.upd List.mem_cons_self
      have lf : Lsts [f] (upd H4 t (.tup [.int low, .int (low + 2 + d)])) := Lsts.of1 hf5
      refine ⟨f, us, .ref t, rfl, rfl, hf5, small_lt (by omega), ?_⟩
      have hS6 := ((hS4.same st).app (.one (s := (low, low + 2 + d)) ⟨t, rfl, gt⟩)).chg cf lf
      have p6 := (p4.same st).chg cf (nmem1 nfp.symm)
      have g6 : (upd (upd H4 t (.tup [.int low, .int (low + 2 + d)])) f (.lst (us ++ [.ref t]))) f = some (.lst (us ++ [.ref t])) := upd_same
      have cc6 : Chg [p] H (upd (upd H4 t (.tup [.int low, .int (low + 2 + d)])) f (.lst (us ++ [.ref t]))) := fun b o nb hb => by
        have h3 := (cc.trans ((Chg.of_same sl).trans (c34.trans (Chg.of_same st)))) b o nb hb
        rw [upd_ne (ne_of_none hb hf0)]
        exact h3
      revert hS6 p6 g6 cc6
      generalize upd (upd H4 t (.tup [.int low, .int (low + 2 + d)])) f (.lst (us ++ [.ref t])) = H6
      intro hS6 p6 g6 cc6
      refine ⟨_, rfl, _, _, rfl, rfl, _, rfl, p, 3, _, rfl, p6, by omega, by decide, by decide, fun H7 e c7 p7 e0 e1 => ?_⟩
      refine ⟨_, _, rfl, rfl, low + 2 + d + 1 + e, _, _, us ++ [.ref t], ss ++ [(low, low + 2 + d)], rfl, cc6.trans c7, p7.mono (by omega), c7 _ _ (nmem1 nfp) g6, hS6.chg c7 p6.lsts, can_snoc can (by show low < low + 2 + d; omega) (fun s hs => (far s hs).2), fun s hs => ?_, fun s hs => ?_, by rw [List.length_append, hl]; rfl, by omega, by omega⟩
      · rcases List.mem_append.mp hs with h | h
        · have := far s h
          exact ⟨this.1, by omega⟩
        · rw [List.mem_singleton.mp h]
          exact ⟨by show low + 2 ≤ low + 2 + d; omega, by show low + 2 + d < low + 2 + d + 1 + e; omega⟩
      · rcases List.mem_append.mp hs with h | h
        · exact ok s h
        · rw [List.mem_singleton.mp h]
          exact (isSpan_iff (low, low + 2 + d)).mpr ⟨by show -999999999999 ≤ low; omega, by show low < low + 2 + d; omega, by show low + 2 + d ≤ 999999999999; omega⟩
    · rintro σ H' ⟨low, y3, y4, us, ss, rfl, cc, pu, hf, hS, can, far, ok, hl, b1, b2⟩
      exact ⟨_, rfl, q H' f us ss cc (pu.mono (by omega)) hf0 hf hS can (fun s hs => (far s hs).1) ok (by omega) (by omega)⟩
def spBent : Sp := fun vs H Q _ => ∃ (p l : Addr) (n : Nat) (us : List V) (ss : List Span), vs = [.ref p, .ref l] ∧ Pu H p n ∧ n + 100 ≤ 1000000000 ∧ l ≠ p ∧ H l = some (.lst us) ∧ Sps H us ss ∧ Can ss ∧ (∀ s ∈ ss, s.1 + 2 ≤ s.2) ∧ (∀ s ∈ ss, isSpan s = true) ∧ 2 ≤ ss.length ∧ ss.length ≤ 8 ∧
  ∀ (H' : Hp) (b : Addr) (bs : List V) (cs : List Span), Chg [p] H H' → Pu H' p (n + 9) → H b = none → H' b = some (.lst bs) → Sps H' bs cs → cs.all isSpan = true → isCoverB cs = false → cs.length ≤ 20 → Q (.ref b) H'
theorem ok_bent (T : Tx K mg) : FnOk P w K mg base CX0 (3) T.f_l_bent T.fd_l_bent ["_law_purse_here", "_law_cover"] spBent := by
  have G_l_draw : FnOk P w K mg base CX0 _ _ _ _ _ := ok_draw T
  refine T.F_l_bent.ok sc_l_bent (fun vs H Q E h => ?_) (fun cdv A outer s H vs Q E hr h => ?_)
  · obtain ⟨p, l, n, us, ss, rfl, _⟩ := h
    rfl
  · obtain ⟨p, l, n, us, ss, rfl, hp, hn, nlp, hl, hS, can, two, ok, l2, l8, q⟩ := h
    refine ⟨_, (pss_cons (ps_set (i := 2) sc_l_bent.nd rfl (Or.inl rfl) (pe_call G_l_draw (hr.mono (by decide)) (by rfl) T.g_l_draw T.F_l_draw.kp T.b_l_draw .nil pass0 (pa_cons (pv 0) (pa_cons pe_int pa_nil))))
      (pss_cons (ps_set (i := 3) sc_l_bent.nd rfl (Or.inl rfl) (pe_call G_l_draw (hr.mono (by decide)) (by rfl) T.g_l_draw T.F_l_draw.kp T.b_l_draw .nil pass0 (pa_cons (pv 0) (pa_cons (pe_op op_sub (pe_callB call_len_seq (by rfl) T.m_len PySem.boot_len (pa_cons (pv 1) pa_nil)) pe_int) pa_nil))))
      (pss_cons (ps_asg (pe_ix ix_list (pv 1) (pv 3) (fun _ _ => rfl)) (pg_tup rfl (pgs_cons (pg_name (i := 4) sc_l_bent.nd rfl (Or.inl rfl)) (pgs_cons (pg_name (i := 5) sc_l_bent.nd rfl (Or.inl rfl)) pgs_nil))))
      (pss_cons (ps_if (pt_cmpR op_eq (pv 2) pe_int (nomark _)) (pss_one (ps_ret (pe_op op_cat (pe_op op_cat (pe_slice sl_list (pv 1) po_none (po_some (pv 3))) (pe_lst (pa_cons (pe_ix ix_list (pv 1) (pv 3) (fun _ _ => rfl)) pa_nil))) (pe_slice sl_list (pv 1) (po_some (pv 3)) po_none)))) pss_nil)
      (pss_cons (ps_if (pt_cmpR op_eq (pv 2) pe_int (nomark _)) (pss_one (ps_ret (pe_op op_cat (pe_op op_cat (pe_slice sl_list (pv 1) po_none (po_some (pv 3))) (pe_lst (pa_cons (pe_ix ix_list (pv 1) (pe_op op_add (pv 3) pe_int) (fun _ _ => rfl)) (pa_cons (pe_ix ix_list (pv 1) (pv 3) (fun _ _ => rfl)) pa_nil)))) (pe_slice sl_list (pv 1) (po_some (pe_op op_add (pv 3) pe_int)) po_none)))) pss_nil)
      (pss_cons (ps_if (pt_cmpR op_eq (pv 2) pe_int (nomark _)) (pss_cons (ps_set (i := 6) sc_l_bent.nd rfl (Or.inl rfl) (pe_op op_add (pe_op op_add (pv 4) pe_int) (pe_call G_l_draw (hr.mono (by decide)) (by rfl) T.g_l_draw T.F_l_draw.kp T.b_l_draw .nil pass0 (pa_cons (pv 0) (pa_cons (pe_op op_sub (pe_op op_sub (pv 5) (pv 4)) pe_int) pa_nil)))))
      (pss_one (ps_ret (pe_op op_cat (pe_op op_cat (pe_slice sl_list (pv 1) po_none (po_some (pv 3))) (pe_lst (pa_cons (pe_tup (pa_cons (pv 4) (pa_cons (pv 6) pa_nil))) (pa_cons (pe_tup (pa_cons (pv 6) (pa_cons (pv 5) pa_nil))) pa_nil)))) (pe_slice sl_list (pv 1) (po_some (pe_op op_add (pv 3) pe_int)) po_none))))) pss_nil)
      (pss_cons (ps_if (pt_cmpR op_eq (pv 2) pe_int (nomark _)) (pss_one (ps_ret (pe_op op_cat (pe_op op_cat (pe_slice sl_list (pv 1) po_none (po_some (pv 3))) (pe_lst (pa_cons (pe_tup (pa_cons (pv 4) (pa_cons (pe_ix ix_tup (pe_ix ix_list (pv 1) (pe_op op_add (pv 3) pe_int) (fun _ _ => rfl)) pe_int (fun _ _ => rfl)) pa_nil))) pa_nil))) (pe_slice sl_list (pv 1) (po_some (pe_op op_add (pv 3) pe_int)) po_none)))) pss_nil)
      (pss_one (ps_ret (pe_op op_cat (pe_op op_cat (pe_slice sl_list (pv 1) po_none (po_some (pv 3))) (pe_lst (pa_cons (pe_tup (pa_cons (pv 4) (pa_cons (pe_op op_add (pe_ix ix_tup (pe_ix ix_list (pv 1) (pe_op op_add (pv 3) pe_int) (fun _ _ => rfl)) pe_int (fun _ _ => rfl)) pe_int) pa_nil))) pa_nil))) (pe_slice sl_list (pv 1) (po_some (pe_op op_add (pv 3) pe_int)) po_none))))))))))), ?_⟩
    have hul := hS.len
    refine ⟨_, rfl, p, 5, n, rfl, hp, by omega, by decide, by decide, fun H1 wy c1 p1 w0 w1 => ?_⟩
    have hl1 := c1 _ _ (nmem1 nlp) hl
    have hS1 := hS.chg c1 hp.lsts
    refine ⟨_, rfl, _, rfl, l, us, rfl, .inl (SqL.of hl1), _, _, rfl, rfl, p, _, n + 3, rfl, p1, by omega, by omega, by omega, fun H2 r c2 p2 r0 r1 => ?_⟩
    obtain ⟨k, rfl⟩ := Int.eq_ofNat_of_zero_le r0
    have hl2 := c2 _ _ (nmem1 nlp) hl1
    have hS2 := hS1.chg c2 p1.lsts
    have cc := c1.trans c2
    have k1 : k + 1 < us.length := by omega
    have gk : us[k]? = some us[k] := List.getElem?_eq_getElem (by omega)
    have gk1 : us[k + 1]? = some us[k + 1] := List.getElem?_eq_getElem k1
    obtain ⟨s, es, hs⟩ := hS2.get gk
    obtain ⟨t, et, ht⟩ := hS2.get gk1
    have ds := drop_at es
    have dt := drop_at et
    have cs : Can (s :: t :: ss.drop (k + 1 + 1)) := by
      rw [← dt, ← ds]
      exact can_drop can k
    have st : s.2 < t.1 := (List.pairwise_cons.mp cs.1).1 t List.mem_cons_self
    have sm := List.mem_of_getElem? es
    have tm := List.mem_of_getElem? et
    have s2 := two s sm
    have t2 := two t tm
    have bs := (isSpan_iff s).mp (ok s sm)
    have bt := (isSpan_iff t).mp (ok t tm)
    have okT : ∀ z ∈ ss.take k, isSpan z = true := fun z hz => ok z (List.mem_of_mem_take hz)
    have okD : ∀ (j : Nat), ∀ z ∈ ss.drop j, isSpan z = true := fun j z hz => ok z (List.mem_of_mem_drop hz)
    have done : ∀ (H2 H4 : Hp) (b : Addr) (bs : List V) (cs : List Span) (x y : Span) (B : List Span), Chg [p] H H2 → Pu H2 p (n + 9) → Same H2 H4 → H4 b = none → Sps H4 bs cs → cs = ss.take k ++ x :: y :: B → ¬ x.2 < y.1 → isSpan x = true → isSpan y = true → (∀ z ∈ B, isSpan z = true) → cs.length ≤ 20 → Q (.ref b) (upd H4 b (.lst bs)) := fun H2 H4 b bs cs x y B cc p2 s4 nb hB e nxy ox oy oB cl => by
      obtain ⟨gb, sb⟩ := upd_at (o := .lst bs) nb
      have nbp : b ≠ p := ((p2.same s4).ne nb).symm
      refine q _ b bs cs (cc.trans (Chg.of_same (s4.trans sb))) ((p2.same s4).same sb) (cc.free (nmem1 nbp) (s4.free nb)) gb (hB.same sb) ?_ ?_ cl
      · rw [List.all_eq_true, e]
        intro z hz
        rcases List.mem_append.mp hz with h | h
        · exact okT z h
        · rcases List.mem_cons.mp h with h | h
          · rw [h]
            exact ox
          · rcases List.mem_cons.mp h with h | h
            · rw [h]
              exact oy
            · exact oB z h
      · rw [e]
        exact not_cover nxy
    obtain ⟨ts, es', hts⟩ := id hs
    obtain ⟨tt, et', htt⟩ := id ht
    rw [es'] at gk
    rw [et'] at gk1
    -- low, high
    refine ⟨_, rfl, _, rfl, l, _, _, _, rfl, rfl, SqL.of hl2, atI_nat gk, ts, _, rfl, SqT.of hts, rfl, _, _, rfl, _, _, rfl, rfl, ?_⟩
    have tl : (ss.take k).length ≤ 8 := by
      rw [List.length_take]
      omega
    have dl : ∀ j, (ss.drop j).length ≤ 8 - j := fun j => by
      rw [List.length_drop]
      omega
    have tlu : (us.take k).length ≤ 8 := by
      rw [List.length_take]
      omega
    have dlu : ∀ j, (us.drop j).length ≤ 8 := fun j => by
      rw [List.length_drop]
      omega
    refine ⟨_, rfl, rfl, _, rfl, ite2 (fun e => ?_) (fun _ => ?_)⟩
    · refine ⟨_, rfl, _, rfl, _, rfl, l, us, rfl, SqL.of hl2, fun c1 n1 => ?_⟩
      rw [cut_takeZ (k := k) rfl]
      obtain ⟨g1, s1⟩ := upd_at (o := .lst (us.take k)) n1
      refine ⟨_, rfl, _, rfl, l, _, _, _, rfl, rfl, SqL.of (s1 _ _ hl2), atI_nat gk, ?_⟩
      refine ⟨small_le (by simp), fun c2 n2 => ?_⟩
      obtain ⟨g2, u2⟩ := upd_at (o := .lst [.ref ts]) n2
      refine ⟨c1, c2, _, _, rfl, rfl, u2 _ _ g1, g2, small_le (by simp; omega), fun c3 n3 => ?_⟩
      obtain ⟨g3, u3⟩ := upd_at (o := .lst (us.take k ++ [.ref ts])) n3
      have a3 := (s1.trans (u2.trans u3))
      refine ⟨_, rfl, _, rfl, _, rfl, l, us, rfl, SqL.of (a3 _ _ hl2), fun c4 n4 => ?_⟩
      rw [cut_dropZ (k := k) rfl (by omega)]
      obtain ⟨g4, u4⟩ := upd_at (o := .lst (us.drop (k))) n4
      refine ⟨c3, c4, _, _, rfl, rfl, u4 _ _ g3, g4, small_le (by have := dlu (k); simp; omega), fun c5 n5 => ?_⟩
      have a4 := a3.trans u4
      refine done H2 _ c5 _ (ss.take k ++ [s] ++ ss.drop (k)) s s (ss.drop (k + 1)) cc (p2.mono (by omega)) a4 n5 (((((hS2.take k).same a4).app (.one (Spn.same ⟨ts, rfl, hts⟩ a4))).app ((hS2.drop (k)).same a4))) ?_ (by omega) (ok s sm) (ok s sm) (okD _) ?_
      · rw [ds, List.append_assoc]
        rfl
      · have := dl (k)
        simp only [List.length_append, List.length_cons, List.length_nil]
        omega
    refine ⟨_, rfl, rfl, _, rfl, ite2 (fun e => ?_) (fun _ => ?_)⟩
    · refine ⟨_, rfl, _, rfl, _, rfl, l, us, rfl, SqL.of hl2, fun c1 n1 => ?_⟩
      rw [cut_takeZ (k := k) rfl]
      obtain ⟨g1, s1⟩ := upd_at (o := .lst (us.take k)) n1
      refine ⟨_, rfl, _, rfl, _, _, rfl, rfl, l, _, _, _, rfl, rfl, SqL.of (s1 _ _ hl2), at_of (j := k + 1) (by omega) gk1, ?_⟩
      refine ⟨_, rfl, _, rfl, l, _, _, _, rfl, rfl, SqL.of (s1 _ _ hl2), atI_nat gk, ?_⟩
      refine ⟨small_le (by simp), fun c2 n2 => ?_⟩
      obtain ⟨g2, u2⟩ := upd_at (o := .lst [.ref tt, .ref ts]) n2
      refine ⟨c1, c2, _, _, rfl, rfl, u2 _ _ g1, g2, small_le (by simp; omega), fun c3 n3 => ?_⟩
      obtain ⟨g3, u3⟩ := upd_at (o := .lst (us.take k ++ [.ref tt, .ref ts])) n3
      have a3 := (s1.trans (u2.trans u3))
      refine ⟨_, rfl, _, rfl, _, _, rfl, rfl, _, rfl, l, us, rfl, SqL.of (a3 _ _ hl2), fun c4 n4 => ?_⟩
      rw [cut_dropZ (k := k + 2) (by omega) (by omega)]
      obtain ⟨g4, u4⟩ := upd_at (o := .lst (us.drop (k + 2))) n4
      refine ⟨c3, c4, _, _, rfl, rfl, u4 _ _ g3, g4, small_le (by have := dlu (k + 2); simp; omega), fun c5 n5 => ?_⟩
      have a4 := a3.trans u4
      refine done H2 _ c5 _ (ss.take k ++ [t, s] ++ ss.drop (k + 2)) t s (ss.drop (k + 2)) cc (p2.mono (by omega)) a4 n5 (((((hS2.take k).same a4).app (.cons (Spn.same ⟨tt, rfl, htt⟩ a4) (.one (Spn.same ⟨ts, rfl, hts⟩ a4)))).app ((hS2.drop (k + 2)).same a4))) ?_ (by omega) (ok t tm) (ok s sm) (okD _) ?_
      · rw [List.append_assoc]
        rfl
      · have := dl (k + 2)
        simp only [List.length_append, List.length_cons, List.length_nil]
        omega
    refine ⟨_, rfl, rfl, _, rfl, ite2 (fun e => ?_) (fun _ => ?_)⟩
    · refine ⟨_, rfl, _, _, rfl, rfl, _, rfl, _, rfl, _, rfl, _, _, rfl, rfl, _, _, rfl, rfl, p, _, n + 6, rfl, p2, by omega, by omega, by omega, fun H3 d ch3 p3 d0 d1 => ?_⟩
      refine ⟨_, _, rfl, rfl, ?_⟩
      have hl3 := ch3 _ _ (nmem1 nlp) hl2
      have hS3 := hS2.chg ch3 p2.lsts
      refine ⟨_, rfl, _, rfl, _, rfl, l, us, rfl, SqL.of hl3, fun c1 n1 => ?_⟩
      rw [cut_takeZ (k := k) rfl]
      obtain ⟨g1, s1⟩ := upd_at (o := .lst (us.take k)) n1
      refine ⟨_, rfl, _, rfl, (by show 2 ≤ sizeLine; decide), fun q1 nq1 => ?_⟩
      obtain ⟨gq1, uq1⟩ := upd_at (o := .tup [.int s.1, .int (s.1 + 1 + d)]) nq1
      refine ⟨_, rfl, _, rfl, (by show 2 ≤ sizeLine; decide), fun q2 nq2 => ?_⟩
      obtain ⟨gq2, uq2⟩ := upd_at (o := .tup [.int (s.1 + 1 + d), .int s.2]) nq2
      refine ⟨small_le (by simp), fun c2 n2 => ?_⟩
      obtain ⟨g2, u2⟩ := upd_at (o := .lst [.ref q1, .ref q2]) n2
      refine ⟨c1, c2, _, _, rfl, rfl, (uq1.trans (uq2.trans u2)) _ _ g1, g2, small_le (by simp; omega), fun c3 n3 => ?_⟩
      obtain ⟨g3, u3⟩ := upd_at (o := .lst (us.take k ++ [.ref q1, .ref q2])) n3
      have a3 := (s1.trans (uq1.trans (uq2.trans (u2.trans u3))))
      refine ⟨_, rfl, _, rfl, _, _, rfl, rfl, _, rfl, l, us, rfl, SqL.of (a3 _ _ hl3), fun c4 n4 => ?_⟩
      rw [cut_dropZ (k := k + 1) (by omega) (by omega)]
      obtain ⟨g4, u4⟩ := upd_at (o := .lst (us.drop (k + 1))) n4
      refine ⟨c3, c4, _, _, rfl, rfl, u4 _ _ g3, g4, small_le (by have := dlu (k + 1); simp; omega), fun c5 n5 => ?_⟩
      have a4 := a3.trans u4
      refine done H3 _ c5 _ (ss.take k ++ [(s.1, s.1 + 1 + d), (s.1 + 1 + d, s.2)] ++ ss.drop (k + 1)) (s.1, s.1 + 1 + d) (s.1 + 1 + d, s.2) (ss.drop (k + 1)) (cc.trans ch3) p3 a4 n5 (((((hS3.take k).same a4).app (.cons ⟨q1, rfl, (uq2.trans (u2.trans (u3.trans u4))) _ _ gq1⟩ (.one ⟨q2, rfl, (u2.trans (u3.trans u4)) _ _ gq2⟩))).app ((hS3.drop (k + 1)).same a4))) ?_ (by show ¬ s.1 + 1 + d < s.1 + 1 + d; omega) ((isSpan_iff (s.1, s.1 + 1 + d)).mpr ⟨bs.1, by show s.1 < s.1 + 1 + d; omega, by show s.1 + 1 + d ≤ 999999999999; omega⟩) ((isSpan_iff (s.1 + 1 + d, s.2)).mpr ⟨by show -999999999999 ≤ s.1 + 1 + d; omega, by show s.1 + 1 + d < s.2; omega, bs.2.2⟩) (okD _) ?_
      · rw [List.append_assoc]
        rfl
      · have := dl (k + 1)
        simp only [List.length_append, List.length_cons, List.length_nil]
        omega
    refine ⟨_, rfl, rfl, _, rfl, ite2 (fun e => ?_) (fun _ => ?_)⟩
    · refine ⟨_, rfl, _, rfl, _, rfl, l, us, rfl, SqL.of hl2, fun c1 n1 => ?_⟩
      rw [cut_takeZ (k := k) rfl]
      obtain ⟨g1, s1⟩ := upd_at (o := .lst (us.take k)) n1
      refine ⟨_, rfl, _, rfl, _, rfl, _, _, rfl, rfl, l, _, _, _, rfl, rfl, SqL.of (s1 _ _ hl2), at_of (j := k + 1) (by omega) gk1, tt, _, _, _, rfl, rfl, SqT.of (s1 _ _ htt), atI_nat (j := 0) rfl, (by show 2 ≤ sizeLine; decide), fun q1 nq1 => ?_⟩
      obtain ⟨gq1, uq1⟩ := upd_at (o := .tup [.int s.1, .int (t.1)]) nq1
      refine ⟨small_le (by simp), fun c2 n2 => ?_⟩
      obtain ⟨g2, u2⟩ := upd_at (o := .lst [.ref q1]) n2
      refine ⟨c1, c2, _, _, rfl, rfl, (uq1.trans u2) _ _ g1, g2, small_le (by simp; omega), fun c3 n3 => ?_⟩
      obtain ⟨g3, u3⟩ := upd_at (o := .lst (us.take k ++ [.ref q1])) n3
      have a3 := (s1.trans (uq1.trans (u2.trans u3)))
      refine ⟨_, rfl, _, rfl, _, _, rfl, rfl, _, rfl, l, us, rfl, SqL.of (a3 _ _ hl2), fun c4 n4 => ?_⟩
      rw [cut_dropZ (k := k + 1) (by omega) (by omega)]
      obtain ⟨g4, u4⟩ := upd_at (o := .lst (us.drop (k + 1))) n4
      refine ⟨c3, c4, _, _, rfl, rfl, u4 _ _ g3, g4, small_le (by have := dlu (k + 1); simp; omega), fun c5 n5 => ?_⟩
      have a4 := a3.trans u4
      refine done H2 _ c5 _ (ss.take k ++ [(s.1, t.1)] ++ ss.drop (k + 1)) (s.1, t.1) t (ss.drop (k + 1 + 1)) cc (p2.mono (by omega)) a4 n5 (((((hS2.take k).same a4).app (.one ⟨q1, rfl, (u2.trans (u3.trans u4)) _ _ gq1⟩)).app ((hS2.drop (k + 1)).same a4))) ?_ (by show ¬ t.1 < t.1; omega) ((isSpan_iff (s.1, t.1)).mpr ⟨bs.1, by show s.1 < t.1; omega, by show t.1 ≤ 999999999999; omega⟩) (ok t tm) (okD _) ?_
      · rw [dt, List.append_assoc]
        rfl
      · have := dl (k + 1)
        simp only [List.length_append, List.length_cons, List.length_nil]
        omega
    · refine ⟨_, rfl, _, rfl, _, rfl, l, us, rfl, SqL.of hl2, fun c1 n1 => ?_⟩
      rw [cut_takeZ (k := k) rfl]
      obtain ⟨g1, s1⟩ := upd_at (o := .lst (us.take k)) n1
      refine ⟨_, rfl, _, rfl, _, rfl, _, _, rfl, rfl, l, _, _, _, rfl, rfl, SqL.of (s1 _ _ hl2), at_of (j := k + 1) (by omega) gk1, tt, _, _, _, rfl, rfl, SqT.of (s1 _ _ htt), atI_nat (j := 0) rfl, _, _, rfl, rfl, (by show 2 ≤ sizeLine; decide), fun q1 nq1 => ?_⟩
      obtain ⟨gq1, uq1⟩ := upd_at (o := .tup [.int s.1, .int (t.1 + 1)]) nq1
      refine ⟨small_le (by simp), fun c2 n2 => ?_⟩
      obtain ⟨g2, u2⟩ := upd_at (o := .lst [.ref q1]) n2
      refine ⟨c1, c2, _, _, rfl, rfl, (uq1.trans u2) _ _ g1, g2, small_le (by simp; omega), fun c3 n3 => ?_⟩
      obtain ⟨g3, u3⟩ := upd_at (o := .lst (us.take k ++ [.ref q1])) n3
      have a3 := (s1.trans (uq1.trans (u2.trans u3)))
      refine ⟨_, rfl, _, rfl, _, _, rfl, rfl, _, rfl, l, us, rfl, SqL.of (a3 _ _ hl2), fun c4 n4 => ?_⟩
      rw [cut_dropZ (k := k + 1) (by omega) (by omega)]
      obtain ⟨g4, u4⟩ := upd_at (o := .lst (us.drop (k + 1))) n4
      refine ⟨c3, c4, _, _, rfl, rfl, u4 _ _ g3, g4, small_le (by have := dlu (k + 1); simp; omega), fun c5 n5 => ?_⟩
      have a4 := a3.trans u4
      refine done H2 _ c5 _ (ss.take k ++ [(s.1, t.1 + 1)] ++ ss.drop (k + 1)) (s.1, t.1 + 1) t (ss.drop (k + 1 + 1)) cc (p2.mono (by omega)) a4 n5 (((((hS2.take k).same a4).app (.one ⟨q1, rfl, (u2.trans (u3.trans u4)) _ _ gq1⟩)).app ((hS2.drop (k + 1)).same a4))) ?_ (by show ¬ t.1 + 1 < t.1; omega) ((isSpan_iff (s.1, t.1 + 1)).mpr ⟨bs.1, by show s.1 < t.1 + 1; omega, by show t.1 + 1 ≤ 999999999999; omega⟩) (ok t tm) (okD _) ?_
      · rw [dt, List.append_assoc]
        rfl
      · have := dl (k + 1)
        simp only [List.length_append, List.length_cons, List.length_nil]
        omega
end
section
variable {P : Program} {w : World} {K : PySem.W.Frag} {mg : Str → Option Value} {base : Heap}
def twoD (ss rs : List Span) : PyData := .list [.list (ss.map spD), .list (rs.map spD)]
theorem dp_two {H : Hp} {L a b : Addr} {us ws : List V} {ss rs : List Span} (hL : H L = some (.lst [.ref a, .ref b])) (ha : H a = some (.lst us)) (hs : Sps H us ss) (hb : H b = some (.lst ws)) (hr : Sps H ws rs) : Dp K H (.ref L) (twoD ss rs) :=
  .lst (SqL.of hL) (.cons (hs.dp (SqL.of ha)) (.cons (hr.dp (SqL.of hb)) .nil))
theorem shaped_two (ss rs : List Span) : SeqAt.shaped (twoD ss rs) = true := by
  obtain ⟨h1, h2⟩ := lay_spans ss
  obtain ⟨h3, h4⟩ := lay_spans rs
  show ((PyData.canLayAll0 (ss.map spD) && (PyData.canLayAll0 (rs.map spD) && true)) && decide (max (PyData.depthAll (ss.map spD) + 1) (max (PyData.depthAll (rs.map spD) + 1) 0) + 1 ≤ 64)) = true
  rw [h1, h3, decide_eq_true (by omega)]
  rfl
theorem eqv_two (ss rs : List Span) : PyData.eqv (twoD ss rs) (twoD ss rs) = true := by
  show (PyData.eqv (.list (ss.map spD)) (.list (ss.map spD)) && (PyData.eqv (.list (rs.map spD)) (.list (rs.map spD)) && true)) = true
  rw [eqv_spans, eqv_spans, decide_eq_true rfl, decide_eq_true rfl]
  rfl
def spRefused (T : Tx K mg) : Sp := fun vs H Q _ => ∃ (v u : V) (d : Addr) (ss rs : List Span) (r : List Int), vs = [v, u, .ref d] ∧ Tb T.tabs H ∧ Ls H v ss ∧ Ls H u rs ∧ H d = some (.lst (r.map V.int)) ∧ r = codeR (first2 (ref1 ss) (ref1 rs)) ∧ ∀ H', Chg T.tabs H H' → Tb T.tabs H' → Q (.bl true) H'
theorem ok_refused (T : Tx K mg) (B : Tbs T base) : FnOk P w K mg base CX0 (10) T.f_l_refused T.fd_l_refused ["_law_one", "_law_other", "_law_due"] (spRefused T) := by
  have G_l_caught : FnOk P w K mg base CX0 _ _ _ _ _ := ok_caught T B
  refine T.F_l_refused.ok sc_l_refused (fun vs H Q E h => ?_) (fun cdv A outer s H vs Q E hr h => ?_)
  · obtain ⟨v, u, d, ss, rs, r, rfl, _⟩ := h
    rfl
  · obtain ⟨v, u, d, ss, rs, r, rfl, tb, ⟨a, us, rfl, ha, hS⟩, ⟨b, ws, rfl, hb, hR⟩, hd, hr', q⟩ := h
    refine ⟨_, (pss_cons (ps_set (i := 3) sc_l_refused.nd rfl (Or.inl rfl) (pe_lst (pa_cons (pe_callTy call_list_of (by rfl) T.m_list (by decide +kernel) (pa_cons (pv 0) pa_nil)) (pa_cons (pe_callTy call_list_of (by rfl) T.m_list (by decide +kernel) (pa_cons (pv 1) pa_nil)) pa_nil))))
      (pss_cons (ps_for PassesOwn.never (by rfl) (pi_range1 (by rfl) T.m_range (pa_cons pe_int pa_nil)) (pg_name (i := 4) sc_l_refused.nd rfl (Or.inl rfl))
        (pss_cons (ps_if (PW.pt (pw_and (pt_cmpR op_gt (pv 4) pe_int (nomark _)) (pw_and1 (pt_cmpR (op_neD hr.units) (pe_call G_l_caught (hr.mono (by decide)) (by rfl) T.g_l_caught T.F_l_caught.kp T.b_l_caught .nil pass0 (pa_cons (pv 4) (pa_cons (pv 0) (pa_cons (pv 1) pa_nil)))) (pv 2) (nomark _))))) (pss_one (ps_ret pe_bl)) pss_nil)
      (pss_one (ps_if (PW.pt (pw_and (pt_cmpR op_gt (pv 4) pe_int (nomark _)) (pw_and1 (pt_cmpR (op_neD hr.units) (pe_lst (pa_cons (pv 0) (pa_cons (pv 1) pa_nil))) (pv 3) (nomark _))))) (pss_one (ps_ret pe_bl)) pss_nil))))
      (pss_one (ps_ret pe_bl)))), ?_⟩
    refine ⟨_, rfl, a, us, rfl, .inl (SqL.of ha), fun k1 n1 => ?_⟩
    obtain ⟨g1, s1⟩ := upd_at (o := .lst us) n1
    refine ⟨_, rfl, b, ws, rfl, .inl (SqL.of (s1 _ _ hb)), fun k2 n2 => ?_⟩
    obtain ⟨g2, s2⟩ := upd_at (o := .lst ws) n2
    refine ⟨small_le (by simp), fun kk nk => ?_⟩
    obtain ⟨gk, sk⟩ := upd_at (o := .lst [.ref k1, .ref k2]) nk
    have a1 := (s1.trans s2).trans sk
    have gk1 := (s2.trans sk) _ _ g1
    have gk2 := sk _ _ g2
    have tbA := tb.same a1
    revert gk gk1 gk2 a1 tbA
    generalize upd (upd (upd H k1 (.lst us)) k2 (.lst ws)) kk (.lst [.ref k1, .ref k2]) = HA
    intro gk a1 gk1 gk2 tbA
    have isl : ∀ {b : Addr} {us : List V}, HA b = some (.lst us) → b ∉ T.tabs := fun {b us} hb => tbA.out hb (fun ps z => by cases z)
    have fix : ∀ Hx, Chg T.tabs HA Hx → Hx a = some (.lst us) ∧ Sps Hx us ss ∧ Hx b = some (.lst ws) ∧ Sps Hx ws rs ∧ Hx k1 = some (.lst us) ∧ Hx k2 = some (.lst ws) ∧ Hx kk = some (.lst [.ref k1, .ref k2]) ∧ Hx d = some (.lst (r.map V.int)) := fun Hx ch =>
      ⟨ch _ _ (isl (a1 _ _ ha)) (a1 _ _ ha), (hS.same a1).chg ch tbA.lsts, ch _ _ (isl (a1 _ _ hb)) (a1 _ _ hb), (hR.same a1).chg ch tbA.lsts, ch _ _ (isl gk1) gk1, ch _ _ (isl gk2) gk2, ch _ _ (isl gk) gk, ch _ _ (isl (a1 _ _ hd)) (a1 _ _ hd)⟩
    refine ⟨_, rfl, by decide, by decide, ?_⟩
    refine for_range (lo := 0) (n := (4 : Int).toNat) (fun i σ H' => ∃ y4, σ = [some (.ref a), some (.ref b), some (.ref d), some (.ref kk), y4] ∧ Chg T.tabs HA H' ∧ Tb T.tabs H') ⟨_, rfl, Chg.refl _ _, tbA⟩ ?_ ?_
    · rintro m σ H' hm ⟨y4, rfl, cc, tb'⟩
      rw [Int.zero_add]
      by_cases h0 : 0 < (m : Int)
      · refine ⟨_, rfl, _, _, rfl, rfl, _, rfl, ?_⟩
        rw [decide_eq_true h0]
        obtain ⟨f1, f2, f3, f4, f5, f6, f7, f8⟩ := fix _ cc
        refine iteT ⟨_, rfl, _, rfl, _, rfl, (m : Int), .ref a, .ref b, ss, rs, rfl, tb', ⟨a, us, rfl, f1, f2⟩, ⟨b, ws, rfl, f3, f4⟩, fun H2 p c2 tb2 hp => ?_⟩
        rw [if_neg (by omega), ← hr'] at hp
        obtain ⟨_, _, _, _, _, _, _, f8⟩ := fix _ (cc.trans c2)
        refine ⟨_, rfl, _, _, .lst (SqL.of hp) (dpAll_ints r), .lst (SqL.of f8) (dpAll_ints r), shaped_ints r, shaped_ints r, _, rfl, ?_⟩
        rw [eqv_ints]
        refine iteF ?_
        refine ⟨_, rfl, _, _, rfl, rfl, _, rfl, ?_⟩
        rw [decide_eq_true h0]
        refine iteT ⟨_, rfl, _, rfl, small_le (by simp), fun L nL => ?_⟩
        obtain ⟨gL, sL⟩ := upd_at (o := .lst [.ref a, .ref b]) nL
        have c3 := cc.trans (c2.trans (Chg.of_same sL))
        obtain ⟨f1, f2, f3, f4, f5, f6, f7, f8⟩ := fix _ c3
        refine ⟨_, rfl, _, _, dp_two gL f1 f2 f3 f4, dp_two f7 f5 f2 f6 f4, shaped_two _ _, shaped_two _ _, _, rfl, ?_⟩
        rw [eqv_two]
        exact iteF ⟨_, rfl, c3, tb2.same sL⟩
      · refine ⟨_, rfl, _, _, rfl, rfl, _, rfl, ?_⟩
        rw [decide_eq_false h0]
        refine iteF (iteF ?_)
        refine ⟨_, rfl, _, _, rfl, rfl, _, rfl, ?_⟩
        rw [decide_eq_false h0]
        exact iteF (iteF ⟨_, rfl, cc, tb'⟩)
    · rintro σ H' ⟨y4, rfl, cc, tb'⟩
      exact q _ (fun b o nb hb => cc b o nb (a1 _ _ hb)) tb'
/-- v is a list of the spans ss, and not the purse -/
def Lq (p : Addr) (H : Hp) (v : V) (ss : List Span) : Prop := ∃ l us, v = .ref l ∧ l ≠ p ∧ H l = some (.lst us) ∧ Sps H us ss
theorem Lq.same {p : Addr} {H H' : Hp} {v : V} {ss : List Span} (h : Lq p H v ss) (e : Same H H') : Lq p H' v ss := by
  obtain ⟨l, us, h1, h0, h2, h3⟩ := h
  exact ⟨l, us, h1, h0, e _ _ h2, h3.same e⟩
theorem Lq.chg {p : Addr} {H H' : Hp} {v : V} {ss : List Span} (h : Lq p H v ss) (e : Chg [p] H H') (t : Lsts [p] H) : Lq p H' v ss := by
  obtain ⟨l, us, h1, h0, h2, h3⟩ := h
  exact ⟨l, us, h1, h0, e _ _ (nmem1 h0) h2, h3.chg e t⟩
theorem Lq.ls {p : Addr} {H : Hp} {v : V} {ss : List Span} (h : Lq p H v ss) : Ls H v ss := by
  obtain ⟨l, us, h1, h0, h2, h3⟩ := h
  exact ⟨l, us, h1, h2, h3⟩
def gr (low step : Int) (j : Nat) : Span := (low + step * (0 + (j : Int)), low + step * (0 + (j : Int)) + 1)
theorem gr_ok {low step : Int} (h1 : -100000000000 ≤ low) (h2 : low ≤ 100000000000) (s1 : 2 ≤ step) (s2 : step ≤ 10) : Can ((List.range 201).map (gr low step)) ∧ ∀ s ∈ (List.range 201).map (gr low step), isSpan s = true := by
  refine ⟨⟨?_, fun s hs => ?_⟩, fun s hs => ?_⟩
  · rw [List.pairwise_map]
    refine List.pairwise_lt_range.imp fun {i j} h => ?_
    show low + step * (0 + (i : Int)) + 1 < low + step * (0 + (j : Int))
    have h3 : step * ((i : Int) + 1) ≤ step * (j : Int) := Int.mul_le_mul_of_nonneg_left (by omega) (by omega)
    rw [Int.mul_add, Int.mul_one] at h3
    rw [Int.zero_add, Int.zero_add]
    omega
  · obtain ⟨i, _, rfl⟩ := List.mem_map.mp hs
    show low + step * (0 + (i : Int)) < low + step * (0 + (i : Int)) + 1
    omega
  · obtain ⟨i, hi, rfl⟩ := List.mem_map.mp hs
    have hi := List.mem_range.mp hi
    have h3 : 0 ≤ step * (0 + (i : Int)) := Int.mul_nonneg (by omega) (by omega)
    have h4 : step * (0 + (i : Int)) ≤ 10 * 200 := Int.mul_le_mul s2 (by omega) (by omega) (by omega)
    exact (isSpan_iff _).mpr ⟨by show -999999999999 ≤ low + step * (0 + (i : Int)); omega, by show low + step * (0 + (i : Int)) < low + step * (0 + (i : Int)) + 1; omega, by show low + step * (0 + (i : Int)) + 1 ≤ 999999999999; omega⟩
theorem has_bad {ss : List Span} {s : Span} (h : s ∈ ss) (b : isSpan s = false) : ref1 ss = 1 := ref1_span (List.all_eq_false.mpr ⟨s, h, by rw [b]; decide⟩)
def spLaw (T : Tx K mg) : Sp := fun vs H Q _ => ∃ (a : Addr) (ns : List Int), vs = [.ref a] ∧ SqL K H a (ns.map V.int) ∧ ns.length ≤ 63 ∧ Tb T.tabs H ∧ ∀ H', Q (.bl true) H'
theorem ok_law (T : Tx K mg) (B : Tbs T base) {f : Addr} {fd : FuncData} (F : Fun K "law" "law" s_law f fd) : FnOk P w K mg base CX0 (11) f fd ["_law_script"] (spLaw T) := by
  have G_l_purse : FnOk P w K mg base CX0 _ _ _ _ _ := ok_purse T
  have G_l_draw : FnOk P w K mg base CX0 _ _ _ _ _ := ok_draw T
  have G_l_number : FnOk P w K mg base CX0 _ _ _ _ _ := ok_number T
  have G_l_good_cover : FnOk P w K mg base CX0 _ _ _ _ _ := ok_good_cover T
  have G_l_bent : FnOk P w K mg base CX0 _ _ _ _ _ := ok_bent T
  have G_l_bad_span : FnOk P w K mg base CX0 _ _ _ _ _ := ok_bad_span T
  have G_l_caught : FnOk P w K mg base CX0 _ _ _ _ _ := ok_caught T B
  have G_l_refused : FnOk P w K mg base CX0 _ _ _ _ _ := ok_refused T B
  refine F.ok sc_law (fun vs H Q E h => ?_) (fun cdv A outer s H vs Q E hr h => ?_)
  · obtain ⟨a, ns, rfl, _⟩ := h
    rfl
  · obtain ⟨a, ns, rfl, hS, hlen, tb, q⟩ := h
    refine ⟨_, (pss_cons (ps_set (i := 1) sc_law.nd rfl (Or.inl rfl) (pe_call G_l_purse (hr.mono (by decide)) (by rfl) T.g_l_purse T.F_l_purse.kp T.b_l_purse .nil pass0 (pa_cons (pv 0) (pa_cons pe_int pa_nil))))
      (pss_cons (ps_set (i := 2) sc_law.nd rfl (Or.inl rfl) (pe_call G_l_good_cover (hr.mono (by decide)) (by rfl) T.g_l_good_cover T.F_l_good_cover.kp T.b_l_good_cover .nil pass0 (pa_cons (pv 1) pa_nil)))
      (pss_cons (ps_set (i := 3) sc_law.nd rfl (Or.inl rfl) (pe_call G_l_bent (hr.mono (by decide)) (by rfl) T.g_l_bent T.F_l_bent.kp T.b_l_bent .nil pass0 (pa_cons (pv 1) (pa_cons (pv 2) pa_nil))))
      (pss_cons (ps_set (i := 4) sc_law.nd rfl (Or.inl rfl) (pe_call G_l_draw (hr.mono (by decide)) (by rfl) T.g_l_draw T.F_l_draw.kp T.b_l_draw .nil pass0 (pa_cons (pv 1) (pa_cons (pe_op op_add (pe_callB call_len_seq (by rfl) T.m_len PySem.boot_len (pa_cons (pv 2) pa_nil)) pe_int) pa_nil))))
      (pss_cons (ps_set (i := 5) sc_law.nd rfl (Or.inl rfl) (pe_op op_cat (pe_op op_cat (pe_slice sl_list (pv 2) po_none (po_some (pv 4))) (pe_lst (pa_cons (pe_call G_l_bad_span (hr.mono (by decide)) (by rfl) T.g_l_bad_span T.F_l_bad_span.kp T.b_l_bad_span .nil pass0 (pa_cons (pv 1) pa_nil)) pa_nil))) (pe_slice sl_list (pv 2) (po_some (pv 4)) po_none)))
      (pss_cons (ps_set (i := 6) sc_law.nd rfl (Or.inl rfl) (pe_op op_cat (pv 3) (pe_lst (pa_cons (pe_call G_l_bad_span (hr.mono (by decide)) (by rfl) T.g_l_bad_span T.F_l_bad_span.kp T.b_l_bad_span .nil pass0 (pa_cons (pv 1) pa_nil)) pa_nil))))
      (pss_cons (ps_set (i := 7) sc_law.nd rfl (Or.inr rfl) (pe_call G_l_number (hr.mono (by decide)) (by rfl) T.g_l_number T.F_l_number.kp T.b_l_number .nil pass0 (pa_cons (pv 1) (pa_cons (pe_op op_pow pe_int pe_int) pa_nil))))
      (pss_cons (ps_set (i := 8) sc_law.nd rfl (Or.inr rfl) (pe_op op_add pe_int (pe_call G_l_draw (hr.mono (by decide)) (by rfl) T.g_l_draw T.F_l_draw.kp T.b_l_draw .nil pass0 (pa_cons (pv 1) (pa_cons pe_int pa_nil)))))
      (pss_cons (ps_setLc (i := 9) (own := [("_law_k", 14)]) (g := (gName 14)) (by rfl) sc_law.nd rfl rfl (sw_true rfl rfl rfl (by decide +kernel)) (pi_range1 (by rfl) T.m_range (pa_cons pe_int pa_nil)) (blkOk_by (own := [("_law_k", 14)]) (N := N_law) (sc := defScope s_law) (by decide +kernel)) (fun _ _ _ _ _ => (pg_name (i := 14) sc_law.nd rfl (Or.inl rfl))) (fun _ _ _ _ _ => pts_nil) (fun _ _ _ _ _ => (pe_tup (pa_cons (pe_op op_add (pv 7) (pe_op op_mul (pv 8) (pv 14))) (pa_cons (pe_op op_add (pe_op op_add (pv 7) (pe_op op_mul (pv 8) (pv 14))) pe_int) pa_nil)))))
      (pss_cons (ps_set (i := 10) sc_law.nd rfl (Or.inl rfl) (pe_lst (pa_cons (pe_tup (pa_cons (pv 2) (pa_cons (pe_lst pa_nil) pa_nil))) (pa_cons (pe_tup (pa_cons (pv 3) (pa_cons (pe_lst (pa_cons pe_int pa_nil)) pa_nil))) (pa_cons (pe_tup (pa_cons (pv 5) (pa_cons (pe_lst (pa_cons pe_int pa_nil)) pa_nil))) (pa_cons (pe_tup (pa_cons (pv 6) (pa_cons (pe_lst (pa_cons pe_int pa_nil)) pa_nil))) (pa_cons (pe_tup (pa_cons (pv 9) (pa_cons (pe_lst (pa_cons pe_int pa_nil)) pa_nil))) (pa_cons (pe_tup (pa_cons (pe_slice sl_list (pv 9) (po_some pe_int) po_none) (pa_cons (pe_lst pa_nil) pa_nil))) (pa_cons (pe_tup (pa_cons (pe_op op_cat (pv 9) (pv 5)) (pa_cons (pe_lst (pa_cons pe_int pa_nil)) pa_nil))) pa_nil)))))))))
      (pss_cons (ps_for PassesOwn.never (by rfl) (pi_list (pv 10)) (pg_tup rfl (pgs_cons (pg_name (i := 11) sc_law.nd rfl (Or.inl rfl)) (pgs_cons (pg_name (i := 12) sc_law.nd rfl (Or.inl rfl)) pgs_nil)))
        (pss_cons (ps_set (i := 13) sc_law.nd rfl (Or.inl rfl) (pe_callTy call_list_of (by rfl) T.m_list (by decide +kernel) (pa_cons (pv 11) pa_nil)))
      (pss_cons (ps_if (PW.pt (pw_or (pt_cmpR (op_neD hr.units) (pe_call G_l_caught (hr.mono (by decide)) (by rfl) T.g_l_caught T.F_l_caught.kp T.b_l_caught .nil pass0 (pa_cons pe_int (pa_cons (pv 11) (pa_cons (pe_lst pa_nil) pa_nil)))) (pv 12) (nomark _)) (pw_or1 (pt_cmpR (op_neD hr.units) (pv 11) (pv 13) (nomark _))))) (pss_one (ps_ret pe_bl)) pss_nil)
      (pss_one (ps_if (PW.pt (pw_or (pt_not (pt_val (pe_call G_l_refused (hr.mono (by decide)) (by rfl) T.g_l_refused T.F_l_refused.kp T.b_l_refused .nil pass0 (pa_cons (pv 11) (pa_cons (pv 2) (pa_cons (pv 12) pa_nil)))))) (pw_or (pt_not (pt_val (pe_call G_l_refused (hr.mono (by decide)) (by rfl) T.g_l_refused T.F_l_refused.kp T.b_l_refused .nil pass0 (pa_cons (pv 2) (pa_cons (pv 11) (pa_cons (pv 12) pa_nil)))))) (pw_or1 (pt_not (pt_val (pe_call G_l_refused (hr.mono (by decide)) (by rfl) T.g_l_refused T.F_l_refused.kp T.b_l_refused .nil pass0 (pa_cons (pv 11) (pa_cons (pv 11) (pa_cons (pv 12) pa_nil)))))))))) (pss_one (ps_ret pe_bl)) pss_nil)))))
      (pss_cons (ps_if (PW.pt (pw_or (pt_not (pt_val (pe_call G_l_refused (hr.mono (by decide)) (by rfl) T.g_l_refused T.F_l_refused.kp T.b_l_refused .nil pass0 (pa_cons (pv 3) (pa_cons (pv 5) (pa_cons (pe_lst (pa_cons pe_int pa_nil)) pa_nil)))))) (pw_or1 (pt_not (pt_val (pe_call G_l_refused (hr.mono (by decide)) (by rfl) T.g_l_refused T.F_l_refused.kp T.b_l_refused .nil pass0 (pa_cons (pv 5) (pa_cons (pv 3) (pa_cons (pe_lst (pa_cons pe_int pa_nil)) pa_nil))))))))) (pss_one (ps_ret pe_bl)) pss_nil)
      (pss_one (ps_ret (pe_and (pe_call G_l_refused (hr.mono (by decide)) (by rfl) T.g_l_refused T.F_l_refused.kp T.b_l_refused .nil pass0 (pa_cons (pv 9) (pa_cons (pv 6) (pa_cons (pe_lst (pa_cons pe_int pa_nil)) pa_nil)))) (pe_one (pe_call G_l_refused (hr.mono (by decide)) (by rfl) T.g_l_refused T.F_l_refused.kp T.b_l_refused .nil pass0 (pa_cons (pv 6) (pa_cons (pv 9) (pa_cons (pe_lst (pa_cons pe_int pa_nil)) pa_nil)))))))))))))))))))), ?_⟩
    have e11 : (10 : Int) ^ (11 : Int).toNat = 100000000000 := by decide
    refine ⟨_, rfl, a, ns, 0, rfl, hS, by decide, by decide, fun H1 p s1 np p1 => ?_⟩
    have tb1 := tb.same s1
    have pT : p ∉ T.tabs := tb.new np
    have out : ∀ P ∈ T.tabs, P ∉ [p] := fun P hP => nmem1 fun z => pT (z ▸ hP)
    -- good, bent
    refine ⟨_, rfl, p, 63000, rfl, p1, by decide, fun H2 g gs gss c2 p2 ng hg hG canG twoG okG g2 g8 => ?_⟩
    have ngp : g ≠ p := (p1.ne ng).symm
    have tb2 := tb1.chg c2 out
    refine ⟨_, rfl, _, rfl, p, g, 63100, gs, gss, rfl, p2, by decide, ngp, hg, hG, canG, twoG, okG, g2, g8, fun H3 b bs bss c3 p3 nb hb hB bok bcov bl => ?_⟩
    have nbp : b ≠ p := (p2.ne nb).symm
    have tb3 := tb2.chg c3 out
    have hg3 := c3 _ _ (nmem1 ngp) hg
    have hG3 := hG.chg c3 p2.lsts
    have gl := hG3.len
    -- bad
    refine ⟨_, rfl, _, rfl, g, gs, rfl, .inl (SqL.of hg3), _, _, rfl, rfl, p, _, 63109, rfl, p3, by decide, by omega, by omega, fun H4 r c4 p4 r0 r1 => ?_⟩
    obtain ⟨k, rfl⟩ := Int.eq_ofNat_of_zero_le r0
    have tb4 := tb3.chg c4 out
    have hg4 := c4 _ _ (nmem1 ngp) hg3
    have hG4 := hG3.chg c4 p3.lsts
    have hb4 := c4 _ _ (nmem1 nbp) hb
    have hB4 := hB.chg c4 p3.lsts
    refine ⟨_, rfl, _, rfl, _, rfl, g, gs, rfl, SqL.of hg4, fun x1 n1 => ?_⟩
    rw [cut_takeZ (k := k) rfl]
    obtain ⟨e1, u1⟩ := upd_at (o := .lst (gs.take k)) n1
    have nx1 : x1 ≠ p := (p4.ne n1).symm
    refine ⟨_, rfl, p, 63112, rfl, p4.same u1, by decide, fun H5 v sv c5 p5 hv badv _ => ?_⟩
    have tb5 := (tb4.same u1).chg c5 out
    have l4 := (p4.same u1).lsts
    have hg5 := c5 _ _ (nmem1 ngp) (u1 _ _ hg4)
    have hG5 := (hG4.same u1).chg c5 l4
    have hb5 := c5 _ _ (nmem1 nbp) (u1 _ _ hb4)
    have hB5 := (hB4.same u1).chg c5 l4
    have e15 := c5 _ _ (nmem1 nx1) e1
    refine ⟨small_le (by simp), fun x2 n2 => ?_⟩
    obtain ⟨e2, u2⟩ := upd_at (o := .lst [v]) n2
    refine ⟨x1, x2, _, _, rfl, rfl, u2 _ _ e15, e2, small_le (by simp; omega), fun x3 n3 => ?_⟩
    obtain ⟨e3, u3⟩ := upd_at (o := .lst (gs.take k ++ [v])) n3
    refine ⟨_, rfl, _, rfl, _, rfl, g, gs, rfl, SqL.of ((u2.trans u3) _ _ hg5), fun x4 n4 => ?_⟩
    rw [cut_dropZ (k := k) rfl (by omega)]
    obtain ⟨e4, u4⟩ := upd_at (o := .lst (gs.drop k)) n4
    refine ⟨x3, x4, _, _, rfl, rfl, u4 _ _ e3, e4, small_le (by simp; omega), fun d nd => ?_⟩
    obtain ⟨hd, u5⟩ := upd_at (o := .lst (gs.take k ++ [v] ++ gs.drop k)) nd
    have a5 := u2.trans (u3.trans (u4.trans u5))
    have ndp : d ≠ p := ((((p5.same u2).same u3).same u4).ne nd).symm
    have A6 : Lq p _ (.ref g) gss := ⟨g, gs, rfl, ngp, a5 _ _ hg5, hG5.same a5⟩
    have B6 : Lq p _ (.ref b) bss := ⟨b, bs, rfl, nbp, a5 _ _ hb5, hB5.same a5⟩
    have D6 : Lq p _ (.ref d) (gss.take k ++ [sv] ++ gss.drop k) := ⟨d, _, rfl, ndp, hd, (((hG5.take k).app (.one hv)).app (hG5.drop k)).same a5⟩
    have p6 := p5.same a5
    have tb6 := tb5.same a5
    revert A6 B6 D6 p6 tb6
    generalize upd (upd (upd (upd H5 x2 (.lst [v])) x3 (.lst (gs.take k ++ [v]))) x4 (.lst (gs.drop k))) d (.lst (gs.take k ++ [v] ++ gs.drop k)) = H6
    intro A6 B6 D6 p6 tb6
    have rD : ref1 (gss.take k ++ [sv] ++ gss.drop k) = 1 := has_bad (List.mem_append_left _ (List.mem_append_right _ (List.mem_singleton.mpr rfl))) badv
    have lD : (gss.take k ++ [sv] ++ gss.drop k).length ≤ 20 := by
      simp only [List.length_append, List.length_cons, List.length_nil, List.length_take, List.length_drop]
      omega
    revert D6 rD lD
    generalize gss.take k ++ [sv] ++ gss.drop k = dss
    intro D6 rD lD
    -- worse
    refine ⟨_, rfl, _, rfl, p, 63124, rfl, p6, by decide, fun H7 v2 sv2 c7 p7 hv2 badv2 _ => ?_⟩
    have A7 := A6.chg c7 p6.lsts
    have B7 := B6.chg c7 p6.lsts
    have D7 := D6.chg c7 p6.lsts
    have tb7 := tb6.chg c7 out
    obtain ⟨b', bs', eb, nbp', hb7, hB7⟩ := id B7
    cases eb
    have bl7 := hB7.len
    refine ⟨small_le (by simp), fun x5 n5 => ?_⟩
    obtain ⟨e5, u6⟩ := upd_at (o := .lst [v2]) n5
    refine ⟨b, x5, _, _, rfl, rfl, u6 _ _ hb7, e5, small_le (by simp; omega), fun f nf => ?_⟩
    obtain ⟨hf, u7⟩ := upd_at (o := .lst (bs' ++ [v2])) nf
    have a7 := u6.trans u7
    have nfp : f ≠ p := ((p7.same u6).ne nf).symm
    have A8 := A7.same a7
    have B8 := B7.same a7
    have D8 := D7.same a7
    have E8 : Lq p _ (.ref f) (bss ++ [sv2]) := ⟨f, _, rfl, nfp, hf, (hB7.app (.one hv2)).same a7⟩
    have p8 := p7.same a7
    have tb8 := tb7.same a7
    revert A8 B8 D8 E8 p8 tb8
    generalize upd (upd H7 x5 (.lst [v2])) f (.lst (bs' ++ [v2])) = H8
    intro A8 B8 D8 E8 p8 tb8
    have rE : ref1 (bss ++ [sv2]) = 1 := has_bad (List.mem_append_right _ (List.mem_singleton.mpr rfl)) badv2
    revert E8 rE
    generalize bss ++ [sv2] = ess
    intro E8 rE
    -- low, step
    refine ⟨_, rfl, _, _, rfl, rfl, ⟨by decide, by decide, by decide⟩, p, _, 63136, rfl, p8, by decide, ?_, ?_, fun H9 low c9 p9 lo0 lo1 => ?_⟩
    · rw [e11]
      decide
    · rw [e11]
      decide
    rw [e11] at lo0 lo1
    refine ⟨_, rfl, p, 9, 63142, rfl, p9, by decide, by decide, by decide, fun H10 sp c10 p10 sp0 sp1 => ?_⟩
    refine ⟨_, _, rfl, rfl, ?_⟩
    have cA := c9.trans c10
    have A10 := A8.chg cA p8.lsts
    have B10 := B8.chg cA p8.lsts
    have D10 := D8.chg cA p8.lsts
    have E10 := E8.chg cA p8.lsts
    have tb10 := tb8.chg cA out
    obtain ⟨canR, okR⟩ := gr_ok (low := low) (step := 2 + sp) (by omega) (by omega) (by omega) (by omega)
    have lenR : ((List.range 201).map (gr low (2 + sp))).length = 201 := by
      rw [List.length_map, List.length_range]
    -- great
    refine ⟨_, rfl, by decide, by decide, fun G nG => ?_⟩
    have nGp : G ≠ p := (p10.ne nG).symm
    refine lc_range (lo := 0) (n := (201 : Int).toNat) (fun j H' => Same H10 H' ∧ ∃ us, H' G = some (.lst us) ∧ Sps H' us ((List.range j).map (gr low (2 + sp)))) ⟨same_upd nG, [], upd_same, .nil⟩ ?_ ?_
    · rintro j H' hj ⟨sm, us, hG', hU⟩
      have hj : j < 201 := hj
      have ul := hU.len
      rw [List.length_map, List.length_range] at ul
      refine ⟨rfl, ?_⟩
      unfold tYes
      refine iteT ⟨_, rfl, _, rfl, _, rfl, _, _, rfl, rfl, .inl ⟨by omega, by omega⟩, _, _, rfl, rfl, _, rfl, _, rfl, _, rfl, _, _, rfl, rfl, .inl ⟨by omega, by omega⟩, _, _, rfl, rfl, _, _, rfl, rfl, (by show 2 ≤ sizeLine; decide), fun t nt => ?_⟩
      obtain ⟨gt, st⟩ := upd_at (o := .tup [.int (low + (2 + sp) * (0 + (j : Int))), .int (low + (2 + sp) * (0 + (j : Int)) + 1)]) nt
      have hG2 := st _ _ hG'
      refine ⟨us, hG2, small_lt (by omega), same_more (sm.trans st) nG, us ++ [.ref t], upd_same, ?_⟩
      rw [List.range_succ, List.map_append]
      exact ((hU.same st).app (.one (s := gr low (2 + sp) j) ⟨t, rfl, gt⟩)).chg (L := [G]) (Chg.upd List.mem_cons_self) (Lsts.of1 hG2)
    · rintro H11 ⟨s11, us11, hG11, hU11⟩
      have hU11 : Sps H11 us11 ((List.range 201).map (gr low (2 + sp))) := hU11
      have tb11 := tb10.same s11
      have A11 := (A10.same s11).ls
      have B11 := (B10.same s11).ls
      have D11 := (D10.same s11).ls
      have E11 := (E10.same s11).ls
      have rR : ref1 ((List.range 201).map (gr low (2 + sp))) = 2 := ref1_cov (List.all_eq_true.mpr okR) (by
        unfold isCoverB
        rw [lenR]
        rfl)
      have rR1 : ref1 (((List.range 201).map (gr low (2 + sp))).drop 1) = 0 := can_ref1 (can_drop canR 1) (fun s hs => okR s (List.mem_of_mem_drop hs)) (by rw [List.length_drop, lenR]; decide)
      revert hU11 rR rR1 lenR
      generalize (List.range 201).map (gr low (2 + sp)) = rss
      intro lenR hU11 rR rR1
      have ul11 := hU11.len
      obtain ⟨d', ds', ed, hd11, hD11⟩ := id D11
      cases ed
      have dl11 := hD11.len
      have rG : ref1 gss = 0 := can_ref1 canG okG (by omega)
      have rB : ref1 bss = 2 := ref1_cov bok bcov
      have rGD : ref1 (rss ++ dss) = 1 := by
        have h1 : dss.all isSpan = false := by
          cases z : dss.all isSpan with
          | false => rfl
          | true =>
            unfold ref1 at rD
            rw [if_pos z] at rD
            split at rD <;> cases rD
        exact ref1_span (by rw [List.all_append, h1, Bool.and_false])
      -- the cases
      refine ⟨_, rfl, Nat.zero_le _, fun d1 md1 => ?_⟩
      obtain ⟨yd1, wd1⟩ := upd_at (o := .lst []) md1
      refine ⟨(by show 2 ≤ sizeLine; decide), fun t1 mt1 => ?_⟩
      obtain ⟨yt1, wt1⟩ := upd_at (o := .tup [.ref g, .ref d1]) mt1
      refine ⟨_, rfl, small_le (by simp), fun d2 md2 => ?_⟩
      obtain ⟨yd2, wd2⟩ := upd_at (o := .lst [.int 2]) md2
      refine ⟨(by show 2 ≤ sizeLine; decide), fun t2 mt2 => ?_⟩
      obtain ⟨yt2, wt2⟩ := upd_at (o := .tup [.ref b, .ref d2]) mt2
      refine ⟨_, rfl, small_le (by simp), fun d3 md3 => ?_⟩
      obtain ⟨yd3, wd3⟩ := upd_at (o := .lst [.int 0]) md3
      refine ⟨(by show 2 ≤ sizeLine; decide), fun t3 mt3 => ?_⟩
      obtain ⟨yt3, wt3⟩ := upd_at (o := .tup [.ref d, .ref d3]) mt3
      refine ⟨_, rfl, small_le (by simp), fun d4 md4 => ?_⟩
      obtain ⟨yd4, wd4⟩ := upd_at (o := .lst [.int 0]) md4
      refine ⟨(by show 2 ≤ sizeLine; decide), fun t4 mt4 => ?_⟩
      obtain ⟨yt4, wt4⟩ := upd_at (o := .tup [.ref f, .ref d4]) mt4
      refine ⟨_, rfl, small_le (by simp), fun d5 md5 => ?_⟩
      obtain ⟨yd5, wd5⟩ := upd_at (o := .lst [.int 2]) md5
      refine ⟨(by show 2 ≤ sizeLine; decide), fun t5 mt5 => ?_⟩
      obtain ⟨yt5, wt5⟩ := upd_at (o := .tup [.ref G, .ref d5]) mt5
      refine ⟨_, rfl, 1, rfl, G, us11, rfl, SqL.of ((wd1.trans (wt1.trans (wd2.trans (wt2.trans (wd3.trans (wt3.trans (wd4.trans (wt4.trans (wd5.trans wt5))))))))) _ _ hG11), fun q6 mq6 => ?_⟩
      rw [cut_one]
      obtain ⟨yq6, wq6⟩ := upd_at (o := .lst (us11.drop 1)) mq6
      refine ⟨Nat.zero_le _, fun d6 md6 => ?_⟩
      obtain ⟨yd6, wd6⟩ := upd_at (o := .lst []) md6
      refine ⟨(by show 2 ≤ sizeLine; decide), fun t6 mt6 => ?_⟩
      obtain ⟨yt6, wt6⟩ := upd_at (o := .tup [.ref q6, .ref d6]) mt6
      refine ⟨_, rfl, _, rfl, G, d, us11, ds', rfl, rfl, (wd1.trans (wt1.trans (wd2.trans (wt2.trans (wd3.trans (wt3.trans (wd4.trans (wt4.trans (wd5.trans (wt5.trans (wq6.trans (wd6.trans wt6)))))))))))) _ _ hG11, (wd1.trans (wt1.trans (wd2.trans (wt2.trans (wd3.trans (wt3.trans (wd4.trans (wt4.trans (wd5.trans (wt5.trans (wq6.trans (wd6.trans wt6)))))))))))) _ _ hd11, small_le (by omega), fun q7 mq7 => ?_⟩
      obtain ⟨yq7, wq7⟩ := upd_at (o := .lst (us11 ++ ds')) mq7
      refine ⟨small_le (by simp), fun d7 md7 => ?_⟩
      obtain ⟨yd7, wd7⟩ := upd_at (o := .lst [.int 0]) md7
      refine ⟨(by show 2 ≤ sizeLine; decide), fun t7 mt7 => ?_⟩
      obtain ⟨yt7, wt7⟩ := upd_at (o := .tup [.ref q7, .ref d7]) mt7
      refine ⟨small_le (by simp), fun L mL => ?_⟩
      obtain ⟨yL, wL⟩ := upd_at (o := .lst [.ref t1, .ref t2, .ref t3, .ref t4, .ref t5, .ref t6, .ref t7]) mL
      have aF := (wd1.trans (wt1.trans (wd2.trans (wt2.trans (wd3.trans (wt3.trans (wd4.trans (wt4.trans (wd5.trans (wt5.trans (wq6.trans (wd6.trans (wt6.trans (wq7.trans (wd7.trans (wt7.trans wL))))))))))))))))
      have tbF := tb11.same aF
      have AF := A11.same aF
      have BF := B11.same aF
      have DF := D11.same aF
      have EF := E11.same aF
      have RF : Ls _ (.ref G) rss := ⟨G, us11, rfl, aF _ _ hG11, hU11.same aF⟩
      have SF : Ls _ (.ref q6) (rss.drop 1) := ⟨q6, _, rfl, (wd6.trans (wt6.trans (wq7.trans (wd7.trans (wt7.trans wL))))) _ _ yq6, (hU11.drop 1).same aF⟩
      have CF : Ls _ (.ref q7) (rss ++ dss) := ⟨q7, _, rfl, (wd7.trans (wt7.trans wL)) _ _ yq7, (hU11.app hD11).same aF⟩
      have Y1 := (wt1.trans (wd2.trans (wt2.trans (wd3.trans (wt3.trans (wd4.trans (wt4.trans (wd5.trans (wt5.trans (wq6.trans (wd6.trans (wt6.trans (wq7.trans (wd7.trans (wt7.trans wL))))))))))))))) _ _ yd1
      have Z1 := (wd2.trans (wt2.trans (wd3.trans (wt3.trans (wd4.trans (wt4.trans (wd5.trans (wt5.trans (wq6.trans (wd6.trans (wt6.trans (wq7.trans (wd7.trans (wt7.trans wL)))))))))))))) _ _ yt1
      have Y2 := (wt2.trans (wd3.trans (wt3.trans (wd4.trans (wt4.trans (wd5.trans (wt5.trans (wq6.trans (wd6.trans (wt6.trans (wq7.trans (wd7.trans (wt7.trans wL))))))))))))) _ _ yd2
      have Z2 := (wd3.trans (wt3.trans (wd4.trans (wt4.trans (wd5.trans (wt5.trans (wq6.trans (wd6.trans (wt6.trans (wq7.trans (wd7.trans (wt7.trans wL)))))))))))) _ _ yt2
      have Y3 := (wt3.trans (wd4.trans (wt4.trans (wd5.trans (wt5.trans (wq6.trans (wd6.trans (wt6.trans (wq7.trans (wd7.trans (wt7.trans wL))))))))))) _ _ yd3
      have Z3 := (wd4.trans (wt4.trans (wd5.trans (wt5.trans (wq6.trans (wd6.trans (wt6.trans (wq7.trans (wd7.trans (wt7.trans wL)))))))))) _ _ yt3
      have Y4 := (wt4.trans (wd5.trans (wt5.trans (wq6.trans (wd6.trans (wt6.trans (wq7.trans (wd7.trans (wt7.trans wL))))))))) _ _ yd4
      have Z4 := (wd5.trans (wt5.trans (wq6.trans (wd6.trans (wt6.trans (wq7.trans (wd7.trans (wt7.trans wL)))))))) _ _ yt4
      have Y5 := (wt5.trans (wq6.trans (wd6.trans (wt6.trans (wq7.trans (wd7.trans (wt7.trans wL))))))) _ _ yd5
      have Z5 := (wq6.trans (wd6.trans (wt6.trans (wq7.trans (wd7.trans (wt7.trans wL)))))) _ _ yt5
      have Y6 := (wt6.trans (wq7.trans (wd7.trans (wt7.trans wL)))) _ _ yd6
      have Z6 := (wq7.trans (wd7.trans (wt7.trans wL))) _ _ yt6
      have Y7 := (wt7.trans wL) _ _ yd7
      have Z7 := wL _ _ yt7
      revert tbF AF BF DF EF RF SF CF Y1 Y2 Y3 Y4 Y5 Y6 Y7 Z1 Z2 Z3 Z4 Z5 Z6 Z7 yL
      generalize upd _ L _ = HF
      intro yL tbF AF BF DF EF RF SF CF Y1 Z1 Y2 Z2 Y3 Z3 Y4 Z4 Y5 Z5 Y6 Z6 Y7 Z7
      have seven : ∀ (i : Nat) (y : V), ([.ref t1, .ref t2, .ref t3, .ref t4, .ref t5, .ref t6, .ref t7] : List V)[i]? = some y → ∃ t v e ss r, y = .ref t ∧ HF t = some (.tup [v, .ref e]) ∧ Ls HF v ss ∧ HF e = some (.lst ((r : List Int).map V.int)) ∧ r = codeR (ref1 ss) := fun i y e => by
        rcases i with _ | _ | _ | _ | _ | _ | _ | i
        · exact ⟨t1, _, d1, _, [], (Option.some.inj e).symm, Z1, AF, Y1, by rw [rG]; rfl⟩
        · exact ⟨t2, _, d2, _, [2], (Option.some.inj e).symm, Z2, BF, Y2, by rw [rB]; rfl⟩
        · exact ⟨t3, _, d3, _, [0], (Option.some.inj e).symm, Z3, DF, Y3, by rw [rD]; rfl⟩
        · exact ⟨t4, _, d4, _, [0], (Option.some.inj e).symm, Z4, EF, Y4, by rw [rE]; rfl⟩
        · exact ⟨t5, _, d5, _, [2], (Option.some.inj e).symm, Z5, RF, Y5, by rw [rR]; rfl⟩
        · exact ⟨t6, _, d6, _, [], (Option.some.inj e).symm, Z6, SF, Y6, by rw [rR1]; rfl⟩
        · exact ⟨t7, _, d7, _, [0], (Option.some.inj e).symm, Z7, CF, Y7, by rw [rGD]; rfl⟩
        · simp at e
      have LT := tbF.out yL (fun ps z => by cases z)
      have st : ∀ {X : Hp}, Chg T.tabs HF X → Ls X (.ref g) gss ∧ Ls X (.ref b) bss ∧ Ls X (.ref d) dss ∧ Ls X (.ref f) ess ∧ Ls X (.ref G) rss := fun {X} e => ⟨AF.tb tbF e, BF.tb tbF e, DF.tb tbF e, EF.tb tbF e, RF.tb tbF e⟩
      refine ⟨_, rfl, L, rfl, ⟨_, SqL.of yL⟩, for_list (K := K) (a := L) (xs := [.ref t1, .ref t2, .ref t3, .ref t4, .ref t5, .ref t6, .ref t7]) (fun i σ H' => ∃ z1 z2 z3, σ = [some (.ref a), some (.ref p), some (.ref g), some (.ref b), some (.int (k : Int)), some (.ref d), some (.ref f), some (.int low), some (.int (2 + sp)), some (.ref G), some (.ref L), z1, z2, z3, none] ∧ Chg T.tabs HF H' ∧ Tb T.tabs H') ⟨none, none, none, rfl, Chg.refl _ _, tbF⟩ (fun i σ H' _ ⟨_, _, _, _, cc, _⟩ => SqL.of (cc _ _ LT yL)) ?_ ?_⟩
      · rintro i y σ H' hi ⟨z1, z2, z3, rfl, cc, tb'⟩
        obtain ⟨t, v, e, ss, r, rfl, ht, hv, he, er⟩ := seven i y hi
        have tT := tbF.out ht (fun ps z => by cases z)
        have eT := tbF.out he (fun ps z => by cases z)
        have sv : ∀ {X : Hp}, Chg T.tabs HF X → Ls X v ss ∧ X e = some (.lst (r.map V.int)) := fun {X} z => ⟨hv.tb tbF z, z _ _ eT he⟩
        refine ⟨t, _, rfl, SqT.of (cc _ _ tT ht), rfl, _, _, rfl, _, _, rfl, rfl, ?_⟩
        obtain ⟨v', us', rfl, hv', hs'⟩ := (sv cc).1
        -- kept
        refine ⟨_, rfl, v', us', rfl, .inl (SqL.of hv'), fun kk nk => ?_⟩
        obtain ⟨gk, sk⟩ := upd_at (o := .lst us') nk
        have K1 : Ls _ (.ref kk) ss := ⟨kk, us', rfl, gk, hs'.same sk⟩
        have c1 := cc.trans (Chg.of_same sk)
        have tb1' := tb'.same sk
        revert K1 c1 tb1'
        generalize upd H' kk (.lst us') = J1
        intro K1 c1 tb1'
        -- caught(0, one, [])
        refine ⟨_, rfl, Nat.zero_le _, fun x nx => ?_⟩
        obtain ⟨gx, sx⟩ := upd_at (o := .lst []) nx
        have c2' := c1.trans (Chg.of_same sx)
        refine ⟨0, .ref v', .ref x, ss, [], rfl, tb1'.same sx, (sv c2').1, ⟨x, [], rfl, gx, .nil⟩, fun J2 pr c3' tb3' hp => ?_⟩
        rw [if_pos rfl, ← er] at hp
        have c4' := c2'.trans c3'
        refine ⟨_, rfl, _, _, .lst (SqL.of hp) (dpAll_ints r), .lst (SqL.of (sv c4').2) (dpAll_ints r), shaped_ints r, shaped_ints r, _, rfl, ?_⟩
        rw [eqv_ints]
        refine iteF ?_
        refine ⟨_, rfl, _, rfl, _, _, (sv c4').1.dp, ((K1.same sx).tb (tb1'.same sx) c3').dp, shaped_spans _, shaped_spans _, _, rfl, ?_⟩
        rw [eqv_spans, decide_eq_true rfl]
        refine iteF ?_
        have f1 : r = codeR (first2 (ref1 ss) (ref1 gss)) := by
          rw [er, rG]
          unfold first2
          split
          · rename_i z
            rw [z]
          · rfl
        have f2 : r = codeR (first2 (ref1 gss) (ref1 ss)) := by
          rw [er, rG]
          rfl
        have f3 : r = codeR (first2 (ref1 ss) (ref1 ss)) := by
          rw [er]
          unfold first2
          split <;> rfl
        refine ⟨_, rfl, _, rfl, _, rfl, .ref v', .ref g, e, ss, gss, r, rfl, tb3', (sv c4').1, (st c4').1, (sv c4').2, f1, fun J3 c5' tb5' => ⟨true, rfl, iteF ?_⟩⟩
        have c6' := c4'.trans c5'
        refine ⟨_, rfl, _, rfl, _, rfl, .ref g, .ref v', e, gss, ss, r, rfl, tb5', (st c6').1, (sv c6').1, (sv c6').2, f2, fun J4 c7' tb7' => ⟨true, rfl, iteF ?_⟩⟩
        have c8' := c6'.trans c7'
        refine ⟨_, rfl, _, rfl, _, rfl, .ref v', .ref v', e, ss, ss, r, rfl, tb7', (sv c8').1, (sv c8').1, (sv c8').2, f3, fun J5 c9' tb9' => ⟨true, rfl, iteF ⟨_, _, _, rfl, c8'.trans c9', tb9'⟩⟩⟩
      · rintro σ H' ⟨z1, z2, z3, rfl, cc, tb'⟩
        refine ⟨_, rfl, _, rfl, small_le (by simp), fun x1 m1 => ?_⟩
        obtain ⟨h1, v1⟩ := upd_at (o := .lst [.int 2]) m1
        have c1' := cc.trans (Chg.of_same v1)
        obtain ⟨_, L1, L2', _, _⟩ := st c1'
        refine ⟨.ref b, .ref d, x1, bss, dss, [2], rfl, tb'.same v1, L1, L2', h1, by rw [rB]; rfl, fun J1 e1' tb1' => ⟨true, rfl, iteF ?_⟩⟩
        have c2' := c1'.trans e1'
        refine ⟨_, rfl, _, rfl, small_le (by simp), fun x2 m2 => ?_⟩
        obtain ⟨h2, v2⟩ := upd_at (o := .lst [.int 0]) m2
        have c3' := c2'.trans (Chg.of_same v2)
        obtain ⟨_, L1, L2', _, _⟩ := st c3'
        refine ⟨.ref d, .ref b, x2, dss, bss, [0], rfl, tb1'.same v2, L2', L1, h2, by rw [rD]; rfl, fun J2 e2' tb2' => ⟨true, rfl, iteF ?_⟩⟩
        have c4' := c3'.trans e2'
        refine ⟨_, rfl, _, rfl, small_le (by simp), fun x3 m3 => ?_⟩
        obtain ⟨h3, v3⟩ := upd_at (o := .lst [.int 2]) m3
        have c5' := c4'.trans (Chg.of_same v3)
        obtain ⟨_, _, _, L3, L4⟩ := st c5'
        refine ⟨.ref G, .ref f, x3, rss, ess, [2], rfl, tb2'.same v3, L4, L3, h3, by rw [rR]; rfl, fun J3 e3' tb3' => ⟨true, rfl, iteT ?_⟩⟩
        have c6' := c5'.trans e3'
        refine ⟨_, rfl, _, rfl, small_le (by simp), fun x4 m4 => ?_⟩
        obtain ⟨h4, v4⟩ := upd_at (o := .lst [.int 0]) m4
        have c7' := c6'.trans (Chg.of_same v4)
        obtain ⟨_, _, _, L3, L4⟩ := st c7'
        exact ⟨.ref f, .ref G, x4, ess, rss, [0], rfl, tb3'.same v4, L3, L4, h4, by rw [rE]; rfl, fun J4 e4' tb4' => q _⟩
end
theorem all_mk {l : PySem.W.OpenLaw} {w : World} {K : PySem.W.Frag} {h : Heap} {mg : Str → Option Value} {fa : Addr} (X : K.In h) (G : h.Ns mainGlobals mg) (hfa : mg "law" = some (.ref fa))
    {f_is_whole : Addr} {od_is_whole an_is_whole : Option Addr} {sl_is_whole : Array (Option Value)} {oc_is_whole kV_is_whole dc_is_whole pm_is_whole cd_is_whole ct_is_whole : Value}
    {f_is_place : Addr} {od_is_place an_is_place : Option Addr} {sl_is_place : Array (Option Value)} {oc_is_place kV_is_place dc_is_place pm_is_place cd_is_place ct_is_place : Value}
    {f_is_span : Addr} {od_is_span an_is_span : Option Addr} {sl_is_span : Array (Option Value)} {oc_is_span kV_is_span dc_is_span pm_is_span cd_is_span ct_is_span : Value}
    {f_check_span : Addr} {od_check_span an_check_span : Option Addr} {sl_check_span : Array (Option Value)} {oc_check_span kV_check_span dc_check_span pm_check_span cd_check_span ct_check_span : Value}
    {f_check_spans : Addr} {od_check_spans an_check_spans : Option Addr} {sl_check_spans : Array (Option Value)} {oc_check_spans kV_check_spans dc_check_spans pm_check_spans cd_check_spans ct_check_spans : Value}
    {f_is_cover : Addr} {od_is_cover an_is_cover : Option Addr} {sl_is_cover : Array (Option Value)} {oc_is_cover kV_is_cover dc_is_cover pm_is_cover ct_is_cover ec_is_cover : Value} {cA_is_cover pA_is_cover : Addr} {dd_is_cover : Option Addr} {vc_is_cover : Array Value} {sc_t_is_cover : Array (Option Value)}
    {f_check_cover : Addr} {od_check_cover an_check_cover : Option Addr} {sl_check_cover : Array (Option Value)} {oc_check_cover kV_check_cover dc_check_cover pm_check_cover cd_check_cover ct_check_cover : Value}
    {f_check_covers : Addr} {od_check_covers an_check_covers : Option Addr} {sl_check_covers : Array (Option Value)} {oc_check_covers kV_check_covers dc_check_covers pm_check_covers cd_check_covers ct_check_covers : Value}
    {f_joined : Addr} {od_joined an_joined : Option Addr} {sl_joined : Array (Option Value)} {oc_joined kV_joined dc_joined pm_joined cd_joined ct_joined : Value}
    {f_common : Addr} {od_common an_common : Option Addr} {sl_common : Array (Option Value)} {oc_common kV_common dc_common pm_common cd_common ct_common : Value}
    {f_gaps_of : Addr} {od_gaps_of an_gaps_of : Option Addr} {sl_gaps_of : Array (Option Value)} {oc_gaps_of kV_gaps_of dc_gaps_of pm_gaps_of cd_gaps_of ct_gaps_of : Value}
    {f_both : Addr} {od_both an_both : Option Addr} {sl_both : Array (Option Value)} {oc_both kV_both dc_both pm_both cd_both ct_both : Value}
    {f_either : Addr} {od_either an_either : Option Addr} {sl_either : Array (Option Value)} {oc_either kV_either dc_either pm_either cd_either ct_either : Value}
    {f_less : Addr} {od_less an_less : Option Addr} {sl_less : Array (Option Value)} {oc_less kV_less dc_less pm_less cd_less ct_less : Value}
    {f_held : Addr} {od_held an_held : Option Addr} {sl_held : Array (Option Value)} {oc_held kV_held dc_held pm_held ct_held ec_held : Value} {cA_held pA_held : Addr} {dd_held : Option Addr} {vc_held : Array Value} {sc_t_held : Array (Option Value)}
    {f_l_at : Addr} {od_l_at an_l_at : Option Addr} {sl_l_at : Array (Option Value)} {oc_l_at kV_l_at dc_l_at pm_l_at cd_l_at ct_l_at : Value}
    {f_l_mixed : Addr} {od_l_mixed an_l_mixed : Option Addr} {sl_l_mixed : Array (Option Value)} {oc_l_mixed kV_l_mixed dc_l_mixed pm_l_mixed cd_l_mixed ct_l_mixed : Value}
    {f_l_purse : Addr} {od_l_purse an_l_purse : Option Addr} {sl_l_purse : Array (Option Value)} {oc_l_purse kV_l_purse dc_l_purse pm_l_purse cd_l_purse ct_l_purse : Value}
    {f_l_draw : Addr} {od_l_draw an_l_draw : Option Addr} {sl_l_draw : Array (Option Value)} {oc_l_draw kV_l_draw dc_l_draw pm_l_draw cd_l_draw ct_l_draw : Value}
    {f_l_number : Addr} {od_l_number an_l_number : Option Addr} {sl_l_number : Array (Option Value)} {oc_l_number kV_l_number dc_l_number pm_l_number cd_l_number ct_l_number : Value}
    {f_l_kinds : Addr} {od_l_kinds an_l_kinds : Option Addr} {sl_l_kinds : Array (Option Value)} {oc_l_kinds kV_l_kinds dc_l_kinds pm_l_kinds cd_l_kinds ct_l_kinds : Value}
    {f_l_bad_span : Addr} {od_l_bad_span an_l_bad_span : Option Addr} {sl_l_bad_span : Array (Option Value)} {oc_l_bad_span kV_l_bad_span dc_l_bad_span pm_l_bad_span cd_l_bad_span ct_l_bad_span : Value}
    {f_l_caught : Addr} {od_l_caught an_l_caught : Option Addr} {sl_l_caught : Array (Option Value)} {oc_l_caught kV_l_caught dc_l_caught pm_l_caught cd_l_caught ct_l_caught : Value}
    {f_l_good_cover : Addr} {od_l_good_cover an_l_good_cover : Option Addr} {sl_l_good_cover : Array (Option Value)} {oc_l_good_cover kV_l_good_cover dc_l_good_cover pm_l_good_cover cd_l_good_cover ct_l_good_cover : Value}
    {f_l_bent : Addr} {od_l_bent an_l_bent : Option Addr} {sl_l_bent : Array (Option Value)} {oc_l_bent kV_l_bent dc_l_bent pm_l_bent cd_l_bent ct_l_bent : Value}
    {f_l_refused : Addr} {od_l_refused an_l_refused : Option Addr} {sl_l_refused : Array (Option Value)} {oc_l_refused kV_l_refused dc_l_refused pm_l_refused cd_l_refused ct_l_refused : Value}
    {f_law : Addr} {od_law an_law : Option Addr} {sl_law : Array (Option Value)} {oc_law kV_law dc_law pm_law cd_law ct_law : Value}
    {tc_LEAST_PLACE : Tok}
    {tc_GREATEST_PLACE : Tok}
    {tc_MOST_SPANS : Tok}
    {C_ShelfError : Addr}
    {C_NoSpan : Addr}
    {C_NoPlace : Addr}
    {C_NoCover : Addr}
    {C_NoWeight : Addr}
    {C_NoCount : Addr}
    {C_NoName : Addr}
    {C_Twice : Addr}
    {C_Full : Addr}
    {C_Bare : Addr}
    {C_NoDeed : Addr}
    {C_NoText : Addr}
    {C_NoLine : Addr}
    (a_is_whole : PySem.W.nsIn K mainGlobals "is_whole" = some (some (.ref f_is_whole)))
    (l_is_whole : K.lookup f_is_whole = some ⟨oc_is_whole, od_is_whole, .func (PySem.W.fnOf "is_whole" "is_whole" (defArgs s_is_whole) (defBody s_is_whole) (defScope s_is_whole) .none kV_is_whole dc_is_whole pm_is_whole an_is_whole cd_is_whole ct_is_whole), sl_is_whole⟩)
    (c_is_whole : PySem.W.codeIn K cd_is_whole "is_whole" = true)
    (k_is_whole : PySem.W.keepIn K (.ref f_is_whole) = true)
    (a_is_place : PySem.W.nsIn K mainGlobals "is_place" = some (some (.ref f_is_place)))
    (l_is_place : K.lookup f_is_place = some ⟨oc_is_place, od_is_place, .func (PySem.W.fnOf "is_place" "is_place" (defArgs s_is_place) (defBody s_is_place) (defScope s_is_place) .none kV_is_place dc_is_place pm_is_place an_is_place cd_is_place ct_is_place), sl_is_place⟩)
    (c_is_place : PySem.W.codeIn K cd_is_place "is_place" = true)
    (k_is_place : PySem.W.keepIn K (.ref f_is_place) = true)
    (a_is_span : PySem.W.nsIn K mainGlobals "is_span" = some (some (.ref f_is_span)))
    (l_is_span : K.lookup f_is_span = some ⟨oc_is_span, od_is_span, .func (PySem.W.fnOf "is_span" "is_span" (defArgs s_is_span) (defBody s_is_span) (defScope s_is_span) .none kV_is_span dc_is_span pm_is_span an_is_span cd_is_span ct_is_span), sl_is_span⟩)
    (c_is_span : PySem.W.codeIn K cd_is_span "is_span" = true)
    (k_is_span : PySem.W.keepIn K (.ref f_is_span) = true)
    (a_check_span : PySem.W.nsIn K mainGlobals "check_span" = some (some (.ref f_check_span)))
    (l_check_span : K.lookup f_check_span = some ⟨oc_check_span, od_check_span, .func (PySem.W.fnOf "check_span" "check_span" (defArgs s_check_span) (defBody s_check_span) (defScope s_check_span) .none kV_check_span dc_check_span pm_check_span an_check_span cd_check_span ct_check_span), sl_check_span⟩)
    (c_check_span : PySem.W.codeIn K cd_check_span "check_span" = true)
    (k_check_span : PySem.W.keepIn K (.ref f_check_span) = true)
    (a_check_spans : PySem.W.nsIn K mainGlobals "check_spans" = some (some (.ref f_check_spans)))
    (l_check_spans : K.lookup f_check_spans = some ⟨oc_check_spans, od_check_spans, .func (PySem.W.fnOf "check_spans" "check_spans" (defArgs s_check_spans) (defBody s_check_spans) (defScope s_check_spans) .none kV_check_spans dc_check_spans pm_check_spans an_check_spans cd_check_spans ct_check_spans), sl_check_spans⟩)
    (c_check_spans : PySem.W.codeIn K cd_check_spans "check_spans" = true)
    (k_check_spans : PySem.W.keepIn K (.ref f_check_spans) = true)
    (a_is_cover : PySem.W.nsIn K mainGlobals "is_cover" = some (some (.ref f_is_cover)))
    (l_is_cover : K.lookup f_is_cover = some ⟨oc_is_cover, od_is_cover, .func (PySem.W.fnOf "is_cover" "is_cover" (defArgs s_is_cover) (defBody s_is_cover) (defScope s_is_cover) .none kV_is_cover dc_is_cover pm_is_cover an_is_cover (.ref cA_is_cover) ct_is_cover), sl_is_cover⟩)
    (c_is_cover : PySem.W.codeIn K (.ref cA_is_cover) "is_cover" = true)
    (k_is_cover : PySem.W.keepIn K (.ref f_is_cover) = true)
    (y1_is_cover : K.lookup cA_is_cover = some ⟨ec_is_cover, dd_is_cover, .fields vc_is_cover, sc_t_is_cover⟩)
    (y2_is_cover : vc_is_cover[11]? = some (.ref pA_is_cover))
    (y3_is_cover : K.lookup pA_is_cover = none)
    (a_check_cover : PySem.W.nsIn K mainGlobals "check_cover" = some (some (.ref f_check_cover)))
    (l_check_cover : K.lookup f_check_cover = some ⟨oc_check_cover, od_check_cover, .func (PySem.W.fnOf "check_cover" "check_cover" (defArgs s_check_cover) (defBody s_check_cover) (defScope s_check_cover) .none kV_check_cover dc_check_cover pm_check_cover an_check_cover cd_check_cover ct_check_cover), sl_check_cover⟩)
    (c_check_cover : PySem.W.codeIn K cd_check_cover "check_cover" = true)
    (k_check_cover : PySem.W.keepIn K (.ref f_check_cover) = true)
    (a_check_covers : PySem.W.nsIn K mainGlobals "check_covers" = some (some (.ref f_check_covers)))
    (l_check_covers : K.lookup f_check_covers = some ⟨oc_check_covers, od_check_covers, .func (PySem.W.fnOf "check_covers" "check_covers" (defArgs s_check_covers) (defBody s_check_covers) (defScope s_check_covers) .none kV_check_covers dc_check_covers pm_check_covers an_check_covers cd_check_covers ct_check_covers), sl_check_covers⟩)
    (c_check_covers : PySem.W.codeIn K cd_check_covers "check_covers" = true)
    (k_check_covers : PySem.W.keepIn K (.ref f_check_covers) = true)
    (a_joined : PySem.W.nsIn K mainGlobals "joined" = some (some (.ref f_joined)))
    (l_joined : K.lookup f_joined = some ⟨oc_joined, od_joined, .func (PySem.W.fnOf "joined" "joined" (defArgs s_joined) (defBody s_joined) (defScope s_joined) .none kV_joined dc_joined pm_joined an_joined cd_joined ct_joined), sl_joined⟩)
    (c_joined : PySem.W.codeIn K cd_joined "joined" = true)
    (k_joined : PySem.W.keepIn K (.ref f_joined) = true)
    (a_common : PySem.W.nsIn K mainGlobals "common" = some (some (.ref f_common)))
    (l_common : K.lookup f_common = some ⟨oc_common, od_common, .func (PySem.W.fnOf "common" "common" (defArgs s_common) (defBody s_common) (defScope s_common) .none kV_common dc_common pm_common an_common cd_common ct_common), sl_common⟩)
    (c_common : PySem.W.codeIn K cd_common "common" = true)
    (k_common : PySem.W.keepIn K (.ref f_common) = true)
    (a_gaps_of : PySem.W.nsIn K mainGlobals "gaps_of" = some (some (.ref f_gaps_of)))
    (l_gaps_of : K.lookup f_gaps_of = some ⟨oc_gaps_of, od_gaps_of, .func (PySem.W.fnOf "gaps_of" "gaps_of" (defArgs s_gaps_of) (defBody s_gaps_of) (defScope s_gaps_of) .none kV_gaps_of dc_gaps_of pm_gaps_of an_gaps_of cd_gaps_of ct_gaps_of), sl_gaps_of⟩)
    (c_gaps_of : PySem.W.codeIn K cd_gaps_of "gaps_of" = true)
    (k_gaps_of : PySem.W.keepIn K (.ref f_gaps_of) = true)
    (a_both : PySem.W.nsIn K mainGlobals "both" = some (some (.ref f_both)))
    (l_both : K.lookup f_both = some ⟨oc_both, od_both, .func (PySem.W.fnOf "both" "both" (defArgs s_both) (defBody s_both) (defScope s_both) .none kV_both dc_both pm_both an_both cd_both ct_both), sl_both⟩)
    (c_both : PySem.W.codeIn K cd_both "both" = true)
    (k_both : PySem.W.keepIn K (.ref f_both) = true)
    (a_either : PySem.W.nsIn K mainGlobals "either" = some (some (.ref f_either)))
    (l_either : K.lookup f_either = some ⟨oc_either, od_either, .func (PySem.W.fnOf "either" "either" (defArgs s_either) (defBody s_either) (defScope s_either) .none kV_either dc_either pm_either an_either cd_either ct_either), sl_either⟩)
    (c_either : PySem.W.codeIn K cd_either "either" = true)
    (k_either : PySem.W.keepIn K (.ref f_either) = true)
    (a_less : PySem.W.nsIn K mainGlobals "less" = some (some (.ref f_less)))
    (l_less : K.lookup f_less = some ⟨oc_less, od_less, .func (PySem.W.fnOf "less" "less" (defArgs s_less) (defBody s_less) (defScope s_less) .none kV_less dc_less pm_less an_less cd_less ct_less), sl_less⟩)
    (c_less : PySem.W.codeIn K cd_less "less" = true)
    (k_less : PySem.W.keepIn K (.ref f_less) = true)
    (a_held : PySem.W.nsIn K mainGlobals "held" = some (some (.ref f_held)))
    (l_held : K.lookup f_held = some ⟨oc_held, od_held, .func (PySem.W.fnOf "held" "held" (defArgs s_held) (defBody s_held) (defScope s_held) .none kV_held dc_held pm_held an_held (.ref cA_held) ct_held), sl_held⟩)
    (c_held : PySem.W.codeIn K (.ref cA_held) "held" = true)
    (k_held : PySem.W.keepIn K (.ref f_held) = true)
    (y1_held : K.lookup cA_held = some ⟨ec_held, dd_held, .fields vc_held, sc_t_held⟩)
    (y2_held : vc_held[11]? = some (.ref pA_held))
    (y3_held : K.lookup pA_held = none)
    (a_l_at : PySem.W.nsIn K mainGlobals "_law_at" = some (some (.ref f_l_at)))
    (l_l_at : K.lookup f_l_at = some ⟨oc_l_at, od_l_at, .func (PySem.W.fnOf "_law_at" "_law_at" (defArgs s_l_at) (defBody s_l_at) (defScope s_l_at) .none kV_l_at dc_l_at pm_l_at an_l_at cd_l_at ct_l_at), sl_l_at⟩)
    (c_l_at : PySem.W.codeIn K cd_l_at "_law_at" = true)
    (k_l_at : PySem.W.keepIn K (.ref f_l_at) = true)
    (a_l_mixed : PySem.W.nsIn K mainGlobals "_law_mixed" = some (some (.ref f_l_mixed)))
    (l_l_mixed : K.lookup f_l_mixed = some ⟨oc_l_mixed, od_l_mixed, .func (PySem.W.fnOf "_law_mixed" "_law_mixed" (defArgs s_l_mixed) (defBody s_l_mixed) (defScope s_l_mixed) .none kV_l_mixed dc_l_mixed pm_l_mixed an_l_mixed cd_l_mixed ct_l_mixed), sl_l_mixed⟩)
    (c_l_mixed : PySem.W.codeIn K cd_l_mixed "_law_mixed" = true)
    (k_l_mixed : PySem.W.keepIn K (.ref f_l_mixed) = true)
    (a_l_purse : PySem.W.nsIn K mainGlobals "_law_purse" = some (some (.ref f_l_purse)))
    (l_l_purse : K.lookup f_l_purse = some ⟨oc_l_purse, od_l_purse, .func (PySem.W.fnOf "_law_purse" "_law_purse" (defArgs s_l_purse) (defBody s_l_purse) (defScope s_l_purse) .none kV_l_purse dc_l_purse pm_l_purse an_l_purse cd_l_purse ct_l_purse), sl_l_purse⟩)
    (c_l_purse : PySem.W.codeIn K cd_l_purse "_law_purse" = true)
    (k_l_purse : PySem.W.keepIn K (.ref f_l_purse) = true)
    (a_l_draw : PySem.W.nsIn K mainGlobals "_law_draw" = some (some (.ref f_l_draw)))
    (l_l_draw : K.lookup f_l_draw = some ⟨oc_l_draw, od_l_draw, .func (PySem.W.fnOf "_law_draw" "_law_draw" (defArgs s_l_draw) (defBody s_l_draw) (defScope s_l_draw) .none kV_l_draw dc_l_draw pm_l_draw an_l_draw cd_l_draw ct_l_draw), sl_l_draw⟩)
    (c_l_draw : PySem.W.codeIn K cd_l_draw "_law_draw" = true)
    (k_l_draw : PySem.W.keepIn K (.ref f_l_draw) = true)
    (a_l_number : PySem.W.nsIn K mainGlobals "_law_number" = some (some (.ref f_l_number)))
    (l_l_number : K.lookup f_l_number = some ⟨oc_l_number, od_l_number, .func (PySem.W.fnOf "_law_number" "_law_number" (defArgs s_l_number) (defBody s_l_number) (defScope s_l_number) .none kV_l_number dc_l_number pm_l_number an_l_number cd_l_number ct_l_number), sl_l_number⟩)
    (c_l_number : PySem.W.codeIn K cd_l_number "_law_number" = true)
    (k_l_number : PySem.W.keepIn K (.ref f_l_number) = true)
    (a_l_kinds : PySem.W.nsIn K mainGlobals "_law_kinds" = some (some (.ref f_l_kinds)))
    (l_l_kinds : K.lookup f_l_kinds = some ⟨oc_l_kinds, od_l_kinds, .func (PySem.W.fnOf "_law_kinds" "_law_kinds" (defArgs s_l_kinds) (defBody s_l_kinds) (defScope s_l_kinds) .none kV_l_kinds dc_l_kinds pm_l_kinds an_l_kinds cd_l_kinds ct_l_kinds), sl_l_kinds⟩)
    (c_l_kinds : PySem.W.codeIn K cd_l_kinds "_law_kinds" = true)
    (k_l_kinds : PySem.W.keepIn K (.ref f_l_kinds) = true)
    (a_l_bad_span : PySem.W.nsIn K mainGlobals "_law_bad_span" = some (some (.ref f_l_bad_span)))
    (l_l_bad_span : K.lookup f_l_bad_span = some ⟨oc_l_bad_span, od_l_bad_span, .func (PySem.W.fnOf "_law_bad_span" "_law_bad_span" (defArgs s_l_bad_span) (defBody s_l_bad_span) (defScope s_l_bad_span) .none kV_l_bad_span dc_l_bad_span pm_l_bad_span an_l_bad_span cd_l_bad_span ct_l_bad_span), sl_l_bad_span⟩)
    (c_l_bad_span : PySem.W.codeIn K cd_l_bad_span "_law_bad_span" = true)
    (k_l_bad_span : PySem.W.keepIn K (.ref f_l_bad_span) = true)
    (a_l_caught : PySem.W.nsIn K mainGlobals "_law_caught" = some (some (.ref f_l_caught)))
    (l_l_caught : K.lookup f_l_caught = some ⟨oc_l_caught, od_l_caught, .func (PySem.W.fnOf "_law_caught" "_law_caught" (defArgs s_l_caught) (defBody s_l_caught) (defScope s_l_caught) .none kV_l_caught dc_l_caught pm_l_caught an_l_caught cd_l_caught ct_l_caught), sl_l_caught⟩)
    (c_l_caught : PySem.W.codeIn K cd_l_caught "_law_caught" = true)
    (k_l_caught : PySem.W.keepIn K (.ref f_l_caught) = true)
    (a_l_good_cover : PySem.W.nsIn K mainGlobals "_law_good_cover" = some (some (.ref f_l_good_cover)))
    (l_l_good_cover : K.lookup f_l_good_cover = some ⟨oc_l_good_cover, od_l_good_cover, .func (PySem.W.fnOf "_law_good_cover" "_law_good_cover" (defArgs s_l_good_cover) (defBody s_l_good_cover) (defScope s_l_good_cover) .none kV_l_good_cover dc_l_good_cover pm_l_good_cover an_l_good_cover cd_l_good_cover ct_l_good_cover), sl_l_good_cover⟩)
    (c_l_good_cover : PySem.W.codeIn K cd_l_good_cover "_law_good_cover" = true)
    (k_l_good_cover : PySem.W.keepIn K (.ref f_l_good_cover) = true)
    (a_l_bent : PySem.W.nsIn K mainGlobals "_law_bent" = some (some (.ref f_l_bent)))
    (l_l_bent : K.lookup f_l_bent = some ⟨oc_l_bent, od_l_bent, .func (PySem.W.fnOf "_law_bent" "_law_bent" (defArgs s_l_bent) (defBody s_l_bent) (defScope s_l_bent) .none kV_l_bent dc_l_bent pm_l_bent an_l_bent cd_l_bent ct_l_bent), sl_l_bent⟩)
    (c_l_bent : PySem.W.codeIn K cd_l_bent "_law_bent" = true)
    (k_l_bent : PySem.W.keepIn K (.ref f_l_bent) = true)
    (a_l_refused : PySem.W.nsIn K mainGlobals "_law_refused" = some (some (.ref f_l_refused)))
    (l_l_refused : K.lookup f_l_refused = some ⟨oc_l_refused, od_l_refused, .func (PySem.W.fnOf "_law_refused" "_law_refused" (defArgs s_l_refused) (defBody s_l_refused) (defScope s_l_refused) .none kV_l_refused dc_l_refused pm_l_refused an_l_refused cd_l_refused ct_l_refused), sl_l_refused⟩)
    (c_l_refused : PySem.W.codeIn K cd_l_refused "_law_refused" = true)
    (k_l_refused : PySem.W.keepIn K (.ref f_l_refused) = true)
    (a_law : PySem.W.nsIn K mainGlobals "law" = some (some (.ref f_law)))
    (l_law : K.lookup f_law = some ⟨oc_law, od_law, .func (PySem.W.fnOf "law" "law" (defArgs s_law) (defBody s_law) (defScope s_law) .none kV_law dc_law pm_law an_law cd_law ct_law), sl_law⟩)
    (c_law : PySem.W.codeIn K cd_law "law" = true)
    (k_law : PySem.W.keepIn K (.ref f_law) = true)
    (n_LEAST_PLACE : PySem.W.nsIn K mainGlobals "LEAST_PLACE" = some (some (.int (-999999999999) tc_LEAST_PLACE)))
    (n_GREATEST_PLACE : PySem.W.nsIn K mainGlobals "GREATEST_PLACE" = some (some (.int (999999999999) tc_GREATEST_PLACE)))
    (n_MOST_SPANS : PySem.W.nsIn K mainGlobals "MOST_SPANS" = some (some (.int (200) tc_MOST_SPANS)))
    (a_ShelfError : PySem.W.nsIn K mainGlobals "ShelfError" = some (some (.ref C_ShelfError)))
    (x_ShelfError : PySem.W.excIn K C_ShelfError [.type "ValueError", .type "Exception", .type "BaseException", .type "object"] "ValueError.__new__" = true)
    (k_ShelfError : PySem.W.keepIn K (.ref C_ShelfError) = true)
    (b_ShelfError : PySem.W.subIn K (.ref C_ShelfError) (.type "BaseException") = some true)
    (t_ShelfError : PySem.W.typeIn K (.ref C_ShelfError) = some (.type "type"))
    (a_NoSpan : PySem.W.nsIn K mainGlobals "NoSpan" = some (some (.ref C_NoSpan)))
    (x_NoSpan : PySem.W.excIn K C_NoSpan [.type "ValueError", .type "Exception", .type "BaseException", .type "object"] "ValueError.__new__" = true)
    (k_NoSpan : PySem.W.keepIn K (.ref C_NoSpan) = true)
    (b_NoSpan : PySem.W.subIn K (.ref C_NoSpan) (.type "BaseException") = some true)
    (t_NoSpan : PySem.W.typeIn K (.ref C_NoSpan) = some (.type "type"))
    (a_NoPlace : PySem.W.nsIn K mainGlobals "NoPlace" = some (some (.ref C_NoPlace)))
    (x_NoPlace : PySem.W.excIn K C_NoPlace [.type "ValueError", .type "Exception", .type "BaseException", .type "object"] "ValueError.__new__" = true)
    (k_NoPlace : PySem.W.keepIn K (.ref C_NoPlace) = true)
    (b_NoPlace : PySem.W.subIn K (.ref C_NoPlace) (.type "BaseException") = some true)
    (t_NoPlace : PySem.W.typeIn K (.ref C_NoPlace) = some (.type "type"))
    (a_NoCover : PySem.W.nsIn K mainGlobals "NoCover" = some (some (.ref C_NoCover)))
    (x_NoCover : PySem.W.excIn K C_NoCover [.type "ValueError", .type "Exception", .type "BaseException", .type "object"] "ValueError.__new__" = true)
    (k_NoCover : PySem.W.keepIn K (.ref C_NoCover) = true)
    (b_NoCover : PySem.W.subIn K (.ref C_NoCover) (.type "BaseException") = some true)
    (t_NoCover : PySem.W.typeIn K (.ref C_NoCover) = some (.type "type"))
    (a_NoWeight : PySem.W.nsIn K mainGlobals "NoWeight" = some (some (.ref C_NoWeight)))
    (x_NoWeight : PySem.W.excIn K C_NoWeight [.type "ValueError", .type "Exception", .type "BaseException", .type "object"] "ValueError.__new__" = true)
    (k_NoWeight : PySem.W.keepIn K (.ref C_NoWeight) = true)
    (b_NoWeight : PySem.W.subIn K (.ref C_NoWeight) (.type "BaseException") = some true)
    (t_NoWeight : PySem.W.typeIn K (.ref C_NoWeight) = some (.type "type"))
    (a_NoCount : PySem.W.nsIn K mainGlobals "NoCount" = some (some (.ref C_NoCount)))
    (x_NoCount : PySem.W.excIn K C_NoCount [.type "ValueError", .type "Exception", .type "BaseException", .type "object"] "ValueError.__new__" = true)
    (k_NoCount : PySem.W.keepIn K (.ref C_NoCount) = true)
    (b_NoCount : PySem.W.subIn K (.ref C_NoCount) (.type "BaseException") = some true)
    (t_NoCount : PySem.W.typeIn K (.ref C_NoCount) = some (.type "type"))
    (a_NoName : PySem.W.nsIn K mainGlobals "NoName" = some (some (.ref C_NoName)))
    (x_NoName : PySem.W.excIn K C_NoName [.type "ValueError", .type "Exception", .type "BaseException", .type "object"] "ValueError.__new__" = true)
    (k_NoName : PySem.W.keepIn K (.ref C_NoName) = true)
    (b_NoName : PySem.W.subIn K (.ref C_NoName) (.type "BaseException") = some true)
    (t_NoName : PySem.W.typeIn K (.ref C_NoName) = some (.type "type"))
    (a_Twice : PySem.W.nsIn K mainGlobals "Twice" = some (some (.ref C_Twice)))
    (x_Twice : PySem.W.excIn K C_Twice [.type "ValueError", .type "Exception", .type "BaseException", .type "object"] "ValueError.__new__" = true)
    (k_Twice : PySem.W.keepIn K (.ref C_Twice) = true)
    (b_Twice : PySem.W.subIn K (.ref C_Twice) (.type "BaseException") = some true)
    (t_Twice : PySem.W.typeIn K (.ref C_Twice) = some (.type "type"))
    (a_Full : PySem.W.nsIn K mainGlobals "Full" = some (some (.ref C_Full)))
    (x_Full : PySem.W.excIn K C_Full [.type "ValueError", .type "Exception", .type "BaseException", .type "object"] "ValueError.__new__" = true)
    (k_Full : PySem.W.keepIn K (.ref C_Full) = true)
    (b_Full : PySem.W.subIn K (.ref C_Full) (.type "BaseException") = some true)
    (t_Full : PySem.W.typeIn K (.ref C_Full) = some (.type "type"))
    (a_Bare : PySem.W.nsIn K mainGlobals "Bare" = some (some (.ref C_Bare)))
    (x_Bare : PySem.W.excIn K C_Bare [.type "ValueError", .type "Exception", .type "BaseException", .type "object"] "ValueError.__new__" = true)
    (k_Bare : PySem.W.keepIn K (.ref C_Bare) = true)
    (b_Bare : PySem.W.subIn K (.ref C_Bare) (.type "BaseException") = some true)
    (t_Bare : PySem.W.typeIn K (.ref C_Bare) = some (.type "type"))
    (a_NoDeed : PySem.W.nsIn K mainGlobals "NoDeed" = some (some (.ref C_NoDeed)))
    (x_NoDeed : PySem.W.excIn K C_NoDeed [.type "ValueError", .type "Exception", .type "BaseException", .type "object"] "ValueError.__new__" = true)
    (k_NoDeed : PySem.W.keepIn K (.ref C_NoDeed) = true)
    (b_NoDeed : PySem.W.subIn K (.ref C_NoDeed) (.type "BaseException") = some true)
    (t_NoDeed : PySem.W.typeIn K (.ref C_NoDeed) = some (.type "type"))
    (a_NoText : PySem.W.nsIn K mainGlobals "NoText" = some (some (.ref C_NoText)))
    (x_NoText : PySem.W.excIn K C_NoText [.type "ValueError", .type "Exception", .type "BaseException", .type "object"] "ValueError.__new__" = true)
    (k_NoText : PySem.W.keepIn K (.ref C_NoText) = true)
    (b_NoText : PySem.W.subIn K (.ref C_NoText) (.type "BaseException") = some true)
    (t_NoText : PySem.W.typeIn K (.ref C_NoText) = some (.type "type"))
    (a_NoLine : PySem.W.nsIn K mainGlobals "NoLine" = some (some (.ref C_NoLine)))
    (x_NoLine : PySem.W.excIn K C_NoLine [.type "ValueError", .type "Exception", .type "BaseException", .type "object"] "ValueError.__new__" = true)
    (k_NoLine : PySem.W.keepIn K (.ref C_NoLine) = true)
    (b_NoLine : PySem.W.subIn K (.ref C_NoLine) (.type "BaseException") = some true)
    (t_NoLine : PySem.W.typeIn K (.ref C_NoLine) = some (.type "type"))
    (z_ValueError : PySem.W.nsIn K mainGlobals "ValueError" = some none)
    (z_all : PySem.W.nsIn K mainGlobals "all" = some none)
    (z_bool : PySem.W.nsIn K mainGlobals "bool" = some none)
    (z_int : PySem.W.nsIn K mainGlobals "int" = some none)
    (z_isinstance : PySem.W.nsIn K mainGlobals "isinstance" = some none)
    (z_len : PySem.W.nsIn K mainGlobals "len" = some none)
    (z_list : PySem.W.nsIn K mainGlobals "list" = some none)
    (z_max : PySem.W.nsIn K mainGlobals "max" = some none)
    (z_min : PySem.W.nsIn K mainGlobals "min" = some none)
    (z_range : PySem.W.nsIn K mainGlobals "range" = some none)
    (z_sorted : PySem.W.nsIn K mainGlobals "sorted" = some none)
    (z_sum : PySem.W.nsIn K mainGlobals "sum" = some none)
    (z_tuple : PySem.W.nsIn K mainGlobals "tuple" = some none)
    (z_zip : PySem.W.nsIn K mainGlobals "zip" = some none)
    (excs : ([C_ShelfError, C_NoSpan, C_NoPlace, C_NoCover, C_NoWeight, C_NoCount, C_NoName, C_Twice, C_Full, C_Bare, C_NoDeed, C_NoText, C_NoLine].map fun (D : Addr) => (PySem.W.findIn K (.ref D) "__getattribute__", PySem.W.findIn K (.ref D) "__getattr__", PySem.W.subIn K (.ref D) (.type "BaseException"), PySem.W.hasDictIn K D, PySem.W.findIn K (.ref D) "__class__", PySem.W.mroIn K D (.type "object"))) = [C_ShelfError, C_NoSpan, C_NoPlace, C_NoCover, C_NoWeight, C_NoCount, C_NoName, C_Twice, C_Full, C_Bare, C_NoDeed, C_NoText, C_NoLine].map fun (_ : Addr) => (some (some (.builtin "BaseException.__getattribute__")), some none, some true, true, some (some (.builtin "object.__class__")), some true))
    (gets : (PySem.W.specialIn K (.builtin "object.__class__") "__get__", PySem.W.takesIn K (.builtin "object.__class__")) = (some (some (.builtin "getset_descriptor.__get__")), some true))
    (kits : ([C_ShelfError, C_NoSpan, C_NoPlace, C_NoCover, C_NoWeight, C_NoCount, C_NoName, C_Twice, C_Full, C_Bare, C_NoDeed, C_NoText, C_NoLine].map fun (D : Addr) => [C_NoSpan, C_NoPlace, C_NoCover, C_NoWeight, C_NoCount, C_NoName, C_Twice, C_Full, C_Bare, C_NoDeed, C_NoText, C_NoLine].map fun (C : Addr) => PySem.W.kitOne K (.ref D) (.ref C)) = (List.range 13).map fun i => (List.range 12).map fun j => some (i == j + 1))
    (tops : ([C_ShelfError, C_NoSpan, C_NoPlace, C_NoCover, C_NoWeight, C_NoCount, C_NoName, C_Twice, C_Full, C_Bare, C_NoDeed, C_NoText, C_NoLine].map fun (D : Addr) => (PySem.W.kitOne K (.ref D) (.ref C_ShelfError), PySem.W.kitOne K (.ref D) (.type "ValueError"))) = [C_ShelfError, C_NoSpan, C_NoPlace, C_NoCover, C_NoWeight, C_NoCount, C_NoName, C_Twice, C_Full, C_Bare, C_NoDeed, C_NoText, C_NoLine].map fun (_ : Addr) => (some true, some true))
    (nones : ([C_ShelfError, C_NoSpan, C_NoPlace, C_NoCover, C_NoWeight, C_NoCount, C_NoName, C_Twice, C_Full, C_Bare, C_NoDeed, C_NoText, C_NoLine].map fun (C : Addr) => PySem.W.kitOne K (.type "NoneType") (.ref C)) = [C_ShelfError, C_NoSpan, C_NoPlace, C_NoCover, C_NoWeight, C_NoCount, C_NoName, C_Twice, C_Full, C_Bare, C_NoDeed, C_NoText, C_NoLine].map fun (_ : Addr) => some false)
    (exms : ([C_ShelfError, C_NoSpan, C_NoPlace, C_NoCover, C_NoWeight, C_NoCount, C_NoName, C_Twice, C_Full, C_Bare, C_NoDeed, C_NoText, C_NoLine].map fun (D : Addr) => PySem.W.exmOne K (.ref D) (.ref C_ShelfError)) = [C_ShelfError, C_NoSpan, C_NoPlace, C_NoCover, C_NoWeight, C_NoCount, C_NoName, C_Twice, C_Full, C_Bare, C_NoDeed, C_NoText, C_NoLine].map fun (_ : Addr) => some true)
    (R : ∀ nm ∈ (["is_cover", "held"] : List Str), TabRec h mg nm)
    : LamX.LawAtS l w K CX0 11 63 "_law_script" mg fa h := by
  have e := hfa.symm.trans (PySem.W.mg_of X G a_law)
  cases e
  have F_is_whole := fun_mk (st := s_is_whole) l_is_whole c_is_whole k_is_whole
  have b_is_whole := F_is_whole.binds (ps := ["number"]) fun _ _ _ _ _ _ us hl => match us, hl with | [_], _ => rfl
  have F_is_place := fun_mk (st := s_is_place) l_is_place c_is_place k_is_place
  have b_is_place := F_is_place.binds (ps := ["number"]) fun _ _ _ _ _ _ us hl => match us, hl with | [_], _ => rfl
  have F_is_span := fun_mk (st := s_is_span) l_is_span c_is_span k_is_span
  have b_is_span := F_is_span.binds (ps := ["span"]) fun _ _ _ _ _ _ us hl => match us, hl with | [_], _ => rfl
  have F_check_span := fun_mk (st := s_check_span) l_check_span c_check_span k_check_span
  have b_check_span := F_check_span.binds (ps := ["span"]) fun _ _ _ _ _ _ us hl => match us, hl with | [_], _ => rfl
  have F_check_spans := fun_mk (st := s_check_spans) l_check_spans c_check_spans k_check_spans
  have b_check_spans := F_check_spans.binds (ps := ["spans"]) fun _ _ _ _ _ _ us hl => match us, hl with | [_], _ => rfl
  have F_is_cover := fun_mk (st := s_is_cover) l_is_cover c_is_cover k_is_cover
  have b_is_cover := F_is_cover.binds (ps := ["spans"]) fun _ _ _ _ _ _ us hl => match us, hl with | [_], _ => rfl
  have F_check_cover := fun_mk (st := s_check_cover) l_check_cover c_check_cover k_check_cover
  have b_check_cover := F_check_cover.binds (ps := ["cover"]) fun _ _ _ _ _ _ us hl => match us, hl with | [_], _ => rfl
  have F_check_covers := fun_mk (st := s_check_covers) l_check_covers c_check_covers k_check_covers
  have b_check_covers := F_check_covers.binds (ps := ["one", "other"]) fun _ _ _ _ _ _ us hl => match us, hl with | [_, _], _ => rfl
  have F_joined := fun_mk (st := s_joined) l_joined c_joined k_joined
  have b_joined := F_joined.binds (ps := ["spans"]) fun _ _ _ _ _ _ us hl => match us, hl with | [_], _ => rfl
  have F_common := fun_mk (st := s_common) l_common c_common k_common
  have b_common := F_common.binds (ps := ["one", "other"]) fun _ _ _ _ _ _ us hl => match us, hl with | [_, _], _ => rfl
  have F_gaps_of := fun_mk (st := s_gaps_of) l_gaps_of c_gaps_of k_gaps_of
  have b_gaps_of := F_gaps_of.binds (ps := ["cover"]) fun _ _ _ _ _ _ us hl => match us, hl with | [_], _ => rfl
  have F_both := fun_mk (st := s_both) l_both c_both k_both
  have b_both := F_both.binds (ps := ["one", "other"]) fun _ _ _ _ _ _ us hl => match us, hl with | [_, _], _ => rfl
  have F_either := fun_mk (st := s_either) l_either c_either k_either
  have b_either := F_either.binds (ps := ["one", "other"]) fun _ _ _ _ _ _ us hl => match us, hl with | [_, _], _ => rfl
  have F_less := fun_mk (st := s_less) l_less c_less k_less
  have b_less := F_less.binds (ps := ["one", "other"]) fun _ _ _ _ _ _ us hl => match us, hl with | [_, _], _ => rfl
  have F_held := fun_mk (st := s_held) l_held c_held k_held
  have b_held := F_held.binds (ps := ["cover"]) fun _ _ _ _ _ _ us hl => match us, hl with | [_], _ => rfl
  have F_l_at := fun_mk (st := s_l_at) l_l_at c_l_at k_l_at
  have b_l_at := F_l_at.binds (ps := ["_law_script", "_law_k"]) fun _ _ _ _ _ _ us hl => match us, hl with | [_, _], _ => rfl
  have F_l_mixed := fun_mk (st := s_l_mixed) l_l_mixed c_l_mixed k_l_mixed
  have b_l_mixed := F_l_mixed.binds (ps := ["_law_cell", "_law_k"]) fun _ _ _ _ _ _ us hl => match us, hl with | [_, _], _ => rfl
  have F_l_purse := fun_mk (st := s_l_purse) l_l_purse c_l_purse k_l_purse
  have b_l_purse := F_l_purse.binds (ps := ["_law_script", "_law_at_here"]) fun _ _ _ _ _ _ us hl => match us, hl with | [_, _], _ => rfl
  have F_l_draw := fun_mk (st := s_l_draw) l_l_draw c_l_draw k_l_draw
  have b_l_draw := F_l_draw.binds (ps := ["_law_purse_here", "_law_out_of"]) fun _ _ _ _ _ _ us hl => match us, hl with | [_, _], _ => rfl
  have F_l_number := fun_mk (st := s_l_number) l_l_number c_l_number k_l_number
  have b_l_number := F_l_number.binds (ps := ["_law_purse_here", "_law_most"]) fun _ _ _ _ _ _ us hl => match us, hl with | [_, _], _ => rfl
  have F_l_kinds := fun_mk (st := s_l_kinds) l_l_kinds c_l_kinds k_l_kinds
  have b_l_kinds := F_l_kinds.binds (ps := ["_law_e"]) fun _ _ _ _ _ _ us hl => match us, hl with | [_], _ => rfl
  have F_l_bad_span := fun_mk (st := s_l_bad_span) l_l_bad_span c_l_bad_span k_l_bad_span
  have b_l_bad_span := F_l_bad_span.binds (ps := ["_law_purse_here"]) fun _ _ _ _ _ _ us hl => match us, hl with | [_], _ => rfl
  have F_l_caught := fun_mk (st := s_l_caught) l_l_caught c_l_caught k_l_caught
  have b_l_caught := F_l_caught.binds (ps := ["_law_way", "_law_one", "_law_other"]) fun _ _ _ _ _ _ us hl => match us, hl with | [_, _, _], _ => rfl
  have F_l_good_cover := fun_mk (st := s_l_good_cover) l_l_good_cover c_l_good_cover k_l_good_cover
  have b_l_good_cover := F_l_good_cover.binds (ps := ["_law_purse_here"]) fun _ _ _ _ _ _ us hl => match us, hl with | [_], _ => rfl
  have F_l_bent := fun_mk (st := s_l_bent) l_l_bent c_l_bent k_l_bent
  have b_l_bent := F_l_bent.binds (ps := ["_law_purse_here", "_law_cover"]) fun _ _ _ _ _ _ us hl => match us, hl with | [_, _], _ => rfl
  have F_l_refused := fun_mk (st := s_l_refused) l_l_refused c_l_refused k_l_refused
  have b_l_refused := F_l_refused.binds (ps := ["_law_one", "_law_other", "_law_due"]) fun _ _ _ _ _ _ us hl => match us, hl with | [_, _, _], _ => rfl
  have F_law := fun_mk (st := s_law) l_law c_law k_law
  have b_law := F_law.binds (ps := ["_law_script"]) fun _ _ _ _ _ _ us hl => match us, hl with | [_], _ => rfl
  let T : Tx K mg := { f_is_whole := _, fd_is_whole := _, F_is_whole := F_is_whole, b_is_whole := b_is_whole, g_is_whole := PySem.W.mg_of X G a_is_whole, f_is_place := _, fd_is_place := _, F_is_place := F_is_place, b_is_place := b_is_place, g_is_place := PySem.W.mg_of X G a_is_place, f_is_span := _, fd_is_span := _, F_is_span := F_is_span, b_is_span := b_is_span, g_is_span := PySem.W.mg_of X G a_is_span, f_check_span := _, fd_check_span := _, F_check_span := F_check_span, b_check_span := b_check_span, g_check_span := PySem.W.mg_of X G a_check_span, f_check_spans := _, fd_check_spans := _, F_check_spans := F_check_spans, b_check_spans := b_check_spans, g_check_spans := PySem.W.mg_of X G a_check_spans, f_is_cover := _, fd_is_cover := _, F_is_cover := F_is_cover, b_is_cover := b_is_cover, g_is_cover := PySem.W.mg_of X G a_is_cover, cA_is_cover := cA_is_cover, pA_is_cover := pA_is_cover, FC_is_cover := ⟨⟨_, _, _, _, _, _, _, _, rfl, l_is_cover, c_is_cover⟩⟩, f_check_cover := _, fd_check_cover := _, F_check_cover := F_check_cover, b_check_cover := b_check_cover, g_check_cover := PySem.W.mg_of X G a_check_cover, f_check_covers := _, fd_check_covers := _, F_check_covers := F_check_covers, b_check_covers := b_check_covers, g_check_covers := PySem.W.mg_of X G a_check_covers, f_joined := _, fd_joined := _, F_joined := F_joined, b_joined := b_joined, g_joined := PySem.W.mg_of X G a_joined, f_common := _, fd_common := _, F_common := F_common, b_common := b_common, g_common := PySem.W.mg_of X G a_common, f_gaps_of := _, fd_gaps_of := _, F_gaps_of := F_gaps_of, b_gaps_of := b_gaps_of, g_gaps_of := PySem.W.mg_of X G a_gaps_of, f_both := _, fd_both := _, F_both := F_both, b_both := b_both, g_both := PySem.W.mg_of X G a_both, f_either := _, fd_either := _, F_either := F_either, b_either := b_either, g_either := PySem.W.mg_of X G a_either, f_less := _, fd_less := _, F_less := F_less, b_less := b_less, g_less := PySem.W.mg_of X G a_less, f_held := _, fd_held := _, F_held := F_held, b_held := b_held, g_held := PySem.W.mg_of X G a_held, cA_held := cA_held, pA_held := pA_held, FC_held := ⟨⟨_, _, _, _, _, _, _, _, rfl, l_held, c_held⟩⟩, f_l_at := _, fd_l_at := _, F_l_at := F_l_at, b_l_at := b_l_at, g_l_at := PySem.W.mg_of X G a_l_at, f_l_mixed := _, fd_l_mixed := _, F_l_mixed := F_l_mixed, b_l_mixed := b_l_mixed, g_l_mixed := PySem.W.mg_of X G a_l_mixed, f_l_purse := _, fd_l_purse := _, F_l_purse := F_l_purse, b_l_purse := b_l_purse, g_l_purse := PySem.W.mg_of X G a_l_purse, f_l_draw := _, fd_l_draw := _, F_l_draw := F_l_draw, b_l_draw := b_l_draw, g_l_draw := PySem.W.mg_of X G a_l_draw, f_l_number := _, fd_l_number := _, F_l_number := F_l_number, b_l_number := b_l_number, g_l_number := PySem.W.mg_of X G a_l_number, f_l_kinds := _, fd_l_kinds := _, F_l_kinds := F_l_kinds, b_l_kinds := b_l_kinds, g_l_kinds := PySem.W.mg_of X G a_l_kinds, f_l_bad_span := _, fd_l_bad_span := _, F_l_bad_span := F_l_bad_span, b_l_bad_span := b_l_bad_span, g_l_bad_span := PySem.W.mg_of X G a_l_bad_span, f_l_caught := _, fd_l_caught := _, F_l_caught := F_l_caught, b_l_caught := b_l_caught, g_l_caught := PySem.W.mg_of X G a_l_caught, f_l_good_cover := _, fd_l_good_cover := _, F_l_good_cover := F_l_good_cover, b_l_good_cover := b_l_good_cover, g_l_good_cover := PySem.W.mg_of X G a_l_good_cover, f_l_bent := _, fd_l_bent := _, F_l_bent := F_l_bent, b_l_bent := b_l_bent, g_l_bent := PySem.W.mg_of X G a_l_bent, f_l_refused := _, fd_l_refused := _, F_l_refused := F_l_refused, b_l_refused := b_l_refused, g_l_refused := PySem.W.mg_of X G a_l_refused, f_law := _, fd_law := _, F_law := F_law, b_law := b_law, g_law := PySem.W.mg_of X G a_law, tc_LEAST_PLACE := _, c_LEAST_PLACE := PySem.W.mg_of X G n_LEAST_PLACE, tc_GREATEST_PLACE := _, c_GREATEST_PLACE := PySem.W.mg_of X G n_GREATEST_PLACE, tc_MOST_SPANS := _, c_MOST_SPANS := PySem.W.mg_of X G n_MOST_SPANS, C_ShelfError := _, g_ShelfError := PySem.W.mg_of X G a_ShelfError, x_ShelfError := x_ShelfError, k_ShelfError := k_ShelfError, b_ShelfError := b_ShelfError, t_ShelfError := t_ShelfError, C_NoSpan := _, g_NoSpan := PySem.W.mg_of X G a_NoSpan, x_NoSpan := x_NoSpan, k_NoSpan := k_NoSpan, b_NoSpan := b_NoSpan, t_NoSpan := t_NoSpan, C_NoPlace := _, g_NoPlace := PySem.W.mg_of X G a_NoPlace, x_NoPlace := x_NoPlace, k_NoPlace := k_NoPlace, b_NoPlace := b_NoPlace, t_NoPlace := t_NoPlace, C_NoCover := _, g_NoCover := PySem.W.mg_of X G a_NoCover, x_NoCover := x_NoCover, k_NoCover := k_NoCover, b_NoCover := b_NoCover, t_NoCover := t_NoCover, C_NoWeight := _, g_NoWeight := PySem.W.mg_of X G a_NoWeight, x_NoWeight := x_NoWeight, k_NoWeight := k_NoWeight, b_NoWeight := b_NoWeight, t_NoWeight := t_NoWeight, C_NoCount := _, g_NoCount := PySem.W.mg_of X G a_NoCount, x_NoCount := x_NoCount, k_NoCount := k_NoCount, b_NoCount := b_NoCount, t_NoCount := t_NoCount, C_NoName := _, g_NoName := PySem.W.mg_of X G a_NoName, x_NoName := x_NoName, k_NoName := k_NoName, b_NoName := b_NoName, t_NoName := t_NoName, C_Twice := _, g_Twice := PySem.W.mg_of X G a_Twice, x_Twice := x_Twice, k_Twice := k_Twice, b_Twice := b_Twice, t_Twice := t_Twice, C_Full := _, g_Full := PySem.W.mg_of X G a_Full, x_Full := x_Full, k_Full := k_Full, b_Full := b_Full, t_Full := t_Full, C_Bare := _, g_Bare := PySem.W.mg_of X G a_Bare, x_Bare := x_Bare, k_Bare := k_Bare, b_Bare := b_Bare, t_Bare := t_Bare, C_NoDeed := _, g_NoDeed := PySem.W.mg_of X G a_NoDeed, x_NoDeed := x_NoDeed, k_NoDeed := k_NoDeed, b_NoDeed := b_NoDeed, t_NoDeed := t_NoDeed, C_NoText := _, g_NoText := PySem.W.mg_of X G a_NoText, x_NoText := x_NoText, k_NoText := k_NoText, b_NoText := b_NoText, t_NoText := t_NoText, C_NoLine := _, g_NoLine := PySem.W.mg_of X G a_NoLine, x_NoLine := x_NoLine, k_NoLine := k_NoLine, b_NoLine := b_NoLine, t_NoLine := t_NoLine, m_ValueError := PySem.W.mg_none_of X G z_ValueError, m_all := PySem.W.mg_none_of X G z_all, m_bool := PySem.W.mg_none_of X G z_bool, m_int := PySem.W.mg_none_of X G z_int, m_isinstance := PySem.W.mg_none_of X G z_isinstance, m_len := PySem.W.mg_none_of X G z_len, m_list := PySem.W.mg_none_of X G z_list, m_max := PySem.W.mg_none_of X G z_max, m_min := PySem.W.mg_none_of X G z_min, m_range := PySem.W.mg_none_of X G z_range, m_sorted := PySem.W.mg_none_of X G z_sorted, m_sum := PySem.W.mg_none_of X G z_sum, m_tuple := PySem.W.mg_none_of X G z_tuple, m_zip := PySem.W.mg_none_of X G z_zip, excs := excs, gets := gets, kits := kits, tops := tops, nones := nones, exms := exms }
  have z_t0 := tab_of X (R "is_cover" (by simp)) (PySem.W.mg_of X G a_is_cover) l_is_cover rfl y1_is_cover y2_is_cover
  have z_t1 := tab_of X (R "held" (by simp)) (PySem.W.mg_of X G a_held) l_held rfl y1_held y2_held
  have e1 : ∀ p ∈ ([(cA_is_cover, pA_is_cover), (cA_held, pA_held)] : List (Addr × Addr)), h.get? p.2 = some { cls := .none, data := .fields #[] } ∧ K.lookup p.2 = none ∧ PySem.W.CodeHd h p.1 p.2 := fun p hp => by
    simp only [List.mem_cons, List.not_mem_nil, or_false] at hp
    rcases hp with rfl | rfl
    · exact ⟨z_t0.1, y3_is_cover, z_t0.2⟩
    · exact ⟨z_t1.1, y3_held, z_t1.2⟩
  refine ⟨PySem.W.fnOf "law" "law" (defArgs s_law) (defBody s_law) (defScope s_law) .none kV_law dc_law pm_law an_law cd_law ct_law, [(cA_is_cover, pA_is_cover), (cA_held, pA_held)], spLaw T, fun p hp => (e1 p hp).1, fun p hp => (e1 p hp).2.1, fun p hp => (e1 p hp).2.2, fun s v => .of_eq rfl, fun H a ns hl _ hT hS => ?_, fun base _ _ hB => ?_⟩
  · refine ⟨a, ns, rfl, hS, hl, fun P hP => ⟨#[], ?_, True.intro⟩, fun _ => rfl⟩
    have hP : P ∈ [pA_is_cover, pA_held] := hP
    simp only [List.mem_cons, List.not_mem_nil, or_false] at hP
    rcases hP with hP | hP
    · rw [hP]
      exact hT (cA_is_cover, pA_is_cover) (by simp)
    · rw [hP]
      exact hT (cA_held, pA_held) (by simp)
  · exact ok_law T { t_is_cover := ⟨(hB (cA_is_cover, pA_is_cover) (by simp)).code, (hB (cA_is_cover, pA_is_cover) (by simp)).bm, (hB (cA_is_cover, pA_is_cover) (by simp)).gP⟩, t_held := ⟨(hB (cA_held, pA_held) (by simp)).code, (hB (cA_held, pA_held) (by simp)).bm, (hB (cA_held, pA_held) (by simp)).gP⟩ } F_law
end Sp
open PySem PySem.W PyProof.Rows
set_option maxHeartbeats 0 in
theorem PySem.Challenge.cw_spanshelf_k05_no_covers_holds : PySem.Challenge.rw_spanshelf_k05_no_covers.Holds := by
  w_on; o_law; k_head; (case hw => w_witness2)
  k_fill
  refine Sp.walk_tabs (l := PySem.Challenge.rw_spanshelf_k05_no_covers) (n := 63) (k := 11) (x := "_law_script") (CX := fun _ => L2.CX0) ["is_cover", "held"] rfl (by decide) rfl ⟨rfl, by decide, by decide⟩ (by first | rfl | decide +kernel) (fun w h Y => PySem.W.kIn_of Y) ?F (fun _ _ _ _ _ h => h)
  case F =>
    intro w mg fa h KX G hmg hR
    refine' Sp.all_mk KX G hmg ?a_is_whole ?l_is_whole ?c_is_whole ?k_is_whole ?a_is_place ?l_is_place ?c_is_place ?k_is_place ?a_is_span ?l_is_span ?c_is_span ?k_is_span ?a_check_span ?l_check_span ?c_check_span ?k_check_span ?a_check_spans ?l_check_spans ?c_check_spans ?k_check_spans ?a_is_cover ?l_is_cover ?c_is_cover ?k_is_cover ?y1_is_cover ?y2_is_cover ?y3_is_cover ?a_check_cover ?l_check_cover ?c_check_cover ?k_check_cover ?a_check_covers ?l_check_covers ?c_check_covers ?k_check_covers ?a_joined ?l_joined ?c_joined ?k_joined ?a_common ?l_common ?c_common ?k_common ?a_gaps_of ?l_gaps_of ?c_gaps_of ?k_gaps_of ?a_both ?l_both ?c_both ?k_both ?a_either ?l_either ?c_either ?k_either ?a_less ?l_less ?c_less ?k_less ?a_held ?l_held ?c_held ?k_held ?y1_held ?y2_held ?y3_held ?a_l_at ?l_l_at ?c_l_at ?k_l_at ?a_l_mixed ?l_l_mixed ?c_l_mixed ?k_l_mixed ?a_l_purse ?l_l_purse ?c_l_purse ?k_l_purse ?a_l_draw ?l_l_draw ?c_l_draw ?k_l_draw ?a_l_number ?l_l_number ?c_l_number ?k_l_number ?a_l_kinds ?l_l_kinds ?c_l_kinds ?k_l_kinds ?a_l_bad_span ?l_l_bad_span ?c_l_bad_span ?k_l_bad_span ?a_l_caught ?l_l_caught ?c_l_caught ?k_l_caught ?a_l_good_cover ?l_l_good_cover ?c_l_good_cover ?k_l_good_cover ?a_l_bent ?l_l_bent ?c_l_bent ?k_l_bent ?a_l_refused ?l_l_refused ?c_l_refused ?k_l_refused ?a_law ?l_law ?c_law ?k_law ?n_LEAST_PLACE ?n_GREATEST_PLACE ?n_MOST_SPANS ?a_ShelfError ?x_ShelfError ?k_ShelfError ?b_ShelfError ?t_ShelfError ?a_NoSpan ?x_NoSpan ?k_NoSpan ?b_NoSpan ?t_NoSpan ?a_NoPlace ?x_NoPlace ?k_NoPlace ?b_NoPlace ?t_NoPlace ?a_NoCover ?x_NoCover ?k_NoCover ?b_NoCover ?t_NoCover ?a_NoWeight ?x_NoWeight ?k_NoWeight ?b_NoWeight ?t_NoWeight ?a_NoCount ?x_NoCount ?k_NoCount ?b_NoCount ?t_NoCount ?a_NoName ?x_NoName ?k_NoName ?b_NoName ?t_NoName ?a_Twice ?x_Twice ?k_Twice ?b_Twice ?t_Twice ?a_Full ?x_Full ?k_Full ?b_Full ?t_Full ?a_Bare ?x_Bare ?k_Bare ?b_Bare ?t_Bare ?a_NoDeed ?x_NoDeed ?k_NoDeed ?b_NoDeed ?t_NoDeed ?a_NoText ?x_NoText ?k_NoText ?b_NoText ?t_NoText ?a_NoLine ?x_NoLine ?k_NoLine ?b_NoLine ?t_NoLine ?z_ValueError ?z_all ?z_bool ?z_int ?z_isinstance ?z_len ?z_list ?z_max ?z_min ?z_range ?z_sorted ?z_sum ?z_tuple ?z_zip ?excs ?gets ?kits ?tops ?nones ?exms hR
    (case a_is_whole => first | k_is | rfl)
    (case l_is_whole => first | k_is | rfl)
    (case c_is_whole => first | k_is | rfl)
    (case k_is_whole => first | k_is | rfl)
    (case a_is_place => first | k_is | rfl)
    (case l_is_place => first | k_is | rfl)
    (case c_is_place => first | k_is | rfl)
    (case k_is_place => first | k_is | rfl)
    (case a_is_span => first | k_is | rfl)
    (case l_is_span => first | k_is | rfl)
    (case c_is_span => first | k_is | rfl)
    (case k_is_span => first | k_is | rfl)
    (case a_check_span => first | k_is | rfl)
    (case l_check_span => first | k_is | rfl)
    (case c_check_span => first | k_is | rfl)
    (case k_check_span => first | k_is | rfl)
    (case a_check_spans => first | k_is | rfl)
    (case l_check_spans => first | k_is | rfl)
    (case c_check_spans => first | k_is | rfl)
    (case k_check_spans => first | k_is | rfl)
    (case a_is_cover => first | k_is | rfl)
    (case l_is_cover => first | k_is | rfl)
    (case c_is_cover => first | k_is | rfl)
    (case k_is_cover => first | k_is | rfl)
    (case y1_is_cover => first | k_is | rfl)
    (case y2_is_cover => rfl)
    (case y3_is_cover => first | k_is | kernel_rfl)
    (case a_check_cover => first | k_is | rfl)
    (case l_check_cover => first | k_is | rfl)
    (case c_check_cover => first | k_is | rfl)
    (case k_check_cover => first | k_is | rfl)
    (case a_check_covers => first | k_is | rfl)
    (case l_check_covers => first | k_is | rfl)
    (case c_check_covers => first | k_is | rfl)
    (case k_check_covers => first | k_is | rfl)
    (case a_joined => first | k_is | rfl)
    (case l_joined => first | k_is | rfl)
    (case c_joined => first | k_is | rfl)
    (case k_joined => first | k_is | rfl)
    (case a_common => first | k_is | rfl)
    (case l_common => first | k_is | rfl)
    (case c_common => first | k_is | rfl)
    (case k_common => first | k_is | rfl)
    (case a_gaps_of => first | k_is | rfl)
    (case l_gaps_of => first | k_is | rfl)
    (case c_gaps_of => first | k_is | rfl)
    (case k_gaps_of => first | k_is | rfl)
    (case a_both => first | k_is | rfl)
    (case l_both => first | k_is | rfl)
    (case c_both => first | k_is | rfl)
    (case k_both => first | k_is | rfl)
    (case a_either => first | k_is | rfl)
    (case l_either => first | k_is | rfl)
    (case c_either => first | k_is | rfl)
    (case k_either => first | k_is | rfl)
    (case a_less => first | k_is | rfl)
    (case l_less => first | k_is | rfl)
    (case c_less => first | k_is | rfl)
    (case k_less => first | k_is | rfl)
    (case a_held => first | k_is | rfl)
    (case l_held => first | k_is | rfl)
    (case c_held => first | k_is | rfl)
    (case k_held => first | k_is | rfl)
    (case y1_held => first | k_is | rfl)
    (case y2_held => rfl)
    (case y3_held => first | k_is | kernel_rfl)
    (case a_l_at => first | k_is | rfl)
    (case l_l_at => first | k_is | rfl)
    (case c_l_at => first | k_is | rfl)
    (case k_l_at => first | k_is | rfl)
    (case a_l_mixed => first | k_is | rfl)
    (case l_l_mixed => first | k_is | rfl)
    (case c_l_mixed => first | k_is | rfl)
    (case k_l_mixed => first | k_is | rfl)
    (case a_l_purse => first | k_is | rfl)
    (case l_l_purse => first | k_is | rfl)
    (case c_l_purse => first | k_is | rfl)
    (case k_l_purse => first | k_is | rfl)
    (case a_l_draw => first | k_is | rfl)
    (case l_l_draw => first | k_is | rfl)
    (case c_l_draw => first | k_is | rfl)
    (case k_l_draw => first | k_is | rfl)
    (case a_l_number => first | k_is | rfl)
    (case l_l_number => first | k_is | rfl)
    (case c_l_number => first | k_is | rfl)
    (case k_l_number => first | k_is | rfl)
    (case a_l_kinds => first | k_is | rfl)
    (case l_l_kinds => first | k_is | rfl)
    (case c_l_kinds => first | k_is | rfl)
    (case k_l_kinds => first | k_is | rfl)
    (case a_l_bad_span => first | k_is | rfl)
    (case l_l_bad_span => first | k_is | rfl)
    (case c_l_bad_span => first | k_is | rfl)
    (case k_l_bad_span => first | k_is | rfl)
    (case a_l_caught => first | k_is | rfl)
    (case l_l_caught => first | k_is | rfl)
    (case c_l_caught => first | k_is | rfl)
    (case k_l_caught => first | k_is | rfl)
    (case a_l_good_cover => first | k_is | rfl)
    (case l_l_good_cover => first | k_is | rfl)
    (case c_l_good_cover => first | k_is | rfl)
    (case k_l_good_cover => first | k_is | rfl)
    (case a_l_bent => first | k_is | rfl)
    (case l_l_bent => first | k_is | rfl)
    (case c_l_bent => first | k_is | rfl)
    (case k_l_bent => first | k_is | rfl)
    (case a_l_refused => first | k_is | rfl)
    (case l_l_refused => first | k_is | rfl)
    (case c_l_refused => first | k_is | rfl)
    (case k_l_refused => first | k_is | rfl)
    (case a_law => first | k_is | rfl)
    (case l_law => first | k_is | rfl)
    (case c_law => first | k_is | rfl)
    (case k_law => first | k_is | rfl)
    (case n_LEAST_PLACE => first | k_is | rfl)
    (case n_GREATEST_PLACE => first | k_is | rfl)
    (case n_MOST_SPANS => first | k_is | rfl)
    (case a_ShelfError => first | k_is | rfl)
    (case x_ShelfError => k_exc)
    (case k_ShelfError => first | k_is | rfl)
    (case b_ShelfError => first | k_is | rfl)
    (case t_ShelfError => first | k_is | rfl)
    (case a_NoSpan => first | k_is | rfl)
    (case x_NoSpan => k_exc)
    (case k_NoSpan => first | k_is | rfl)
    (case b_NoSpan => first | k_is | rfl)
    (case t_NoSpan => first | k_is | rfl)
    (case a_NoPlace => first | k_is | rfl)
    (case x_NoPlace => k_exc)
    (case k_NoPlace => first | k_is | rfl)
    (case b_NoPlace => first | k_is | rfl)
    (case t_NoPlace => first | k_is | rfl)
    (case a_NoCover => first | k_is | rfl)
    (case x_NoCover => k_exc)
    (case k_NoCover => first | k_is | rfl)
    (case b_NoCover => first | k_is | rfl)
    (case t_NoCover => first | k_is | rfl)
    (case a_NoWeight => first | k_is | rfl)
    (case x_NoWeight => k_exc)
    (case k_NoWeight => first | k_is | rfl)
    (case b_NoWeight => first | k_is | rfl)
    (case t_NoWeight => first | k_is | rfl)
    (case a_NoCount => first | k_is | rfl)
    (case x_NoCount => k_exc)
    (case k_NoCount => first | k_is | rfl)
    (case b_NoCount => first | k_is | rfl)
    (case t_NoCount => first | k_is | rfl)
    (case a_NoName => first | k_is | rfl)
    (case x_NoName => k_exc)
    (case k_NoName => first | k_is | rfl)
    (case b_NoName => first | k_is | rfl)
    (case t_NoName => first | k_is | rfl)
    (case a_Twice => first | k_is | rfl)
    (case x_Twice => k_exc)
    (case k_Twice => first | k_is | rfl)
    (case b_Twice => first | k_is | rfl)
    (case t_Twice => first | k_is | rfl)
    (case a_Full => first | k_is | rfl)
    (case x_Full => k_exc)
    (case k_Full => first | k_is | rfl)
    (case b_Full => first | k_is | rfl)
    (case t_Full => first | k_is | rfl)
    (case a_Bare => first | k_is | rfl)
    (case x_Bare => k_exc)
    (case k_Bare => first | k_is | rfl)
    (case b_Bare => first | k_is | rfl)
    (case t_Bare => first | k_is | rfl)
    (case a_NoDeed => first | k_is | rfl)
    (case x_NoDeed => k_exc)
    (case k_NoDeed => first | k_is | rfl)
    (case b_NoDeed => first | k_is | rfl)
    (case t_NoDeed => first | k_is | rfl)
    (case a_NoText => first | k_is | rfl)
    (case x_NoText => k_exc)
    (case k_NoText => first | k_is | rfl)
    (case b_NoText => first | k_is | rfl)
    (case t_NoText => first | k_is | rfl)
    (case a_NoLine => first | k_is | rfl)
    (case x_NoLine => k_exc)
    (case k_NoLine => first | k_is | rfl)
    (case b_NoLine => first | k_is | rfl)
    (case t_NoLine => first | k_is | rfl)
    (case z_ValueError => first | k_is | rfl)
    (case z_all => first | k_is | rfl)
    (case z_bool => first | k_is | rfl)
    (case z_int => first | k_is | rfl)
    (case z_isinstance => first | k_is | rfl)
    (case z_len => first | k_is | rfl)
    (case z_list => first | k_is | rfl)
    (case z_max => first | k_is | rfl)
    (case z_min => first | k_is | rfl)
    (case z_range => first | k_is | rfl)
    (case z_sorted => first | k_is | rfl)
    (case z_sum => first | k_is | rfl)
    (case z_tuple => first | k_is | rfl)
    (case z_zip => first | k_is | rfl)
    (case excs => kernel_rfl)
    (case gets => kernel_rfl)
    (case kits => kernel_rfl)
    (case tops => kernel_rfl)
    (case nones => kernel_rfl)
    (case exms => kernel_rfl)
