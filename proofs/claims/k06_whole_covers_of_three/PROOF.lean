import PyProof.Rows.All
import Wide.All
import OpenK.AllK
import Wide.FinOn
import PySem.Challenge.RW_spanshelf_k06_whole_covers_of_three
import HandS.ForMost
import HandS.ForExc
import HandS.IsInst
import HandS.Wide
import HandS.WideBits
import HandS.Flt
import HandS.AnyAll
import HandS.EndTab
import HandS.Strs
import HandS.SetFor
import HandS.SortRule
import HandS.Style
set_option Elab.async false
set_option linter.all false
set_option maxRecDepth 100000
set_option maxHeartbeats 4000000
namespace Sp
open PySem PySem.Spec PyProof.Rows L2
/-! ### heaps -/
theorem same_upd {H : Hp} {p : Addr} {o : HO} (h : H p = none) : Same H (upd H p o) := fun b x e => by
  rw [upd_ne (ne_of_none e h)]
  exact e
theorem upd_at {H : Hp} {p : Addr} {o : HO} (h : H p = none) : (upd H p o) p = some o ∧ Same H (upd H p o) := ⟨upd_same, same_upd h⟩
theorem same_more {H H' : Hp} {p : Addr} {o : HO} (h : Same H H') (n : H p = none) : Same H (upd H' p o) := fun b x e => by
  rw [upd_ne (ne_of_none e n)]
  exact h _ _ e
/-- all but what stands at the addresses of L is kept -/
def Chg (L : List Addr) (H H' : Hp) : Prop := ∀ b o, b ∉ L → H b = some o → H' b = some o
theorem Chg.refl (L : List Addr) (H : Hp) : Chg L H H := fun _ _ _ h => h
theorem Chg.trans {L : List Addr} {H H1 H2 : Hp} (a : Chg L H H1) (b : Chg L H1 H2) : Chg L H H2 := fun c o n h => b c o n (a c o n h)
theorem Chg.of_same {L : List Addr} {H H' : Hp} (a : Same H H') : Chg L H H' := fun c o _ h => a c o h
theorem Chg.same {H H' : Hp} (a : Chg [] H H') : Same H H' := fun c o h => a c o List.not_mem_nil h
theorem Chg.mono {L L' : List Addr} {H H' : Hp} (a : Chg L H H') (h : ∀ x ∈ L, x ∈ L') : Chg L' H H' := fun c o n e => a c o (fun q => n (h c q)) e
theorem Chg.upd {L : List Addr} {H : Hp} {p : Addr} {o : HO} (h : p ∈ L) : Chg L H (upd H p o) := fun b x n e => by
  have hne : b ≠ p := fun z => n (by rw [z]; exact h)
  rw [upd_ne hne]
  exact e
theorem Chg.free {L : List Addr} {H H' : Hp} (a : Chg L H H') {l : Addr} (hl : l ∉ L) (h : H' l = none) : H l = none := by
  cases q : H l with
  | none => rfl
  | some o =>
    rw [a l o hl q] at h
    cases h
theorem Chg.seq {K : PySem.W.Frag} {L : List Addr} {H H' : Hp} {a : Addr} {xs : List V} (e : Chg L H H') (n : a ∉ L) (h : SqL K H a xs) : SqL K H' a xs := by
  rcases h with (h | ⟨o, h⟩) | h
  · exact .inl (.inl (e _ _ n h))
  · exact .inl (.inr ⟨o, e _ _ n h⟩)
  · exact .inr h
theorem same_tup {K : PySem.W.Frag} {H H' : Hp} {a : Addr} {xs : List V} (e : Same H H') (h : SqT K H a xs) : SqT K H' a xs := by
  rcases h with (h | ⟨o, h⟩) | h
  · exact .inl (.inl (e _ _ h))
  · exact .inl (.inr ⟨o, e _ _ h⟩)
  · exact .inr h
theorem nmem1 {a b : Addr} (h : a ≠ b) : a ∉ [b] := fun q => h (List.mem_singleton.mp q)
theorem nmem2 {a b c : Addr} (h : a ≠ b) (h2 : a ≠ c) : a ∉ [b, c] := fun q => by
  rcases List.mem_cons.mp q with q | q
  · exact h q
  · exact h2 (List.mem_singleton.mp q)
theorem small_lt {n : Nat} (h : n ≤ 1000000) : n < sizeLine := Nat.lt_of_le_of_lt h (by decide)
theorem small_le {n : Nat} (h : n ≤ 1000000) : n ≤ sizeLine := Nat.le_of_lt (small_lt h)
/-- a list of whole numbers at p that may be changed -/
def Pu (H : Hp) (p : Addr) (n : Nat) : Prop := ∃ a b c : Int, H p = some (.lst [.int a, .int b, .int c]) ∧ 0 ≤ a ∧ 0 ≤ b ∧ b < 2147483647 ∧ 0 ≤ c ∧ c ≤ n
theorem Pu.chg {L : List Addr} {H H' : Hp} {p : Addr} {n : Nat} (h : Pu H p n) (e : Chg L H H') (hp : p ∉ L) : Pu H' p n := by
  obtain ⟨a, b, c, h1, h2⟩ := h
  exact ⟨a, b, c, e _ _ hp h1, h2⟩
theorem Pu.same {H H' : Hp} {p : Addr} {n : Nat} (h : Pu H p n) (e : Same H H') : Pu H' p n := h.chg (L := []) (Chg.of_same e) List.not_mem_nil
theorem Pu.mono {H : Hp} {p : Addr} {n m : Nat} (h : Pu H p n) (e : n ≤ m) : Pu H p m := by
  obtain ⟨a, b, c, h1, h2, h3, h4, h5, h6⟩ := h
  exact ⟨a, b, c, h1, h2, h3, h4, h5, by omega⟩
theorem Pu.ne {H : Hp} {p q : Addr} {n : Nat} (h : Pu H p n) (e : H q = none) : p ≠ q := by
  obtain ⟨a, b, c, h1, _⟩ := h
  exact ne_of_none h1 e
theorem Pu.at {H : Hp} {p : Addr} {n : Nat} (h : Pu H p n) : ∃ o, H p = some o := by
  obtain ⟨a, b, c, h1, _⟩ := h
  exact ⟨_, h1⟩
/-! ### data: whole numbers, spans, lists of them -/
theorem dpAll_ints {K : PySem.W.Frag} {H : Hp} : ∀ ns : List Int, DpAll K H (ns.map V.int) (ns.map PyData.int)
  | [] => .nil
  | n :: r => .cons (.int n) (dpAll_ints r)
theorem lay_ints : ∀ ns : List Int, PyData.canLayAll0 (ns.map PyData.int) = true ∧ PyData.depthAll (ns.map PyData.int) = 0
  | [] => ⟨rfl, rfl⟩
  | n :: r => by
    obtain ⟨h1, h2⟩ := lay_ints r
    refine ⟨?_, ?_⟩
    · show (PyData.canLay0 (.int n) && PyData.canLayAll0 (r.map PyData.int)) = true
      rw [h1]
      rfl
    · show max (PyData.depth (.int n)) (PyData.depthAll (r.map PyData.int)) = 0
      rw [h2]
      rfl
theorem shaped_ints (ns : List Int) : SeqAt.shaped (.list (ns.map PyData.int)) = true := by
  obtain ⟨h1, h2⟩ := lay_ints ns
  show (PyData.canLayAll0 (ns.map PyData.int) && decide (PyData.depthAll (ns.map PyData.int) + 1 ≤ 64)) = true
  rw [h1, h2]
  rfl
theorem shaped_nil : SeqAt.shaped (.list []) = true := rfl
theorem eqv_ints_nil (ns : List Int) : PyData.eqv (.list (ns.map PyData.int)) (.list []) = decide (ns = []) := by
  cases ns with
  | nil => rfl
  | cons n r => simp [PyData.eqv, PyData.eqvAll]
abbrev Span := Int × Int
def spD (s : Span) : PyData := .tuple [.int s.1, .int s.2]
/-- v is the span s -/
def Spn (H : Hp) (v : V) (s : Span) : Prop := ∃ t, v = .ref t ∧ H t = some (.tup [.int s.1, .int s.2])
inductive Sps (H : Hp) : List V → List Span → Prop where
  | nil : Sps H [] []
  | cons {v : V} {s : Span} {vs : List V} {ss : List Span} : Spn H v s → Sps H vs ss → Sps H (v :: vs) (s :: ss)
theorem Spn.same {H H' : Hp} {v : V} {s : Span} (h : Spn H v s) (e : Same H H') : Spn H' v s := by
  obtain ⟨t, rfl, ht⟩ := h
  exact ⟨t, rfl, e _ _ ht⟩
theorem Sps.same {H H' : Hp} (e : Same H H') : ∀ {vs : List V} {ss : List Span}, Sps H vs ss → Sps H' vs ss
  | _, _, .nil => .nil
  | _, _, .cons h t => .cons (h.same e) (Sps.same e t)
/-- only lists are changed: spans stay -/
def Lsts (L : List Addr) (H : Hp) : Prop := ∀ p ∈ L, ∀ xs, H p ≠ some (.tup xs)
theorem Pu.lsts {H : Hp} {p : Addr} {n : Nat} (h : Pu H p n) : Lsts [p] H := fun b hb xs => by
  obtain ⟨_, _, _, h1, _⟩ := h
  rw [List.mem_singleton.mp hb, h1]
  exact fun z => by cases z
theorem Lsts.of1 {H : Hp} {l : Addr} {ys : List V} (h : H l = some (.lst ys)) : Lsts [l] H := fun b hb xs => by
  rw [List.mem_singleton.mp hb, h]
  exact fun z => by cases z
theorem Lsts.two {H : Hp} {p q : Addr} (h : Lsts [p] H) (h2 : Lsts [q] H) : Lsts [p, q] H := fun b hb xs => by
  rcases List.mem_cons.mp hb with e | e
  · rw [e]
    exact h p List.mem_cons_self xs
  · exact h2 b e xs
theorem Spn.chg {L : List Addr} {H H' : Hp} {v : V} {s : Span} (h : Spn H v s) (e : Chg L H H') (l : Lsts L H) : Spn H' v s := by
  obtain ⟨t, rfl, ht⟩ := h
  exact ⟨t, rfl, e _ _ (fun q => l t q _ ht) ht⟩
theorem Sps.chg {L : List Addr} {H H' : Hp} (e : Chg L H H') (l : Lsts L H) : ∀ {vs : List V} {ss : List Span}, Sps H vs ss → Sps H' vs ss
  | _, _, .nil => .nil
  | _, _, .cons h t => .cons (h.chg e l) (Sps.chg e l t)
theorem Sps.len {H : Hp} : ∀ {vs : List V} {ss : List Span}, Sps H vs ss → vs.length = ss.length
  | _, _, .nil => rfl
  | _, _, .cons _ t => congrArg (· + 1) t.len
theorem Sps.app {H : Hp} : ∀ {vs ws : List V} {ss ts : List Span}, Sps H vs ss → Sps H ws ts → Sps H (vs ++ ws) (ss ++ ts)
  | _, _, _, _, .nil, h => h
  | _, _, _, _, .cons a t, h => .cons a (Sps.app t h)
theorem Sps.one {H : Hp} {v : V} {s : Span} (h : Spn H v s) : Sps H [v] [s] := .cons h .nil
theorem Sps.get {H : Hp} : ∀ {vs : List V} {ss : List Span} {i : Nat} {v : V}, Sps H vs ss → vs[i]? = some v → ∃ s, ss[i]? = some s ∧ Spn H v s
  | _, _, _, _, .nil, e => by simp at e
  | _, _, 0, v, .cons (s := s) h t, e => ⟨s, rfl, by
      have q := Option.some.inj (show some _ = some v from e)
      rw [← q]
      exact h⟩
  | _, _, i + 1, v, .cons h t, e => Sps.get (i := i) t e
theorem Sps.get' {H : Hp} : ∀ {vs : List V} {ss : List Span} {i : Nat} {s : Span}, Sps H vs ss → ss[i]? = some s → ∃ v, vs[i]? = some v ∧ Spn H v s
  | _, _, _, _, .nil, e => by simp at e
  | _, _, 0, s, .cons (v := v) h t, e => ⟨v, rfl, by
      have q := Option.some.inj (show some _ = some s from e)
      rw [← q]
      exact h⟩
  | _, _, i + 1, v, .cons h t, e => Sps.get' (i := i) t e
theorem Spn.dp {K : PySem.W.Frag} {H : Hp} {v : V} {s : Span} (h : Spn H v s) : Dp K H v (spD s) := by
  obtain ⟨t, rfl, ht⟩ := h
  exact .tup (SqT.of ht) (.cons (.int _) (.cons (.int _) .nil))
theorem Sps.dpAll {K : PySem.W.Frag} {H : Hp} : ∀ {vs : List V} {ss : List Span}, Sps H vs ss → DpAll K H vs (ss.map spD)
  | _, _, .nil => .nil
  | _, _, .cons h t => .cons h.dp t.dpAll
theorem Sps.dp {K : PySem.W.Frag} {H : Hp} {a : Addr} {vs : List V} {ss : List Span} (h : Sps H vs ss) (q : SqL K H a vs) : Dp K H (.ref a) (.list (ss.map spD)) := .lst q h.dpAll
theorem lay_spans : ∀ ss : List Span, PyData.canLayAll0 (ss.map spD) = true ∧ PyData.depthAll (ss.map spD) ≤ 1
  | [] => ⟨rfl, by decide⟩
  | s :: r => by
    obtain ⟨h1, h2⟩ := lay_spans r
    refine ⟨?_, ?_⟩
    · show (PyData.canLay0 (spD s) && PyData.canLayAll0 (r.map spD)) = true
      rw [h1]
      rfl
    · show max (PyData.depth (spD s)) (PyData.depthAll (r.map spD)) ≤ 1
      have e : PyData.depth (spD s) = 1 := rfl
      rw [e]
      omega
theorem shaped_spans (ss : List Span) : SeqAt.shaped (.list (ss.map spD)) = true := by
  obtain ⟨h1, h2⟩ := lay_spans ss
  show (PyData.canLayAll0 (ss.map spD) && decide (PyData.depthAll (ss.map spD) + 1 ≤ 64)) = true
  rw [h1, decide_eq_true (by omega)]
  rfl
theorem eqv_span (s t : Span) : PyData.eqv (spD s) (spD t) = decide (s = t) := by
  obtain ⟨a, b⟩ := s
  obtain ⟨c, d⟩ := t
  simp [PyData.eqv, PyData.eqvAll, spD, Bool.beq_eq_decide_eq]
theorem eqvAll_spans : ∀ ss ts : List Span, PyData.eqvAll (ss.map spD) (ts.map spD) = decide (ss = ts)
  | [], [] => rfl
  | [], _ :: _ => rfl
  | _ :: _, [] => rfl
  | s :: ss, t :: ts => by
    show (PyData.eqv (spD s) (spD t) && PyData.eqvAll (ss.map spD) (ts.map spD)) = _
    rw [eqv_span, eqvAll_spans ss ts]
    by_cases h : s = t <;> by_cases h2 : ss = ts <;> simp [h, h2]
theorem eqv_spans (ss ts : List Span) : PyData.eqv (.list (ss.map spD)) (.list (ts.map spD)) = decide (ss = ts) := eqvAll_spans ss ts
theorem eqv_spans_nil (ss : List Span) : PyData.eqv (.list (ss.map spD)) (.list []) = decide (ss = []) := eqvAll_spans ss []
/-! ### generator expressions with two names, over pairs -/
/-- an iterator that yields pairs stands ready in s2; s1 is the state ahead of it -/
structure Src (X : Cx) (pins : List (Addr × Obj)) (σ : L2.St) (P : Addr) (H1 : Hp) (s1 s2 : Shared) (I : Addr) (fp wr : List Addr) (n : Nat) (Pt : Nat → Array Value → Prop) (Sn : Nat → Heap → Prop) (Mid : Nat → Addr → Heap → Prop) : Prop where
  inv : Inv X pins σ H1 s1
  tab : GxR.TabG H1 P
  eta : ∃ h2 tk, s2 = { s1 with heap := h2, toks := tk }
  keep : ∀ b o, s1.heap.get? b = some o → s2.heap.get? b = some o
  size : s1.heap.objs.size ≤ s2.heap.objs.size
  walk : ∀ A' : Around, A'.handled = none → WalksU X.prog X.w A' I fp wr n Pt Sn Mid
  two : ∀ i vals, Pt i vals → ∃ va vb, vals = #[va, vb]
  st : Sn 0 s2.heap
  fpl : ∀ b ∈ fp, b < s2.heap.objs.size ∧ b ≠ P
  new : ∀ b ∈ wr, s1.heap.objs.size ≤ b
/-- the generator expression's own scope: its two names -/
structure GenS2 (env : Env) (scope : Scope) (xa xb : Str) : Prop where
  kind : scope.kind = .function
  co : scope.isCoroutine = false
  cell : ∀ y ∈ scope.names, y.2 ≠ .cell
  dot : scope.names.lookup (".0" : Str) = some NameKind.local
  la : scope.names.lookup xa = some .local
  lb : scope.names.lookup xb = some .local
  ne : xa ≠ xb
  free : ∀ y ∈ scope.names, y.2 = .free → ∃ c, env.cells.lookup y.1 = some c
/-- the element of the i-th pair gives what F says; hr: the heap that is read -/
def EltQ (prog : Program) (w : World) (scope : Scope) (xa xb : Str) (elt : Expr) (Pt : Nat → Array Value → Prop) (F : Nat → Value → Prop) (hr : Heap) : Prop :=
  ∀ (cenv : Env) (A' : Around) (E' : Value → Shared → Prop) (i : Nat) (va vb : Value) (s2 : Shared) (m2 : Str → Option Value), cenv.scope = scope → Pt i #[va, vb] → s2.heap.Ns cenv.locals m2 → m2 xa = some va → m2 xb = some vb →
    (∀ b o, hr.get? b = some o → s2.heap.get? b = some o) → wpAny (model prog w) A' (eval elt cenv) (fun y s3 => F i y ∧ Keeps s2 s3) E' s2
/-- the generator g is ready: n elements, by F -/
def Ready2 (X : Cx) (pins : List (Addr × Obj)) (σ : L2.St) (H1 : Hp) (P : Addr) (n : Nat) (F : Nat → Value → Prop) (g : Addr) (s5 : Shared) : Prop :=
  ∃ (fp wr : List Addr) (G : Array GenState → Array GenState → Prop) (Sn : Nat → Shared → Prop), WalksS X.prog X.w X.A.in1 g fp wr G n F Sn ∧ Sn 0 s5 ∧ (∀ b ∈ fp, b < s5.heap.objs.size) ∧ ∀ s', Moved wr G s5 s' → ∃ H2, GxR.Tabbed P H1 H2 ∧ Inv X pins σ H2 s'
theorem walksS_imp {prog : Program} {w : World} {A : Around} {I : Addr} {fp wr : List Addr} {G : Array GenState → Array GenState → Prop} {n : Nat} {P P' : Nat → Value → Prop} {Sn : Nat → Shared → Prop} (W : WalksS prog w A I fp wr G n P Sn) (h : ∀ i v, P i v → P' i v) : WalksS prog w A I fp wr G n P' Sn where
  sub := W.sub
  grefl := W.grefl
  gtrans := W.gtrans
  frame := W.frame
  item := fun i t Q E hi st hq => W.item i t Q E hi st fun v t' hv => hq v t' (h i v hv)
  done := W.done
  self := W.self
section
variable {X : Cx} {pins : List (Addr × Obj)} {σ : L2.St} {H : Hp} {s : Shared}
theorem gen_two {c P : Addr} {elt iter : Expr} {xa xb : Str} {pa pb pt gpos : Pos} {kt k : Nat} {scope : Scope} {Q' : Value → Shared → Prop}
    (hr : Room k X.A) (TB : GxR.TabB X.base X.mg c P) (hcode : X.env.code = .ref c) (S : GenS2 X.env scope xa xb) (hs : ∀ v, genFold iter X.env v = pure v)
    (hi : wpAny (model X.prog X.w) X.A (eval iter X.env) (fun xv t1 => wpAny (model X.prog X.w) X.A (pyIter xv) (fun it t2 => ∃ (H1 : Hp) (s1 : Shared) (I : Addr) (fp wr : List Addr) (n : Nat) (Pt : Nat → Array Value → Prop) (Sn : Nat → Heap → Prop) (Mid : Nat → Addr → Heap → Prop) (F : Nat → Value → Prop),
      it = .ref I ∧ Src X pins σ P H1 s1 t2 I fp wr n Pt Sn Mid ∧ (∃ hr : Heap, (∀ b o, hr.get? b = some o → s1.heap.get? b = some o ∧ b ≠ P) ∧ EltQ X.prog X.w scope xa xb elt Pt F hr) ∧ ∀ g s5, Ready2 X pins σ H1 P n F g s5 → Q' (.ref g) s5) X.xe t1) X.xe s) :
    wpAny (model X.prog X.w) X.A (eval (.GeneratorExp elt [⟨.Tuple [.Name xa pa, .Name xb pb] kt pt, iter, [], 0⟩] scope gpos) X.env) Q' X.xe s := by
  refine wpAny_GeneratorExp_walksQT hr.hd S.co (closure_ok S.free) S.cell S.dot S.la S.lb S.ne S.kind (by have := hr.dp; omega) ?_ hs
  refine wpAny_mono hi (fun xv t1 h1 => wpAny_mono h1 (fun it t2 h2 => ?_) fun _ _ e => e) fun _ _ e => e
  obtain ⟨H1, s1, I, fp, wr, n, Pt, Sn, Mid, F, rfl, R, ⟨rd, rdk, el⟩, fin⟩ := h2
  have I1 := R.inv
  obtain ⟨ps, hP, tr⟩ := R.tab
  obtain ⟨h2, tk2, rfl⟩ := R.eta
  have gP : s1.heap.get? P = some { cls := .none, data := .fields ps } := I1.hok P _ hP
  have gP2 : h2.get? P = some { cls := .none, data := .fields ps } := R.keep _ _ gP
  have cd : PySem.W.CodeHd h2 c P := TB.code.keeps fun b u e => R.keep _ _ (I1.bk b u e)
  have lim : h2.NoLimit := I1.nolimit.keeps R.keep
  refine ⟨lim, ?_⟩
  -- behind the code object: what is left
  have rest : ∀ (code : Value) (h3 : Heap) (tk : Nat) (qs : Array Value), Heap.ExtBut P h2 h3 → h2.objs.size ≤ h3.objs.size → h3.get? P = some { cls := .none, data := .fields qs } → (∃ more, qs = ps ++ more) → TriplesOk qs.toList →
      wpAny (model X.prog X.w) X.A (builtinsFor X.env.globals X.env.builtins) (fun bi t4 => ∃ J fp wr n0 Pt St0 Mid pz F, Value.ref I = .ref J ∧ (∀ A' : Around, A'.handled = none → WalksU X.prog X.w A' J fp wr n0 Pt St0 Mid) ∧ (∀ i vals, Pt i vals → ∃ va vb, vals = #[va, vb]) ∧ St0 0 t4.heap ∧ (∀ b ∈ fp, b < t4.heap.objs.size) ∧ t4.heap.NoLimit ∧ cStatics ∉ wr ∧
        (∀ hf : Heap, (∀ b o, t4.heap.get? b = some o → hf.get? b = some o) → QuietGenT X.prog X.w (genEnv scope (cloFrom X.env.cells scope.names []) t4.heap.objs.size code bi X.env) xa xb [] elt (List.range t4.heap.objs.size) wr Pt pz F hf) ∧
        (∀ a h5 tk gs, gs.bare = true → t4.heap.objs.size < a → h5.objs.size = a + 1 → (∀ b o, t4.heap.get? b = some o → h5.get? b = some o) →
          WalksS X.prog X.w X.A.in4 a (a :: t4.heap.objs.size :: List.range t4.heap.objs.size) (t4.heap.objs.size :: wr) (GenOnlyQ t4.gens.size) (passing pz n0 0).length
            (fun j y => ∃ i, (passing pz n0 0)[j]? = some i ∧ F i y) (GenAt X.prog X.w X.A.in4 a t4.gens.size t4.heap.objs.size (List.range t4.heap.objs.size) wr pz n0 F) →
          GenAt X.prog X.w X.A.in4 a t4.gens.size t4.heap.objs.size (List.range t4.heap.objs.size) wr pz n0 F 0 { t4 with gens := t4.gens.push gs, toks := tk, heap := h5 } → Q' (.ref a) { t4 with gens := t4.gens.push gs, toks := tk, heap := h5 }))
        X.xe { s1 with heap := h3, toks := tk } := by
    intro code h3 tk qs hx hsz gP3 hmore tr3
    obtain ⟨bm, ob, b1, b2, b3, b4, b5, b6, b7, b8⟩ := TB.bm
    have ncP : cStatics ≠ P := fun e => by
      obtain ⟨_, hns, _⟩ := I1.nolimit
      obtain ⟨o', es, ep, ho, hd, _⟩ := hns
      rw [e, gP] at ho
      cases ho
      cases hd
    have ncl : cStatics < s1.heap.objs.size := let ⟨_, hns, _⟩ := I1.nolimit; hns.lt
    have kp3 : ∀ b u, b ≠ P → s1.heap.get? b = some u → h3.get? b = some u := fun b u hb e => hx b u hb (R.keep _ _ e)
    refine wpAny_builtinsFor (m := X.mg) (by rw [I1.ok.glob]; exact ((I1.mod.glob.keeps I1.bk).keeps R.keep).extBut hx TB.gP) b1 b2 (kp3 _ _ b4 (I1.bk _ _ b5)) b6 b7 b8 ?_
    refine ⟨I, fp, wr, n, Pt, Sn, Mid, (fun _ => true), F, rfl, R.walk, R.two, ?_, ?_, lim.extBut hx ncP, ?_, ?_, ?_⟩
    · exact (R.walk X.A hr.hd).frame _ _ _ R.st fun b hb u e => hx b u (R.fpl b hb).2 e
    · intro b hb
      exact Nat.lt_of_lt_of_le (R.fpl b hb).1 hsz
    · intro z
      exact absurd ncl (Nat.not_lt.mpr (R.new _ z))
    · intro hf hff
      refine ⟨fun A' E' i va vb t m hA hv hn ha hb hk => ?_, fun A' E' i va vb t m hA hv hp hn ha hb hk => ?_⟩
      · simp only [List.forIn_nil]
        exact wpAny_pure ⟨rfl, GxR.keeps_refl _⟩
      · refine el _ A' E' i va vb t m rfl hv hn ha hb fun b o e => ?_
        obtain ⟨e1, nP⟩ := rdk b o e
        have e3 := kp3 b o nP e1
        refine hk b (List.mem_range.mpr (Heap.lt_size e3)) (fun z => ?_) o (hff b o e3)
        have h9 := R.new _ z
        have h10 := Heap.lt_size e1
        exact absurd h10 (Nat.not_lt.mpr h9)
    · intro g h5 tk5 gs gb ga hs5 hk5 W5 hat
      simp only [GxR.passing_true, List.length_range] at W5
      have W6 := walksS_imp (P' := F) W5 fun i v hv => by
        obtain ⟨j, hj, hF⟩ := hv
        obtain ⟨hl, ej⟩ := List.getElem?_eq_some_iff.mp hj
        rw [List.getElem_range] at ej
        rw [ej]
        exact hF
      refine fin g _ ⟨_, _, _, _, W6.in4_1, hat, fun b hb => ?_, fun s' mv => ?_⟩
      · show b < h5.objs.size
        rcases List.mem_cons.mp hb with e | hb
        · rw [e, hs5]
          exact Nat.lt_succ_self _
        · rcases List.mem_cons.mp hb with e | hb
          · rw [e, hs5]
            exact Nat.lt_succ_of_lt ga
          · rw [hs5]
            exact Nat.lt_succ_of_lt (Nat.lt_trans (List.mem_range.mp hb) ga)
      · obtain ⟨more, em⟩ := hmore
        have out : ∀ b u, s1.heap.get? b = some u → b ∉ h3.objs.size :: wr := fun b u e hb => by
          have hl := Heap.lt_size e
          rcases List.mem_cons.mp hb with z | z
          · rw [z] at hl
            exact absurd hl (Nat.not_lt.mpr (Nat.le_trans R.size hsz))
          · exact absurd hl (Nat.not_lt.mpr (R.new _ z))
        have J := GxR.inv_tab (more := more) (h' := s'.heap) (g' := s'.gens) (d' := s'.drawn) (t' := s'.toks) I1 hP (fun b u hb e => mv.heap b u (out b u e) (hk5 b u (kp3 b u hb e)))
          (by rw [← em]; exact mv.heap P _ (out P _ gP) (hk5 P _ gP3)) (AllBare.movedS (I1.bare.push gb) mv)
        rw [GxR.sh_eta s1 s' mv.os] at J
        exact ⟨_, ⟨⟨ps ++ more, upd_same, by rw [← em]; exact tr3⟩, fun b hb => upd_ne hb⟩, J⟩
  cases hf : codeAmong gpos ps.toList with
  | none =>
    refine wpAny_genexprCodeX hcode (cd.code gP2 tr) (cd.tab gP2) hf fun c' h' tk hx hge hlt hco _ htab _ => ?_
    obtain ⟨_, _, _, _, _, _, _, _, _, _, _, _, _, _, _, _, _, _, _, htr, _⟩ := hco
    exact rest _ h' tk _ hx (Nat.le_trans hge (Nat.le_of_lt hlt)) htab.2 ⟨_, rfl⟩ htr
  | some cv =>
    refine wpAny_genexprCode_hit hcode (cd.code gP2 tr) hf ?_
    exact rest cv h2 tk2 ps (Heap.ExtBut.refl _ _) (Nat.le_refl _) gP2 ⟨#[], by simp⟩ tr
end
def genC (scope : Scope) (xa xb : Str) : Bool := decide (scope.kind = .function) && !scope.isCoroutine && scope.names.all (fun y => decide (y.2 ≠ .cell) && decide (y.2 ≠ .free)) && decide (scope.names.lookup (".0" : Str) = some NameKind.local) && decide (scope.names.lookup xa = some .local) && decide (scope.names.lookup xb = some .local) && decide (xa ≠ xb)
theorem genS2_by {env : Env} {scope : Scope} {xa xb : Str} (h : genC scope xa xb = true) : GenS2 env scope xa xb := by
  unfold genC at h
  simp only [Bool.and_eq_true, decide_eq_true_eq, List.all_eq_true, Bool.not_eq_true'] at h
  obtain ⟨⟨⟨⟨⟨⟨h1, h2⟩, h3⟩, h4⟩, h5⟩, h6⟩, h7⟩ := h
  exact ⟨h1, h2, fun y hy => (h3 y hy).1, h4, h5, h6, h7, fun y hy e => absurd e (h3 y hy).2⟩
section
variable {X : Cx} {pins : List (Addr × Obj)} {σ : L2.St} {H : Hp} {s : Shared}
/-! what stands in the machine behind a list of spans -/
theorem sps_objs {vs : List V} {ss : List Span} {its : List Value} (I : Inv X pins σ H s) (h : Sps H vs ss) (rv : Vals vs its) (j : Nat) (hj : j < its.length) :
    ∃ (t : Addr) (a b : Tok), its[j]? = some (.ref t) ∧ IsTup s.heap t #[.int (ss.getD j (0, 0)).1 a, .int (ss.getD j (0, 0)).2 b] ∧ ∃ q, H t = some (.tup q) := by
  have hl := rv.length
  have hl2 := h.len
  have hj2 : j < vs.length := by omega
  obtain ⟨sp, e1, t, e2, e3⟩ := h.get (List.getElem?_eq_getElem hj2)
  obtain ⟨u, e4, ru⟩ := rv.get (List.getElem?_eq_getElem hj2)
  rw [e2] at ru
  cases (show u = Value.ref t from ru)
  obtain ⟨_, ws, rw', p⟩ := (show ObjOk X.prog X.w H s.heap t (.tup [.int sp.1, .int sp.2]) from I.hok t _ e3)
  obtain ⟨u1, u2, rfl, ⟨a, rfl⟩, ⟨b, rfl⟩⟩ := vals2 rw'
  refine ⟨t, a, b, e4, ?_, _, e3⟩
  rw [List.getD_eq_getElem?_getD, e1]
  exact p
/-- what the rest of the machine needs of a list of spans: its items' addresses and their numbers -/
theorem sps_arr {vs : List V} {ss : List Span} {its : List Value} (I : Inv X pins σ H s) (h : Sps H vs ss) (rv : Vals vs its) :
    ∃ (Ts : Nat → Addr) (A B : Nat → Tok), ∀ j, j < its.length → its[j]? = some (.ref (Ts j)) ∧ IsTup s.heap (Ts j) #[.int (ss.getD j (0, 0)).1 (A j), .int (ss.getD j (0, 0)).2 (B j)] ∧ ∃ q, H (Ts j) = some (.tup q) := by
  have key : ∀ j, ∃ (r : Addr × Tok × Tok), j < its.length → its[j]? = some (.ref r.1) ∧ IsTup s.heap r.1 #[.int (ss.getD j (0, 0)).1 r.2.1, .int (ss.getD j (0, 0)).2 r.2.2] ∧ ∃ q, H r.1 = some (.tup q) := fun j => by
    by_cases hj : j < its.length
    · obtain ⟨t, a, b, e⟩ := sps_objs I h rv j hj
      exact ⟨(t, a, b), fun _ => e⟩
    · exact ⟨(0, 0, 0), fun z => absurd z hj⟩
  obtain ⟨f, hf⟩ := Classical.axiomOfChoice key
  exact ⟨fun j => (f j).1, fun j => (f j).2.1, fun j => (f j).2.2, hf⟩
/-! sum(b - a for a, b in spans) -/
def spanSum (ss : List Span) : Int := (ss.map fun s => s.2 - s.1).sum
theorem preSum_spans : ∀ (ss : List Span) (n : Nat), n ≤ ss.length → preSum (fun j => (ss.getD j (0, 0)).2 - (ss.getD j (0, 0)).1) n = spanSum (ss.take n)
  | _, 0, _ => rfl
  | ss, n + 1, h => by
    show preSum _ n + ((ss.getD n (0, 0)).2 - (ss.getD n (0, 0)).1) = _
    rw [preSum_spans ss n (by omega)]
    have hn : n < ss.length := by omega
    unfold spanSum
    rw [List.take_add_one, List.getElem?_eq_getElem hn, List.map_append, List.sum_append, List.getD_eq_getElem?_getD, List.getElem?_eq_getElem hn]
    simp
def tSumP (K : PySem.W.Frag) (P : Addr) (te : TE) : TE := fun σ H Q => te σ H fun v H1 => ∃ (l : Addr) (vs : List V) (ss : List Span), v = .ref l ∧ SqL K H1 l vs ∧ l ≠ P ∧ Sps H1 vs ss ∧ GxR.TabG H1 P ∧ ∀ H2, GxR.Tabbed P H1 H2 → Q (.int (spanSum ss)) H2
theorem pe_sumP {c P : Addr} {iter : Expr} {xa xb : Str} {pa pb pt gpos p pos p1 p2 p3 : Pos} {kt k : Nat} {scope : Scope} {te : TE}
    (hr : Room k X.A) (hg : Gl X "sum") (hm : X.mg "sum" = none) (TB : GxR.TabB X.base X.mg c P) (hcode : X.env.code = .ref c) (S : GenS2 X.env scope xa xb) (hi : PE X iter te) (hs : ∀ v, genFold iter X.env v = pure v)
    (ha : (xa == ("__debug__" : Str)) = false) (hb : (xb == ("__debug__" : Str)) = false)
    (he : starEach [.GeneratorExp (.BinOp (.Name xb p1) .Sub (.Name xa p2) p3) [⟨.Tuple [.Name xa pa, .Name xb pb] kt pt, iter, [], 0⟩] scope gpos] X.env = (false, eval (.GeneratorExp (.BinOp (.Name xb p1) .Sub (.Name xa p2) p3) [⟨.Tuple [.Name xa pa, .Name xb pb] kt pt, iter, [], 0⟩] scope gpos) X.env) :: starEach [] X.env := by rfl) :
    PE X (.Call (.Name "sum" p) [.GeneratorExp (.BinOp (.Name xb p1) .Sub (.Name xa p2) p3) [⟨.Tuple [.Name xa pa, .Name xb pb] kt pt, iter, [], 0⟩] scope gpos] [] pos) (tSumP X.K P te) := by
  constructor
  intro pins s σ H Q I hh
  refine wpAny_Call_Name_kw (ld_blt I hg hm boot_sum ?_)
  refine PyProof.Rows.callWith_builtin1 ?_ he (by rfl)
  rw [he]
  show wpAny _ _ (spliced ((false, eval (.GeneratorExp (.BinOp (.Name xb p1) .Sub (.Name xa p2) p3) [⟨.Tuple [.Name xa pa, .Name xb pb] kt pt, iter, [], 0⟩] scope gpos) X.env) :: backTo pos (starEach [] X.env))) _ _ s
  refine Calls.spliced_cons (gen_two (pins := pins) (σ := σ) hr TB hcode S hs ?_)
  refine thn (hi.run pins s σ H _ I hh) fun v s1 got => ?_
  obtain ⟨x, H1, I1, r1, l, vs, ss, rfl, hq, nlP, hS, tab, q⟩ := got
  cases (show v = Value.ref l from r1)
  obtain ⟨its, rv, pl, hz⟩ := I1.list hq
  obtain ⟨Ts, A, B, hT⟩ := sps_arr I1 hS rv
  have hlen : its.length = ss.length := by rw [← rv.length, hS.len]
  have isl := pl.isList
  refine wpAny_pyIter_list isl ?_
  obtain ⟨ps, hP, _⟩ := id tab
  have gP : s1.heap.get? P = some { cls := .none, data := .fields ps } := I1.hok P _ hP
  have kp : ∀ b o, s1.heap.get? b = some o → (s1.heap.push { cls := .type "list_iterator", data := .fields #[.ref l, .int 0 0] }).get? b = some o := fun b o e => Heap.get?_push_of_some _ e
  have ltT : ∀ j, j < its.length → Ts j < s1.heap.objs.size := fun j hj => by
    obtain ⟨_, ⟨o, ho, _⟩, _⟩ := hT j hj
    exact Heap.lt_size ho
  have llt : l < s1.heap.objs.size := pl.lt
  have size_a : its.toArray.size = its.length := by simp
  have hTP : ∀ j, j < its.length → Ts j ≠ P := fun j hj z => by
    obtain ⟨_, _, w, hw⟩ := hT j hj
    rw [z, hP] at hw
    cases hw
  obtain ⟨hd, _, hd2⟩ := restrict s1.heap fun _ => false
  refine ⟨H1, s1, s1.heap.objs.size, _, _, _, _, _, _, fun j y => j < its.length ∧ ∃ t, y = .int ((ss.getD j (0, 0)).2 - (ss.getD j (0, 0)).1) t, rfl,
    { inv := I1, tab := tab, eta := ⟨_, _, rfl⟩, keep := kp, size := ?_,
      walk := fun A' hA => (WalksU.listOfTuples hA s1.heap.objs.size l (Nat.ne_of_lt llt) its.toArray Ts (fun j => #[.int (ss.getD j (0, 0)).1 (A j), .int (ss.getD j (0, 0)).2 (B j)]) (fun j hj => by rw [size_a] at hj; simpa using (hT j hj).1) (fun j hj => by rw [size_a] at hj; exact Nat.ne_of_lt (ltT j hj))).bound,
      two := fun i vals h => ⟨_, _, h.2⟩, st := ⟨⟨_, Heap.get?_push_size _ rfl, rfl, rfl⟩, isl.push _, fun j hj => ?_⟩, fpl := fun b hb => ?_, new := fun b hb => ?_ }, ⟨hd, fun b o e => ?_, ?_⟩, fun g s5 R => ?_⟩
  · show s1.heap.objs.size ≤ (s1.heap.push _).objs.size
    rw [Heap.size_push]
    exact Nat.le_succ _
  · rw [size_a] at hj
    obtain ⟨_, ⟨o, ho, r⟩, _⟩ := hT j hj
    exact ⟨o, kp _ _ ho, r⟩
  · have sz : (s1.heap.push { cls := .type "list_iterator", data := .fields #[.ref l, .int 0 0] }).objs.size = s1.heap.objs.size + 1 := Heap.size_push ..
    rcases List.mem_cons.mp hb with e | hb
    · refine ⟨?_, fun z => ?_⟩
      · rw [e]
        show s1.heap.objs.size < (s1.heap.push _).objs.size
        rw [sz]
        exact Nat.lt_succ_self _
      · rw [← z, e] at gP
        exact absurd (Heap.lt_size gP) (Nat.lt_irrefl _)
    · rcases List.mem_cons.mp hb with e | hb
      · refine ⟨?_, ?_⟩
        · rw [e]
          show l < (s1.heap.push _).objs.size
          rw [sz]
          exact Nat.lt_succ_of_lt llt
        · rw [e]
          exact nlP
      · obtain ⟨j, hj, e⟩ := List.mem_map.mp hb
        have hj := List.mem_range.mp hj
        rw [size_a] at hj
        refine ⟨?_, ?_⟩
        · rw [← e]
          show Ts j < (s1.heap.push _).objs.size
          rw [sz]
          exact Nat.lt_succ_of_lt (ltT j hj)
        · rw [← e]
          exact hTP j hj
  · rw [List.mem_singleton.mp hb]
    exact Nat.le_refl _
  · rw [hd2 b rfl] at e
    cases e
  · intro cenv A' E' i va vb t m hc hv hn h1 h2 _
    obtain ⟨hi, hv⟩ := hv
    have hv := Array.toList_inj.mpr hv
    simp only [List.cons.injEq, and_true] at hv
    obtain ⟨rfl, rfl⟩ := hv
    rw [size_a] at hi
    refine wpAny_BinOp ?_
    refine wpAny_Name (wpAny_loadName_local (by rw [hc]; exact S.kind) (show cenv.scope.names.lookup xb = some .local by rw [hc]; exact S.lb) hn h2 ?_) hb
    refine wpAny_Name (wpAny_loadName_local (by rw [hc]; exact S.kind) (show cenv.scope.names.lookup xa = some .local by rw [hc]; exact S.la) hn h1 ?_) ha
    exact sub_int ⟨⟨hi, _, rfl⟩, GxR.keeps_tok _ _⟩
  · obtain ⟨fp, wr, G, Sn, W, st, lt, mv⟩ := R
    refine Calls.spliced_nil ?_
    refine call_sum_walkAnyS (W.self 0 _ _ _ st ⟨g, fp, wr, G, its.toArray.size, _, Sn, fun j => (ss.getD j (0, 0)).2 - (ss.getD j (0, 0)).1, rfl, W, st, lt, fun i v hv => hv.2, fun s' t' hm => ?_⟩)
    obtain ⟨H2, hT2, J⟩ := mv s' hm
    refine ⟨.int _, H2, J, ⟨t', rfl⟩, ?_⟩
    rw [size_a, hlen, preSum_spans ss ss.length (Nat.le_refl _), List.take_length]
    exact q H2 hT2
/-! all(a[1] < b[0] for a, b in zip(xs, ys)) -/
def gapAll (ss rs : List Span) : Bool := (List.range (min ss.length rs.length)).all fun i => decide ((ss.getD i (0, 0)).2 < (rs.getD i (0, 0)).1)
def tAllZ (K : PySem.W.Frag) (P : Addr) (ta : TA) : TE := fun σ H Q => ta σ H fun us H1 => ∃ (a b : Addr) (xs ys : List V) (ss rs : List Span), us = [.ref a, .ref b] ∧ SqL K H1 a xs ∧ SqL K H1 b ys ∧ a ≠ P ∧ b ≠ P ∧ Sps H1 xs ss ∧ Sps H1 ys rs ∧ GxR.TabG H1 P ∧ ∀ H2, GxR.Tabbed P H1 H2 → Q (.bl (gapAll ss rs)) H2
theorem ev_item {prog : Program} {w : World} {A : Around} {E : Value → Shared → Prop} {Q : Value → Shared → Prop} {cenv : Env} {s : Shared} {m : Str → Option Value} {x : Str} {t : Addr} {u0 u1 : Value} {i : Nat} {v : Value} {j : Nat} {p1 p2 p3 : Pos}
    (hk : cenv.scope.kind = .function) (hl : cenv.scope.names.lookup x = some .local) (hn : s.heap.Ns cenv.locals m) (hm : m x = some (.ref t)) (hd : (x == ("__debug__" : Str)) = false) (ht : IsTup s.heap t #[u0, u1]) (hi : i < 2) (hv : #[u0, u1][i]? = some v) (h : Q v { s with toks := s.toks + 1 }) :
    wpAny (model prog w) A (eval (.Subscript (.Name x p1) (.Constant (.int (i : Int)) j p2) p3) cenv) Q E s := by
  refine Subscript_ (wpAny_Name (wpAny_loadName_local hk hl hn hm (wpAny_Constant_int ?_)) hd)
  refine subscriptTail_builtinR (x := v) (show Shared.TypeIs _ (.ref t) "tuple" from IsTup.typeIs (s := { s with toks := s.toks + 1 }) ht) slot_tuple_getitem.lookup
    (PyProof.Rows.getItem_tuple (j := i) (Q := fun r s' => r = v ∧ Q r s') (s := { s with toks := s.toks + 1 }) ht (by omega) (by omega) (seqIndex_of (by omega) (by show (i : Int) < ((#[u0, u1].size : Nat) : Int); simp; omega)) hv ⟨rfl, h⟩) (by first | rfl | with_unfolding_all rfl)
theorem pe_allZ {c P : Addr} {e1 e2 : Expr} {xa xb : Str} {pa pb pt gpos p pos p1 p2 p3 p4 p5 p6 p7 zp zpos : Pos} {kt k j1 j2 : Nat} {scope : Scope} {ta : TA}
    (hr : Room k X.A) (hg : Gl X "all") (hm : X.mg "all" = none) (hba : bootBuiltins "all" = some (.builtin "all")) (hgz : Gl X "zip") (hmz : X.mg "zip" = none) (TB : GxR.TabB X.base X.mg c P) (hcode : X.env.code = .ref c) (S : GenS2 X.env scope xa xb) (hi : PA X [e1, e2] ta)
    (hs : ∀ v, genFold (.Call (.Name "zip" zp) [e1, e2] [] zpos) X.env v = pure v)
    (ha : (xa == ("__debug__" : Str)) = false) (hb : (xb == ("__debug__" : Str)) = false)
    (hz : starEach [e1, e2] X.env = (false, eval e1 X.env) :: starEach [e2] X.env := by rfl) (hpl : (backTo zpos (starEach [e2] X.env)).any (·.1) = false := by rfl)
    (he : starEach [.GeneratorExp (.Compare (.Subscript (.Name xa p1) (.Constant (.int 1) j1 p2) p3) [.Lt] [.Subscript (.Name xb p4) (.Constant (.int 0) j2 p5) p6] p7) [⟨.Tuple [.Name xa pa, .Name xb pb] kt pt, .Call (.Name "zip" zp) [e1, e2] [] zpos, [], 0⟩] scope gpos] X.env = (false, eval (.GeneratorExp (.Compare (.Subscript (.Name xa p1) (.Constant (.int 1) j1 p2) p3) [.Lt] [.Subscript (.Name xb p4) (.Constant (.int 0) j2 p5) p6] p7) [⟨.Tuple [.Name xa pa, .Name xb pb] kt pt, .Call (.Name "zip" zp) [e1, e2] [] zpos, [], 0⟩] scope gpos) X.env) :: starEach [] X.env := by rfl) :
    PE X (.Call (.Name "all" p) [.GeneratorExp (.Compare (.Subscript (.Name xa p1) (.Constant (.int 1) j1 p2) p3) [.Lt] [.Subscript (.Name xb p4) (.Constant (.int 0) j2 p5) p6] p7) [⟨.Tuple [.Name xa pa, .Name xb pb] kt pt, .Call (.Name "zip" zp) [e1, e2] [] zpos, [], 0⟩] scope gpos] [] pos) (tAllZ X.K P ta) := by
  constructor
  intro pins s σ H Q I hh
  refine wpAny_Call_Name_kw (ld_blt I hg hm hba ?_)
  refine PyProof.Rows.callWith_builtin1 ?_ he (by rfl)
  rw [he]
  show wpAny _ _ (spliced ((false, eval (.GeneratorExp (.Compare (.Subscript (.Name xa p1) (.Constant (.int 1) j1 p2) p3) [.Lt] [.Subscript (.Name xb p4) (.Constant (.int 0) j2 p5) p6] p7) [⟨.Tuple [.Name xa pa, .Name xb pb] kt pt, .Call (.Name "zip" zp) [e1, e2] [] zpos, [], 0⟩] scope gpos) X.env) :: backTo pos (starEach [] X.env))) _ _ s
  refine Calls.spliced_cons (gen_two (pins := pins) (σ := σ) hr TB hcode S hs ?_)
  refine Call_ (ld_blt I hgz hmz PyProof.Rows.boot_zip (PyProof.Rows.callWith_type1 (thn (hi.run zpos pins s σ H _ I hh) fun us s1 got => ?_) hz hpl))
  obtain ⟨ws, H1, I1, r1, a, b, xs, ys, ss, rs, rfl, hqx, hqy, naP, nbP, hS, hR, tab, q⟩ := got
  obtain ⟨u1, u2, rfl, ra, rb⟩ := vals2 r1
  cases (show u1 = Value.ref a from ra)
  cases (show u2 = Value.ref b from rb)
  obtain ⟨its, rv, pl, hz1⟩ := I1.list hqx
  obtain ⟨its2, rv2, pl2, hz2⟩ := I1.list hqy
  obtain ⟨Ts, A, B, hT⟩ := sps_arr I1 hS rv
  obtain ⟨Us, A2, B2, hU⟩ := sps_arr I1 hR rv2
  have hlen : its.length = ss.length := by rw [← rv.length, hS.len]
  have hlen2 : its2.length = rs.length := by rw [← rv2.length, hR.len]
  have isl := pl.isList
  have isl2 := pl2.isList
  obtain ⟨ps, hP, _⟩ := id tab
  have gP : s1.heap.get? P = some { cls := .none, data := .fields ps } := I1.hok P _ hP
  refine call_zip_2 isl isl2 fun h' hz' hTI hTO h1 h2 hsz hk => wpAny_pyIter_zip hz' ?_
  have PL := Heap.lt_size gP
  have newP : ∀ n : Nat, s1.heap.objs.size + n ≠ P := fun n z => by
    rw [← z] at PL
    exact absurd PL (Nat.not_lt.mpr (Nat.le_add_right _ _))
  have D := PySem.W.ktu_apart s1.heap.objs.size a b pl.lt pl2.lt
  let rd : Heap := s1.heap
  have mn : min its.toArray.size its2.toArray.size = min ss.length rs.length := by simp [hlen, hlen2]
  -- what is read while it runs: all that stood but the table
  obtain ⟨hd, hd1, hd2⟩ := restrict s1.heap fun b => decide (b ≠ P)
  refine ⟨H1, s1, s1.heap.objs.size + 4, _, _, _, _, _, _, fun j y => j < min ss.length rs.length ∧ y = .bool (decide ((ss.getD j (0, 0)).2 < (rs.getD j (0, 0)).1)), rfl,
    { inv := I1, tab := tab, eta := ⟨_, _, rfl⟩, keep := hk, size := ?_,
      walk := fun A' hA => (WalksT.zip2 hA (s1.heap.objs.size + 4) (s1.heap.objs.size + 2) (s1.heap.objs.size + 3) s1.heap.objs.size (s1.heap.objs.size + 1) a b D its.toArray its2.toArray).toU.bound,
      two := fun i vals h => ?_, st := ⟨hz', hTI, ⟨_, _, hTO⟩, h1, h2, (by obtain ⟨o, ho, r⟩ := isl; exact ⟨o, hk _ _ ho, r⟩), (by obtain ⟨o, ho, r⟩ := isl2; exact ⟨o, hk _ _ ho, r⟩)⟩, fpl := fun c hc => ?_, new := fun c hc => ?_ }, ⟨hd, fun c o e => ?_, ?_⟩, fun g s5 R => ?_⟩
  · show s1.heap.objs.size ≤ h'.objs.size
    rw [hsz]
    exact Nat.le_add_right _ _
  · obtain ⟨_, x, y, _, _, e⟩ := h
    exact ⟨x, y, e⟩
  · have hc' : c = s1.heap.objs.size + 4 ∨ c = s1.heap.objs.size + 2 ∨ c = s1.heap.objs.size + 3 ∨ c = s1.heap.objs.size ∨ c = s1.heap.objs.size + 1 ∨ c = a ∨ c = b := by simpa using hc
    have al : a < s1.heap.objs.size := pl.lt
    have bl : b < s1.heap.objs.size := pl2.lt
    have sz : h'.objs.size = s1.heap.objs.size + 5 := hsz
    refine ⟨?_, ?_⟩
    · show c < h'.objs.size
      rw [sz]
      rcases hc' with e | e | e | e | e | e | e <;> rw [e]
      · exact Nat.add_lt_add_left (by decide) _
      · exact Nat.add_lt_add_left (by decide) _
      · exact Nat.add_lt_add_left (by decide) _
      · exact Nat.lt_add_of_pos_right (by decide)
      · exact Nat.add_lt_add_left (by decide) _
      · exact Nat.lt_of_lt_of_le al (Nat.le_add_right _ _)
      · exact Nat.lt_of_lt_of_le bl (Nat.le_add_right _ _)
    · rcases hc' with e | e | e | e | e | e | e <;> rw [e]
      · exact newP 4
      · exact newP 2
      · exact newP 3
      · exact newP 0
      · exact newP 1
      · exact naP
      · exact nbP
  · have hc' : c = s1.heap.objs.size + 4 ∨ c = s1.heap.objs.size + 3 ∨ c = s1.heap.objs.size ∨ c = s1.heap.objs.size + 1 := by simpa using hc
    rcases hc' with e | e | e | e <;> rw [e]
    · exact Nat.le_add_right _ _
    · exact Nat.le_add_right _ _
    · exact Nat.le_refl _
    · exact Nat.le_add_right _ _
  · by_cases hc : c = P
    · rw [hd2 c (by simp [hc])] at e
      cases e
    · rw [hd1 c (decide_eq_true hc)] at e
      exact ⟨e, hc⟩
  · intro cenv A' E' i va vb t m hc hv hn h3 h4 hk2
    obtain ⟨hi', x, y, ex, ey, hv⟩ := hv
    have hv := Array.toList_inj.mpr hv
    simp only [List.cons.injEq, and_true] at hv
    obtain ⟨rfl, rfl⟩ := hv
    rw [mn] at hi'
    have i1 : i < its.length := by omega
    have i2 : i < its2.length := by omega
    obtain ⟨e1, t1, w1, g1⟩ := hT i i1
    obtain ⟨e2, t2, w2, g2⟩ := hU i i2
    have ex' : va = .ref (Ts i) := by
      have : its[i]? = some va := by simpa using ex
      rw [e1] at this
      exact (Option.some.inj this).symm
    have ey' : vb = .ref (Us i) := by
      have : its2[i]? = some vb := by simpa using ey
      rw [e2] at this
      exact (Option.some.inj this).symm
    subst ex' ey'
    have rd : ∀ {z : Addr} {ar : Array Value}, IsTup s1.heap z ar → (∃ q, H1 z = some (.tup q)) → IsTup t.heap z ar := fun {z ar} h q => by
      obtain ⟨o, ho, r⟩ := h
      refine ⟨o, hk2 _ _ ?_, r⟩
      rw [hd1 z (decide_eq_true fun zP => ?_)]
      · exact ho
      · obtain ⟨q, hq⟩ := q
        rw [zP, hP] at hq
        cases hq
    refine wpAny_Compare1 ?_
    refine ev_item (i := 1) (by rw [hc]; exact S.kind) (show cenv.scope.names.lookup xa = some .local by rw [hc]; exact S.la) hn h3 ha (rd t1 ⟨w1, g1⟩) (by decide) rfl ?_
    refine ev_item (i := 0) (s := { t with toks := t.toks + 1 }) (by rw [hc]; exact S.kind) (show cenv.scope.names.lookup xb = some .local by rw [hc]; exact S.lb) hn h4 hb (rd t2 ⟨w2, g2⟩) (by decide) rfl ?_
    exact lt_int ⟨⟨hi', rfl⟩, GxR.keeps_tok t _⟩
  · obtain ⟨fp, wr, G, Sn, W, st, lt, mv⟩ := R
    refine Calls.spliced_nil ?_
    refine call_all_walkS (W.self 0 _ _ _ st ⟨g, fp, wr, G, _, _, Sn, fun j => decide ((ss.getD j (0, 0)).2 < (rs.getD j (0, 0)).1), rfl, W, st, fun i v t Q1 E1 hv hq => ?_, fun s' hmv => ?_⟩)
    · rw [hv.2]
      exact wpAny_truthy_bool hq
    · obtain ⟨H2, hT2, J⟩ := mv s' hmv
      refine ⟨.bl _, H2, J, rfl, ?_⟩
      rw [mn]
      exact q H2 hT2
end
/-! ### defs that hold generator expressions: their code objects and tables -/
structure FunC (K : PySem.W.Frag) (x qual : Str) (st : Stmt) (f : Addr) (fd : FuncData) (c : Addr) : Prop where
  ex : ∃ (oc : Value) (od : Option Addr) (kV doc pm : Value) (an : Option Addr) (ct : Value) (osl : Array (Option Value)),
    fd = PySem.W.fnOf x qual (defArgs st) (defBody st) (defScope st) .none kV doc pm an (.ref c) ct ∧ K.lookup f = some ⟨oc, od, .func fd, osl⟩ ∧ PySem.W.codeIn K (.ref c) qual = true
section
variable {P : Program} {w : World} {K : PySem.W.Frag} {mg : Str → Option Value} {base : Heap}
theorem FunC.ok {x qual : Str} {st : Stmt} {f c : Addr} {fd : FuncData} {N ps : List Str} {k : Nat} {sp : Sp} (F : FunC K x qual st f fd c) (S : FnScope N ps (defScope st)) (len : ∀ vs H Q E, sp vs H Q E → vs.length = ps.length)
    (hbody : ∀ (A : Around) (outer : List Env) (s : Shared) (H : Hp) (vs : List V) (Q : VK) (E : XK), Room k (A.deeper (envOfC qual (defScope st) s.heap.objs.size f (.ref c))) → sp vs H Q E →
      ∃ t, PSs (cxOf CX0 P w K mg base N qual (defScope st) f (.ref c) A outer s H E).nox (defBody st) t ∧ t { nx := fun _ H' => Q .non H', rt := Q } (start N vs) H) : FnOk P w K mg base CX0 (k + 1) f fd ps sp := by
  obtain ⟨oc, od, kV, doc, pm, an, ct, osl, rfl, lk, hcd⟩ := F.ex
  refine fn_of lk hcd S len fun A outer s H vs Q E hr hsp => ?_
  obtain ⟨t, h, q⟩ := hbody A outer s H vs Q E hr hsp
  exact ⟨t, h.nox, q⟩
theorem FunC.okX {x qual : Str} {st : Stmt} {f c : Addr} {fd : FuncData} {N ps : List Str} {k : Nat} {sp : Sp} (F : FunC K x qual st f fd c) (S : FnScope N ps (defScope st)) (len : ∀ vs H Q E, sp vs H Q E → vs.length = ps.length)
    (hbody : ∀ (A : Around) (outer : List Env) (s : Shared) (H : Hp) (vs : List V) (Q : VK) (E : XK), Room k (A.deeper (envOfC qual (defScope st) s.heap.objs.size f (.ref c))) → sp vs H Q E →
      ∃ t, PSs (cxOf (L2.CX P w) P w K mg base N qual (defScope st) f (.ref c) A outer s H E) (defBody st) t ∧ t { nx := fun _ H' => Q .non H', rt := Q } (start N vs) H) : FnOk P w K mg base (L2.CX P w) (k + 1) f fd ps sp := by
  obtain ⟨oc, od, kV, doc, pm, an, ct, osl, rfl, lk, hcd⟩ := F.ex
  exact fn_of lk hcd S len fun A outer s H vs Q E hr hsp => hbody A outer s H vs Q E hr hsp
end
/-- the head's word about a def's code object and its table -/
def TabRec (h : Heap) (mg : Str → Option Value) (nm : Str) : Prop := ∃ (a : Addr) (o : Obj) (fd : FuncData) (c P : Addr), mg nm = some (.ref a) ∧ h.get? a = some o ∧ o.data = .func fd ∧ fd.code = .ref c ∧ h.IsCode c P #[] ∧ h.TableAt c P #[]
theorem walk_tabs {l : PySem.W.OpenLaw} {n k : Nat} {q : Program} {loose : List Str} {XP : (Str → Option Value) → Heap → Prop} {YP : World → Heap → Prop} {d : DefRec} {K : Params → PySem.W.Frag} {CX : World → CXT} {x : Str} (nms : List Str)
    (hn : l.most = some n) (hn2 : n ≤ sizeLine) (hdf : d.params.defaults = []) (hr : Room k callerA) (hrec : (nms.all fun nm => (recsOf q).any fun e => e.name == nm) = true) (hY : ∀ (w : World) (h : Heap), YP w h → (K w.params).In h)
    (F : ∀ (w : World) (mg : Str → Option Value) (fa : Addr) (h : Heap), (K w.params).In h → h.Ns mainGlobals mg → mg d.name = some (.ref fa) → (∀ nm ∈ nms, TabRec h mg nm) → LamX.LawAtS l w (K w.params) (CX w) k n x mg fa h)
    (hCX : ∀ (w : World) (H : Hp) (s : Shared) (e : Value) (s' : Shared), CX w [] H s (fun _ _ _ => False) e s' → False) :
    PySem.W.WalkO q loose XP YP l.row.toRowW d [] (fun f vs => PySem.call f vs) := by
  refine Att.attach_callB hn hdf fun w s0 s1 mg mb fa o pm cd doc a vs ns G Y ho hd hcd hmg hobj hints hlen hbits hg => ?_
  have KX := hY w _ Y
  have tabs : ∀ nm ∈ nms, TabRec s1.heap mg nm := fun nm hm => by
    obtain ⟨dL, h1, h2⟩ := List.any_eq_true.mp (List.all_eq_true.mp hrec nm hm)
    obtain ⟨a', o', fd', c', P', k1, k2, k3, k4, k5, k6⟩ := G.T.tab dL h1
    rw [beq_iff_eq.mp h2] at k1
    exact ⟨a', o', fd', c', P', k1, k2, k3, k4, k5, k6⟩
  obtain ⟨fd, cs, sp, hT, nT, C, hb, hsp, hF⟩ := F w mg fa _ KX G.T.g hmg tabs
  exact LamX.law_callTs KX G.T.g G.T.b G.T.builtins G.T.nolimit hg hT nT C G.T.bmain hobj hints (Nat.le_trans hlen hn2) hr hF hb (fun H hH hS => hsp H a ns hlen hbits hH hS) fun H e s' => hCX w H s1 e s'
/-- the table of the def at f, as the written part names it -/
theorem tab_of {K : PySem.W.Frag} {h : Heap} {mg : Str → Option Value} {nm : Str} {f c P : Addr} {fd : FuncData} {oc : Value} {od : Option Addr} {osl : Array (Option Value)} {ec : Value} {dc : Option Addr} {vc : Array Value} {sl : Array (Option Value)} (X : K.In h) (R : TabRec h mg nm)
    (g : mg nm = some (.ref f)) (lf : K.lookup f = some ⟨oc, od, .func fd, osl⟩) (hc : fd.code = .ref c) (lc : K.lookup c = some ⟨ec, dc, .fields vc, sl⟩) (h11 : vc[11]? = some (.ref P)) :
    h.get? P = some { cls := .none, data := .fields #[] } ∧ PySem.W.CodeHd h c P := by
  obtain ⟨a, o, fd', c', P', k1, k2, k3, k4, k5, k6⟩ := R
  rw [g] at k1
  cases k1
  rw [X _ _ lf] at k2
  cases k2
  cases k3
  rw [hc] at k4
  cases k4
  have hd := PySem.W.CodeHd.of k5 k6
  obtain ⟨⟨o2, v2, e1, _, e3, e4⟩, hP⟩ := k6
  rw [X _ _ lc] at e1
  cases e1
  cases e3
  rw [h11] at e4
  cases e4
  exact ⟨hP, hd⟩
/-- the tables stand -/
def Tb (Ps : List Addr) (H : Hp) : Prop := ∀ P ∈ Ps, GxR.TabG H P
theorem Tb.same {Ps : List Addr} {H H' : Hp} (t : Tb Ps H) (e : Same H H') : Tb Ps H' := fun P hP => by
  obtain ⟨ps, h1, h2⟩ := t P hP
  exact ⟨ps, e _ _ h1, h2⟩
theorem Tb.chg {Ps L : List Addr} {H H' : Hp} (t : Tb Ps H) (e : Chg L H H') (n : ∀ P ∈ Ps, P ∉ L) : Tb Ps H' := fun P hP => by
  obtain ⟨ps, h1, h2⟩ := t P hP
  exact ⟨ps, e _ _ (n P hP) h1, h2⟩
theorem Tb.out {Ps : List Addr} {H : Hp} {a : Addr} {o : HO} (t : Tb Ps H) (h : H a = some o) (n : ∀ ps, o ≠ .tbl ps) : a ∉ Ps := fun hm => by
  obtain ⟨ps, h1, _⟩ := t a hm
  rw [h] at h1
  exact n ps (Option.some.inj h1)
theorem Tb.new {Ps : List Addr} {H : Hp} {a : Addr} (t : Tb Ps H) (h : H a = none) : a ∉ Ps := fun hm => by
  obtain ⟨ps, h1, _⟩ := t a hm
  rw [h] at h1
  cases h1
theorem Tb.lsts {Ps : List Addr} {H : Hp} (t : Tb Ps H) : Lsts Ps H := fun P hP xs z => by
  obtain ⟨ps, h1, _⟩ := t P hP
  rw [h1] at z
  cases z
theorem Tb.tabbed {Ps : List Addr} {H H' : Hp} {P : Addr} (t : Tb Ps H) (hP : P ∈ Ps) (e : GxR.Tabbed P H H') : Tb Ps H' ∧ Chg Ps H H' := by
  refine ⟨fun Q hQ => ?_, fun b o n h => ?_⟩
  · by_cases z : Q = P
    · rw [z]
      exact e.1
    · obtain ⟨ps, h1, h2⟩ := t Q hQ
      exact ⟨ps, by rw [e.2 Q z]; exact h1, h2⟩
  · have z : b ≠ P := fun z => n (by rw [z]; exact hP)
    rw [e.2 b z]
    exact h
theorem nodup_len : ∀ {l m : List Int}, l.Nodup → (∀ x ∈ l, x ∈ m) → l.length ≤ m.length
  | [], _, _, _ => Nat.zero_le _
  | a :: l, m, h, sub => by
    have ha := sub a List.mem_cons_self
    have h1 := List.nodup_cons.mp h
    have ih := nodup_len (l := l) (m := m.erase a) h1.2 fun x hx => by
      have ne : x ≠ a := fun z => h1.1 (by rw [← z]; exact hx)
      exact (List.mem_erase_of_ne ne).mpr (sub x (List.mem_cons_of_mem _ hx))
    rw [List.length_erase_of_mem ha] at ih
    have hp := List.length_pos_of_mem ha
    show l.length + 1 ≤ m.length
    omega
def topS (i : Nat) : Stmt := PySem.Challenge.pw_spanshelf_k06_whole_covers_of_three.main.body.getD i (.Pass ⟨0, 0, 0, 0⟩)
abbrev s_is_whole : Stmt := topS 7
abbrev N_is_whole : List Str := ["number"]
theorem sc_is_whole : FnScope N_is_whole ["number"] (defScope s_is_whole) := ⟨rfl, rfl, rfl, by decide +kernel, rfl, by decide +kernel, by decide +kernel⟩
abbrev s_is_place : Stmt := topS 8
abbrev N_is_place : List Str := ["number"]
theorem sc_is_place : FnScope N_is_place ["number"] (defScope s_is_place) := ⟨rfl, rfl, rfl, by decide +kernel, rfl, by decide +kernel, by decide +kernel⟩
abbrev s_is_span : Stmt := topS 9
abbrev N_is_span : List Str := ["span", "low", "high"]
theorem sc_is_span : FnScope N_is_span ["span"] (defScope s_is_span) := ⟨rfl, rfl, rfl, by decide +kernel, rfl, by decide +kernel, by decide +kernel⟩
abbrev s_check_span : Stmt := topS 10
abbrev N_check_span : List Str := ["span"]
theorem sc_check_span : FnScope N_check_span ["span"] (defScope s_check_span) := ⟨rfl, rfl, rfl, by decide +kernel, rfl, by decide +kernel, by decide +kernel⟩
abbrev s_check_spans : Stmt := topS 11
abbrev N_check_spans : List Str := ["spans", "span"]
theorem sc_check_spans : FnScope N_check_spans ["spans"] (defScope s_check_spans) := ⟨rfl, rfl, rfl, by decide +kernel, rfl, by decide +kernel, by decide +kernel⟩
abbrev s_is_cover : Stmt := topS 14
abbrev N_is_cover : List Str := ["spans"]
theorem sc_is_cover : FnScope N_is_cover ["spans"] (defScope s_is_cover) := ⟨rfl, rfl, rfl, by decide +kernel, rfl, by decide +kernel, by decide +kernel⟩
abbrev s_check_cover : Stmt := topS 15
abbrev N_check_cover : List Str := ["cover"]
theorem sc_check_cover : FnScope N_check_cover ["cover"] (defScope s_check_cover) := ⟨rfl, rfl, rfl, by decide +kernel, rfl, by decide +kernel, by decide +kernel⟩
abbrev s_check_covers : Stmt := topS 16
abbrev N_check_covers : List Str := ["one", "other"]
theorem sc_check_covers : FnScope N_check_covers ["one", "other"] (defScope s_check_covers) := ⟨rfl, rfl, rfl, by decide +kernel, rfl, by decide +kernel, by decide +kernel⟩
abbrev s_joined : Stmt := topS 17
abbrev N_joined : List Str := ["spans", "cover", "low", "high", "begin", "end"]
theorem sc_joined : FnScope N_joined ["spans"] (defScope s_joined) := ⟨rfl, rfl, rfl, by decide +kernel, rfl, by decide +kernel, by decide +kernel⟩
abbrev s_common : Stmt := topS 18
abbrev N_common : List Str := ["one", "other", "found", "first", "second", "low", "high"]
theorem sc_common : FnScope N_common ["one", "other"] (defScope s_common) := ⟨rfl, rfl, rfl, by decide +kernel, rfl, by decide +kernel, by decide +kernel⟩
abbrev s_gaps_of : Stmt := topS 19
abbrev N_gaps_of : List Str := ["cover", "gaps", "low", "begin", "end"]
theorem sc_gaps_of : FnScope N_gaps_of ["cover"] (defScope s_gaps_of) := ⟨rfl, rfl, rfl, by decide +kernel, rfl, by decide +kernel, by decide +kernel⟩
abbrev s_cover_of : Stmt := topS 20
abbrev N_cover_of : List Str := ["spans"]
theorem sc_cover_of : FnScope N_cover_of ["spans"] (defScope s_cover_of) := ⟨rfl, rfl, rfl, by decide +kernel, rfl, by decide +kernel, by decide +kernel⟩
abbrev s_both : Stmt := topS 21
abbrev N_both : List Str := ["one", "other"]
theorem sc_both : FnScope N_both ["one", "other"] (defScope s_both) := ⟨rfl, rfl, rfl, by decide +kernel, rfl, by decide +kernel, by decide +kernel⟩
abbrev s_either : Stmt := topS 22
abbrev N_either : List Str := ["one", "other"]
theorem sc_either : FnScope N_either ["one", "other"] (defScope s_either) := ⟨rfl, rfl, rfl, by decide +kernel, rfl, by decide +kernel, by decide +kernel⟩
abbrev s_less : Stmt := topS 23
abbrev N_less : List Str := ["one", "other"]
theorem sc_less : FnScope N_less ["one", "other"] (defScope s_less) := ⟨rfl, rfl, rfl, by decide +kernel, rfl, by decide +kernel, by decide +kernel⟩
abbrev s_held : Stmt := topS 24
abbrev N_held : List Str := ["cover"]
theorem sc_held : FnScope N_held ["cover"] (defScope s_held) := ⟨rfl, rfl, rfl, by decide +kernel, rfl, by decide +kernel, by decide +kernel⟩
abbrev s_l_at : Stmt := topS 26
abbrev N_l_at : List Str := ["_law_script", "_law_k"]
theorem sc_l_at : FnScope N_l_at ["_law_script", "_law_k"] (defScope s_l_at) := ⟨rfl, rfl, rfl, by decide +kernel, rfl, by decide +kernel, by decide +kernel⟩
abbrev s_l_mixed : Stmt := topS 27
abbrev N_l_mixed : List Str := ["_law_cell", "_law_k", "_law_number_here"]
theorem sc_l_mixed : FnScope N_l_mixed ["_law_cell", "_law_k"] (defScope s_l_mixed) := ⟨rfl, rfl, rfl, by decide +kernel, rfl, by decide +kernel, by decide +kernel⟩
abbrev s_l_purse : Stmt := topS 28
abbrev N_l_purse : List Str := ["_law_script", "_law_at_here", "_law_cell"]
theorem sc_l_purse : FnScope N_l_purse ["_law_script", "_law_at_here"] (defScope s_l_purse) := ⟨rfl, rfl, rfl, by decide +kernel, rfl, by decide +kernel, by decide +kernel⟩
abbrev s_l_draw : Stmt := topS 29
abbrev N_l_draw : List Str := ["_law_purse_here", "_law_out_of", "_law_drawn", "_law_number_here", "_law_k"]
theorem sc_l_draw : FnScope N_l_draw ["_law_purse_here", "_law_out_of"] (defScope s_l_draw) := ⟨rfl, rfl, rfl, by decide +kernel, rfl, by decide +kernel, by decide +kernel⟩
abbrev s_l_number : Stmt := topS 30
abbrev N_l_number : List Str := ["_law_purse_here", "_law_most", "_law_far"]
theorem sc_l_number : FnScope N_l_number ["_law_purse_here", "_law_most"] (defScope s_l_number) := ⟨rfl, rfl, rfl, by decide +kernel, rfl, by decide +kernel, by decide +kernel⟩
abbrev s_l_end : Stmt := topS 31
abbrev N_l_end : List Str := ["_law_purse_here", "_law_ends", "_law_most", "_law_near"]
theorem sc_l_end : FnScope N_l_end ["_law_purse_here", "_law_ends", "_law_most"] (defScope s_l_end) := ⟨rfl, rfl, rfl, by decide +kernel, rfl, by decide +kernel, by decide +kernel⟩
abbrev s_l_span : Stmt := topS 32
abbrev N_l_span : List Str := ["_law_purse_here", "_law_ends", "_law_most", "_law_one", "_law_other", "_law_low", "_law_high"]
theorem sc_l_span : FnScope N_l_span ["_law_purse_here", "_law_ends", "_law_most"] (defScope s_l_span) := ⟨rfl, rfl, rfl, by decide +kernel, rfl, by decide +kernel, by decide +kernel⟩
abbrev s_l_spans : Stmt := topS 33
abbrev N_l_spans : List Str := ["_law_purse_here", "_law_ends", "_law_most", "_law_found", "_law_k"]
theorem sc_l_spans : FnScope N_l_spans ["_law_purse_here", "_law_ends", "_law_most"] (defScope s_l_spans) := ⟨rfl, rfl, rfl, by decide +kernel, rfl, by decide +kernel, by decide +kernel⟩
abbrev s_l_two_right : Stmt := topS 34
abbrev N_l_two_right : List Str := ["_law_one", "_law_other", "_law_together", "_law_common", "_law_alone"]
theorem sc_l_two_right : FnScope N_l_two_right ["_law_one", "_law_other", "_law_together"] (defScope s_l_two_right) := ⟨rfl, rfl, rfl, by decide +kernel, rfl, by decide +kernel, by decide +kernel⟩
abbrev s_l_three_right : Stmt := topS 35
abbrev N_l_three_right : List Str := ["_law_a", "_law_b", "_law_c"]
theorem sc_l_three_right : FnScope N_l_three_right ["_law_a", "_law_b", "_law_c"] (defScope s_l_three_right) := ⟨rfl, rfl, rfl, by decide +kernel, rfl, by decide +kernel, by decide +kernel⟩
abbrev s_law : Stmt := topS 36
abbrev N_law : List Str := ["_law_script", "_law_purse_here", "_law_ends", "_law_k", "_law_lists", "_law_covers", "_law_together", "_law_spans_here"]
theorem sc_law : FnScope N_law ["_law_script"] (defScope s_law) := ⟨rfl, rfl, rfl, by decide +kernel, rfl, by decide +kernel, by decide +kernel⟩

structure Tx (K : PySem.W.Frag) (mg : Str → Option Value) where
  f_is_whole : Addr
  fd_is_whole : FuncData
  F_is_whole : Fun K "is_whole" "is_whole" s_is_whole f_is_whole fd_is_whole
  b_is_whole : Binds K fd_is_whole ["number"] []
  g_is_whole : mg "is_whole" = some (.ref f_is_whole)
  f_is_place : Addr
  fd_is_place : FuncData
  F_is_place : Fun K "is_place" "is_place" s_is_place f_is_place fd_is_place
  b_is_place : Binds K fd_is_place ["number"] []
  g_is_place : mg "is_place" = some (.ref f_is_place)
  f_is_span : Addr
  fd_is_span : FuncData
  F_is_span : Fun K "is_span" "is_span" s_is_span f_is_span fd_is_span
  b_is_span : Binds K fd_is_span ["span"] []
  g_is_span : mg "is_span" = some (.ref f_is_span)
  f_check_span : Addr
  fd_check_span : FuncData
  F_check_span : Fun K "check_span" "check_span" s_check_span f_check_span fd_check_span
  b_check_span : Binds K fd_check_span ["span"] []
  g_check_span : mg "check_span" = some (.ref f_check_span)
  f_check_spans : Addr
  fd_check_spans : FuncData
  F_check_spans : Fun K "check_spans" "check_spans" s_check_spans f_check_spans fd_check_spans
  b_check_spans : Binds K fd_check_spans ["spans"] []
  g_check_spans : mg "check_spans" = some (.ref f_check_spans)
  f_is_cover : Addr
  fd_is_cover : FuncData
  F_is_cover : Fun K "is_cover" "is_cover" s_is_cover f_is_cover fd_is_cover
  b_is_cover : Binds K fd_is_cover ["spans"] []
  g_is_cover : mg "is_cover" = some (.ref f_is_cover)
  cA_is_cover : Addr
  pA_is_cover : Addr
  FC_is_cover : FunC K "is_cover" "is_cover" s_is_cover f_is_cover fd_is_cover cA_is_cover
  f_check_cover : Addr
  fd_check_cover : FuncData
  F_check_cover : Fun K "check_cover" "check_cover" s_check_cover f_check_cover fd_check_cover
  b_check_cover : Binds K fd_check_cover ["cover"] []
  g_check_cover : mg "check_cover" = some (.ref f_check_cover)
  f_check_covers : Addr
  fd_check_covers : FuncData
  F_check_covers : Fun K "check_covers" "check_covers" s_check_covers f_check_covers fd_check_covers
  b_check_covers : Binds K fd_check_covers ["one", "other"] []
  g_check_covers : mg "check_covers" = some (.ref f_check_covers)
  f_joined : Addr
  fd_joined : FuncData
  F_joined : Fun K "joined" "joined" s_joined f_joined fd_joined
  b_joined : Binds K fd_joined ["spans"] []
  g_joined : mg "joined" = some (.ref f_joined)
  f_common : Addr
  fd_common : FuncData
  F_common : Fun K "common" "common" s_common f_common fd_common
  b_common : Binds K fd_common ["one", "other"] []
  g_common : mg "common" = some (.ref f_common)
  f_gaps_of : Addr
  fd_gaps_of : FuncData
  F_gaps_of : Fun K "gaps_of" "gaps_of" s_gaps_of f_gaps_of fd_gaps_of
  b_gaps_of : Binds K fd_gaps_of ["cover"] []
  g_gaps_of : mg "gaps_of" = some (.ref f_gaps_of)
  f_cover_of : Addr
  fd_cover_of : FuncData
  F_cover_of : Fun K "cover_of" "cover_of" s_cover_of f_cover_of fd_cover_of
  b_cover_of : Binds K fd_cover_of ["spans"] []
  g_cover_of : mg "cover_of" = some (.ref f_cover_of)
  f_both : Addr
  fd_both : FuncData
  F_both : Fun K "both" "both" s_both f_both fd_both
  b_both : Binds K fd_both ["one", "other"] []
  g_both : mg "both" = some (.ref f_both)
  f_either : Addr
  fd_either : FuncData
  F_either : Fun K "either" "either" s_either f_either fd_either
  b_either : Binds K fd_either ["one", "other"] []
  g_either : mg "either" = some (.ref f_either)
  f_less : Addr
  fd_less : FuncData
  F_less : Fun K "less" "less" s_less f_less fd_less
  b_less : Binds K fd_less ["one", "other"] []
  g_less : mg "less" = some (.ref f_less)
  f_held : Addr
  fd_held : FuncData
  F_held : Fun K "held" "held" s_held f_held fd_held
  b_held : Binds K fd_held ["cover"] []
  g_held : mg "held" = some (.ref f_held)
  cA_held : Addr
  pA_held : Addr
  FC_held : FunC K "held" "held" s_held f_held fd_held cA_held
  f_l_at : Addr
  fd_l_at : FuncData
  F_l_at : Fun K "_law_at" "_law_at" s_l_at f_l_at fd_l_at
  b_l_at : Binds K fd_l_at ["_law_script", "_law_k"] []
  g_l_at : mg "_law_at" = some (.ref f_l_at)
  f_l_mixed : Addr
  fd_l_mixed : FuncData
  F_l_mixed : Fun K "_law_mixed" "_law_mixed" s_l_mixed f_l_mixed fd_l_mixed
  b_l_mixed : Binds K fd_l_mixed ["_law_cell", "_law_k"] []
  g_l_mixed : mg "_law_mixed" = some (.ref f_l_mixed)
  f_l_purse : Addr
  fd_l_purse : FuncData
  F_l_purse : Fun K "_law_purse" "_law_purse" s_l_purse f_l_purse fd_l_purse
  b_l_purse : Binds K fd_l_purse ["_law_script", "_law_at_here"] []
  g_l_purse : mg "_law_purse" = some (.ref f_l_purse)
  f_l_draw : Addr
  fd_l_draw : FuncData
  F_l_draw : Fun K "_law_draw" "_law_draw" s_l_draw f_l_draw fd_l_draw
  b_l_draw : Binds K fd_l_draw ["_law_purse_here", "_law_out_of"] []
  g_l_draw : mg "_law_draw" = some (.ref f_l_draw)
  f_l_number : Addr
  fd_l_number : FuncData
  F_l_number : Fun K "_law_number" "_law_number" s_l_number f_l_number fd_l_number
  b_l_number : Binds K fd_l_number ["_law_purse_here", "_law_most"] []
  g_l_number : mg "_law_number" = some (.ref f_l_number)
  f_l_end : Addr
  fd_l_end : FuncData
  F_l_end : Fun K "_law_end" "_law_end" s_l_end f_l_end fd_l_end
  b_l_end : Binds K fd_l_end ["_law_purse_here", "_law_ends", "_law_most"] []
  g_l_end : mg "_law_end" = some (.ref f_l_end)
  f_l_span : Addr
  fd_l_span : FuncData
  F_l_span : Fun K "_law_span" "_law_span" s_l_span f_l_span fd_l_span
  b_l_span : Binds K fd_l_span ["_law_purse_here", "_law_ends", "_law_most"] []
  g_l_span : mg "_law_span" = some (.ref f_l_span)
  f_l_spans : Addr
  fd_l_spans : FuncData
  F_l_spans : Fun K "_law_spans" "_law_spans" s_l_spans f_l_spans fd_l_spans
  b_l_spans : Binds K fd_l_spans ["_law_purse_here", "_law_ends", "_law_most"] []
  g_l_spans : mg "_law_spans" = some (.ref f_l_spans)
  f_l_two_right : Addr
  fd_l_two_right : FuncData
  F_l_two_right : Fun K "_law_two_right" "_law_two_right" s_l_two_right f_l_two_right fd_l_two_right
  b_l_two_right : Binds K fd_l_two_right ["_law_one", "_law_other", "_law_together"] []
  g_l_two_right : mg "_law_two_right" = some (.ref f_l_two_right)
  f_l_three_right : Addr
  fd_l_three_right : FuncData
  F_l_three_right : Fun K "_law_three_right" "_law_three_right" s_l_three_right f_l_three_right fd_l_three_right
  b_l_three_right : Binds K fd_l_three_right ["_law_a", "_law_b", "_law_c"] []
  g_l_three_right : mg "_law_three_right" = some (.ref f_l_three_right)
  f_law : Addr
  fd_law : FuncData
  F_law : Fun K "law" "law" s_law f_law fd_law
  b_law : Binds K fd_law ["_law_script"] []
  g_law : mg "law" = some (.ref f_law)
  tc_LEAST_PLACE : Tok
  c_LEAST_PLACE : mg "LEAST_PLACE" = some (.int (-999999999999) tc_LEAST_PLACE)
  tc_GREATEST_PLACE : Tok
  c_GREATEST_PLACE : mg "GREATEST_PLACE" = some (.int (999999999999) tc_GREATEST_PLACE)
  tc_MOST_SPANS : Tok
  c_MOST_SPANS : mg "MOST_SPANS" = some (.int (200) tc_MOST_SPANS)
  C_ShelfError : Addr
  g_ShelfError : mg "ShelfError" = some (.ref C_ShelfError)
  x_ShelfError : PySem.W.excIn K C_ShelfError [.type "ValueError", .type "Exception", .type "BaseException", .type "object"] "ValueError.__new__" = true
  k_ShelfError : PySem.W.keepIn K (.ref C_ShelfError) = true
  b_ShelfError : PySem.W.subIn K (.ref C_ShelfError) (.type "BaseException") = some true
  t_ShelfError : PySem.W.typeIn K (.ref C_ShelfError) = some (.type "type")
  C_NoSpan : Addr
  g_NoSpan : mg "NoSpan" = some (.ref C_NoSpan)
  x_NoSpan : PySem.W.excIn K C_NoSpan [.type "ValueError", .type "Exception", .type "BaseException", .type "object"] "ValueError.__new__" = true
  k_NoSpan : PySem.W.keepIn K (.ref C_NoSpan) = true
  b_NoSpan : PySem.W.subIn K (.ref C_NoSpan) (.type "BaseException") = some true
  t_NoSpan : PySem.W.typeIn K (.ref C_NoSpan) = some (.type "type")
  C_NoCover : Addr
  g_NoCover : mg "NoCover" = some (.ref C_NoCover)
  x_NoCover : PySem.W.excIn K C_NoCover [.type "ValueError", .type "Exception", .type "BaseException", .type "object"] "ValueError.__new__" = true
  k_NoCover : PySem.W.keepIn K (.ref C_NoCover) = true
  b_NoCover : PySem.W.subIn K (.ref C_NoCover) (.type "BaseException") = some true
  t_NoCover : PySem.W.typeIn K (.ref C_NoCover) = some (.type "type")
  m_all : mg "all" = none
  m_bool : mg "bool" = none
  m_int : mg "int" = none
  m_isinstance : mg "isinstance" = none
  m_len : mg "len" = none
  m_max : mg "max" = none
  m_min : mg "min" = none
  m_range : mg "range" = none
  m_sorted : mg "sorted" = none
  m_sum : mg "sum" = none
  m_tuple : mg "tuple" = none
  m_zip : mg "zip" = none
structure Tbs {K : PySem.W.Frag} {mg : Str → Option Value} (T : Tx K mg) (base : Heap) : Prop where
  t_is_cover : GxR.TabB base mg T.cA_is_cover T.pA_is_cover
  t_held : GxR.TabB base mg T.cA_held T.pA_held
def Tx.tabs {K : PySem.W.Frag} {mg : Str → Option Value} (T : Tx K mg) : List Addr := [T.pA_is_cover, T.pA_held]
section
variable {P : Program} {w : World} {K : PySem.W.Frag} {mg : Str → Option Value} {base : Heap}
/-! ### the cell, the mixing, the purse, a draw -/
def spAt (K : PySem.W.Frag) : Sp := fun vs H Q _ => ∃ (a : Addr) (ns : List Int) (k : Int), vs = [.ref a, .int k] ∧ SqL K H a (ns.map V.int) ∧ 0 ≤ k ∧ ∀ z, Q (.int z) H
theorem ok_at (T : Tx K mg) : FnOk P w K mg base CX0 (1) T.f_l_at T.fd_l_at ["_law_script", "_law_k"] (spAt K) := by
  refine T.F_l_at.ok sc_l_at (fun vs H Q E h => ?_) (fun cdv A outer s H vs Q E hr h => ?_)
  · obtain ⟨a, ns, k, rfl, _⟩ := h
    rfl
  · obtain ⟨a, ns, k, rfl, hS, h0, q⟩ := h
    refine ⟨_, (pss_cons (ps_if (pt_cmpR op_lt (pv 1) (pe_callB call_len_seq (by rfl) T.m_len PySem.boot_len (pa_cons (pv 0) pa_nil)) (nomark _)) (pss_one (ps_ret (pe_ix ix_list (pv 0) (pv 1) (fun _ _ => rfl)))) pss_nil)
      (pss_one (ps_ret pe_int))), ?_⟩
    refine ⟨_, rfl, _, rfl, a, _, rfl, .inl hS, _, _, rfl, rfl, _, rfl, ite2 (fun e => ?_) (fun e => ?_)⟩
    · have e0 : k < ((ns.map V.int).length : Int) := of_decide_eq_true e
      rw [List.length_map] at e0
      have h1 : k.toNat < ns.length := by omega
      refine ⟨_, rfl, _, rfl, a, _, k, .int ns[k.toNat], rfl, rfl, hS, at_of (j := k.toNat) (by omega) ?_, q _⟩
      rw [List.getElem?_map, List.getElem?_eq_getElem h1]
      rfl
    · exact q 0
def spMixed : Sp := fun vs H Q _ => ∃ (a k : Int), vs = [.int a, .int k] ∧ 0 ≤ k ∧ k < 2 ^ 60 ∧ 0 ≤ a ∧ a < 2 ^ 60 ∧ ∀ z : Int, 0 ≤ z → z < 2147483587 → Q (.int z) H
theorem ok_mixed (T : Tx K mg) : FnOk P w K mg base CX0 (1) T.f_l_mixed T.fd_l_mixed ["_law_cell", "_law_k"] spMixed := by
  refine T.F_l_mixed.ok sc_l_mixed (fun vs H Q E h => ?_) (fun cdv A outer s H vs Q E hr h => ?_)
  · obtain ⟨a, k, rfl, _⟩ := h
    rfl
  · obtain ⟨a, k, rfl, h0, h1, h2, h3, q⟩ := h
    refine ⟨_, (pss_cons (ps_set (i := 2) sc_l_mixed.nd rfl (Or.inl rfl) (pe_op op_mod (pe_op op_add (pe_op op_add (pe_op op_add (pe_op op_mul (pv 0) pe_int) (pe_op op_mul (pe_op op_mul pe_int (pv 1)) (pv 1))) (pv 1)) pe_int) pe_int))
      (pss_cons (ps_set (i := 2) sc_l_mixed.nd rfl (Or.inl rfl) (pe_op op_mod (pe_op op_add (pe_op op_mul (pv 2) (pv 2)) pe_int) pe_int))
      (pss_one (ps_ret (pe_op op_mod (pe_op op_mul (pv 2) pe_int) pe_int))))), ?_⟩
    refine ⟨_, rfl, _, _, rfl, rfl, .inr ⟨by decide, by decide⟩, _, rfl, _, _, rfl, rfl, .inl ⟨by decide, by decide⟩, _, rfl, _, _, rfl, rfl, .inr ⟨by omega, by omega⟩, _, _, rfl, rfl, _, rfl, _, _, rfl, rfl, _, _, rfl, rfl, _, _, rfl, rfl, by show (0 : Int) < 2147483647; decide, ?_⟩
    generalize hx : (a * 1103515245 + 7919 * k * k + k + 1) % 2147483647 = x
    have x0 : 0 ≤ x := by omega
    have x1 : x < 2147483647 := by omega
    clear hx
    refine ⟨_, rfl, _, rfl, _, _, rfl, rfl, .inl ⟨by omega, by omega⟩, _, _, rfl, rfl, _, _, rfl, rfl, by show (0 : Int) < 2147483629; decide, ?_⟩
    generalize hy : (x * x + 69621) % 2147483629 = y
    have y0 : 0 ≤ y := by omega
    have y1 : y < 2147483629 := by omega
    clear hy
    refine ⟨_, rfl, _, _, rfl, rfl, .inl ⟨by omega, by omega⟩, _, _, rfl, rfl, by show (0 : Int) < 2147483587; decide, ?_⟩
    exact q _ (by omega) (by omega)
def spPurse (K : PySem.W.Frag) : Sp := fun vs H Q _ => ∃ (a : Addr) (ns : List Int) (k : Int), vs = [.ref a, .int k] ∧ SqL K H a (ns.map V.int) ∧ 0 ≤ k ∧ k ≤ 63 ∧ ∀ H' p, Same H H' → H p = none → Pu H' p 63000 → Q (.ref p) H'
theorem ok_purse (T : Tx K mg) : FnOk P w K mg base CX0 (2) T.f_l_purse T.fd_l_purse ["_law_script", "_law_at_here"] (spPurse K) := by
  have G_l_at : FnOk P w K mg base CX0 _ _ _ _ _ := ok_at T
  refine T.F_l_purse.ok sc_l_purse (fun vs H Q E h => ?_) (fun cdv A outer s H vs Q E hr h => ?_)
  · obtain ⟨a, ns, k, rfl, _⟩ := h
    rfl
  · obtain ⟨a, ns, k, rfl, hS, h0, h1, q⟩ := h
    refine ⟨_, (pss_cons (ps_set (i := 2) sc_l_purse.nd rfl (Or.inl rfl) (pe_call G_l_at (hr.mono (by decide)) (by rfl) T.g_l_at T.F_l_at.kp T.b_l_at .nil pass0 (pa_cons (pv 0) (pa_cons (pv 1) pa_nil))))
      (pss_one (ps_ret (pe_lst (pa_cons (pe_callB (call_max2 rfl) (by rfl) T.m_max (by decide +kernel) (pa_cons (pe_op op_sub (pv 2) (pe_op op_pow pe_int pe_int)) (pa_cons pe_int pa_nil))) (pa_cons (pe_op op_mod (pv 2) pe_int) (pa_cons (pe_op op_mul pe_int (pv 1)) pa_nil))))))), ?_⟩
    refine ⟨_, rfl, _, rfl, a, ns, k, rfl, hS, h0, fun z => ?_⟩
    refine ⟨_, rfl, _, _, rfl, rfl, ⟨by decide, by decide, by decide⟩, _, _, rfl, rfl, _, _, rfl, _, rfl, _, _, rfl, rfl, by show (0 : Int) < 2147483647; decide, _, rfl, _, _, rfl, rfl, .inl ⟨by decide, by decide⟩, small_le (by simp), fun p np => ?_⟩
    refine q _ p (same_upd np) np ⟨_, _, _, upd_same, ?_, by omega, by omega, by omega, by omega⟩
    split <;> omega
def spDraw : Sp := fun vs H Q _ => ∃ (p : Addr) (m : Int) (n : Nat), vs = [.ref p, .int m] ∧ Pu H p n ∧ n ≤ 1000000000 ∧ 0 < m ∧ m < 2 ^ 88 ∧ ∀ H' r, Chg [p] H H' → Pu H' p (n + 3) → 0 ≤ r → r < m → Q (.int r) H'
theorem bits_le {m : Int} (h0 : 0 < m) (h1 : m < 2 ^ 88) : (Builtin.Int.intBits m : Nat) ≤ 88 := by
  have h : m.natAbs < 2 ^ 88 := by
    have e : (2 : Int) ^ 88 = ((2 ^ 88 : Nat) : Int) := by decide
    rw [e] at h1
    omega
  exact PyProof.Rows.intBits_le h
theorem ok_draw (T : Tx K mg) : FnOk P w K mg base CX0 (2) T.f_l_draw T.fd_l_draw ["_law_purse_here", "_law_out_of"] spDraw := by
  have G_l_mixed : FnOk P w K mg base CX0 _ _ _ _ _ := ok_mixed T
  refine T.F_l_draw.ok sc_l_draw (fun vs H Q E h => ?_) (fun cdv A outer s H vs Q E hr h => ?_)
  · obtain ⟨p, m, n, rfl, _⟩ := h
    rfl
  · obtain ⟨p, m, n, rfl, hp, hn, h0, h1, q⟩ := h
    obtain ⟨a, b, c, hP, ha, hb, hb1, hc, hc1⟩ := hp
    refine ⟨_, (pss_cons (ps_if (pt_cmpR op_gt (pe_ix ix_list (pv 0) pe_int (fun _ _ => rfl)) pe_int (nomark _)) (pss_cons (ps_set (i := 2) sc_l_draw.nd rfl (Or.inl rfl) (pe_op op_mod (pe_ix ix_list (pv 0) pe_int (fun _ _ => rfl)) (pv 1)))
      (pss_cons (ps_asg (pe_op op_fdivW (pe_ix ix_list (pv 0) pe_int (fun _ _ => rfl)) (pv 1)) (pg_sub (pv 0) pe_int set_list))
      (pss_one (ps_ret (pv 2))))) pss_nil)
      (pss_cons (ps_set (i := 3) sc_l_draw.nd rfl (Or.inl rfl) pe_int)
      (pss_cons (ps_for PassesOwn.never (by rfl) (pi_range1 (by rfl) T.m_range (pa_cons (pe_op op_add pe_int (pe_op op_fdiv (pe_bits (pv 1)) pe_int)) pa_nil)) (pg_name (i := 4) sc_l_draw.nd rfl (Or.inl rfl))
        (pss_cons (ps_asg (pe_op op_add (pe_ix ix_list (pv 0) pe_int (fun _ _ => rfl)) pe_int) (pg_sub (pv 0) pe_int set_list))
      (pss_one (ps_set (i := 3) sc_l_draw.nd rfl (Or.inl rfl) (pe_op op_add (pe_op op_mul (pv 3) pe_int) (pe_call G_l_mixed (hr.mono (by decide)) (by rfl) T.g_l_mixed T.F_l_mixed.kp T.b_l_mixed .nil pass0 (pa_cons (pe_ix ix_list (pv 0) pe_int (fun _ _ => rfl)) (pa_cons (pe_ix ix_list (pv 0) pe_int (fun _ _ => rfl)) pa_nil))))))))
      (pss_one (ps_ret (pe_op op_mod (pv 3) (pv 1))))))), ?_⟩
    have hS : SqL K H p [.int a, .int b, .int c] := SqL.of hP
    refine ⟨_, rfl, p, _, _, _, rfl, rfl, hS, atI_nat (j := 0) rfl, _, _, rfl, rfl, _, rfl, ite2 (fun e => ?_) (fun e => ?_)⟩
    · have ea : 0 < a := of_decide_eq_true e
      refine ⟨_, rfl, p, _, _, _, rfl, rfl, hS, atI_nat (j := 0) rfl, _, rfl, _, _, rfl, rfl, h0, ?_⟩
      refine ⟨_, rfl, p, _, _, _, rfl, rfl, hS, atI_nat (j := 0) rfl, _, rfl, _, _, rfl, rfl, wide_div (b := 88) h0 ?_ (by decide) (by decide), ?_⟩
      · have e : (2 : Int) ^ 88 = ((2 ^ 88 : Nat) : Int) := by decide
        rw [e] at h1
        omega
      refine ⟨_, rfl, p, _, _, 0, rfl, rfl, hP, rfl, ?_⟩
      refine ⟨_, rfl, ?_⟩
      refine q _ _ (Chg.upd List.mem_cons_self) ⟨a / m, b, c, upd_same, Int.ediv_nonneg ha (by omega), hb, hb1, hc, by omega⟩ (Int.emod_nonneg _ (by omega)) (Int.emod_lt_of_pos _ h0)
    · have hb88 := bits_le h0 h1
      refine ⟨_, rfl, _, rfl, _, _, rfl, rfl, ⟨by decide, by decide⟩, _, _, rfl, rfl, _, rfl, by omega, by omega, ?_⟩
      refine for_range (lo := 0) (n := (1 + ((Builtin.Int.intBits m : Nat) : Int) / 30).toNat) (fun i σ H' => ∃ (x : Int) (c' : Int) (y4 : Option V), σ = [some (.ref p), some (.int m), none, some (.int x), y4] ∧ Chg [p] H H' ∧ H' p = some (.lst [.int a, .int b, .int c']) ∧ c' = c + i ∧ 0 ≤ x ∧ x < 2 ^ (32 * i)) ⟨0, c, none, rfl, Chg.refl _ _, hP, by omega, by omega, by decide⟩ ?_ ?_
      · rintro i σ H' hi ⟨x, c', y4, rfl, hch, hP', hc', x0, x1⟩
        have hi3 : i ≤ 2 := by omega
        refine ⟨_, rfl, p, _, _, _, rfl, rfl, SqL.of hP', atI_nat (j := 2) rfl, _, _, rfl, rfl, _, rfl, p, _, _, 2, rfl, rfl, hP', rfl, ?_⟩
        have hP2 : (upd H' p (.lst [.int a, .int b, .int (c' + 1)])) p = some (.lst [.int a, .int b, .int (c' + 1)]) := upd_same
        refine ⟨_, rfl, _, _, rfl, rfl, .inr ⟨by decide, by decide⟩, _, rfl, p, _, _, _, rfl, rfl, SqL.of hP2, atI_nat (j := 1) rfl, _, rfl, p, _, _, _, rfl, rfl, SqL.of hP2, atI_nat (j := 2) rfl, b, c' + 1, rfl, by omega, by omega, hb, by omega, fun z z0 z1 => ?_⟩
        refine ⟨_, _, rfl, rfl, x * 2147483587 + z, c' + 1, _, rfl, hch.trans (Chg.upd List.mem_cons_self), hP2, by omega, by omega, ?_⟩
        have e : (2 : Int) ^ (32 * (i + 1)) = 2 ^ (32 * i) * 4294967296 := by
          rw [Nat.mul_add, Int.pow_add]
          rfl
        rw [e]
        omega
      · rintro σ H' ⟨x, c', y4, rfl, hch, hP', hc', x0, x1⟩
        refine ⟨_, rfl, _, rfl, _, _, rfl, rfl, h0, ?_⟩
        exact q _ _ hch ⟨a, b, c', hP', ha, hb, hb1, by omega, by omega⟩ (Int.emod_nonneg _ (by omega)) (Int.emod_lt_of_pos _ h0)
end
section
variable {P : Program} {w : World} {K : PySem.W.Frag} {mg : Str → Option Value} {base : Heap}
/-! ### a number, an end, a span -/
def spNumber : Sp := fun vs H Q _ => ∃ (p : Addr) (m : Int) (n : Nat), vs = [.ref p, .int m] ∧ Pu H p n ∧ n + 6 ≤ 1000000000 ∧ 30 ≤ m ∧ m < 2 ^ 60 ∧ ∀ H' r, Chg [p] H H' → Pu H' p (n + 6) → -m ≤ r → r ≤ m → Q (.int r) H'
theorem far_of {m r : Int} (h0 : 0 ≤ r) (h1 : r < 4) (hm : 30 ≤ m) : ∃ f, ([.int 1, .int 4, .int 30, .int m] : List V)[r.toNat]? = some (.int f) ∧ 1 ≤ f ∧ f ≤ m := by
  have h : r = 0 ∨ r = 1 ∨ r = 2 ∨ r = 3 := by omega
  rcases h with rfl | rfl | rfl | rfl
  · exact ⟨1, rfl, by omega, by omega⟩
  · exact ⟨4, rfl, by omega, by omega⟩
  · exact ⟨30, rfl, by omega, by omega⟩
  · exact ⟨m, rfl, by omega, by omega⟩
theorem ok_number (T : Tx K mg) : FnOk P w K mg base CX0 (3) T.f_l_number T.fd_l_number ["_law_purse_here", "_law_most"] spNumber := by
  have G_l_draw : FnOk P w K mg base CX0 _ _ _ _ _ := ok_draw T
  refine T.F_l_number.ok sc_l_number (fun vs H Q E h => ?_) (fun cdv A outer s H vs Q E hr h => ?_)
  · obtain ⟨p, m, n, rfl, _⟩ := h
    rfl
  · obtain ⟨p, m, n, rfl, hp, hn, h0, h1, q⟩ := h
    refine ⟨_, (pss_cons (ps_set (i := 2) sc_l_number.nd rfl (Or.inl rfl) (pe_ix ix_list (pe_lst (pa_cons pe_int (pa_cons pe_int (pa_cons pe_int (pa_cons (pv 1) pa_nil))))) (pe_call G_l_draw (hr.mono (by decide)) (by rfl) T.g_l_draw T.F_l_draw.kp T.b_l_draw .nil pass0 (pa_cons (pv 0) (pa_cons pe_int pa_nil))) (fun _ _ => rfl)))
      (pss_one (ps_ret (pe_op op_sub (pe_call G_l_draw (hr.mono (by decide)) (by rfl) T.g_l_draw T.F_l_draw.kp T.b_l_draw .nil pass0 (pa_cons (pv 0) (pa_cons (pe_op op_add (pe_op op_mul pe_int (pv 2)) pe_int) pa_nil))) (pv 2))))), ?_⟩
    refine ⟨_, rfl, small_le (by simp), fun l nl => ?_⟩
    have s1 := same_upd (o := .lst [.int 1, .int 4, .int 30, .int m]) nl
    have npl : p ≠ l := hp.ne nl
    refine ⟨_, rfl, p, 4, n, rfl, hp.same s1, by omega, by decide, by decide, fun H1 r c1 p1 r0 r1 => ?_⟩
    obtain ⟨f, hf, f0, f1⟩ := far_of r0 r1 h0
    refine ⟨l, _, r, _, rfl, rfl, SqL.of (c1 _ _ (nmem1 npl.symm) upd_same), at_of (j := r.toNat) (by omega) hf, ?_⟩
    refine ⟨_, rfl, _, rfl, _, _, rfl, rfl, .inl ⟨by decide, by decide⟩, _, _, rfl, rfl, p, 2 * f + 1, n + 3, rfl, p1, by omega, by omega, by omega, fun H2 x c2 p2 x0 x1 => ?_⟩
    refine ⟨_, rfl, _, _, rfl, rfl, q _ _ ((Chg.of_same s1).trans (c1.trans c2)) p2 (by omega) (by omega)⟩
def spEnd (K : PySem.W.Frag) : Sp := fun vs H Q _ => ∃ (p e : Addr) (m : Int) (n : Nat) (ns : List Int), vs = [.ref p, .ref e, .int m] ∧ Pu H p n ∧ n + 9 ≤ 1000000000 ∧ SqL K H e (ns.map V.int) ∧ e ≠ p ∧ ns.length ≤ 1000000 ∧ 30 ≤ m ∧ m < 2 ^ 60 ∧
  ∀ H' r, Chg [p] H H' → Pu H' p (n + 9) → -m ≤ r → r ≤ m → Q (.int r) H'
theorem ok_end (T : Tx K mg) : FnOk P w K mg base CX0 (4) T.f_l_end T.fd_l_end ["_law_purse_here", "_law_ends", "_law_most"] (spEnd K) := by
  have G_l_draw : FnOk P w K mg base CX0 _ _ _ _ _ := ok_draw T
  have G_l_number : FnOk P w K mg base CX0 _ _ _ _ _ := ok_number T
  refine T.F_l_end.ok sc_l_end (fun vs H Q E h => ?_) (fun cdv A outer s H vs Q E hr h => ?_)
  · obtain ⟨p, e, m, n, ns, rfl, _⟩ := h
    rfl
  · obtain ⟨p, e, m, n, ns, rfl, hp, hn, hE, hne, hlen, h0, h1, q⟩ := h
    refine ⟨_, (pss_cons (ps_if (PW.pt (pw_and (pt_cmpR (op_neD hr.units) (pv 1) (pe_lst pa_nil) (nomark _)) (pw_and1 (pt_cmpR op_gt (pe_call G_l_draw (hr.mono (by decide)) (by rfl) T.g_l_draw T.F_l_draw.kp T.b_l_draw .nil pass0 (pa_cons (pv 0) (pa_cons pe_int pa_nil))) pe_int (nomark _))))) (pss_cons (ps_set (i := 3) sc_l_end.nd rfl (Or.inl rfl) (pe_op op_sub (pe_op op_add (pe_ix ix_list (pv 1) (pe_call G_l_draw (hr.mono (by decide)) (by rfl) T.g_l_draw T.F_l_draw.kp T.b_l_draw .nil pass0 (pa_cons (pv 0) (pa_cons (pe_callB call_len_seq (by rfl) T.m_len PySem.boot_len (pa_cons (pv 1) pa_nil)) pa_nil))) (fun _ _ => rfl)) (pe_call G_l_draw (hr.mono (by decide)) (by rfl) T.g_l_draw T.F_l_draw.kp T.b_l_draw .nil pass0 (pa_cons (pv 0) (pa_cons pe_int pa_nil)))) pe_int))
      (pss_one (ps_ret (pe_callB (call_max2 rfl) (by rfl) T.m_max (by decide +kernel) (pa_cons (pe_op op_sub pe_int (pv 2)) (pa_cons (pe_callB (call_min2 rfl) (by rfl) T.m_min (by decide +kernel) (pa_cons (pv 2) (pa_cons (pv 3) pa_nil))) pa_nil)))))) pss_nil)
      (pss_one (ps_ret (pe_call G_l_number (hr.mono (by decide)) (by rfl) T.g_l_number T.F_l_number.kp T.b_l_number .nil pass0 (pa_cons (pv 0) (pa_cons (pv 2) pa_nil)))))), ?_⟩
    refine ⟨_, rfl, Nat.zero_le _, fun l nl => ?_⟩
    have s1 := same_upd (o := .lst []) nl
    refine ⟨_, _, .lst (s1.seq hE) (dpAll_ints ns), .lst (SqL.of upd_same) .nil, shaped_ints ns, shaped_nil, _, rfl, ?_⟩
    rw [eqv_ints_nil]
    by_cases hnil : ns = []
    · rw [decide_eq_true hnil]
      refine iteF (iteF ?_)
      exact ⟨_, rfl, _, rfl, p, m, n, rfl, hp.same s1, by omega, h0, h1, fun H2 x c2 p2 x0 x1 => q _ _ ((Chg.of_same s1).trans c2) (p2.mono (by omega)) x0 x1⟩
    · rw [decide_eq_false hnil]
      have hl0 : 0 < ns.length := List.length_pos_iff.mpr hnil
      refine iteT ?_
      refine ⟨_, rfl, p, 3, n, rfl, hp.same s1, by omega, by decide, by decide, fun H1 r c1 p1 r0 r1 => ?_⟩
      have hE1 : SqL K H1 e (ns.map V.int) := c1.seq (nmem1 hne) (s1.seq hE)
      refine ⟨_, _, rfl, rfl, _, rfl, ite2 (fun _ => ?_) (fun _ => ?_)⟩
      · refine ⟨_, rfl, _, rfl, _, rfl, e, _, rfl, .inl hE1, p, ns.length, n + 3, ?_, p1, by omega, by omega, by omega, fun H2 x c2 p2 x0 x1 => ?_⟩
        · rw [List.length_map]
          rfl
        have hx : x.toNat < ns.length := by omega
        refine ⟨e, _, x, .int ns[x.toNat], rfl, rfl, c2.seq (nmem1 hne) hE1, at_of (j := x.toNat) (by omega) ?_, ?_⟩
        · rw [List.getElem?_map, List.getElem?_eq_getElem hx]
          rfl
        refine ⟨_, rfl, p, 3, n + 6, rfl, p2, by omega, by decide, by decide, fun H3 y c3 p3 y0 y1 => ?_⟩
        refine ⟨_, _, rfl, rfl, _, _, rfl, rfl, ?_⟩
        refine ⟨_, rfl, _, _, rfl, rfl, _, rfl, _, rfl, _, _, rfl, _, _, rfl, ?_⟩
        refine q _ _ ((Chg.of_same s1).trans (c1.trans (c2.trans c3))) p3 ?_ ?_
        · split <;> split <;> omega
        · split <;> split <;> omega
      · exact ⟨_, rfl, _, rfl, p, m, n + 3, rfl, p1, by omega, h0, h1, fun H2 x c2 p2 x0 x1 => q _ _ ((Chg.of_same s1).trans (c1.trans c2)) p2 x0 x1⟩
theorem min3_of (a b c : Int) : ∃ z, nuMin3 (.int a) (.int b) (.int c) = some (.int z) ∧ z ≤ a ∧ z ≤ b ∧ z ≤ c ∧ (z = a ∨ z = b ∨ z = c) := by
  have e2 : ∀ x y : Int, nuMin2 (.int x) (.int y) = some (.int (if y < x then y else x)) := fun x y => by
    show (some (decide (y < x))).map (fun c => if c = true then V.int y else V.int x) = _
    by_cases h : y < x <;> simp [h]
  refine ⟨if c < (if b < a then b else a) then c else (if b < a then b else a), ?_, ?_⟩
  · unfold nuMin3
    rw [e2]
    show nuMin2 _ _ = _
    rw [e2]
  · split <;> split <;> omega
theorem max3_of (a b c : Int) : ∃ z, nuMax3 (.int a) (.int b) (.int c) = some (.int z) ∧ a ≤ z ∧ b ≤ z ∧ c ≤ z ∧ (z = a ∨ z = b ∨ z = c) := by
  have e2 : ∀ x y : Int, nuMax2 (.int x) (.int y) = some (.int (if x < y then y else x)) := fun x y => by
    show (some (decide (x < y))).map (fun c => if c = true then V.int y else V.int x) = _
    by_cases h : x < y <;> simp [h]
  refine ⟨if (if a < b then b else a) < c then c else (if a < b then b else a), ?_, ?_⟩
  · unfold nuMax3
    rw [e2]
    show nuMax2 _ _ = _
    rw [e2]
  · split <;> split <;> omega
def spSpan : Sp := fun vs H Q _ => ∃ (p e : Addr) (m : Int) (n : Nat) (ns : List Int), vs = [.ref p, .ref e, .int m] ∧ Pu H p n ∧ n + 18 ≤ 1000000000 ∧ H e = some (.lst (ns.map V.int)) ∧ e ≠ p ∧ ns.length ≤ 100000 ∧ 30 ≤ m ∧ m < 2 ^ 60 ∧
  ∀ H' t lo hi, Chg [p, e] H H' → Pu H' p (n + 18) → H' e = some (.lst ((ns ++ [lo, hi]).map V.int)) → H t = none → H' t = some (.tup [.int lo, .int hi]) → -m ≤ lo → lo < hi → hi ≤ m → Q (.ref t) H'
theorem ok_span (T : Tx K mg) : FnOk P w K mg base CX0 (5) T.f_l_span T.fd_l_span ["_law_purse_here", "_law_ends", "_law_most"] spSpan := by
  have G_l_end : FnOk P w K mg base CX0 _ _ _ _ _ := ok_end T
  refine T.F_l_span.ok sc_l_span (fun vs H Q E h => ?_) (fun cdv A outer s H vs Q E hr h => ?_)
  · obtain ⟨p, e, m, n, ns, rfl, _⟩ := h
    rfl
  · obtain ⟨p, e, m, n, ns, rfl, hp, hn, hE, hne, hlen, h0, h1, q⟩ := h
    refine ⟨_, (pss_cons (ps_set (i := 3) sc_l_span.nd rfl (Or.inl rfl) (pe_call G_l_end (hr.mono (by decide)) (by rfl) T.g_l_end T.F_l_end.kp T.b_l_end .nil pass0 (pa_cons (pv 0) (pa_cons (pv 1) (pa_cons (pv 2) pa_nil)))))
      (pss_cons (ps_set (i := 4) sc_l_span.nd rfl (Or.inl rfl) (pe_call G_l_end (hr.mono (by decide)) (by rfl) T.g_l_end T.F_l_end.kp T.b_l_end .nil pass0 (pa_cons (pv 0) (pa_cons (pe_op op_cat (pv 1) (pe_lst (pa_cons (pv 3) pa_nil))) (pa_cons (pv 2) pa_nil)))))
      (pss_cons (ps_set (i := 5) sc_l_span.nd rfl (Or.inl rfl) (pe_callB (call_min3Nu rfl) (by rfl) T.m_min (by decide +kernel) (pa_cons (pv 3) (pa_cons (pv 4) (pa_cons (pe_op op_sub (pv 2) pe_int) pa_nil)))))
      (pss_cons (ps_set (i := 6) sc_l_span.nd rfl (Or.inl rfl) (pe_callB (call_max3Nu rfl) (by rfl) T.m_max (by decide +kernel) (pa_cons (pv 3) (pa_cons (pv 4) (pa_cons (pe_op op_add (pv 5) pe_int) pa_nil)))))
      (pss_cons (ps_expr (pe_bm PySem.F.plainAttrs_list PySem.F.slot_list_append PySem.F.type_list_append mt_append (pv 1) (pa_cons (pv 5) pa_nil)))
      (pss_cons (ps_expr (pe_bm PySem.F.plainAttrs_list PySem.F.slot_list_append PySem.F.type_list_append mt_append (pv 1) (pa_cons (pv 6) pa_nil)))
      (pss_one (ps_ret (pe_tup (pa_cons (pv 5) (pa_cons (pv 6) pa_nil))))))))))), ?_⟩
    have up : ∀ {H H' : Hp}, Chg [p] H H' → Chg [p, e] H H' := fun c => c.mono fun x hx => by
      rw [List.mem_singleton.mp hx]
      exact List.mem_cons_self
    refine ⟨_, rfl, _, rfl, _, rfl, p, e, m, n, ns, rfl, hp, by omega, SqL.of hE, hne, by omega, h0, h1, fun H1 x c1 p1 x0 x1 => ?_⟩
    have hE1 : H1 e = some (.lst (ns.map V.int)) := c1 _ _ (nmem1 hne) hE
    refine ⟨_, rfl, _, rfl, _, rfl, small_le (by simp), fun l1 nl1 => ?_⟩
    have s1 := same_upd (o := .lst [.int x]) nl1
    refine ⟨e, l1, _, _, rfl, rfl, s1 _ _ hE1, upd_same, ?_, fun l2 nl2 => ?_⟩
    · rw [List.length_map]
      exact small_le (by simp; omega)
    have s2 := same_upd (o := .lst (ns.map V.int ++ [.int x])) nl2
    have p3 := (p1.same s1).same s2
    refine ⟨_, rfl, p, l2, m, n + 9, ns ++ [x], rfl, p3, by omega, SqL.of ?_, ?_, ?_, h0, h1, fun H2 y c2 p2 y0 y1 => ?_⟩
    · rw [List.map_append]
      exact upd_same
    · exact ((p1.same s1).ne nl2).symm
    · simp
      omega
    have hE2 : H2 e = some (.lst (ns.map V.int)) := c2 _ _ (nmem1 hne) (s2 _ _ (s1 _ _ hE1))
    have cc : Chg [p] H H2 := c1.trans ((Chg.of_same s1).trans ((Chg.of_same s2).trans c2))
    obtain ⟨lo, elo, l_1, l_2, l_3, l_4⟩ := min3_of x y (m - 1)
    refine ⟨_, rfl, _, rfl, _, rfl, _, _, rfl, rfl, _, _, _, _, rfl, elo, ?_⟩
    obtain ⟨hi, ehi, i_1, i_2, i_3, i_4⟩ := max3_of x y (lo + 1)
    refine ⟨_, rfl, _, rfl, _, rfl, _, _, rfl, rfl, _, _, _, _, rfl, ehi, ?_⟩
    refine ⟨_, rfl, .inl ⟨rfl, _, SqL.of hE2⟩, _, rfl, e, _, _, rfl, rfl, hE2, ?_, ?_⟩
    · rw [List.length_map]
      exact small_lt (by omega)
    have hE3 : (upd H2 e (.lst (ns.map V.int ++ [.int lo]))) e = some (.lst (ns.map V.int ++ [.int lo])) := upd_same
    refine ⟨_, rfl, .inl ⟨rfl, _, SqL.of hE3⟩, _, rfl, e, _, _, rfl, rfl, hE3, ?_, ?_⟩
    · rw [List.length_append, List.length_map]
      exact small_lt (by simp; omega)
    rw [upd_upd]
    refine ⟨_, rfl, _, rfl, (by show 2 ≤ sizeLine; decide), fun t nt => ?_⟩
    have hE4 : (upd H2 e (.lst (ns.map V.int ++ [.int lo] ++ [.int hi]))) e = some (.lst (ns.map V.int ++ [.int lo] ++ [.int hi])) := upd_same
    have c5 : Chg [p, e] H (upd (upd H2 e (.lst (ns.map V.int ++ [.int lo] ++ [.int hi]))) t (.tup [.int lo, .int hi])) := (up cc).trans ((Chg.upd (List.mem_cons_of_mem _ List.mem_cons_self)).trans (Chg.of_same (same_upd nt)))
    have te : t ≠ e := (ne_of_none hE4 nt).symm
    have p5 : Pu (upd H2 e (.lst (ns.map V.int ++ [.int lo] ++ [.int hi]))) p (n + 18) := p2.chg (L := [e]) (Chg.upd List.mem_cons_self) (nmem1 hne.symm)
    have tp : t ≠ p := (p5.ne nt).symm
    refine q _ t lo hi c5 (p5.same (same_upd nt)) ?_ ?_ upd_same (by omega) (by omega) (by omega)
    · rw [upd_ne te.symm, upd_same, List.map_append, List.append_assoc]
      rfl
    · rw [upd_ne te] at nt
      exact cc.free (nmem1 tp) nt
end
section
variable {P : Program} {w : World} {K : PySem.W.Frag} {mg : Str → Option Value} {base : Heap}
/-! ### the program: spans -/
def isPlace (i : Int) : Bool := decide (-999999999999 ≤ i) && decide (i ≤ 999999999999)
def isSpan (s : Span) : Bool := isPlace s.1 && isPlace s.2 && decide (s.1 < s.2)
theorem isSpan_iff (s : Span) : isSpan s = true ↔ (-999999999999 ≤ s.1 ∧ s.1 < s.2 ∧ s.2 ≤ 999999999999) := by
  unfold isSpan isPlace
  simp only [Bool.and_eq_true, decide_eq_true_eq]
  omega
def spWhole : Sp := fun vs H Q _ => ∃ i : Int, vs = [.int i] ∧ Q (.bl true) H
theorem ok_is_whole (T : Tx K mg) : FnOk P w K mg base CX0 (1) T.f_is_whole T.fd_is_whole ["number"] spWhole := by
  refine T.F_is_whole.ok sc_is_whole (fun vs H Q E h => ?_) (fun cdv A outer s H vs Q E hr h => ?_)
  · obtain ⟨i, rfl, _⟩ := h
    rfl
  · obtain ⟨i, rfl, q⟩ := h
    refine ⟨_, (pss_one (ps_ret (pe_and (pe_callB call_isi (by rfl) T.m_isinstance (by decide +kernel) (pa_cons (pv 0) (pa_cons (pe_bltn (v := .ty "int") (by rfl) T.m_int (by decide +kernel) rfl) pa_nil))) (pe_one (pe_not (pe_callB call_isi (by rfl) T.m_isinstance (by decide +kernel) (pa_cons (pv 0) (pa_cons (pe_bltn (v := .ty "bool") (by rfl) T.m_bool (by decide +kernel) rfl) pa_nil)))))))), ?_⟩
    refine ⟨_, rfl, _, _, _, _, true, rfl, .ty _, .base (.int i), kit_ty (by decide +kernel), true, rfl, iteT ?_⟩
    exact ⟨_, rfl, _, _, _, _, false, rfl, .ty _, .base (.int i), kit_ty (by decide +kernel), false, rfl, q⟩
def spPlace : Sp := fun vs H Q _ => ∃ i : Int, vs = [.int i] ∧ Q (.bl (isPlace i)) H
theorem ok_is_place (T : Tx K mg) : FnOk P w K mg base CX0 (2) T.f_is_place T.fd_is_place ["number"] spPlace := by
  have G_is_whole : FnOk P w K mg base CX0 _ _ _ _ _ := ok_is_whole T
  refine T.F_is_place.ok sc_is_place (fun vs H Q E h => ?_) (fun cdv A outer s H vs Q E hr h => ?_)
  · obtain ⟨i, rfl, _⟩ := h
    rfl
  · obtain ⟨i, rfl, q⟩ := h
    refine ⟨_, (pss_one (ps_ret (pe_and (pe_call G_is_whole (hr.mono (by decide)) (by rfl) T.g_is_whole T.F_is_whole.kp T.b_is_whole .nil pass0 (pa_cons (pv 0) pa_nil)) (pe_one (pe_chain op_le op_le (pe_glob (v := .int (-999999999999)) (by rfl) T.c_LEAST_PLACE ⟨_, rfl⟩) (pv 0) (pe_glob (v := .int (999999999999)) (by rfl) T.c_GREATEST_PLACE ⟨_, rfl⟩)))))), ?_⟩
    refine ⟨_, rfl, i, rfl, true, rfl, iteT ?_⟩
    refine ⟨_, rfl, _, _, rfl, rfl, _, rfl, ?_⟩
    unfold isPlace at q
    by_cases h : -999999999999 ≤ i
    · rw [decide_eq_true h] at q ⊢
      exact iteT ⟨_, _, rfl, rfl, q⟩
    · rw [decide_eq_false h] at q ⊢
      exact iteF q
def spIsSpan : Sp := fun vs H Q _ => ∃ (v : V) (s : Span), vs = [v] ∧ Spn H v s ∧ Q (.bl (isSpan s)) H
theorem ok_is_span (T : Tx K mg) : FnOk P w K mg base CX0 (3) T.f_is_span T.fd_is_span ["span"] spIsSpan := by
  have G_is_place : FnOk P w K mg base CX0 _ _ _ _ _ := ok_is_place T
  refine T.F_is_span.ok sc_is_span (fun vs H Q E h => ?_) (fun cdv A outer s H vs Q E hr h => ?_)
  · obtain ⟨v, s, rfl, _⟩ := h
    rfl
  · obtain ⟨v, s, rfl, ⟨t, rfl, ht⟩, q⟩ := h
    refine ⟨_, (pss_cons (ps_if (PW.pt (pw_or (pt_not (pt_val (pe_callB call_isi (by rfl) T.m_isinstance (by decide +kernel) (pa_cons (pv 0) (pa_cons (pe_bltn (v := .ty "tuple") (by rfl) T.m_tuple (by decide +kernel) rfl) pa_nil))))) (pw_or1 (pt_cmpR op_ne (pe_callB call_len_seq (by rfl) T.m_len PySem.boot_len (pa_cons (pv 0) pa_nil)) pe_int (nomark _))))) (pss_one (ps_ret pe_bl)) pss_nil)
      (pss_cons (ps_asg (pv 0) (pg_tup rfl (pgs_cons (pg_name (i := 1) sc_is_span.nd rfl (Or.inl rfl)) (pgs_cons (pg_name (i := 2) sc_is_span.nd rfl (Or.inl rfl)) pgs_nil))))
      (pss_one (ps_ret (pe_and (pe_call G_is_place (hr.mono (by decide)) (by rfl) T.g_is_place T.F_is_place.kp T.b_is_place .nil pass0 (pa_cons (pv 1) pa_nil)) (pe_and (pe_call G_is_place (hr.mono (by decide)) (by rfl) T.g_is_place T.F_is_place.kp T.b_is_place .nil pass0 (pa_cons (pv 2) pa_nil)) (pe_one (pe_cmpR op_lt (pv 1) (pv 2) (nomark _))))))))), ?_⟩
    refine ⟨_, rfl, _, _, _, _, true, rfl, .ty _, .base (.tup ht), kit_ty (by decide +kernel), true, rfl, iteF ?_⟩
    refine ⟨_, rfl, t, _, rfl, .inr (SqT.of ht), rfl, _, rfl, iteF ?_⟩
    refine ⟨_, rfl, t, _, rfl, SqT.of ht, rfl, _, _, rfl, _, _, rfl, rfl, ?_⟩
    unfold isSpan at q
    refine ⟨_, rfl, s.1, rfl, _, rfl, ?_⟩
    by_cases h1 : isPlace s.1 = true
    · rw [h1] at q ⊢
      refine iteT ⟨_, rfl, s.2, rfl, _, rfl, ?_⟩
      by_cases h2 : isPlace s.2 = true
      · rw [h2] at q ⊢
        exact iteT ⟨_, rfl, _, rfl, _, _, rfl, rfl, q⟩
      · rw [Bool.not_eq_true] at h2
        rw [h2] at q ⊢
        exact iteF q
    · rw [Bool.not_eq_true] at h1
      rw [h1] at q ⊢
      exact iteF q
def spCheck (C : Addr) : Sp := fun vs H Q E => ∃ (v : V) (s : Span), vs = [v] ∧ Spn H v s ∧ (isSpan s = true → Q .non H) ∧ (isSpan s = false → E (.ref C) none H)
theorem ok_check_span (T : Tx K mg) : FnOk P w K mg base (L2.CX P w) (4) T.f_check_span T.fd_check_span ["span"] (spCheck T.C_NoSpan) := by
  have G_is_span : FnOk P w K mg base CX0 _ _ _ _ _ := ok_is_span T
  refine T.F_check_span.okX sc_check_span (fun vs H Q E h => ?_) (fun cdv A outer s H vs Q E hr h => ?_)
  · obtain ⟨v, s, rfl, _⟩ := h
    rfl
  · obtain ⟨v, s, rfl, hv, q, e⟩ := h
    refine ⟨_, (pss_one (ps_if (pt_not (pt_val (pe_call G_is_span (hr.mono (by decide)) (by rfl) T.g_is_span T.F_is_span.kp T.b_is_span .nil pass0 (pa_cons (pv 0) pa_nil)))) (pss_one (ps_raise (by rfl) (takes_of rfl rfl rfl rfl) (pmk_own PySem.F.excBase_ValueError T.x_NoSpan T.g_NoSpan T.k_NoSpan (raises_own T.b_NoSpan T.t_NoSpan) (by exact rfl)))) pss_nil)), ?_⟩
    refine ⟨_, rfl, v, s, rfl, hv, _, rfl, ?_⟩
    by_cases h : isSpan s = true
    · rw [h]
      exact iteF (q h)
    · rw [Bool.not_eq_true] at h
      rw [h]
      exact iteT (e h)
end
/-! ### the mathematics of covers -/
def Mem (ss : List Span) (x : Int) : Prop := ∃ s ∈ ss, s.1 ≤ x ∧ x < s.2
def Can (c : List Span) : Prop := c.Pairwise (fun s t => s.2 < t.1) ∧ ∀ s ∈ c, s.1 < s.2
theorem mem_nil (x : Int) : ¬ Mem [] x := fun ⟨_, h, _⟩ => nomatch h
theorem mem_cons {s : Span} {ss : List Span} {x : Int} : Mem (s :: ss) x ↔ (s.1 ≤ x ∧ x < s.2) ∨ Mem ss x := by
  constructor
  · rintro ⟨t, ht, h⟩
    rcases List.mem_cons.mp ht with e | ht
    · rw [← e]
      exact .inl h
    · exact .inr ⟨t, ht, h⟩
  · rintro (h | ⟨t, ht, h⟩)
    · exact ⟨s, List.mem_cons_self, h⟩
    · exact ⟨t, List.mem_cons_of_mem _ ht, h⟩
theorem mem_app {a b : List Span} {x : Int} : Mem (a ++ b) x ↔ Mem a x ∨ Mem b x := by
  constructor
  · rintro ⟨t, ht, h⟩
    rcases List.mem_append.mp ht with m | m
    · exact .inl ⟨t, m, h⟩
    · exact .inr ⟨t, m, h⟩
  · rintro (⟨t, m, h⟩ | ⟨t, m, h⟩)
    · exact ⟨t, List.mem_append_left _ m, h⟩
    · exact ⟨t, List.mem_append_right _ m, h⟩
theorem mem_one {s : Span} {x : Int} : Mem [s] x ↔ s.1 ≤ x ∧ x < s.2 := by
  rw [mem_cons]
  constructor
  · rintro (h | h)
    · exact h
    · exact absurd h (mem_nil x)
  · exact .inl
theorem mem_perm {a b : List Span} (h : a.Perm b) (x : Int) : Mem a x ↔ Mem b x := by
  constructor
  · rintro ⟨t, m, q⟩
    exact ⟨t, h.mem_iff.mp m, q⟩
  · rintro ⟨t, m, q⟩
    exact ⟨t, h.mem_iff.mpr m, q⟩
theorem can_nil : Can [] := ⟨List.Pairwise.nil, fun _ h => nomatch h⟩
theorem can_one {s : Span} (h : s.1 < s.2) : Can [s] := ⟨List.pairwise_singleton _ _, fun t m => by
  rw [List.mem_singleton.mp m]
  exact h⟩
theorem can_tail {s : Span} {c : List Span} (h : Can (s :: c)) : Can c := ⟨(List.pairwise_cons.mp h.1).2, fun t m => h.2 t (List.mem_cons_of_mem _ m)⟩
theorem can_head {s : Span} {c : List Span} (h : Can (s :: c)) {x : Int} (m : Mem c x) : s.2 < x := by
  obtain ⟨t, ht, h1, _⟩ := m
  have := (List.pairwise_cons.mp h.1).1 t ht
  omega
theorem can_snoc {c : List Span} {s : Span} (h : Can c) (hs : s.1 < s.2) (l : ∀ t ∈ c, t.2 < s.1) : Can (c ++ [s]) := by
  refine ⟨List.pairwise_append.mpr ⟨h.1, List.pairwise_singleton _ _, fun a ha b hb => ?_⟩, fun t m => ?_⟩
  · rw [List.mem_singleton.mp hb]
    exact l a ha
  · rcases List.mem_append.mp m with m | m
    · exact h.2 t m
    · rw [List.mem_singleton.mp m]
      exact hs
theorem can_app_l {a b : List Span} (h : Can (a ++ b)) : Can a := ⟨(List.pairwise_append.mp h.1).1, fun t m => h.2 t (List.mem_append_left _ m)⟩
theorem can_app_lt {a : List Span} {s : Span} (h : Can (a ++ [s])) : ∀ t ∈ a, t.2 < s.1 := fun t m => (List.pairwise_append.mp h.1).2.2 t m s (List.mem_singleton.mpr rfl)
theorem can_drop {c : List Span} (h : Can c) (n : Nat) : Can (c.drop n) := ⟨h.1.sublist (List.drop_sublist n c), fun t m => h.2 t (List.mem_of_mem_drop m)⟩
/-- a cover is told by its places -/
theorem can_ext : ∀ {c d : List Span}, Can c → Can d → (∀ x, Mem c x ↔ Mem d x) → c = d
  | [], [], _, _, _ => rfl
  | [], t :: d, _, hd, e => by
    have h := hd.2 t List.mem_cons_self
    exact absurd ((e t.1).mpr (mem_cons.mpr (.inl ⟨Int.le_refl _, h⟩))) (mem_nil _)
  | s :: c, [], hc, _, e => by
    have h := hc.2 s List.mem_cons_self
    exact absurd ((e s.1).mp (mem_cons.mpr (.inl ⟨Int.le_refl _, h⟩))) (mem_nil _)
  | s :: c, t :: d, hc, hd, e => by
    have h1 := hc.2 s List.mem_cons_self
    have h2 := hd.2 t List.mem_cons_self
    have a1 : t.1 ≤ s.1 := by
      rcases mem_cons.mp ((e s.1).mp (mem_cons.mpr (.inl ⟨Int.le_refl _, h1⟩))) with m | m
      · exact m.1
      · have := can_head hd m
        omega
    have a2 : s.1 ≤ t.1 := by
      rcases mem_cons.mp ((e t.1).mpr (mem_cons.mpr (.inl ⟨Int.le_refl _, h2⟩))) with m | m
      · exact m.1
      · have := can_head hc m
        omega
    have b1 : s.2 ≤ t.2 := by
      apply Int.not_lt.mp
      intro lt
      rcases mem_cons.mp ((e t.2).mp (mem_cons.mpr (.inl ⟨by omega, lt⟩))) with m | m
      · omega
      · have := can_head hd m
        omega
    have b2 : t.2 ≤ s.2 := by
      apply Int.not_lt.mp
      intro lt
      rcases mem_cons.mp ((e s.2).mpr (mem_cons.mpr (.inl ⟨by omega, lt⟩))) with m | m
      · omega
      · have := can_head hc m
        omega
    have st : s = t := Prod.ext (by omega) (by omega)
    subst st
    have tl : ∀ x, Mem c x ↔ Mem d x := fun x => by
      constructor
      · intro m
        have h := can_head hc m
        rcases mem_cons.mp ((e x).mp (mem_cons.mpr (.inr m))) with q | q
        · omega
        · exact q
      · intro m
        have h := can_head hd m
        rcases mem_cons.mp ((e x).mpr (mem_cons.mpr (.inr m))) with q | q
        · omega
        · exact q
    rw [can_ext (can_tail hc) (can_tail hd) tl]
/-- spans of a cover lie where the spans lie whose places it holds -/
theorem can_spans {c ss : List Span} (hc : Can c) (e : ∀ x, Mem c x → Mem ss x) (h : ∀ s ∈ ss, isSpan s = true) : ∀ s ∈ c, isSpan s = true := fun s m => by
  have h1 := hc.2 s m
  obtain ⟨t, mt, t1, t2⟩ := e s.1 ⟨s, m, Int.le_refl _, h1⟩
  obtain ⟨u, mu, u1, u2⟩ := e (s.2 - 1) ⟨s, m, by omega, by omega⟩
  have bt := (isSpan_iff t).mp (h t mt)
  have bu := (isSpan_iff u).mp (h u mu)
  exact (isSpan_iff s).mpr ⟨by omega, h1, by omega⟩
theorem gap_can {c : List Span} (h : Can c) : gapAll c (c.drop 1) = true := by
  unfold gapAll
  rw [List.all_eq_true]
  intro i hi
  have hi := List.mem_range.mp hi
  rw [List.length_drop] at hi
  have h1 : i < c.length := by omega
  have h2 : i + 1 < c.length := by omega
  rw [decide_eq_true_eq, List.getD_eq_getElem?_getD, List.getD_eq_getElem?_getD, List.getElem?_drop, Nat.add_comm 1 i, List.getElem?_eq_getElem h1, List.getElem?_eq_getElem h2]
  exact List.pairwise_iff_getElem.mp h.1 i (i + 1) h1 h2 (Nat.lt_succ_self i)
def isCoverB (ss : List Span) : Bool := decide (ss.length ≤ 200) && gapAll ss (ss.drop 1)
theorem cover_can {c : List Span} (h : Can c) (l : c.length ≤ 200) : isCoverB c = true := by
  unfold isCoverB
  rw [decide_eq_true l, gap_can h]
  rfl
theorem can_lows {c : List Span} (h : Can c) : (c.map (·.1)).Nodup := by
  rw [List.Nodup, List.pairwise_map]
  refine (List.pairwise_iff_forall_sublist.mpr fun {a b} hs => ?_)
  have h1 : a.2 < b.1 := List.pairwise_iff_forall_sublist.mp h.1 hs
  have h2 := h.2 a (hs.subset List.mem_cons_self)
  omega
/-- a cover has no more spans than what it covers -/
theorem can_len {c ss : List Span} (hc : Can c) (e : ∀ x, Mem c x ↔ Mem ss x) : c.length ≤ ss.length := by
  have sub : ∀ x ∈ c.map (·.1), x ∈ ss.map (·.1) := fun x hx => by
    obtain ⟨s, hs, rfl⟩ := List.mem_map.mp hx
    have h1 := hc.2 s hs
    obtain ⟨t, ht, t1, t2⟩ := (e s.1).mp ⟨s, hs, Int.le_refl _, h1⟩
    by_cases hlt : t.1 < s.1
    · obtain ⟨u, hu, u1, u2⟩ := (e (s.1 - 1)).mpr ⟨t, ht, by omega, by omega⟩
      -- u lies ahead of s, or is s
      rcases List.mem_iff_getElem.mp hs with ⟨i, hi, ei⟩
      rcases List.mem_iff_getElem.mp hu with ⟨j, hj, ej⟩
      rcases Nat.lt_trichotomy i j with h | h | h
      · have := List.pairwise_iff_getElem.mp hc.1 i j hi hj h
        rw [ei, ej] at this
        omega
      · subst h
        rw [ei] at ej
        rw [← ej] at u1
        omega
      · have := List.pairwise_iff_getElem.mp hc.1 j i hj hi h
        rw [ei, ej] at this
        omega
    · have : t.1 = s.1 := by omega
      rw [← this]
      exact List.mem_map.mpr ⟨t, ht, rfl⟩
  have := nodup_len (can_lows hc) sub
  simpa using this
theorem can_of_cover {c : List Span} (h : c.all isSpan = true) (hc : isCoverB c = true) : Can c := by
  have pos : ∀ s ∈ c, s.1 < s.2 := fun s hs => ((isSpan_iff s).mp (List.all_eq_true.mp h s hs)).2.1
  refine ⟨?_, pos⟩
  unfold isCoverB gapAll at hc
  rw [Bool.and_eq_true, List.all_eq_true] at hc
  have nxt : ∀ (i : Nat) (hi : i + 1 < c.length), (c[i]).2 < (c[i + 1]).1 := fun i hi => by
    have h1 := hc.2 i (List.mem_range.mpr (by rw [List.length_drop]; omega))
    rw [decide_eq_true_eq, List.getD_eq_getElem?_getD, List.getD_eq_getElem?_getD, List.getElem?_drop, Nat.add_comm 1 i, List.getElem?_eq_getElem (by omega), List.getElem?_eq_getElem hi] at h1
    exact h1
  have far : ∀ (k i : Nat) (hi : i + k + 1 < c.length), (c[i]'(by omega)).2 < (c[i + k + 1]).1 := fun k => by
    induction k with
    | zero => exact fun i hi => nxt i hi
    | succ k ih =>
      intro i hi
      have h1 := ih i (by omega)
      have h2 := nxt (i + k + 1) (by omega)
      have h3 := pos (c[i + k + 1]'(by omega)) (List.getElem_mem _)
      have h4 : (c[i + k + 1 + 1]'(by omega)).1 = (c[i + (k + 1) + 1]'hi).1 := rfl
      omega
  rw [List.pairwise_iff_getElem]
  intro i j hi hj hij
  obtain ⟨k, rfl⟩ : ∃ k, j = i + k + 1 := ⟨j - i - 1, by omega⟩
  exact far k i hj
section
variable {P : Program} {w : World} {K : PySem.W.Frag} {mg : Str → Option Value} {base : Heap}
/-! ### the program: covers -/
def spCheckSpans (C : Addr) : Sp := fun vs H Q E => ∃ (l : Addr) (us : List V) (ss : List Span), vs = [.ref l] ∧ H l = some (.lst us) ∧ Sps H us ss ∧ (ss.all isSpan = true → Q .non H) ∧ (ss.all isSpan = false → E (.ref C) none H)
theorem ok_check_spans (T : Tx K mg) : FnOk P w K mg base (L2.CX P w) (5) T.f_check_spans T.fd_check_spans ["spans"] (spCheckSpans T.C_NoSpan) := by
  have G_check_span : FnOk P w K mg base (L2.CX P w) _ _ _ _ _ := ok_check_span T
  refine T.F_check_spans.okX sc_check_spans (fun vs H Q E h => ?_) (fun cdv A outer s H vs Q E hr h => ?_)
  · obtain ⟨l, us, ss, rfl, _⟩ := h
    rfl
  · obtain ⟨l, us, ss, rfl, hl, hS, q, e⟩ := h
    refine ⟨_, (pss_one (ps_for (passes_of rfl) (by rfl) (pi_list (pv 0)) (pg_name (i := 1) sc_check_spans.nd rfl (Or.inl rfl))
        (pss_one (ps_expr (pe_call G_check_span (hr.mono (by decide)) (by rfl) T.g_check_span T.F_check_span.kp T.b_check_span .nil (passes_call (takes_of rfl rfl rfl rfl) (fun _ _ _ _ h => h)) (pa_cons (pv 1) pa_nil)))))), ?_⟩
    refine ⟨_, rfl, l, rfl, ⟨_, SqL.of hl⟩, for_list (K := K) (a := l) (xs := us) (fun i σ H' => ∃ y1, σ = [some (.ref l), y1] ∧ H' = H ∧ (ss.take i).all isSpan = true) ⟨none, rfl, rfl, rfl⟩ (fun i σ H' _ ⟨_, _, e, _⟩ => by rw [e]; exact SqL.of hl) ?_ ?_⟩
    · rintro i y σ H' hi ⟨y1, rfl, rfl, ha⟩
      obtain ⟨sp, hs, hv⟩ := hS.get hi
      have tk : ss.take (i + 1) = ss.take i ++ [sp] := by
        rw [List.take_add_one, hs]
        rfl
      refine ⟨_, rfl, y, sp, rfl, hv, fun ok => ⟨_, rfl, rfl, ?_⟩, fun no => e ?_⟩
      · rw [tk, List.all_append, ha, List.all_cons, ok]
        rfl
      · rw [List.all_eq_false]
        exact ⟨sp, List.mem_of_getElem? hs, by rw [no]; decide⟩
    · rintro σ H' ⟨y1, rfl, rfl, ha⟩
      rw [hS.len, List.take_length] at ha
      exact q ha
theorem cut_one (xs : List V) : cutV xs (some 1) none = xs.drop 1 := by
  unfold cutV
  rw [show HT.sIx xs.length 0 (some 1) = min 1 xs.length from HT.sIx_nat xs.length 0 1, HT.sIx_none]
  cases xs with
  | nil => rfl
  | cons x r =>
    rw [show min 1 (x :: r).length = 1 from Nat.min_eq_left (Nat.succ_le_succ (Nat.zero_le _))]
    exact List.take_of_length_le (by simp)
theorem Sps.drop {H : Hp} : ∀ {vs : List V} {ss : List Span} (n : Nat), Sps H vs ss → Sps H (vs.drop n) (ss.drop n)
  | _, _, 0, h => h
  | _, _, _ + 1, .nil => .nil
  | _, _, n + 1, .cons _ t => Sps.drop n t
def spIsCover (T : Tx K mg) : Sp := fun vs H Q _ => ∃ (l : Addr) (us : List V) (ss : List Span), vs = [.ref l] ∧ H l = some (.lst us) ∧ Sps H us ss ∧ Tb T.tabs H ∧ ∀ H', Chg T.tabs H H' → Tb T.tabs H' → Q (.bl (isCoverB ss)) H'
theorem ok_is_cover (T : Tx K mg) (B : Tbs T base) : FnOk P w K mg base CX0 (1) T.f_is_cover T.fd_is_cover ["spans"] (spIsCover T) := by
  refine T.FC_is_cover.ok sc_is_cover (fun vs H Q E h => ?_) (fun A outer s H vs Q E hr h => ?_)
  · obtain ⟨l, us, ss, rfl, _⟩ := h
    rfl
  · obtain ⟨l, us, ss, rfl, hl, hS, tb, q⟩ := h
    refine ⟨_, (pss_cons (ps_if (pt_cmpR op_gt (pe_callB call_len_seq (by rfl) T.m_len PySem.boot_len (pa_cons (pv 0) pa_nil)) (pe_glob (v := .int (200)) (by rfl) T.c_MOST_SPANS ⟨_, rfl⟩) (nomark _)) (pss_one (ps_ret pe_bl)) pss_nil)
      (pss_one (ps_ret (pe_allZ hr (by rfl) T.m_all (by decide +kernel) (by rfl) T.m_zip B.t_is_cover rfl (genS2_by (by decide +kernel)) (pa_cons (pv 0) (pa_cons (pe_slice sl_list (pv 0) (po_some pe_int) po_none) pa_nil)) (fun _ => rfl) (by decide) (by decide))))), ?_⟩
    have hlen := hS.len
    unfold isCoverB at q
    refine ⟨_, rfl, l, _, rfl, .inl (SqL.of hl), _, _, rfl, rfl, _, rfl, ite2 (fun e => ?_) (fun e => ?_)⟩
    · have e0 : (200 : Int) < ((us.length : Nat) : Int) := of_decide_eq_true e
      have no : ¬ ss.length ≤ 200 := by omega
      have q1 := q H (Chg.refl _ _) tb
      rw [decide_eq_false no] at q1
      exact q1
    · have e0 : ¬ (200 : Int) < ((us.length : Nat) : Int) := fun z => e (decide_eq_true z)
      have yes : ss.length ≤ 200 := by omega
      refine ⟨_, rfl, _, rfl, 1, rfl, l, us, rfl, SqL.of hl, fun c nc => ?_⟩
      rw [cut_one]
      obtain ⟨gc, sc⟩ := upd_at (o := .lst (us.drop 1)) nc
      have tb1 := tb.same sc
      have mP : T.pA_is_cover ∈ T.tabs := by
        unfold Tx.tabs
        simp
      refine ⟨l, c, us, us.drop 1, ss, ss.drop 1, rfl, SqL.of (sc _ _ hl), SqL.of gc, ?_, ?_, hS.same sc, (hS.same sc).drop 1, tb1 _ mP, fun H2 t2 => ?_⟩
      · exact fun z => tb.out hl (fun ps z => by cases z) (by rw [z]; exact mP)
      · exact fun z => tb.new nc (by rw [z]; exact mP)
      · obtain ⟨tb2, c2⟩ := tb1.tabbed mP t2
        have q1 := q H2 ((Chg.of_same sc).trans c2) tb2
        rw [decide_eq_true yes] at q1
        exact q1
def spCheckCover (T : Tx K mg) : Sp := fun vs H Q E => ∃ (l : Addr) (us : List V) (ss : List Span), vs = [.ref l] ∧ H l = some (.lst us) ∧ Sps H us ss ∧ Tb T.tabs H ∧ (ss.all isSpan = true → isCoverB ss = true → ∀ H', Chg T.tabs H H' → Tb T.tabs H' → Q .non H') ∧
  (ss.all isSpan = false → E (.ref T.C_NoSpan) none H) ∧ (ss.all isSpan = true → isCoverB ss = false → ∀ H', Chg T.tabs H H' → Tb T.tabs H' → E (.ref T.C_NoCover) none H')
theorem ok_check_cover (T : Tx K mg) (B : Tbs T base) : FnOk P w K mg base (L2.CX P w) (6) T.f_check_cover T.fd_check_cover ["cover"] (spCheckCover T) := by
  have G_check_spans : FnOk P w K mg base (L2.CX P w) _ _ _ _ _ := ok_check_spans T
  have G_is_cover : FnOk P w K mg base CX0 _ _ _ _ _ := ok_is_cover T B
  refine T.F_check_cover.okX sc_check_cover (fun vs H Q E h => ?_) (fun cdv A outer s H vs Q E hr h => ?_)
  · obtain ⟨l, us, ss, rfl, _⟩ := h
    rfl
  · obtain ⟨l, us, ss, rfl, hl, hS, tb, q, e1, e2⟩ := h
    refine ⟨_, (pss_cons (ps_expr (pe_call G_check_spans (hr.mono (by decide)) (by rfl) T.g_check_spans T.F_check_spans.kp T.b_check_spans .nil (passes_call (takes_of rfl rfl rfl rfl) (fun _ _ _ _ h => h)) (pa_cons (pv 0) pa_nil)))
      (pss_one (ps_if (pt_not (pt_val (pe_call G_is_cover (hr.mono (by decide)) (by rfl) T.g_is_cover T.F_is_cover.kp T.b_is_cover .nil pass0 (pa_cons (pv 0) pa_nil)))) (pss_one (ps_raise (by rfl) (takes_of rfl rfl rfl rfl) (pmk_own PySem.F.excBase_ValueError T.x_NoCover T.g_NoCover T.k_NoCover (raises_own T.b_NoCover T.t_NoCover) (by exact rfl)))) pss_nil))), ?_⟩
    refine ⟨_, rfl, l, us, ss, rfl, hl, hS, fun ok => ?_, e1⟩
    refine ⟨_, rfl, l, us, ss, rfl, hl, hS, tb, fun H1 c1 tb1 => ⟨_, rfl, ?_⟩⟩
    by_cases hc : isCoverB ss = true
    · rw [hc]
      exact iteF (q ok hc H1 c1 tb1)
    · rw [Bool.not_eq_true] at hc
      rw [hc]
      exact iteT (e2 ok hc H1 c1 tb1)
def spHeld (T : Tx K mg) : Sp := fun vs H Q E => ∃ (l : Addr) (us : List V) (ss : List Span), vs = [.ref l] ∧ H l = some (.lst us) ∧ Sps H us ss ∧ Tb T.tabs H ∧ (ss.all isSpan = true → isCoverB ss = true → ∀ H', Chg T.tabs H H' → Tb T.tabs H' → Q (.int (spanSum ss)) H') ∧
  (ss.all isSpan = false → E (.ref T.C_NoSpan) none H) ∧ (ss.all isSpan = true → isCoverB ss = false → ∀ H', Chg T.tabs H H' → Tb T.tabs H' → E (.ref T.C_NoCover) none H')
theorem ok_held (T : Tx K mg) (B : Tbs T base) : FnOk P w K mg base (L2.CX P w) (7) T.f_held T.fd_held ["cover"] (spHeld T) := by
  have G_check_cover : FnOk P w K mg base (L2.CX P w) _ _ _ _ _ := ok_check_cover T B
  refine T.FC_held.okX sc_held (fun vs H Q E h => ?_) (fun A outer s H vs Q E hr h => ?_)
  · obtain ⟨l, us, ss, rfl, _⟩ := h
    rfl
  · obtain ⟨l, us, ss, rfl, hl, hS, tb, q, e1, e2⟩ := h
    refine ⟨_, (pss_cons (ps_expr (pe_call G_check_cover (hr.mono (by decide)) (by rfl) T.g_check_cover T.F_check_cover.kp T.b_check_cover .nil (passes_call (takes_of rfl rfl rfl rfl) (fun _ _ _ _ h => h)) (pa_cons (pv 0) pa_nil)))
      (pss_one (ps_ret (pe_sumP hr (by rfl) T.m_sum B.t_held rfl (genS2_by (by decide +kernel)) (pv 0) (fun _ => rfl) (by decide) (by decide))))), ?_⟩
    have mP : T.pA_held ∈ T.tabs := by
      unfold Tx.tabs
      simp
    have nl := tb.out hl (fun ps z => by cases z)
    refine ⟨_, rfl, l, us, ss, rfl, hl, hS, tb, fun ok hc H1 c1 tb1 => ?_, e1, e2⟩
    refine ⟨_, rfl, l, us, ss, rfl, SqL.of (c1 _ _ nl hl), fun z => nl (by rw [z]; exact mP), hS.chg c1 tb.lsts, tb1 _ mP, fun H2 t2 => ?_⟩
    obtain ⟨tb2, c2⟩ := tb1.tabbed mP t2
    exact q ok hc H2 (c1.trans c2) tb2
/-! joined -/
/-- the two numbers of the tuple at v -/
def kOf (H : Hp) (v : V) : Span := match v with
  | .ref t => (match H t with | some (.tup [.int a, .int b]) => (a, b) | _ => (0, 0))
  | _ => (0, 0)
theorem kOf_spn {H : Hp} {v : V} {s : Span} (h : Spn H v s) : kOf H v = s := by
  obtain ⟨t, rfl, ht⟩ := h
  show (match H t with | some (.tup [.int a, .int b]) => (a, b) | _ => (0, 0)) = s
  rw [ht]
theorem Sps.kmap {H : Hp} : ∀ {vs : List V} {ss : List Span}, Sps H vs ss → vs.map (kOf H) = ss
  | _, _, .nil => rfl
  | _, _, .cons h t => by rw [List.map_cons, kOf_spn h, t.kmap]
theorem sps_of {H : Hp} : ∀ {vs : List V}, (∀ v ∈ vs, Spn H v (kOf H v)) → Sps H vs (vs.map (kOf H))
  | [], _ => .nil
  | v :: vs, h => .cons (h v List.mem_cons_self) (sps_of fun u hu => h u (List.mem_cons_of_mem _ hu))
theorem Sps.mem {H : Hp} {vs : List V} {ss : List Span} (h : Sps H vs ss) {v : V} (hv : v ∈ vs) : ∃ s ∈ ss, Spn H v s := by
  obtain ⟨i, hi⟩ := List.getElem?_of_mem hv
  obtain ⟨s, e, sp⟩ := h.get hi
  exact ⟨s, List.mem_of_getElem? e, sp⟩
def spJoined : Sp := fun vs H Q _ => ∃ (l : Addr) (us : List V) (ss : List Span), vs = [.ref l] ∧ H l = some (.lst us) ∧ Sps H us ss ∧ (∀ s ∈ ss, s.1 < s.2) ∧ ss.length ≤ 100000 ∧
  ∀ H' p ws c, Same H H' → H p = none → H' p = some (.lst ws) → Sps H' ws c → Can c → (∀ x, Mem c x ↔ Mem ss x) → c.length ≤ ss.length → Q (.ref p) H'
theorem snoc_of {α : Type} {l : List α} (h : l ≠ []) : ∃ a x, l = a ++ [x] := ⟨l.dropLast, l.getLast h, (List.dropLast_concat_getLast h).symm⟩
theorem Sps.snoc {H : Hp} {vs : List V} {c : List Span} {x : Span} (h : Sps H vs (c ++ [x])) : ∃ us v, vs = us ++ [v] ∧ Sps H us c ∧ Spn H v x := by
  have hl := h.len
  have ne : vs ≠ [] := fun z => by
    rw [z] at hl
    simp at hl
  obtain ⟨us, v, rfl⟩ := snoc_of ne
  have hl2 : us.length = c.length := by simpa using hl
  refine ⟨us, v, rfl, ?_, ?_⟩
  · have h1 : ∀ {vs : List V} {ss : List Span} (n : Nat), Sps H vs ss → Sps H (vs.take n) (ss.take n) := fun {vs ss} n h => by
      induction h generalizing n with
      | nil => simp [Sps.nil]
      | cons a b ih =>
        cases n with
        | zero => exact .nil
        | succ n => exact .cons a (ih n)
    have h2 := h1 us.length h
    rw [List.take_left, hl2, List.take_left] at h2
    exact h2
  · obtain ⟨s, e, sp⟩ := h.get (i := us.length) (v := v) (by simp)
    rw [hl2] at e
    have e2 : s = x := by simpa using e.symm
    rw [← e2]
    exact sp
theorem ok_joined (T : Tx K mg) : FnOk P w K mg base CX0 (1) T.f_joined T.fd_joined ["spans"] spJoined := by
  refine T.F_joined.ok sc_joined (fun vs H Q E h => ?_) (fun cdv A outer s H vs Q E hr h => ?_)
  · obtain ⟨l, us, ss, rfl, _⟩ := h
    rfl
  · obtain ⟨l, us, ss, rfl, hl, hS, pos, hlen, q⟩ := h
    refine ⟨_, (pss_cons (ps_set (i := 1) sc_joined.nd rfl (Or.inl rfl) (pe_lst pa_nil))
      (pss_cons (ps_for PassesOwn.never (by rfl) (pi_list (pe_callB cr_sortedPO (by rfl) T.m_sorted (by decide +kernel) (pa_cons (pv 0) pa_nil))) (pg_tup rfl (pgs_cons (pg_name (i := 2) sc_joined.nd rfl (Or.inl rfl)) (pgs_cons (pg_name (i := 3) sc_joined.nd rfl (Or.inl rfl)) pgs_nil)))
        (pss_one (ps_if (PW.pt (pw_and (pt_truth (pv 1) (by intro _; rfl)) (pw_and1 (pt_cmpR op_le (pv 2) (pe_ix ix_tup (pe_ix ix_list (pv 1) (pe_un un_neg pe_int) (fun _ _ => rfl)) pe_int (fun _ _ => rfl)) (nomark _))))) (pss_cons (ps_asg (pe_ix ix_list (pv 1) (pe_un un_neg pe_int) (fun _ _ => rfl)) (pg_tup rfl (pgs_cons (pg_name (i := 4) sc_joined.nd rfl (Or.inl rfl)) (pgs_cons (pg_name (i := 5) sc_joined.nd rfl (Or.inl rfl)) pgs_nil))))
      (pss_one (ps_asg (pe_tup (pa_cons (pv 4) (pa_cons (pe_callB (call_max2 rfl) (by rfl) T.m_max (by decide +kernel) (pa_cons (pv 5) (pa_cons (pv 3) pa_nil))) pa_nil))) (pg_sub (pv 1) (pe_un un_neg pe_int) set_list)))) (pss_one (ps_expr (pe_bm PySem.F.plainAttrs_list PySem.F.slot_list_append PySem.F.type_list_append mt_append (pv 1) (pa_cons (pe_tup (pa_cons (pv 2) (pa_cons (pv 3) pa_nil))) pa_nil)))))))
      (pss_one (ps_ret (pv 1))))), ?_⟩
    refine ⟨Nat.zero_le _, fun C nC => ?_⟩
    obtain ⟨gC, sC⟩ := upd_at (o := .lst []) nC
    have hS1 := hS.same sC
    refine ⟨_, rfl, l, us, kOf (upd H C (.lst [])), rfl, SqL.of (sC _ _ hl), fun x hx => ?_, fun ys p srt stb np => ?_⟩
    · obtain ⟨sp, _, t, e, ht⟩ := hS1.mem hx
      refine ⟨t, e, ?_⟩
      rw [kOf_spn ⟨t, e, ht⟩]
      exact ht
    have mem : ∀ v ∈ ys, v ∈ us := fun v hv => stb.perm.mem_iff.mp hv
    have hY : Sps (upd H C (.lst [])) ys (ys.map (kOf (upd H C (.lst [])))) := sps_of fun v hv => by
      obtain ⟨sp, _, h1⟩ := hS1.mem (mem v hv)
      rw [kOf_spn h1]
      exact h1
    have prm : (ys.map (kOf (upd H C (.lst [])))).Perm ss := by
      rw [← hS1.kmap]
      exact stb.perm.map _
    have ord : (ys.map (kOf (upd H C (.lst [])))).Pairwise (fun a b => a.1 ≤ b.1) := by
      rw [List.pairwise_map]
      refine srt.imp fun {a b} h => ?_
      have := SrtO.lexB_no.mp h
      omega
    revert hY prm ord
    generalize ys.map (kOf (upd H C (.lst []))) = rs
    intro hY prm ord
    have posR : ∀ s ∈ rs, s.1 < s.2 := fun s hs => pos s (prm.mem_iff.mp hs)
    have lenR := prm.length_eq
    obtain ⟨gp, sp⟩ := upd_at (o := .lst ys) np
    have nCp : C ≠ p := ne_of_none gC np
    have hnC : H C = none := nC
    refine ⟨p, rfl, ⟨_, SqL.of gp⟩, ?_⟩
    have hYlen := hY.len
    refine for_list (K := K) (a := p) (xs := ys) (fun i σ H' => ∃ y2 y3 y4 y5 cvs acc, σ = [some (.ref l), some (.ref C), y2, y3, y4, y5] ∧ Same H H' ∧ H' p = some (.lst ys) ∧ Sps H' ys rs ∧ H' C = some (.lst cvs) ∧ Sps H' cvs acc ∧ Can acc ∧ (∀ x, Mem acc x ↔ Mem (rs.take i) x) ∧ acc.length ≤ i ∧ ∀ s ∈ acc, ∀ r ∈ rs.drop i, s.1 ≤ r.1)
      ⟨none, none, none, none, [], [], rfl, sC.trans sp, gp, hY.same sp, sp _ _ gC, .nil, can_nil, fun x => Iff.rfl, Nat.le_refl _, fun s hs => nomatch hs⟩ (fun i σ H' _ ⟨_, _, _, _, _, _, _, _, h, _⟩ => SqL.of h) ?_ ?_
    · rintro i y σ H' hi ⟨y2, y3, y4, y5, cvs, acc, rfl, sm, hp, hY', hC, hA, can, mm, al, low⟩
      obtain ⟨r, hr', t, rfl, ht⟩ := hY'.get hi
      have hrm : r ∈ rs := List.mem_of_getElem? hr'
      have hil : i < rs.length := (List.getElem?_eq_some_iff.mp hr').1
      have rpos := posR r hrm
      have tk : rs.take (i + 1) = rs.take i ++ [r] := by
        rw [List.take_add_one, hr']
        rfl
      have dr : rs.drop i = r :: rs.drop (i + 1) := by
        obtain ⟨h1, h2⟩ := List.getElem?_eq_some_iff.mp hr'
        rw [List.drop_eq_getElem_cons h1, h2]
      have rl : ∀ s ∈ acc, s.1 ≤ r.1 := fun s hs => low s hs r (by rw [dr]; exact List.mem_cons_self)
      have rr : ∀ u ∈ rs.drop (i + 1), r.1 ≤ u.1 := fun u hu => by
        have h1 := ord.sublist (List.drop_sublist i rs)
        rw [dr] at h1
        exact (List.pairwise_cons.mp h1).1 u hu
      have low' : ∀ s ∈ acc, ∀ u ∈ rs.drop (i + 1), s.1 ≤ u.1 := fun s hs u hu => low s hs u (by rw [dr]; exact List.mem_cons_of_mem _ hu)
      -- a step's end: C holds the spans acc2
      have fin : ∀ (H2 : Hp) (z2 z3 z4 z5 : Option V) (cvs2 : List V) (acc2 : List Span), Same H' H2 → Sps H2 cvs2 acc2 → Can acc2 → (∀ x, Mem acc2 x ↔ Mem acc x ∨ (r.1 ≤ x ∧ x < r.2)) → acc2.length ≤ i + 1 → (∀ s ∈ acc2, s.1 ≤ r.1) →
          ∃ y2 y3 y4 y5 cvs acc, [some (V.ref l), some (V.ref C), z2, z3, z4, z5] = [some (V.ref l), some (V.ref C), y2, y3, y4, y5] ∧ Same H (upd H2 C (.lst cvs2)) ∧ (upd H2 C (.lst cvs2)) p = some (.lst ys) ∧ Sps (upd H2 C (.lst cvs2)) ys rs ∧ (upd H2 C (.lst cvs2)) C = some (.lst cvs) ∧ Sps (upd H2 C (.lst cvs2)) cvs acc ∧ Can acc ∧ (∀ x, Mem acc x ↔ Mem (rs.take (i + 1)) x) ∧ acc.length ≤ i + 1 ∧ ∀ s ∈ acc, ∀ u ∈ rs.drop (i + 1), s.1 ≤ u.1 :=
        fun H2 z2 z3 z4 z5 cvs2 acc2 s2 hA2 can2 m2 l2 lo2 => by
          have cC : Chg [C] H2 (upd H2 C (.lst cvs2)) := Chg.upd List.mem_cons_self
          have lC : Lsts [C] H2 := Lsts.of1 (s2 _ _ hC)
          refine ⟨z2, z3, z4, z5, cvs2, acc2, rfl, same_more (sm.trans s2) hnC, cC _ _ (nmem1 nCp.symm) (s2 _ _ hp), (hY'.same s2).chg cC lC, upd_same, hA2.chg cC lC, can2, fun x => ?_, l2, fun s hs u hu => Int.le_trans (lo2 s hs) (rr u hu)⟩
          rw [m2, mm, tk, mem_app, mem_one]
      refine ⟨t, _, rfl, SqT.of ht, rfl, _, _, rfl, _, _, rfl, rfl, ?_⟩
      by_cases hn : acc = []
      · -- nothing yet
        have cn : cvs = [] := by
          have := hA.len
          rw [hn] at this
          exact List.length_eq_zero_iff.mp this
        refine ⟨_, rfl, false, .inl ⟨_, SqL.of hC, by rw [cn]; rfl⟩, iteF (iteF ?_)⟩
        refine ⟨_, rfl, .inl ⟨rfl, _, SqL.of hC⟩, _, rfl, _, rfl, (by show 2 ≤ sizeLine; decide), fun t2 n2 => ?_⟩
        obtain ⟨g2, s2⟩ := upd_at (o := .tup [.int r.1, .int r.2]) n2
        refine ⟨C, cvs, .ref t2, rfl, rfl, s2 _ _ hC, ?_, ?_⟩
        · rw [cn]
          exact small_lt (by simp)
        · refine fin _ _ _ _ _ _ [r] s2 ?_ (can_one rpos) (fun x => ?_) (by simp) (fun s hs => ?_)
          · rw [cn]
            exact .one ⟨t2, rfl, g2⟩
          · rw [hn, mem_one]
            constructor
            · exact .inr
            · rintro (h | h)
              · exact absurd h (mem_nil x)
              · exact h
          · rw [List.mem_singleton.mp hs]
            exact Int.le_refl _
      · obtain ⟨a, x, rfl⟩ := snoc_of hn
        obtain ⟨ua, vx, rfl, hAa, tx, rfl, htx⟩ := hA.snoc
        have lx := can_app_lt can
        have xpos := can.2 x (List.mem_append_right _ (List.mem_singleton.mpr rfl))
        have xr := rl x (List.mem_append_right _ (List.mem_singleton.mpr rfl))
        have alen : a.length + 1 ≤ i := by simpa using al
        refine ⟨_, rfl, true, .inl ⟨_, SqL.of hC, by simp⟩, iteT ?_⟩
        refine ⟨_, rfl, _, rfl, 1, rfl, C, _, -1, .ref tx, rfl, rfl, SqL.of hC, atI_last _ _, tx, _, _, _, rfl, rfl, SqT.of htx, atI_nat (j := 1) rfl, _, _, rfl, rfl, _, rfl, ?_⟩
        by_cases ov : r.1 ≤ x.2
        · rw [decide_eq_true ov]
          refine iteT ?_
          refine ⟨_, rfl, 1, rfl, C, _, -1, .ref tx, rfl, rfl, SqL.of hC, atI_last _ _, tx, _, rfl, SqT.of htx, rfl, _, _, rfl, _, _, rfl, rfl, ?_⟩
          refine ⟨_, rfl, _, rfl, _, rfl, _, _, rfl, (by show 2 ≤ sizeLine; decide), fun t2 n2 => ?_⟩
          generalize hmx : (if r.2 > x.2 then r.2 else x.2) = mx
          obtain ⟨g2, s2⟩ := upd_at (o := .tup [.int x.1, .int mx]) n2
          have mx1 : x.2 ≤ mx := by
            split at hmx <;> omega
          have mx2 : r.2 ≤ mx := by
            split at hmx <;> omega
          have mx3 : mx = r.2 ∨ mx = x.2 := by
            split at hmx <;> omega
          refine ⟨_, rfl, 1, rfl, C, ua ++ [.ref tx], -1, ua.length, rfl, rfl, s2 _ _ hC, ?_, ?_⟩
          · unfold ixN
            rw [if_neg (by decide), if_pos (by simp; omega)]
            congr 1
            simp
            omega
          · have st : (ua ++ [V.ref tx]).set ua.length (.ref t2) = ua ++ [.ref t2] := by simp
            rw [st]
            refine fin _ _ _ _ _ _ (a ++ [(x.1, mx)]) s2 ((hAa.same s2).app (.one ⟨t2, rfl, g2⟩)) (can_snoc (can_app_l can) (by show x.1 < mx; omega) lx) (fun z => ?_) (by simpa using Nat.le_succ_of_le alen) (fun s hs => ?_)
            · rw [mem_app, mem_one, mem_app, mem_one]
              constructor
              · rintro (h | h)
                · exact .inl (.inl h)
                · by_cases hz : z < x.2
                  · exact .inl (.inr ⟨h.1, hz⟩)
                  · exact .inr ⟨by omega, by have := h.2; rcases mx3 with e | e <;> omega⟩
              · rintro ((h | h) | h)
                · exact .inl h
                · exact .inr ⟨h.1, by have := h.2; omega⟩
                · exact .inr ⟨by show x.1 ≤ z; omega, by show z < mx; omega⟩
            · rcases List.mem_append.mp hs with m | m
              · exact rl s (List.mem_append_left _ m)
              · rw [List.mem_singleton.mp m]
                exact xr
        · rw [decide_eq_false ov]
          refine iteF ?_
          refine ⟨_, rfl, .inl ⟨rfl, _, SqL.of hC⟩, _, rfl, _, rfl, (by show 2 ≤ sizeLine; decide), fun t2 n2 => ?_⟩
          obtain ⟨g2, s2⟩ := upd_at (o := .tup [.int r.1, .int r.2]) n2
          refine ⟨C, _, .ref t2, rfl, rfl, s2 _ _ hC, ?_, ?_⟩
          · have := hAa.len
            exact small_lt (by simp; omega)
          · have hA2 : Sps _ (ua ++ [.ref tx]) (a ++ [x]) := ((hAa.app (.one ⟨tx, rfl, htx⟩)).same s2)
            refine fin _ _ _ _ _ _ ((a ++ [x]) ++ [r]) s2 (hA2.app (.one ⟨t2, rfl, g2⟩)) (can_snoc can rpos fun s hs => ?_) (fun z => ?_) (by simpa using alen) (fun s hs => ?_)
            · rcases List.mem_append.mp hs with m | m
              · have := lx s m
                omega
              · rw [List.mem_singleton.mp m]
                omega
            · rw [mem_app, mem_one]
            · rcases List.mem_append.mp hs with m | m
              · exact rl s m
              · rw [List.mem_singleton.mp m]
                exact Int.le_refl _
    · rintro σ H' ⟨y2, y3, y4, y5, cvs, acc, rfl, sm, hp, hY', hC, hA, can, mm, al, low⟩
      rw [hYlen, List.take_length] at mm
      refine ⟨_, rfl, q H' C cvs acc sm hnC hC hA can (fun x => (mm x).trans (mem_perm prm x)) ?_⟩
      rw [← lenR, ← hYlen]
      exact al
theorem all_pos {ss : List Span} (h : ss.all isSpan = true) : ∀ s ∈ ss, s.1 < s.2 := fun s hs => ((isSpan_iff s).mp (List.all_eq_true.mp h s hs)).2.1
end
section
variable {P : Program} {w : World} {K : PySem.W.Frag} {mg : Str → Option Value} {base : Heap}
def spCoverOf (T : Tx K mg) : Sp := fun vs H Q E => ∃ (l : Addr) (us : List V) (ss : List Span), vs = [.ref l] ∧ H l = some (.lst us) ∧ Sps H us ss ∧ ss.length ≤ 100000 ∧ (ss.all isSpan = false → E (.ref T.C_NoSpan) none H) ∧
  (ss.all isSpan = true → ∀ H' p ws c, Same H H' → H p = none → H' p = some (.lst ws) → Sps H' ws c → Can c → (∀ x, Mem c x ↔ Mem ss x) → c.length ≤ ss.length → Q (.ref p) H')
theorem ok_cover_of (T : Tx K mg) : FnOk P w K mg base (L2.CX P w) (6) T.f_cover_of T.fd_cover_of ["spans"] (spCoverOf T) := by
  have G_check_spans : FnOk P w K mg base (L2.CX P w) _ _ _ _ _ := ok_check_spans T
  have G_joined : FnOk P w K mg base CX0 _ _ _ _ _ := ok_joined T
  refine T.F_cover_of.okX sc_cover_of (fun vs H Q E h => ?_) (fun cdv A outer s H vs Q E hr h => ?_)
  · obtain ⟨l, us, ss, rfl, _⟩ := h
    rfl
  · obtain ⟨l, us, ss, rfl, hl, hS, hlen, e, q⟩ := h
    refine ⟨_, (pss_cons (ps_expr (pe_call G_check_spans (hr.mono (by decide)) (by rfl) T.g_check_spans T.F_check_spans.kp T.b_check_spans .nil (passes_call (takes_of rfl rfl rfl rfl) (fun _ _ _ _ h => h)) (pa_cons (pv 0) pa_nil)))
      (pss_one (ps_ret (pe_call G_joined (hr.mono (by decide)) (by rfl) T.g_joined T.F_joined.kp T.b_joined .nil pass0 (pa_cons (pv 0) pa_nil))))), ?_⟩
    refine ⟨_, rfl, l, us, ss, rfl, hl, hS, fun ok => ?_, e⟩
    exact ⟨_, rfl, l, us, ss, rfl, hl, hS, all_pos ok, hlen, fun H' p ws c s1 n1 h1 h2 h3 h4 h5 => q ok H' p ws c s1 n1 h1 h2 h3 h4 h5⟩
end
section
variable {P : Program} {w : World} {K : PySem.W.Frag} {mg : Str → Option Value} {base : Heap}
/-! ### two covers -/
/-- 0 a cover, 1 no spans, 2 no cover -/
def ref1 (ss : List Span) : Nat := if ss.all isSpan = true then (if isCoverB ss = true then 0 else 2) else 1
theorem ref1_ok {ss : List Span} (h : ss.all isSpan = true) (h2 : isCoverB ss = true) : ref1 ss = 0 := by
  unfold ref1
  rw [if_pos h, if_pos h2]
theorem ref1_span {ss : List Span} (h : ss.all isSpan = false) : ref1 ss = 1 := by
  unfold ref1
  rw [if_neg (by rw [h]; decide)]
theorem ref1_cov {ss : List Span} (h : ss.all isSpan = true) (h2 : isCoverB ss = false) : ref1 ss = 2 := by
  unfold ref1
  rw [if_pos h, if_neg (by rw [h2]; decide)]
theorem ref1_can {ss : List Span} (h : ref1 ss = 0) : ss.all isSpan = true ∧ isCoverB ss = true ∧ Can ss ∧ ss.length ≤ 200 := by
  unfold ref1 at h
  by_cases h1 : ss.all isSpan = true
  · rw [if_pos h1] at h
    by_cases h2 : isCoverB ss = true
    · refine ⟨h1, h2, can_of_cover h1 h2, ?_⟩
      unfold isCoverB at h2
      rw [Bool.and_eq_true, decide_eq_true_eq] at h2
      exact h2.1
    · rw [if_neg h2] at h
      cases h
  · rw [if_neg h1] at h
    cases h
theorem can_ref1 {c : List Span} (h : Can c) (hs : ∀ s ∈ c, isSpan s = true) (hl : c.length ≤ 200) : ref1 c = 0 := ref1_ok (List.all_eq_true.mpr hs) (cover_can h hl)
/-- the class of a refusal -/
def Tx.refC (T : Tx K mg) (n : Nat) : Addr := if n = 1 then T.C_NoSpan else T.C_NoCover
/-- two lists of spans are handed in -/
def Two (T : Tx K mg) (H : Hp) (a b : Addr) (us ws : List V) (ss rs : List Span) : Prop := H a = some (.lst us) ∧ Sps H us ss ∧ H b = some (.lst ws) ∧ Sps H ws rs ∧ Tb T.tabs H
def spCheckCovers (T : Tx K mg) : Sp := fun vs H Q E => ∃ (a b : Addr) (us ws : List V) (ss rs : List Span), vs = [.ref a, .ref b] ∧ Two T H a b us ws ss rs ∧ (ref1 ss = 0 → ref1 rs = 0 → ∀ H', Chg T.tabs H H' → Tb T.tabs H' → Q .non H') ∧
  (∀ n, n ≠ 0 → (ref1 ss = n ∨ (ref1 ss = 0 ∧ ref1 rs = n)) → ∀ H', Chg T.tabs H H' → Tb T.tabs H' → E (.ref (T.refC n)) none H')
theorem ok_check_covers (T : Tx K mg) (B : Tbs T base) : FnOk P w K mg base (L2.CX P w) (7) T.f_check_covers T.fd_check_covers ["one", "other"] (spCheckCovers T) := by
  have G_check_cover : FnOk P w K mg base (L2.CX P w) _ _ _ _ _ := ok_check_cover T B
  refine T.F_check_covers.okX sc_check_covers (fun vs H Q E h => ?_) (fun cdv A outer s H vs Q E hr h => ?_)
  · obtain ⟨a, b, us, ws, ss, rs, rfl, _⟩ := h
    rfl
  · obtain ⟨a, b, us, ws, ss, rs, rfl, ⟨ha, hS, hb, hR, tb⟩, q, e⟩ := h
    refine ⟨_, (pss_cons (ps_expr (pe_call G_check_cover (hr.mono (by decide)) (by rfl) T.g_check_cover T.F_check_cover.kp T.b_check_cover .nil (passes_call (takes_of rfl rfl rfl rfl) (fun _ _ _ _ h => h)) (pa_cons (pv 0) pa_nil)))
      (pss_one (ps_expr (pe_call G_check_cover (hr.mono (by decide)) (by rfl) T.g_check_cover T.F_check_cover.kp T.b_check_cover .nil (passes_call (takes_of rfl rfl rfl rfl) (fun _ _ _ _ h => h)) (pa_cons (pv 1) pa_nil))))), ?_⟩
    have bT := tb.out hb (fun ps z => by cases z)
    refine ⟨_, rfl, a, us, ss, rfl, ha, hS, tb, fun s1 s2 H1 c1 tb1 => ?_, fun s1 => e 1 (by decide) (.inl (ref1_span s1)) H (Chg.refl _ _) tb, fun s1 s2 H1 c1 tb1 => e 2 (by decide) (.inl (ref1_cov s1 s2)) H1 c1 tb1⟩
    have z := ref1_ok s1 s2
    refine ⟨_, rfl, b, ws, rs, rfl, c1 _ _ bT hb, hR.chg c1 tb.lsts, tb1, fun r1 r2 H2 c2 tb2 => q z (ref1_ok r1 r2) H2 (c1.trans c2) tb2, fun r1 => e 1 (by decide) (.inr ⟨z, ref1_span r1⟩) H1 c1 tb1, fun r1 r2 H2 c2 tb2 => e 2 (by decide) (.inr ⟨z, ref1_cov r1 r2⟩) H2 (c1.trans c2) tb2⟩
/-! common -/
def spCommon : Sp := fun vs H Q _ => ∃ (a b : Addr) (us ws : List V) (ss rs : List Span), vs = [.ref a, .ref b] ∧ H a = some (.lst us) ∧ Sps H us ss ∧ H b = some (.lst ws) ∧ Sps H ws rs ∧ Can ss ∧ Can rs ∧ ss.length ≤ 10000 ∧ rs.length ≤ 10000 ∧
  ∀ (H' : Hp) (p : Addr) (xs : List V) (c : List Span), Same H H' → H p = none → H' p = some (.lst xs) → Sps H' xs c → Can c → (∀ x, Mem c x ↔ Mem ss x ∧ Mem rs x) → c.length ≤ ss.length + rs.length → Q (.ref p) H'
theorem drop_at {α : Type} {l : List α} {i : Nat} {x : α} (h : l[i]? = some x) : l.drop i = x :: l.drop (i + 1) := by
  obtain ⟨h1, h2⟩ := List.getElem?_eq_some_iff.mp h
  rw [List.drop_eq_getElem_cons h1, h2]
theorem ok_common (T : Tx K mg) : FnOk P w K mg base CX0 (1) T.f_common T.fd_common ["one", "other"] spCommon := by
  refine T.F_common.ok sc_common (fun vs H Q E h => ?_) (fun cdv A outer s H vs Q E hr h => ?_)
  · obtain ⟨a, b, us, ws, ss, rs, rfl, _⟩ := h
    rfl
  · obtain ⟨a, b, us, ws, ss, rs, rfl, ha, hS, hb, hR, canS, canR, ls, lr, q⟩ := h
    refine ⟨_, (pss_cons (ps_set (i := 2) sc_common.nd rfl (Or.inl rfl) (pe_lst pa_nil))
      (pss_cons (ps_set (i := 3) sc_common.nd rfl (Or.inl rfl) pe_int)
      (pss_cons (ps_set (i := 4) sc_common.nd rfl (Or.inl rfl) pe_int)
      (pss_cons (ps_while PassesOwn.never (PW.pt (pw_and (pt_cmpR op_lt (pv 3) (pe_callB call_len_seq (by rfl) T.m_len PySem.boot_len (pa_cons (pv 0) pa_nil)) (nomark _)) (pw_and1 (pt_cmpR op_lt (pv 4) (pe_callB call_len_seq (by rfl) T.m_len PySem.boot_len (pa_cons (pv 1) pa_nil)) (nomark _)))))
        (pss_cons (ps_set (i := 5) sc_common.nd rfl (Or.inl rfl) (pe_callB (call_max2 rfl) (by rfl) T.m_max (by decide +kernel) (pa_cons (pe_ix ix_tup (pe_ix ix_list (pv 0) (pv 3) (fun _ _ => rfl)) pe_int (fun _ _ => rfl)) (pa_cons (pe_ix ix_tup (pe_ix ix_list (pv 1) (pv 4) (fun _ _ => rfl)) pe_int (fun _ _ => rfl)) pa_nil))))
      (pss_cons (ps_set (i := 6) sc_common.nd rfl (Or.inl rfl) (pe_callB (call_min2 rfl) (by rfl) T.m_min (by decide +kernel) (pa_cons (pe_ix ix_tup (pe_ix ix_list (pv 0) (pv 3) (fun _ _ => rfl)) pe_int (fun _ _ => rfl)) (pa_cons (pe_ix ix_tup (pe_ix ix_list (pv 1) (pv 4) (fun _ _ => rfl)) pe_int (fun _ _ => rfl)) pa_nil))))
      (pss_cons (ps_if (pt_cmpR op_lt (pv 5) (pv 6) (nomark _)) (pss_one (ps_expr (pe_bm PySem.F.plainAttrs_list PySem.F.slot_list_append PySem.F.type_list_append mt_append (pv 2) (pa_cons (pe_tup (pa_cons (pv 5) (pa_cons (pv 6) pa_nil))) pa_nil)))) pss_nil)
      (pss_one (ps_if (pt_cmpR op_lt (pe_ix ix_tup (pe_ix ix_list (pv 0) (pv 3) (fun _ _ => rfl)) pe_int (fun _ _ => rfl)) (pe_ix ix_tup (pe_ix ix_list (pv 1) (pv 4) (fun _ _ => rfl)) pe_int (fun _ _ => rfl)) (nomark _)) (pss_one (ps_aug (i := 3) sc_common.nd rfl (Or.inl rfl) pe_int ip_add)) (pss_one (ps_aug (i := 4) sc_common.nd rfl (Or.inl rfl) pe_int ip_add))))))))
      (pss_one (ps_ret (pv 2))))))), ?_⟩
    have l1 := hS.len
    have l2 := hR.len
    refine ⟨Nat.zero_le _, fun f nf => ?_⟩
    obtain ⟨gf, sf⟩ := upd_at (o := .lst []) nf
    have hf0 : H f = none := nf
    refine ⟨fun m σ H' => ∃ (i j : Nat) (xs : List V) (acc : List Span) (y5 y6 : Option V), σ = [some (.ref a), some (.ref b), some (.ref f), some (.int (i : Int)), some (.int (j : Int)), y5, y6] ∧ i ≤ ss.length ∧ j ≤ rs.length ∧ Same H H' ∧ H' f = some (.lst xs) ∧ Sps H' xs acc ∧ Can acc ∧
      (∀ x, (Mem ss x ∧ Mem rs x) ↔ (Mem acc x ∨ (Mem (ss.drop i) x ∧ Mem (rs.drop j) x))) ∧ (∀ s ∈ acc, ∀ t ∈ ss.drop i, ∀ u ∈ rs.drop j, s.2 < t.1 ∨ s.2 < u.1) ∧ acc.length ≤ i + j ∧ m = (ss.length - i) + (rs.length - j),
      ⟨_, 0, 0, [], [], none, none, rfl, Nat.zero_le _, Nat.zero_le _, sf, gf, .nil, can_nil, fun x => ⟨fun h => .inr h, fun h => h.elim (fun z => absurd z (mem_nil x)) (fun z => z)⟩, (fun s hs => nomatch hs), Nat.le_refl _, rfl⟩, ?_⟩
    rintro m σ H' ⟨i, j, xs, acc, y5, y6, rfl, hi, hj, sm, hf, hA, can, mm, gap, al, rfl⟩
    have ha' := sm _ _ ha
    have hb' := sm _ _ hb
    refine ⟨_, rfl, _, rfl, a, _, rfl, .inl (SqL.of ha'), _, _, rfl, rfl, _, rfl, ?_⟩
    have done' : ss.drop i = [] ∨ rs.drop j = [] → ∀ (h : True), ((tRet (tVar 2)) { nx := fun _ H' => Q .non H', rt := Q } [some (.ref a), some (.ref b), some (.ref f), some (.int (i : Int)), some (.int (j : Int)), y5, y6] H') := fun hd _ => by
      refine ⟨_, rfl, q H' f xs acc sm hf0 hf hA can (fun x => ?_) (by omega)⟩
      rw [mm]
      constructor
      · exact .inl
      · rintro (h | ⟨h1, h2⟩)
        · exact h
        · rcases hd with e | e
          · rw [e] at h1
            exact absurd h1 (mem_nil x)
          · rw [e] at h2
            exact absurd h2 (mem_nil x)
    by_cases hi2 : (i : Int) < ((us.length : Nat) : Int)
    · rw [decide_eq_true hi2]
      refine iteT ⟨_, rfl, _, rfl, b, _, rfl, .inl (SqL.of hb'), _, _, rfl, rfl, _, rfl, ?_⟩
      by_cases hj2 : (j : Int) < ((ws.length : Nat) : Int)
      · rw [decide_eq_true hj2]
        have iu : i < us.length := by omega
        have jw : j < ws.length := by omega
        obtain ⟨s, es, hs⟩ := (hS.same sm).get (List.getElem?_eq_getElem iu)
        obtain ⟨r, er, hr'⟩ := (hR.same sm).get (List.getElem?_eq_getElem jw)
        have ds := drop_at es
        have dr := drop_at er
        have cs : Can (s :: ss.drop (i + 1)) := by
          rw [← ds]
          exact can_drop canS i
        have cr : Can (r :: rs.drop (j + 1)) := by
          rw [← dr]
          exact can_drop canR j
        have sp := cs.2 s List.mem_cons_self
        have rp := cr.2 r List.mem_cons_self
        have gu : us[i]? = some us[i] := List.getElem?_eq_getElem iu
        have gw : ws[j]? = some ws[j] := List.getElem?_eq_getElem jw
        obtain ⟨t1, e1, g1⟩ := hs
        obtain ⟨t2, e2, g2⟩ := hr'
        rw [e1] at gu
        rw [e2] at gw
        refine iteT ⟨fun σ' H2 => ∃ (i2 j2 : Nat) (xs : List V) (acc : List Span) (y5 y6 : Option V), σ' = [some (.ref a), some (.ref b), some (.ref f), some (.int (i2 : Int)), some (.int (j2 : Int)), y5, y6] ∧ i2 ≤ ss.length ∧ j2 ≤ rs.length ∧ Same H H2 ∧ H2 f = some (.lst xs) ∧ Sps H2 xs acc ∧ Can acc ∧
          (∀ x, (Mem ss x ∧ Mem rs x) ↔ (Mem acc x ∨ (Mem (ss.drop i2) x ∧ Mem (rs.drop j2) x))) ∧ (∀ s ∈ acc, ∀ t ∈ ss.drop i2, ∀ u ∈ rs.drop j2, s.2 < t.1 ∨ s.2 < u.1) ∧ acc.length ≤ i2 + j2 ∧ i2 + j2 = i + j + 1, fun σ' H2 hN => ?_, ?_⟩
        · obtain ⟨i2, j2, xs2, acc2, z5, z6, h1, h2, h3, h4, h5, h6, h7, h8, h9, h10, h11⟩ := hN
          exact ⟨(ss.length - i2) + (rs.length - j2), by omega, i2, j2, xs2, acc2, z5, z6, h1, h2, h3, h4, h5, h6, h7, h8, h9, h10, rfl⟩
        · refine ⟨_, rfl, _, rfl, a, _, _, _, rfl, rfl, SqL.of ha', atI_nat gu, t1, _, _, _, rfl, rfl, SqT.of g1, atI_nat (j := 0) rfl, _, rfl, _, rfl, b, _, _, _, rfl, rfl, SqL.of hb', atI_nat gw, t2, _, _, _, rfl, rfl, SqT.of g2, atI_nat (j := 0) rfl, _, _, rfl, ?_⟩
          refine ⟨_, rfl, _, rfl, a, _, _, _, rfl, rfl, SqL.of ha', atI_nat gu, t1, _, _, _, rfl, rfl, SqT.of g1, atI_nat (j := 1) rfl, _, rfl, _, rfl, b, _, _, _, rfl, rfl, SqL.of hb', atI_nat gw, t2, _, _, _, rfl, rfl, SqT.of g2, atI_nat (j := 1) rfl, _, _, rfl, ?_⟩
          generalize hlo : (if r.1 > s.1 then r.1 else s.1) = lo
          generalize hhi : (if r.2 < s.2 then r.2 else s.2) = hi'
          have lo1 : s.1 ≤ lo ∧ r.1 ≤ lo ∧ (lo = s.1 ∨ lo = r.1) := by
            split at hlo <;> omega
          have hi1 : hi' ≤ s.2 ∧ hi' ≤ r.2 ∧ (hi' = s.2 ∨ hi' = r.2) ∧ (s.2 < r.2 → hi' = s.2) ∧ (¬ s.2 < r.2 → hi' = r.2) := by
            split at hhi <;> omega
          -- the last test, behind what was found
          have last : ∀ (H2 : Hp) (xs2 : List V) (acc2 : List Span), Same H' H2 ∨ (∃ H3, Same H' H3 ∧ H2 = upd H3 f (.lst xs2)) → Same H H2 → H2 f = some (.lst xs2) → Sps H2 xs2 acc2 → Can acc2 → (∀ x, Mem acc2 x ↔ Mem acc x ∨ (lo ≤ x ∧ x < hi')) → acc2.length ≤ acc.length + 1 → (∀ s0 ∈ acc2, s0 ∈ acc ∨ s0.2 = hi') →
              H2 a = some (.lst us) → H2 b = some (.lst ws) → H2 t1 = some (.tup [.int s.1, .int s.2]) → H2 t2 = some (.tup [.int r.1, .int r.2]) →
              ((tIfS (tTest (tOp (rI0 fun i j => .bl (decide (i < j))) (tOp (rIxT K) (tOp (rIxL K) (tVar 0) (tVar 3)) (tC (.int 1))) (tOp (rIxT K) (tOp (rIxL K) (tVar 1) (tVar 4)) (tC (.int 1))))) (tAug 3 (tC (.int 1)) rAdd) (tAug 4 (tC (.int 1)) rAdd))
                { nx := fun σ' H2 => ∃ (i2 j2 : Nat) (xs : List V) (acc : List Span) (y5 y6 : Option V), σ' = [some (.ref a), some (.ref b), some (.ref f), some (.int (i2 : Int)), some (.int (j2 : Int)), y5, y6] ∧ i2 ≤ ss.length ∧ j2 ≤ rs.length ∧ Same H H2 ∧ H2 f = some (.lst xs) ∧ Sps H2 xs acc ∧ Can acc ∧
                  (∀ x, (Mem ss x ∧ Mem rs x) ↔ (Mem acc x ∨ (Mem (ss.drop i2) x ∧ Mem (rs.drop j2) x))) ∧ (∀ s ∈ acc, ∀ t ∈ ss.drop i2, ∀ u ∈ rs.drop j2, s.2 < t.1 ∨ s.2 < u.1) ∧ acc.length ≤ i2 + j2 ∧ i2 + j2 = i + j + 1, rt := Q } [some (.ref a), some (.ref b), some (.ref f), some (.int (i : Int)), some (.int (j : Int)), some (.int lo), some (.int hi')] H2) := fun H2 xs2 acc2 _ sm2 hf2 hA2 can2 mm2 al2 new2 ha2 hb2 g12 g22 => by
            refine ⟨_, rfl, _, rfl, a, _, _, _, rfl, rfl, SqL.of ha2, atI_nat gu, t1, _, _, _, rfl, rfl, SqT.of g12, atI_nat (j := 1) rfl, _, rfl, _, rfl, b, _, _, _, rfl, rfl, SqL.of hb2, atI_nat gw, t2, _, _, _, rfl, rfl, SqT.of g22, atI_nat (j := 1) rfl, _, _, rfl, rfl, _, rfl, ?_⟩
            by_cases lt : s.2 < r.2
            · rw [decide_eq_true lt]
              have hh := hi1.2.2.2.1 lt
              refine iteT ⟨_, rfl, _, _, rfl, rfl, i + 1, j, xs2, acc2, _, _, rfl, by omega, hj, sm2, hf2, hA2, can2, fun x => ?_, fun s0 h0 t ht u hu => ?_, by omega, by omega⟩
              · rw [mm x, ds, dr, mm2 x, mem_cons]
                constructor
                · rintro (h | ⟨h1, h2⟩)
                  · exact .inl (.inl h)
                  · rcases h1 with h1 | h1
                    · rcases mem_cons.mp h2 with h2 | h2
                      · exact .inl (.inr ⟨by omega, by omega⟩)
                      · have := can_head cr h2
                        omega
                    · exact .inr ⟨h1, h2⟩
                · rintro ((h | h) | ⟨h1, h2⟩)
                  · exact .inl h
                  · exact .inr ⟨.inl ⟨by omega, by omega⟩, mem_cons.mpr (.inl ⟨by omega, by omega⟩)⟩
                  · exact .inr ⟨.inr h1, h2⟩
              · rcases new2 s0 h0 with h | h
                · exact gap s0 h t (by rw [ds]; exact List.mem_cons_of_mem _ ht) u hu
                · have := (List.pairwise_cons.mp cs.1).1 t ht
                  exact .inl (by omega)
            · rw [decide_eq_false lt]
              have hh := hi1.2.2.2.2 lt
              refine iteF ⟨_, rfl, _, _, rfl, rfl, i, j + 1, xs2, acc2, _, _, rfl, hi, by omega, sm2, hf2, hA2, can2, fun x => ?_, fun s0 h0 t ht u hu => ?_, by omega, by omega⟩
              · rw [mm x, ds, dr, mm2 x, mem_cons (s := r)]
                constructor
                · rintro (h | ⟨h1, h2⟩)
                  · exact .inl (.inl h)
                  · rcases h2 with h2 | h2
                    · rcases mem_cons.mp h1 with h1 | h1
                      · exact .inl (.inr ⟨by omega, by omega⟩)
                      · have := can_head cs h1
                        omega
                    · exact .inr ⟨h1, h2⟩
                · rintro ((h | h) | ⟨h1, h2⟩)
                  · exact .inl h
                  · exact .inr ⟨mem_cons.mpr (.inl ⟨by omega, by omega⟩), .inl ⟨by omega, by omega⟩⟩
                  · exact .inr ⟨h1, .inr h2⟩
              · rcases new2 s0 h0 with h | h
                · exact gap s0 h t ht u (by rw [dr]; exact List.mem_cons_of_mem _ hu)
                · have := (List.pairwise_cons.mp cr.1).1 u hu
                  exact .inr (by omega)
          refine ⟨_, rfl, _, rfl, _, _, rfl, rfl, _, rfl, ?_⟩
          by_cases lt : lo < hi'
          · rw [decide_eq_true lt]
            refine iteT ⟨_, rfl, .inl ⟨rfl, _, SqL.of hf⟩, _, rfl, _, rfl, (by show 2 ≤ sizeLine; decide), fun t nt => ?_⟩
            obtain ⟨gt, st⟩ := upd_at (o := .tup [.int lo, .int hi']) nt
            have alen := hA.len
            have cf : Chg [f] (upd H' t (.tup [.int lo, .int hi'])) (upd (upd H' t (.tup [.int lo, .int hi'])) f (.lst (xs ++ [.ref t]))) := Chg.upd List.mem_cons_self
            have lf : Lsts [f] (upd H' t (.tup [.int lo, .int hi'])) := Lsts.of1 (st _ _ hf)
            have naf : a ≠ f := ne_of_none ha hf0
            have nbf : b ≠ f := ne_of_none hb hf0
            have nt1 : t1 ≠ f := fun z => by
              rw [z, hf] at g1
              cases g1
            have nt2 : t2 ≠ f := fun z => by
              rw [z, hf] at g2
              cases g2
            refine ⟨f, xs, .ref t, rfl, rfl, st _ _ hf, small_lt (by omega), ?_⟩
            refine last _ (xs ++ [.ref t]) (acc ++ [(lo, hi')]) (.inr ⟨_, st, rfl⟩) (same_more (sm.trans st) hf0) upd_same (((hA.same st).app (.one ⟨t, rfl, gt⟩)).chg cf lf) (can_snoc can lt fun s0 h0 => ?_) (fun x => ?_) (by rw [List.length_append]; exact Nat.le_refl _) (fun s0 h0 => ?_) (cf _ _ (nmem1 naf) (st _ _ ha')) (cf _ _ (nmem1 nbf) (st _ _ hb')) (cf _ _ (nmem1 nt1) (st _ _ g1)) (cf _ _ (nmem1 nt2) (st _ _ g2))
            · have := gap s0 h0 s (by rw [ds]; exact List.mem_cons_self) r (by rw [dr]; exact List.mem_cons_self)
              show s0.2 < lo
              omega
            · rw [mem_app, mem_one]
            · rcases List.mem_append.mp h0 with h | h
              · exact .inl h
              · rw [List.mem_singleton.mp h]
                exact .inr rfl
          · rw [decide_eq_false lt]
            refine iteF (last H' xs acc (.inl (Same.refl _)) sm hf hA can (fun x => ?_) (Nat.le_succ _) (fun s0 h0 => .inl h0) ha' hb' g1 g2)
            constructor
            · exact .inl
            · rintro (h | h)
              · exact h
              · omega
      · rw [decide_eq_false hj2]
        exact iteF (done' (.inr (List.drop_eq_nil_iff.mpr (by omega))) trivial)
    · rw [decide_eq_false hi2]
      exact iteF (iteF (done' (.inl (List.drop_eq_nil_iff.mpr (by omega))) trivial))
/-! gaps -/
def spGaps : Sp := fun vs H Q _ => ∃ (l : Addr) (us : List V) (ss : List Span), vs = [.ref l] ∧ H l = some (.lst us) ∧ Sps H us ss ∧ Can ss ∧ (∀ s ∈ ss, isSpan s = true) ∧ ss.length ≤ 10000 ∧
  ∀ (H' : Hp) (p : Addr) (xs : List V) (c : List Span), Same H H' → H p = none → H' p = some (.lst xs) → Sps H' xs c → Can c → (∀ x, Mem c x ↔ -999999999999 ≤ x ∧ x < 999999999999 ∧ ¬ Mem ss x) → c.length ≤ ss.length + 1 → Q (.ref p) H'
theorem ok_gaps_of (T : Tx K mg) : FnOk P w K mg base CX0 (1) T.f_gaps_of T.fd_gaps_of ["cover"] spGaps := by
  refine T.F_gaps_of.ok sc_gaps_of (fun vs H Q E h => ?_) (fun cdv A outer s H vs Q E hr h => ?_)
  · obtain ⟨l, us, ss, rfl, _⟩ := h
    rfl
  · obtain ⟨l, us, ss, rfl, hl, hS, canS, ok, ls, q⟩ := h
    refine ⟨_, (pss_cons (ps_set (i := 1) sc_gaps_of.nd rfl (Or.inl rfl) (pe_lst pa_nil))
      (pss_cons (ps_set (i := 2) sc_gaps_of.nd rfl (Or.inl rfl) (pe_glob (v := .int (-999999999999)) (by rfl) T.c_LEAST_PLACE ⟨_, rfl⟩))
      (pss_cons (ps_for PassesOwn.never (by rfl) (pi_list (pv 0)) (pg_tup rfl (pgs_cons (pg_name (i := 3) sc_gaps_of.nd rfl (Or.inl rfl)) (pgs_cons (pg_name (i := 4) sc_gaps_of.nd rfl (Or.inl rfl)) pgs_nil)))
        (pss_cons (ps_if (pt_cmpR op_lt (pv 2) (pv 3) (nomark _)) (pss_one (ps_expr (pe_bm PySem.F.plainAttrs_list PySem.F.slot_list_append PySem.F.type_list_append mt_append (pv 1) (pa_cons (pe_tup (pa_cons (pv 2) (pa_cons (pv 3) pa_nil))) pa_nil)))) pss_nil)
      (pss_one (ps_set (i := 2) sc_gaps_of.nd rfl (Or.inl rfl) (pv 4)))))
      (pss_cons (ps_if (pt_cmpR op_lt (pv 2) (pe_glob (v := .int (999999999999)) (by rfl) T.c_GREATEST_PLACE ⟨_, rfl⟩) (nomark _)) (pss_one (ps_expr (pe_bm PySem.F.plainAttrs_list PySem.F.slot_list_append PySem.F.type_list_append mt_append (pv 1) (pa_cons (pe_tup (pa_cons (pv 2) (pa_cons (pe_glob (v := .int (999999999999)) (by rfl) T.c_GREATEST_PLACE ⟨_, rfl⟩) pa_nil))) pa_nil)))) pss_nil)
      (pss_one (ps_ret (pv 1))))))), ?_⟩
    have hul := hS.len
    refine ⟨Nat.zero_le _, fun f nf => ?_⟩
    obtain ⟨gf, sf⟩ := upd_at (o := .lst []) nf
    have hf0 : H f = none := nf
    refine ⟨_, rfl, l, rfl, ⟨_, SqL.of (sf _ _ hl)⟩, ?_⟩
    refine for_list (K := K) (a := l) (xs := us) (fun i σ H' => ∃ (low : Int) (xs : List V) (acc : List Span) (y3 y4 : Option V), σ = [some (.ref l), some (.ref f), some (.int low), y3, y4] ∧ Same H H' ∧ H' f = some (.lst xs) ∧ Sps H' xs acc ∧ Can acc ∧ acc.length ≤ i ∧ (∀ t ∈ ss.drop i, low ≤ t.1) ∧ (∀ s ∈ acc, s.2 < low) ∧ (∀ s ∈ ss.take i, s.2 ≤ low) ∧ (∀ x, Mem acc x ↔ -999999999999 ≤ x ∧ x < low ∧ ¬ Mem ss x) ∧ -999999999999 ≤ low ∧ low ≤ 999999999999)
      ⟨-999999999999, [], [], none, none, rfl, sf, gf, .nil, can_nil, Nat.le_refl _, (fun t ht => ((isSpan_iff t).mp (ok t ht)).1), (fun s hs => nomatch hs), (fun s hs => nomatch hs), (fun x => ⟨fun h => absurd h (mem_nil x), fun h => by omega⟩), Int.le_refl _, by decide⟩ (fun i σ H' _ ⟨_, _, _, _, _, _, sm, _⟩ => SqL.of (sm _ _ hl)) ?_ ?_
    · rintro i y σ H' hi ⟨low, xs, acc, y3, y4, rfl, sm, hf, hA, can, al, fore, ends, back, mm, b1, b2⟩
      obtain ⟨s, es, hs⟩ := (hS.same sm).get hi
      obtain ⟨t, rfl, ht⟩ := hs
      have ds := drop_at es
      have il : i < us.length := (List.getElem?_eq_some_iff.mp hi).1
      have sm' : s ∈ ss := List.mem_of_getElem? es
      have bs := (isSpan_iff s).mp (ok s sm')
      have ls1 := fore s (by rw [ds]; exact List.mem_cons_self)
      have cs : Can (s :: ss.drop (i + 1)) := by
        rw [← ds]
        exact can_drop canS i
      have tk : ss.take (i + 1) = ss.take i ++ [s] := by
        rw [List.take_add_one, es]
        rfl
      -- what lies below s
      have split : ∀ x, Mem ss x ↔ Mem (ss.take i) x ∨ (s.1 ≤ x ∧ x < s.2) ∨ Mem (ss.drop (i + 1)) x := fun x => by
        have e : ss = ss.take i ++ (s :: ss.drop (i + 1)) := by
          rw [← ds]
          exact (List.take_append_drop i ss).symm
        have h := mem_app (a := ss.take i) (b := s :: ss.drop (i + 1)) (x := x)
        rw [← e, mem_cons] at h
        exact h
      have take_lt : ∀ x, Mem (ss.take i) x → x < low := fun x ⟨u, hu, _, u2⟩ => by
        have := back u hu
        omega
      refine ⟨t, _, rfl, SqT.of ht, rfl, _, _, rfl, _, _, rfl, rfl, ?_⟩
      have fin : ∀ (H2 : Hp) (xs2 : List V) (acc2 : List Span), Same H H2 → H2 f = some (.lst xs2) → Sps H2 xs2 acc2 → Can acc2 → acc2.length ≤ i + 1 → (∀ s0 ∈ acc2, s0.2 < s.2) → (∀ x, Mem acc2 x ↔ Mem acc x ∨ (low ≤ x ∧ x < s.1)) →
          ((tAsg (tVar 4) (gName 2)) { nx := fun σ' H3 => ∃ (low : Int) (xs : List V) (acc : List Span) (y3 y4 : Option V), σ' = [some (.ref l), some (.ref f), some (.int low), y3, y4] ∧ Same H H3 ∧ H3 f = some (.lst xs) ∧ Sps H3 xs acc ∧ Can acc ∧ acc.length ≤ i + 1 ∧ (∀ t ∈ ss.drop (i + 1), low ≤ t.1) ∧ (∀ s ∈ acc, s.2 < low) ∧ (∀ s ∈ ss.take (i + 1), s.2 ≤ low) ∧ (∀ x, Mem acc x ↔ -999999999999 ≤ x ∧ x < low ∧ ¬ Mem ss x) ∧ -999999999999 ≤ low ∧ low ≤ 999999999999, rt := Q } [some (.ref l), some (.ref f), some (.int low), some (.int s.1), some (.int s.2)] H2) := fun H2 xs2 acc2 sm2 hf2 hA2 can2 al2 en2 mm2 => by
        refine ⟨_, rfl, s.2, xs2, acc2, _, _, rfl, sm2, hf2, hA2, can2, al2, fun u hu => ?_, en2, fun u hu => ?_, fun x => ?_, by omega, bs.2.2⟩
        · have := (List.pairwise_cons.mp cs.1).1 u hu
          omega
        · rw [tk] at hu
          rcases List.mem_append.mp hu with h | h
          · have := back u h
            omega
          · rw [List.mem_singleton.mp h]
            exact Int.le_refl _
        · rw [mm2 x, mm x]
          constructor
          · rintro (h | h)
            · exact ⟨h.1, by omega, h.2.2⟩
            · refine ⟨by omega, by omega, fun z => ?_⟩
              rcases (split x).mp z with h1 | h1 | h1
              · have := take_lt x h1
                omega
              · omega
              · have := can_head cs h1
                omega
          · rintro ⟨h1, h2, h3⟩
            by_cases hx : x < low
            · exact .inl ⟨h1, hx, h3⟩
            · refine .inr ⟨by omega, ?_⟩
              apply Int.not_le.mp
              intro z
              exact h3 ((split x).mpr (.inr (.inl ⟨z, h2⟩)))
      refine ⟨_, rfl, _, rfl, _, _, rfl, rfl, _, rfl, ?_⟩
      by_cases lt : low < s.1
      · rw [decide_eq_true lt]
        refine iteT ⟨_, rfl, .inl ⟨rfl, _, SqL.of hf⟩, _, rfl, _, rfl, (by show 2 ≤ sizeLine; decide), fun t2 nt => ?_⟩
        obtain ⟨gt, st⟩ := upd_at (o := .tup [.int low, .int s.1]) nt
        have alen := hA.len
        have cf : Chg [f] (upd H' t2 (.tup [.int low, .int s.1])) (upd (upd H' t2 (.tup [.int low, .int s.1])) f (.lst (xs ++ [.ref t2]))) := Chg.upd List.mem_cons_self
        have lf : Lsts [f] (upd H' t2 (.tup [.int low, .int s.1])) := Lsts.of1 (st _ _ hf)
        refine ⟨f, xs, .ref t2, rfl, rfl, st _ _ hf, small_lt (by omega), ?_⟩
        refine fin _ (xs ++ [.ref t2]) (acc ++ [(low, s.1)]) (same_more (sm.trans st) hf0) upd_same (((hA.same st).app (.one ⟨t2, rfl, gt⟩)).chg cf lf) (can_snoc can lt ends) (by rw [List.length_append]; exact Nat.succ_le_succ al) (fun s0 h0 => ?_) (fun x => ?_)
        · rcases List.mem_append.mp h0 with h | h
          · have := ends s0 h
            omega
          · rw [List.mem_singleton.mp h]
            exact bs.2.1
        · rw [mem_app, mem_one]
      · rw [decide_eq_false lt]
        refine iteF (fin H' xs acc sm hf hA can (by omega) (fun s0 h0 => by have := ends s0 h0; omega) (fun x => ?_))
        constructor
        · exact .inl
        · rintro (h | h)
          · exact h
          · omega
    · rintro σ H' ⟨low, xs, acc, y3, y4, rfl, sm, hf, hA, can, al, fore, ends, back, mm, b1, b2⟩
      rw [hul] at al
      rw [hul, List.take_length] at back
      have none_up : ∀ x, low ≤ x → ¬ Mem ss x := fun x hx ⟨u, hu, _, u2⟩ => by
        have := back u hu
        omega
      refine ⟨_, rfl, _, _, rfl, rfl, _, rfl, ?_⟩
      by_cases lt : low < 999999999999
      · rw [decide_eq_true lt]
        refine iteT ⟨_, rfl, .inl ⟨rfl, _, SqL.of hf⟩, _, rfl, (by show 2 ≤ sizeLine; decide), fun t2 nt => ?_⟩
        obtain ⟨gt, st⟩ := upd_at (o := .tup [.int low, .int 999999999999]) nt
        have alen := hA.len
        have cf : Chg [f] (upd H' t2 (.tup [.int low, .int 999999999999])) (upd (upd H' t2 (.tup [.int low, .int 999999999999])) f (.lst (xs ++ [.ref t2]))) := Chg.upd List.mem_cons_self
        have lf : Lsts [f] (upd H' t2 (.tup [.int low, .int 999999999999])) := Lsts.of1 (st _ _ hf)
        refine ⟨f, xs, .ref t2, rfl, rfl, st _ _ hf, small_lt (by omega), ?_⟩
        refine ⟨_, rfl, q _ f (xs ++ [.ref t2]) (acc ++ [(low, 999999999999)]) (same_more (sm.trans st) hf0) hf0 upd_same (((hA.same st).app (.one ⟨t2, rfl, gt⟩)).chg cf lf) (can_snoc can lt ends) (fun x => ?_) (by rw [List.length_append]; exact Nat.succ_le_succ al)⟩
        rw [mem_app, mem_one, mm x]
        constructor
        · rintro (h | h)
          · exact ⟨h.1, by omega, h.2.2⟩
          · exact ⟨by have := h.1; omega, h.2, none_up x h.1⟩
        · rintro ⟨h1, h2, h3⟩
          by_cases hx : x < low
          · exact .inl ⟨h1, hx, h3⟩
          · exact .inr ⟨by omega, h2⟩
      · rw [decide_eq_false lt]
        refine iteF ⟨_, rfl, q H' f xs acc sm hf0 hf hA can (fun x => ?_) (by omega)⟩
        rw [mm x]
        constructor
        · rintro ⟨h1, h2, h3⟩
          exact ⟨h1, by omega, h3⟩
        · rintro ⟨h1, h2, h3⟩
          exact ⟨h1, by omega, h3⟩
/-! both, either, less -/
def spTwoC (T : Tx K mg) (g : List Span → List Span → Int → Prop) : Sp := fun vs H Q E => ∃ (a b : Addr) (us ws : List V) (ss rs : List Span), vs = [.ref a, .ref b] ∧ Two T H a b us ws ss rs ∧
  (ref1 ss = 0 → ref1 rs = 0 → ∀ (H' : Hp) (p : Addr) (xs : List V) (c : List Span), Chg T.tabs H H' → Tb T.tabs H' → H p = none → H' p = some (.lst xs) → Sps H' xs c → Can c → (∀ s ∈ c, isSpan s = true) → (∀ x, Mem c x ↔ g ss rs x) → c.length ≤ ss.length + rs.length + 1 → Q (.ref p) H') ∧
  (∀ n, n ≠ 0 → (ref1 ss = n ∨ (ref1 ss = 0 ∧ ref1 rs = n)) → ∀ H', Chg T.tabs H H' → Tb T.tabs H' → E (.ref (T.refC n)) none H')
def bothP (ss rs : List Span) (x : Int) : Prop := Mem ss x ∧ Mem rs x
def eitherP (ss rs : List Span) (x : Int) : Prop := Mem ss x ∨ Mem rs x
def lessP (ss rs : List Span) (x : Int) : Prop := Mem ss x ∧ ¬ Mem rs x
theorem ok_both (T : Tx K mg) (B : Tbs T base) : FnOk P w K mg base (L2.CX P w) (8) T.f_both T.fd_both ["one", "other"] (spTwoC T bothP) := by
  have G_check_covers : FnOk P w K mg base (L2.CX P w) _ _ _ _ _ := ok_check_covers T B
  have G_common : FnOk P w K mg base CX0 _ _ _ _ _ := ok_common T
  refine T.F_both.okX sc_both (fun vs H Q E h => ?_) (fun cdv A outer s H vs Q E hr h => ?_)
  · obtain ⟨a, b, us, ws, ss, rs, rfl, _⟩ := h
    rfl
  · obtain ⟨a, b, us, ws, ss, rs, rfl, two, q, e⟩ := h
    refine ⟨_, (pss_cons (ps_expr (pe_call G_check_covers (hr.mono (by decide)) (by rfl) T.g_check_covers T.F_check_covers.kp T.b_check_covers .nil (passes_call (takes_of rfl rfl rfl rfl) (fun _ _ _ _ h => h)) (pa_cons (pv 0) (pa_cons (pv 1) pa_nil))))
      (pss_one (ps_ret (pe_call G_common (hr.mono (by decide)) (by rfl) T.g_common T.F_common.kp T.b_common .nil pass0 (pa_cons (pv 0) (pa_cons (pv 1) pa_nil)))))), ?_⟩
    obtain ⟨ha, hS, hb, hR, tb⟩ := id two
    have aT := tb.out ha (fun ps z => by cases z)
    have bT := tb.out hb (fun ps z => by cases z)
    refine ⟨_, rfl, _, rfl, a, b, us, ws, ss, rs, rfl, two, fun r1 r2 H1 c1 tb1 => ?_, e⟩
    obtain ⟨s1, s2, canS, lS⟩ := ref1_can r1
    obtain ⟨_, _, canR, lR⟩ := ref1_can r2
    refine ⟨_, rfl, _, rfl, a, b, us, ws, ss, rs, rfl, c1 _ _ aT ha, hS.chg c1 tb.lsts, c1 _ _ bT hb, hR.chg c1 tb.lsts, canS, canR, by omega, by omega, fun H2 p xs c sm np hp hc can mem cl => ?_⟩
    refine q r1 r2 H2 p xs c (c1.trans (Chg.of_same sm)) (tb1.same sm) (c1.free (tb1.new np) np) hp hc can (can_spans can (fun x h => ((mem x).mp h).1) (List.all_eq_true.mp s1)) mem (by omega)
theorem ok_either (T : Tx K mg) (B : Tbs T base) : FnOk P w K mg base (L2.CX P w) (8) T.f_either T.fd_either ["one", "other"] (spTwoC T eitherP) := by
  have G_check_covers : FnOk P w K mg base (L2.CX P w) _ _ _ _ _ := ok_check_covers T B
  have G_joined : FnOk P w K mg base CX0 _ _ _ _ _ := ok_joined T
  refine T.F_either.okX sc_either (fun vs H Q E h => ?_) (fun cdv A outer s H vs Q E hr h => ?_)
  · obtain ⟨a, b, us, ws, ss, rs, rfl, _⟩ := h
    rfl
  · obtain ⟨a, b, us, ws, ss, rs, rfl, two, q, e⟩ := h
    refine ⟨_, (pss_cons (ps_expr (pe_call G_check_covers (hr.mono (by decide)) (by rfl) T.g_check_covers T.F_check_covers.kp T.b_check_covers .nil (passes_call (takes_of rfl rfl rfl rfl) (fun _ _ _ _ h => h)) (pa_cons (pv 0) (pa_cons (pv 1) pa_nil))))
      (pss_one (ps_ret (pe_call G_joined (hr.mono (by decide)) (by rfl) T.g_joined T.F_joined.kp T.b_joined .nil pass0 (pa_cons (pe_op op_cat (pv 0) (pv 1)) pa_nil))))), ?_⟩
    obtain ⟨ha, hS, hb, hR, tb⟩ := id two
    have aT := tb.out ha (fun ps z => by cases z)
    have bT := tb.out hb (fun ps z => by cases z)
    refine ⟨_, rfl, _, rfl, a, b, us, ws, ss, rs, rfl, two, fun r1 r2 H1 c1 tb1 => ?_, e⟩
    obtain ⟨s1, s2, canS, lS⟩ := ref1_can r1
    obtain ⟨s3, _, canR, lR⟩ := ref1_can r2
    have hS1 := hS.chg c1 tb.lsts
    have hR1 := hR.chg c1 tb.lsts
    have l1 := hS1.len
    have l2 := hR1.len
    refine ⟨_, rfl, _, rfl, a, b, us, ws, rfl, rfl, c1 _ _ aT ha, c1 _ _ bT hb, small_le (by omega), fun j nj => ?_⟩
    obtain ⟨gj, sj⟩ := upd_at (o := .lst (us ++ ws)) nj
    have al : (ss ++ rs).all isSpan = true := by
      rw [List.all_append, s1, s3]
      rfl
    refine ⟨j, us ++ ws, ss ++ rs, rfl, gj, (hS1.app hR1).same sj, all_pos al, by rw [List.length_append]; omega, fun H2 p xs c sm np hp hc can mem cl => ?_⟩
    have tb2 := tb1.same sj
    have nP := sj.free np
    refine q r1 r2 H2 p xs c (c1.trans (Chg.of_same (sj.trans sm))) (tb2.same sm) (c1.free (tb1.new nP) nP) hp hc can (can_spans can (fun x => (mem x).mp) (List.all_eq_true.mp al)) (fun x => (mem x).trans mem_app) ?_
    rw [List.length_append] at cl
    omega
theorem ok_less (T : Tx K mg) (B : Tbs T base) : FnOk P w K mg base (L2.CX P w) (8) T.f_less T.fd_less ["one", "other"] (spTwoC T lessP) := by
  have G_check_covers : FnOk P w K mg base (L2.CX P w) _ _ _ _ _ := ok_check_covers T B
  have G_common : FnOk P w K mg base CX0 _ _ _ _ _ := ok_common T
  have G_gaps_of : FnOk P w K mg base CX0 _ _ _ _ _ := ok_gaps_of T
  refine T.F_less.okX sc_less (fun vs H Q E h => ?_) (fun cdv A outer s H vs Q E hr h => ?_)
  · obtain ⟨a, b, us, ws, ss, rs, rfl, _⟩ := h
    rfl
  · obtain ⟨a, b, us, ws, ss, rs, rfl, two, q, e⟩ := h
    refine ⟨_, (pss_cons (ps_expr (pe_call G_check_covers (hr.mono (by decide)) (by rfl) T.g_check_covers T.F_check_covers.kp T.b_check_covers .nil (passes_call (takes_of rfl rfl rfl rfl) (fun _ _ _ _ h => h)) (pa_cons (pv 0) (pa_cons (pv 1) pa_nil))))
      (pss_one (ps_ret (pe_call G_common (hr.mono (by decide)) (by rfl) T.g_common T.F_common.kp T.b_common .nil pass0 (pa_cons (pv 0) (pa_cons (pe_call G_gaps_of (hr.mono (by decide)) (by rfl) T.g_gaps_of T.F_gaps_of.kp T.b_gaps_of .nil pass0 (pa_cons (pv 1) pa_nil)) pa_nil)))))), ?_⟩
    obtain ⟨ha, hS, hb, hR, tb⟩ := id two
    have aT := tb.out ha (fun ps z => by cases z)
    have bT := tb.out hb (fun ps z => by cases z)
    refine ⟨_, rfl, _, rfl, a, b, us, ws, ss, rs, rfl, two, fun r1 r2 H1 c1 tb1 => ?_, e⟩
    obtain ⟨s1, s2, canS, lS⟩ := ref1_can r1
    obtain ⟨s3, _, canR, lR⟩ := ref1_can r2
    refine ⟨_, rfl, _, rfl, b, ws, rs, rfl, c1 _ _ bT hb, hR.chg c1 tb.lsts, canR, List.all_eq_true.mp s3, by omega, fun H2 g gs gg sg ng hg hgg canG memG gl => ?_⟩
    refine ⟨a, g, us, gs, ss, gg, rfl, sg _ _ (c1 _ _ aT ha), (hS.chg c1 tb.lsts).same sg, hg, hgg, canS, canG, by omega, by omega, fun H3 p xs c sm np hp hc can mem cl => ?_⟩
    have tb2 := tb1.same sg
    have nP := sg.free np
    refine q r1 r2 H3 p xs c (c1.trans (Chg.of_same (sg.trans sm))) (tb2.same sm) (c1.free (tb1.new nP) nP) hp hc can (can_spans can (fun x h => ((mem x).mp h).1) (List.all_eq_true.mp s1)) (fun x => ?_) (by omega)
    rw [mem x, memG x]
    constructor
    · rintro ⟨h1, h2⟩
      exact ⟨h1, h2.2.2⟩
    · rintro ⟨h1, h2⟩
      obtain ⟨t, ht, t1, t2⟩ := id h1
      have bt := (isSpan_iff t).mp (List.all_eq_true.mp s1 t ht)
      exact ⟨h1, by omega, by omega, h2⟩
end
/-! ### how many places -/
open Classical in
noncomputable def cnt (p : Int → Prop) (lo : Int) : Nat → Int
  | 0 => 0
  | n + 1 => cnt p lo n + (if p (lo + n) then 1 else 0)
theorem cnt_congr {p q : Int → Prop} (h : ∀ x, p x ↔ q x) (lo : Int) (n : Nat) : cnt p lo n = cnt q lo n := by
  rw [show p = q from funext fun x => propext (h x)]
theorem cnt_add (p q : Int → Prop) (lo : Int) : ∀ n, cnt (fun x => p x ∨ q x) lo n + cnt (fun x => p x ∧ q x) lo n = cnt p lo n + cnt q lo n
  | 0 => rfl
  | n + 1 => by
    have ih := cnt_add p q lo n
    unfold cnt
    by_cases h1 : p (lo + n) <;> by_cases h2 : q (lo + n) <;> simp [h1, h2] <;> omega
theorem cnt_none (lo : Int) : ∀ n, cnt (fun _ => False) lo n = 0
  | 0 => rfl
  | n + 1 => by
    unfold cnt
    rw [cnt_none lo n]
    simp
theorem cnt_span {a b lo : Int} (h1 : lo ≤ a) (h2 : a ≤ b) : ∀ n : Nat, cnt (fun x => a ≤ x ∧ x < b) lo n = if lo + n ≤ a then 0 else if lo + n ≤ b then lo + n - a else b - a
  | 0 => by
    rw [if_pos (by omega)]
    rfl
  | n + 1 => by
    have ih := cnt_span h1 h2 n
    unfold cnt
    rw [ih]
    by_cases e1 : lo + (n : Int) < a
    · rw [if_pos (by omega), if_neg (by omega), if_pos (by omega)]
      rfl
    · by_cases e2 : lo + (n : Int) < b
      · rw [if_pos (c := a ≤ lo + ↑n ∧ lo + ↑n < b) (by omega), if_neg (c := lo + ↑(n + 1) ≤ a) (by omega), if_pos (c := lo + ↑(n + 1) ≤ b) (by omega)]
        by_cases e3 : lo + (n : Int) ≤ a
        · rw [if_pos e3]
          omega
        · rw [if_neg e3, if_pos (by omega)]
          omega
      · rw [if_neg (c := a ≤ lo + ↑n ∧ lo + ↑n < b) (by omega)]
        by_cases e3 : lo + (n : Int) ≤ a
        · rw [if_pos e3, if_neg (by omega), if_neg (by omega)]
          omega
        · rw [if_neg e3, if_neg (c := lo + ↑(n + 1) ≤ a) (by omega), if_neg (c := lo + ↑(n + 1) ≤ b) (by omega)]
          by_cases e4 : lo + (n : Int) ≤ b
          · rw [if_pos e4]
            omega
          · rw [if_neg e4]
            omega
theorem cnt_can {lo : Int} {n : Nat} : ∀ {c : List Span}, Can c → (∀ s ∈ c, lo ≤ s.1 ∧ s.2 ≤ lo + n) → spanSum c = cnt (Mem c) lo n
  | [], _, _ => by
    rw [cnt_congr (q := fun _ => False) (fun x => ⟨mem_nil x, False.elim⟩) lo n, cnt_none]
    rfl
  | s :: c, hc, hb => by
    have ih := cnt_can (can_tail hc) fun t ht => hb t (List.mem_cons_of_mem _ ht)
    have b := hb s List.mem_cons_self
    have p := hc.2 s List.mem_cons_self
    have e : spanSum (s :: c) = (s.2 - s.1) + spanSum c := by
      unfold spanSum
      rw [List.map_cons, List.sum_cons]
    have a := cnt_add (fun x => s.1 ≤ x ∧ x < s.2) (Mem c) lo n
    rw [cnt_congr (q := Mem (s :: c)) (fun x => mem_cons.symm) lo n, cnt_congr (p := fun x => (s.1 ≤ x ∧ x < s.2) ∧ Mem c x) (q := fun _ => False) (fun x => ⟨fun h => by
      have := can_head hc h.2
      omega, False.elim⟩) lo n, cnt_none, cnt_span b.1 (by omega) n, if_neg (by omega)] at a
    rw [e, ih]
    by_cases e2 : lo + (n : Int) ≤ s.2
    · rw [if_pos e2] at a
      omega
    · rw [if_neg e2] at a
      omega
theorem held_sums {a b o m : List Span} (ha : Can a) (hb : Can b) (ho : Can o) (hm : Can m) (sa : ∀ s ∈ a, isSpan s = true) (sb : ∀ s ∈ b, isSpan s = true) (so : ∀ s ∈ o, isSpan s = true) (sm : ∀ s ∈ m, isSpan s = true)
    (e1 : ∀ x, Mem o x ↔ Mem a x ∨ Mem b x) (e2 : ∀ x, Mem m x ↔ Mem a x ∧ Mem b x) : spanSum o + spanSum m = spanSum a + spanSum b := by
  obtain ⟨n, hn⟩ : ∃ n : Nat, (n : Int) = 1999999999998 := ⟨1999999999998, rfl⟩
  have bd : ∀ {c : List Span}, (∀ s ∈ c, isSpan s = true) → ∀ s ∈ c, (-999999999999 : Int) ≤ s.1 ∧ s.2 ≤ -999999999999 + (n : Int) := fun h s hs => by
    have := (isSpan_iff s).mp (h s hs)
    omega
  rw [cnt_can ha (bd sa), cnt_can hb (bd sb), cnt_can ho (bd so), cnt_can hm (bd sm), cnt_congr e1, cnt_congr e2]
  exact cnt_add _ _ _ _
section
variable {P : Program} {w : World} {K : PySem.W.Frag} {mg : Str → Option Value} {base : Heap}
/-! ### the law's own spans and covers -/
def spSpansL : Sp := fun vs H Q _ => ∃ (p e : Addr) (m : Nat) (n : Nat) (zs : List Int), vs = [.ref p, .ref e, .int (m : Int)] ∧ Pu H p n ∧ n + 3 + 21 * (m + 1) ≤ 1000000000 ∧ H e = some (.lst (zs.map V.int)) ∧ e ≠ p ∧ zs.length ≤ 1000 ∧ m ≤ 100 ∧
  ∀ (H' : Hp) (f : Addr) (us : List V) (ss : List Span) (zs' : List Int), Chg [p, e] H H' → Pu H' p (n + 3 + 21 * m) → H' e = some (.lst (zs'.map V.int)) → zs'.length ≤ zs.length + 2 * m → H f = none → H' f = some (.lst us) → Sps H' us ss → (∀ s ∈ ss, isSpan s = true) → ss.length ≤ m → Q (.ref f) H'
theorem ok_spans (T : Tx K mg) : FnOk P w K mg base CX0 (6) T.f_l_spans T.fd_l_spans ["_law_purse_here", "_law_ends", "_law_most"] spSpansL := by
  have G_l_draw : FnOk P w K mg base CX0 _ _ _ _ _ := ok_draw T
  have G_l_span : FnOk P w K mg base CX0 _ _ _ _ _ := ok_span T
  refine T.F_l_spans.ok sc_l_spans (fun vs H Q E h => ?_) (fun cdv A outer s H vs Q E hr h => ?_)
  · obtain ⟨p, e, m, n, zs, rfl, _⟩ := h
    rfl
  · obtain ⟨p, e, m, n, zs, rfl, pu, hn, hE, nep, hz, hm, q⟩ := h
    refine ⟨_, (pss_cons (ps_set (i := 3) sc_l_spans.nd rfl (Or.inl rfl) (pe_lst pa_nil))
      (pss_cons (ps_for PassesOwn.never (by rfl) (pi_range1 (by rfl) T.m_range (pa_cons (pe_call G_l_draw (hr.mono (by decide)) (by rfl) T.g_l_draw T.F_l_draw.kp T.b_l_draw .nil pass0 (pa_cons (pv 0) (pa_cons (pe_op op_add (pv 2) pe_int) pa_nil))) pa_nil)) (pg_name (i := 4) sc_l_spans.nd rfl (Or.inl rfl))
        (pss_one (ps_if (PW.pt (pw_and (pt_cmpR (op_neD hr.units) (pv 3) (pe_lst pa_nil) (nomark _)) (pw_and1 (pt_cmpR op_eq (pe_call G_l_draw (hr.mono (by decide)) (by rfl) T.g_l_draw T.F_l_draw.kp T.b_l_draw .nil pass0 (pa_cons (pv 0) (pa_cons pe_int pa_nil))) pe_int (nomark _))))) (pss_one (ps_expr (pe_bm PySem.F.plainAttrs_list PySem.F.slot_list_append PySem.F.type_list_append mt_append (pv 3) (pa_cons (pe_ix ix_list (pv 3) (pe_call G_l_draw (hr.mono (by decide)) (by rfl) T.g_l_draw T.F_l_draw.kp T.b_l_draw .nil pass0 (pa_cons (pv 0) (pa_cons (pe_callB call_len_seq (by rfl) T.m_len PySem.boot_len (pa_cons (pv 3) pa_nil)) pa_nil))) (fun _ _ => rfl)) pa_nil)))) (pss_one (ps_expr (pe_bm PySem.F.plainAttrs_list PySem.F.slot_list_append PySem.F.type_list_append mt_append (pv 3) (pa_cons (pe_call G_l_span (hr.mono (by decide)) (by rfl) T.g_l_span T.F_l_span.kp T.b_l_span .nil pass0 (pa_cons (pv 0) (pa_cons (pv 1) (pa_cons (pe_op op_sub (pe_op op_pow pe_int pe_int) pe_int) pa_nil)))) pa_nil)))))))
      (pss_one (ps_ret (pv 3))))), ?_⟩
    have e12 : (10 : Int) ^ (12 : Int).toNat = 1000000000000 := by decide
    refine ⟨Nat.zero_le _, fun f nf => ?_⟩
    obtain ⟨gf, sf⟩ := upd_at (o := .lst []) nf
    have nfp : f ≠ p := (pu.ne nf).symm
    have nfe : f ≠ e := (ne_of_none hE nf).symm
    refine ⟨_, rfl, _, rfl, _, _, rfl, rfl, p, _, n, rfl, pu.same sf, by omega, by omega, by omega, fun H1 r c1 p1 r0 r1 => ?_⟩
    have rm : r.toNat ≤ m := by omega
    refine ⟨r, rfl, by omega, by omega, ?_⟩
    refine for_range (lo := 0) (n := r.toNat) (fun i σ H' => ∃ (y4 : Option V) (us : List V) (ss : List Span) (ws : List Int), σ = [some (.ref p), some (.ref e), some (.int (m : Int)), some (.ref f), y4] ∧ Chg [p, e] H H' ∧ Pu H' p (n + 3 + 21 * i) ∧ H' e = some (.lst (ws.map V.int)) ∧ ws.length ≤ zs.length + 2 * i ∧ H' f = some (.lst us) ∧ Sps H' us ss ∧ (∀ s ∈ ss, isSpan s = true) ∧ ss.length = i)
      ⟨none, [], [], zs, rfl, (Chg.of_same sf).trans (c1.mono fun x hx => by rw [List.mem_singleton.mp hx]; exact List.mem_cons_self), p1, c1 _ _ (nmem1 nep) (sf _ _ hE), by omega, c1 _ _ (nmem1 nfp) gf, .nil, (fun s hs => nomatch hs), rfl⟩ ?_ ?_
    · rintro i σ H' hi ⟨y4, us, ss, ws, rfl, cc, pi, hE', hw, hf, hS, ok, hl⟩
      have hul := hS.len
      refine ⟨_, rfl, Nat.zero_le _, fun l nl => ?_⟩
      obtain ⟨gl, sl⟩ := upd_at (o := .lst []) nl
      refine ⟨_, _, hS.same sl |>.dp (SqL.of (sl _ _ hf)), .lst (SqL.of gl) .nil, shaped_spans ss, shaped_nil, _, rfl, ?_⟩
      rw [eqv_spans_nil]
      have up : ∀ {X Y : Hp}, Chg [p] X Y → Chg [p, e] X Y := fun c => c.mono fun x hx => by
        rw [List.mem_singleton.mp hx]
        exact List.mem_cons_self
      -- a new span
      have fresh : ∀ (H2 : Hp), Chg [p, e] H' H2 → Pu H2 p (n + 3 + 21 * i + 3) → H2 e = some (.lst (ws.map V.int)) → H2 f = some (.lst us) → Sps H2 us ss →
          (tDrop (tBM K "list" rAppend (tVar 3) (tCons (tCall spSpan [] E0 (tCons (tVar 0) (tCons (tVar 1) (tCons (tOp (rI0 fun i j => .int (i - j)) (tOp (rI CPow fun i j => .int (i ^ j.toNat)) (tC (.int 10)) (tC (.int 12))) (tC (.int 1))) tNil)))) tNil))) { nx := fun σ' H3 => ∃ (y4 : Option V) (us : List V) (ss : List Span) (ws : List Int), σ' = [some (.ref p), some (.ref e), some (.int (m : Int)), some (.ref f), y4] ∧ Chg [p, e] H H3 ∧ Pu H3 p (n + 3 + 21 * (i + 1)) ∧ H3 e = some (.lst (ws.map V.int)) ∧ ws.length ≤ zs.length + 2 * (i + 1) ∧ H3 f = some (.lst us) ∧ Sps H3 us ss ∧ (∀ s ∈ ss, isSpan s = true) ∧ ss.length = i + 1, rt := Q } [some (.ref p), some (.ref e), some (.int (m : Int)), some (.ref f), some (.int (0 + (i : Int)))] H2 := fun H2 c2 p2 hE2 hf2 hS2 => by
        refine ⟨_, rfl, .inl ⟨rfl, _, SqL.of hf2⟩, _, rfl, _, rfl, _, _, rfl, rfl, ⟨by decide, by decide, by decide⟩, _, _, rfl, rfl, p, e, _, _, ws, rfl, p2, by omega, hE2, nep, by omega, by rw [e12]; decide, by rw [e12]; decide, fun H3 t lo hi c3 p3 hE3 nt ht b1 b2 b3 => ?_⟩
        rw [e12] at b1 b3
        have hf3 := c3 _ _ (nmem2 nfp nfe) hf2
        have lp : Lsts [p, e] H2 := p2.lsts.two (Lsts.of1 hE2)
        have hS3 : Sps H3 (us ++ [.ref t]) (ss ++ [(lo, hi)]) := (hS2.chg c3 lp).app (.one ⟨t, rfl, ht⟩)
        have cf : Chg [f] H3 (upd H3 f (.lst (us ++ [.ref t]))) := Chg.upd List.mem_cons_self
        have lf : Lsts [f] H3 := Lsts.of1 hf3
        refine ⟨f, us, .ref t, rfl, rfl, hf3, small_lt (by omega), _, us ++ [.ref t], ss ++ [(lo, hi)], ws ++ [lo, hi], rfl, ?_, (p3.chg cf (nmem1 nfp.symm)).mono (by omega), cf _ _ (nmem1 nfe.symm) hE3, ?_, upd_same, hS3.chg cf lf, fun s hs => ?_, ?_⟩
        · exact fun b o nb hb => by
            have h3 := (cc.trans (c2.trans c3)) b o nb hb
            rw [upd_ne (ne_of_none hb nf)]
            exact h3
        · rw [List.length_append]
          simp
          omega
        · rcases List.mem_append.mp hs with h | h
          · exact ok s h
          · rw [List.mem_singleton.mp h]
            exact (isSpan_iff (lo, hi)).mpr ⟨by simpa using b1, b2, by simpa using b3⟩
        · rw [List.length_append, hl]
          rfl
      by_cases hnil : ss = []
      · rw [decide_eq_true hnil]
        exact iteF (iteF (fresh _ (Chg.of_same sl) ((pi.same sl).mono (by omega)) (sl _ _ hE') (sl _ _ hf) (hS.same sl)))
      · rw [decide_eq_false hnil]
        have h0 : 0 < ss.length := List.length_pos_iff.mpr hnil
        refine iteT ⟨_, rfl, p, 6, _, rfl, pi.same sl, by omega, by decide, by decide, fun H2 x c2 p2 x0 x1 => ?_⟩
        have hE2 := c2 _ _ (nmem1 nep) (sl _ _ hE')
        have hf2 := c2 _ _ (nmem1 nfp) (sl _ _ hf)
        have hS2 := (hS.same sl).chg c2 (pi.same sl).lsts
        refine ⟨rfl, _, rfl, ite2 (fun _ => ?_) (fun _ => ?_)⟩
        · refine ⟨_, rfl, .inl ⟨rfl, _, SqL.of hf2⟩, _, rfl, _, rfl, _, rfl, f, _, rfl, .inl (SqL.of hf2), p, us.length, _, rfl, p2, by omega, by omega, by omega, fun H3 y c3 p3 y0 y1 => ?_⟩
          have hf3 := c3 _ _ (nmem1 nfp) hf2
          have hS3 := hS2.chg c3 p2.lsts
          have hy : y.toNat < us.length := by omega
          obtain ⟨sp, es, hsp⟩ := hS3.get (List.getElem?_eq_getElem hy)
          refine ⟨f, us, y, us[y.toNat], rfl, rfl, SqL.of hf3, at_of (j := y.toNat) (by omega) (List.getElem?_eq_getElem hy), ?_⟩
          have cf : Chg [f] H3 (upd H3 f (.lst (us ++ [us[y.toNat]]))) := Chg.upd List.mem_cons_self
          have lf : Lsts [f] H3 := Lsts.of1 hf3
          refine ⟨f, us, _, rfl, rfl, hf3, small_lt (by omega), _, us ++ [us[y.toNat]], ss ++ [sp], ws, rfl, ?_, (p3.chg cf (nmem1 nfp.symm)).mono (by omega), cf _ _ (nmem1 nfe.symm) (c3 _ _ (nmem1 nep) hE2), by omega, upd_same, (hS3.app (.one hsp)).chg cf lf, fun s hs => ?_, ?_⟩
          · exact fun b o nb hb => by
              have h3 := (cc.trans ((Chg.of_same sl).trans (up (c2.trans c3)))) b o nb hb
              rw [upd_ne (ne_of_none hb nf)]
              exact h3
          · rcases List.mem_append.mp hs with h | h
            · exact ok s h
            · rw [List.mem_singleton.mp h]
              exact ok sp (List.mem_of_getElem? es)
          · rw [List.length_append, hl]
            rfl
        · exact fresh _ ((Chg.of_same sl).trans (up c2)) p2 hE2 hf2 hS2
    · rintro σ H' ⟨y4, us, ss, ws, rfl, cc, pi, hE', hw, hf, hS, ok, hl⟩
      exact ⟨_, rfl, q H' f us ss ws cc (pi.mono (by omega)) hE' (by omega) nf hf hS ok (by omega)⟩
end
section
variable {P : Program} {w : World} {K : PySem.W.Frag} {mg : Str → Option Value} {base : Heap}
/-! ### the law: covers of three -/
/-- v is the cover c, of at most n spans -/
structure Cv (H : Hp) (v : V) (c : List Span) (n : Nat) : Prop where
  ex : ∃ l us, v = .ref l ∧ H l = some (.lst us) ∧ Sps H us c
  can : Can c
  ok : ∀ s ∈ c, isSpan s = true
  len : c.length ≤ n
theorem Cv.same {H H' : Hp} {v : V} {c : List Span} {n : Nat} (h : Cv H v c n) (e : Same H H') : Cv H' v c n := by
  obtain ⟨⟨l, us, h1, h2, h3⟩, can, ok, len⟩ := h
  exact ⟨⟨l, us, h1, e _ _ h2, h3.same e⟩, can, ok, len⟩
theorem Cv.chg {H H' : Hp} {v : V} {c : List Span} {n : Nat} {Ps : List Addr} (h : Cv H v c n) (t : Tb Ps H) (e : Chg Ps H H') : Cv H' v c n := by
  obtain ⟨⟨l, us, h1, h2, h3⟩, can, ok, len⟩ := h
  exact ⟨⟨l, us, h1, e _ _ (t.out h2 (fun ps z => by cases z)) h2, h3.chg e t.lsts⟩, can, ok, len⟩
theorem Cv.dp {H : Hp} {v : V} {c : List Span} {n : Nat} (h : Cv H v c n) : Dp K H v (.list (c.map spD)) := by
  obtain ⟨⟨l, us, rfl, h2, h3⟩, _⟩ := h
  exact h3.dp (SqL.of h2)
theorem Cv.ref1 {H : Hp} {v : V} {c : List Span} {n : Nat} (h : Cv H v c n) (hn : n ≤ 200) : ref1 c = 0 := can_ref1 h.can h.ok (Nat.le_trans h.len hn)
def spTwoV (T : Tx K mg) (g : List Span → List Span → Int → Prop) : Sp := fun vs H Q _ => ∃ (u v : V) (ss rs : List Span) (n m : Nat), vs = [u, v] ∧ Tb T.tabs H ∧ Cv H u ss n ∧ Cv H v rs m ∧ n ≤ 200 ∧ m ≤ 200 ∧
  ∀ (H' : Hp) (p : V) (c : List Span), Chg T.tabs H H' → Tb T.tabs H' → Cv H' p c (n + m + 1) → (∀ x, Mem c x ↔ g ss rs x) → Q p H'
theorem two_v {CX : CXT} {k : Nat} {f : Addr} {fd : FuncData} {ps : List Str} {T : Tx K mg} {g : List Span → List Span → Int → Prop} (F : FnOk P w K mg base CX k f fd ps (spTwoC T g)) : FnOk P w K mg base CX k f fd ps (spTwoV T g) := F.imp fun vs H Q E h => by
  obtain ⟨u, v, ss, rs, n, m, rfl, tb, hu, hv, n2, m2, q⟩ := h
  have r1 := hu.ref1 n2
  have r2 := hv.ref1 m2
  obtain ⟨⟨a, us, rfl, ha, hs⟩, can1, ok1, len1⟩ := hu
  obtain ⟨⟨b, ws, rfl, hb, hr⟩, can2, ok2, len2⟩ := hv
  refine ⟨a, b, us, ws, ss, rs, rfl, ⟨ha, hs, hb, hr, tb⟩, fun _ _ H' p xs c c1 tb1 np hp hc can ok mem cl => q H' (.ref p) c c1 tb1 ⟨⟨p, xs, rfl, hp, hc⟩, can, ok, by omega⟩ mem, fun n n0 h => ?_⟩
  rcases h with h | ⟨_, h⟩
  · exact absurd (h.symm.trans r1) n0
  · exact absurd (h.symm.trans r2) n0
def spHeldV (T : Tx K mg) : Sp := fun vs H Q _ => ∃ (u : V) (c : List Span) (n : Nat), vs = [u] ∧ Tb T.tabs H ∧ Cv H u c n ∧ n ≤ 200 ∧ ∀ H', Chg T.tabs H H' → Tb T.tabs H' → Q (.int (spanSum c)) H'
theorem held_v {CX : CXT} {k : Nat} {f : Addr} {fd : FuncData} {ps : List Str} {T : Tx K mg} (F : FnOk P w K mg base CX k f fd ps (spHeld T)) : FnOk P w K mg base CX k f fd ps (spHeldV T) := F.imp fun vs H Q E h => by
  obtain ⟨u, c, n, rfl, tb, hu, n2, q⟩ := h
  obtain ⟨⟨a, us, rfl, ha, hs⟩, can1, ok1, len1⟩ := hu
  have h1 : c.all isSpan = true := List.all_eq_true.mpr ok1
  have h2 : isCoverB c = true := cover_can can1 (Nat.le_trans len1 n2)
  refine ⟨a, us, c, rfl, ha, hs, tb, fun _ _ => q, fun z => ?_, fun _ z => ?_⟩
  · rw [h1] at z
    cases z
  · rw [h2] at z
    cases z
def spTwoRight (T : Tx K mg) : Sp := fun vs H Q _ => ∃ (u v t : V) (c1 c2 c3 : List Span), vs = [u, v, t] ∧ Tb T.tabs H ∧ Cv H u c1 20 ∧ Cv H v c2 20 ∧ Cv H t c3 20 ∧ (∀ x, Mem c3 x ↔ Mem c1 x ∨ Mem c2 x) ∧ ∀ H', Chg T.tabs H H' → Tb T.tabs H' → Q (.bl true) H'
theorem ok_two_right (T : Tx K mg) (B : Tbs T base) : FnOk P w K mg base CX0 (9) T.f_l_two_right T.fd_l_two_right ["_law_one", "_law_other", "_law_together"] (spTwoRight T) := by
  have G_both : FnOk P w K mg base (L2.CX P w) _ _ _ _ _ := two_v (ok_both T B)
  have G_either : FnOk P w K mg base (L2.CX P w) _ _ _ _ _ := two_v (ok_either T B)
  have G_less : FnOk P w K mg base (L2.CX P w) _ _ _ _ _ := two_v (ok_less T B)
  have G_held : FnOk P w K mg base (L2.CX P w) _ _ _ _ _ := held_v (ok_held T B)
  refine T.F_l_two_right.ok sc_l_two_right (fun vs H Q E h => ?_) (fun cdv A outer s H vs Q E hr h => ?_)
  · obtain ⟨u, v, t, c1, c2, c3, rfl, _⟩ := h
    rfl
  · obtain ⟨u, v, t, c1, c2, c3, rfl, tb, h1, h2, h3, m3, q⟩ := h
    refine ⟨_, (pss_cons (ps_set (i := 3) sc_l_two_right.nd rfl (Or.inl rfl) (pe_call G_both (hr.mono (by decide)) (by rfl) T.g_both T.F_both.kp T.b_both .nil passL (pa_cons (pv 0) (pa_cons (pv 1) pa_nil))))
      (pss_cons (ps_set (i := 4) sc_l_two_right.nd rfl (Or.inl rfl) (pe_call G_less (hr.mono (by decide)) (by rfl) T.g_less T.F_less.kp T.b_less .nil passL (pa_cons (pv 0) (pa_cons (pv 1) pa_nil))))
      (pss_cons (ps_if (PW.pt (pw_or (pt_cmpR (op_neD hr.units) (pe_call G_either (hr.mono (by decide)) (by rfl) T.g_either T.F_either.kp T.b_either .nil passL (pa_cons (pv 3) (pa_cons (pv 4) pa_nil))) (pv 0) (nomark _)) (pw_or (pt_cmpR (op_neD hr.units) (pe_call G_both (hr.mono (by decide)) (by rfl) T.g_both T.F_both.kp T.b_both .nil passL (pa_cons (pv 3) (pa_cons (pv 4) pa_nil))) (pe_lst pa_nil) (nomark _)) (pw_or1 (pt_cmpR (op_neD hr.units) (pe_call G_both (hr.mono (by decide)) (by rfl) T.g_both T.F_both.kp T.b_both .nil passL (pa_cons (pv 4) (pa_cons (pv 1) pa_nil))) (pe_lst pa_nil) (nomark _)))))) (pss_one (ps_ret pe_bl)) pss_nil)
      (pss_cons (ps_if (PW.pt (pw_or (pt_cmpR (op_neD hr.units) (pe_call G_both (hr.mono (by decide)) (by rfl) T.g_both T.F_both.kp T.b_both .nil passL (pa_cons (pv 1) (pa_cons (pv 0) pa_nil))) (pv 3) (nomark _)) (pw_or (pt_cmpR (op_neD hr.units) (pe_call G_either (hr.mono (by decide)) (by rfl) T.g_either T.F_either.kp T.b_either .nil passL (pa_cons (pv 0) (pa_cons (pv 1) pa_nil))) (pv 2) (nomark _)) (pw_or1 (pt_cmpR (op_neD hr.units) (pe_call G_either (hr.mono (by decide)) (by rfl) T.g_either T.F_either.kp T.b_either .nil passL (pa_cons (pv 1) (pa_cons (pv 0) pa_nil))) (pv 2) (nomark _)))))) (pss_one (ps_ret pe_bl)) pss_nil)
      (pss_cons (ps_if (PW.pt (pw_or (pt_cmpR op_ne (pe_op op_add (pe_call G_held (hr.mono (by decide)) (by rfl) T.g_held T.F_held.kp T.b_held .nil passL (pa_cons (pv 2) pa_nil)) (pe_call G_held (hr.mono (by decide)) (by rfl) T.g_held T.F_held.kp T.b_held .nil passL (pa_cons (pv 3) pa_nil))) (pe_op op_add (pe_call G_held (hr.mono (by decide)) (by rfl) T.g_held T.F_held.kp T.b_held .nil passL (pa_cons (pv 0) pa_nil)) (pe_call G_held (hr.mono (by decide)) (by rfl) T.g_held T.F_held.kp T.b_held .nil passL (pa_cons (pv 1) pa_nil))) (nomark _)) (pw_or1 (pt_cmpR op_ne (pe_op op_add (pe_call G_held (hr.mono (by decide)) (by rfl) T.g_held T.F_held.kp T.b_held .nil passL (pa_cons (pv 4) pa_nil)) (pe_call G_held (hr.mono (by decide)) (by rfl) T.g_held T.F_held.kp T.b_held .nil passL (pa_cons (pv 3) pa_nil))) (pe_call G_held (hr.mono (by decide)) (by rfl) T.g_held T.F_held.kp T.b_held .nil passL (pa_cons (pv 0) pa_nil)) (nomark _))))) (pss_one (ps_ret pe_bl)) pss_nil)
      (pss_one (ps_ret (pe_and (pe_cmpR (op_eqD hr.units) (pe_call G_less (hr.mono (by decide)) (by rfl) T.g_less T.F_less.kp T.b_less .nil passL (pa_cons (pv 2) (pa_cons (pv 1) pa_nil))) (pv 4) (nomark _)) (pe_and (pe_cmpR (op_eqD hr.units) (pe_call G_less (hr.mono (by decide)) (by rfl) T.g_less T.F_less.kp T.b_less .nil passL (pa_cons (pv 0) (pa_cons (pv 4) pa_nil))) (pv 3) (nomark _)) (pe_one (pe_cmpR (op_eqD hr.units) (pe_call G_less (hr.mono (by decide)) (by rfl) T.g_less T.F_less.kp T.b_less .nil passL (pa_cons (pv 3) (pa_cons (pv 0) pa_nil))) (pe_lst pa_nil) (nomark _)))))))))))), ?_⟩
    refine ⟨_, rfl, _, rfl, u, v, c1, c2, 20, 20, rfl, tb, h1, h2, by decide, by decide, fun H1 vc cc e1 tb1 hc mc => ?_⟩
    refine ⟨_, rfl, _, rfl, u, v, c1, c2, 20, 20, rfl, tb1, h1.chg tb e1, h2.chg tb e1, by decide, by decide, fun H2 va ca e2 tb2 ha ma => ?_⟩
    have st : ∀ {X : Hp}, Chg T.tabs H2 X → Cv X u c1 20 ∧ Cv X v c2 20 ∧ Cv X t c3 20 ∧ Cv X vc cc 41 ∧ Cv X va ca 41 := fun {X} e =>
      ⟨((h1.chg tb e1).chg tb1 e2).chg tb2 e, ((h2.chg tb e1).chg tb1 e2).chg tb2 e, ((h3.chg tb e1).chg tb1 e2).chg tb2 e, (hc.chg tb1 e2).chg tb2 e, ha.chg tb2 e⟩
    have e12 := e1.trans e2
    clear h1 h2 h3
    -- either(common, alone) != one
    obtain ⟨h1, h2, h3, hC, hA⟩ := st (Chg.refl _ H2)
    refine ⟨_, rfl, _, rfl, vc, va, cc, ca, 41, 41, rfl, tb2, hC, hA, by decide, by decide, fun H3 p3 d3 f3 tb3 k3 m4 => ?_⟩
    obtain ⟨h1, h2, h3, hC, hA⟩ := st f3
    refine ⟨_, rfl, _, _, k3.dp, h1.dp, shaped_spans _, shaped_spans _, _, rfl, ?_⟩
    rw [eqv_spans, decide_eq_true (can_ext k3.can h1.can fun x => by
      simp only [m4, eitherP, mc, ma, bothP, lessP]
      by_cases a : Mem c1 x <;> by_cases b : Mem c2 x <;> simp [a, b])]
    refine iteF ?_
    -- both(common, alone) != []
    refine ⟨_, rfl, _, rfl, vc, va, cc, ca, 41, 41, rfl, tb3, hC, hA, by decide, by decide, fun H4 p4 d4 f4 tb4 k4 m5 => ?_⟩
    have g4 := f3.trans f4
    refine ⟨Nat.zero_le _, fun l4 n4 => ?_⟩
    obtain ⟨gl4, sl4⟩ := upd_at (o := .lst []) n4
    refine ⟨_, _, (k4.same sl4).dp, .lst (SqL.of gl4) .nil, shaped_spans _, shaped_nil, _, rfl, ?_⟩
    rw [eqv_spans_nil, decide_eq_true (can_ext k4.can can_nil fun x => by
      simp only [m5, mc, ma, bothP, lessP]
      by_cases a : Mem c1 x <;> by_cases b : Mem c2 x <;> simp [a, b, mem_nil])]
    refine iteF ?_
    have tb5 := tb4.same sl4
    have g5 := g4.trans (Chg.of_same sl4)
    revert tb5 g5
    generalize upd H4 l4 (.lst []) = H5
    intro tb5 g5
    -- both(alone, other) != []
    obtain ⟨h1, h2, h3, hC, hA⟩ := st g5
    refine ⟨_, rfl, _, rfl, va, v, ca, c2, 41, 20, rfl, tb5, hA, h2, by decide, by decide, fun H6 p6 d6 f6 tb6 k6 m6 => ?_⟩
    have g6 := g5.trans f6
    refine ⟨Nat.zero_le _, fun l6 n6 => ?_⟩
    obtain ⟨gl6, sl6⟩ := upd_at (o := .lst []) n6
    refine ⟨_, _, (k6.same sl6).dp, .lst (SqL.of gl6) .nil, shaped_spans _, shaped_nil, _, rfl, ?_⟩
    rw [eqv_spans_nil, decide_eq_true (can_ext k6.can can_nil fun x => by
      simp only [m6, mc, ma, bothP, lessP]
      by_cases a : Mem c1 x <;> by_cases b : Mem c2 x <;> simp [a, b, mem_nil])]
    refine iteF ?_
    have tb7 := tb6.same sl6
    have g7 := g6.trans (Chg.of_same sl6)
    revert tb7 g7
    generalize upd H6 l6 (.lst []) = H7
    intro tb7 g7
    -- both(other, one) != common
    obtain ⟨h1, h2, h3, hC, hA⟩ := st g7
    refine ⟨_, rfl, _, rfl, v, u, c2, c1, 20, 20, rfl, tb7, h2, h1, by decide, by decide, fun H8 p8 d8 f8 tb8 k8 m8 => ?_⟩
    have g8 := g7.trans f8
    obtain ⟨h1, h2, h3, hC, hA⟩ := st g8
    refine ⟨_, rfl, _, _, k8.dp, hC.dp, shaped_spans _, shaped_spans _, _, rfl, ?_⟩
    rw [eqv_spans, decide_eq_true (can_ext k8.can hC.can fun x => by
      simp only [m8, mc, bothP]
      by_cases a : Mem c1 x <;> by_cases b : Mem c2 x <;> simp [a, b])]
    refine iteF ?_
    -- either(one, other) != together
    refine ⟨_, rfl, _, rfl, u, v, c1, c2, 20, 20, rfl, tb8, h1, h2, by decide, by decide, fun H9 p9 d9 f9 tb9 k9 m9 => ?_⟩
    have g9 := g8.trans f9
    obtain ⟨h1, h2, h3, hC, hA⟩ := st g9
    refine ⟨_, rfl, _, _, k9.dp, h3.dp, shaped_spans _, shaped_spans _, _, rfl, ?_⟩
    rw [eqv_spans, decide_eq_true (can_ext k9.can h3.can fun x => by
      simp only [m9, m3, eitherP])]
    refine iteF ?_
    -- either(other, one) != together
    refine ⟨_, rfl, _, rfl, v, u, c2, c1, 20, 20, rfl, tb9, h2, h1, by decide, by decide, fun Ha pa da fa tba ka m_a => ?_⟩
    have ga := g9.trans fa
    obtain ⟨h1, h2, h3, hC, hA⟩ := st ga
    refine ⟨_, rfl, _, _, ka.dp, h3.dp, shaped_spans _, shaped_spans _, _, rfl, ?_⟩
    rw [eqv_spans, decide_eq_true (can_ext ka.can h3.can fun x => by
      simp only [m_a, m3, eitherP]
      by_cases a : Mem c1 x <;> by_cases b : Mem c2 x <;> simp [a, b])]
    refine iteF ?_
    -- held
    refine ⟨_, rfl, t, c3, 20, rfl, tba, h3, by decide, fun Hb fb tbb => ?_⟩
    have gb := ga.trans fb
    obtain ⟨h1, h2, h3, hC, hA⟩ := st gb
    refine ⟨_, rfl, vc, cc, 41, rfl, tbb, hC, by decide, fun Hc fc tbc => ?_⟩
    have gc := gb.trans fc
    obtain ⟨h1, h2, h3, hC, hA⟩ := st gc
    refine ⟨_, _, rfl, rfl, _, rfl, u, c1, 20, rfl, tbc, h1, by decide, fun Hd fd' tbd => ?_⟩
    have gd := gc.trans fd'
    obtain ⟨h1, h2, h3, hC, hA⟩ := st gd
    refine ⟨_, rfl, v, c2, 20, rfl, tbd, h2, by decide, fun He fe tbe => ?_⟩
    have ge := gd.trans fe
    obtain ⟨h1, h2, h3, hC, hA⟩ := st ge
    have sum1 : spanSum c3 + spanSum cc = spanSum c1 + spanSum c2 := held_sums h1.can h2.can h3.can hC.can h1.ok h2.ok h3.ok hC.ok m3 mc
    refine ⟨_, _, rfl, rfl, rfl, _, rfl, iteNS (congrArg V.int sum1) ?_⟩
    refine ⟨_, rfl, va, ca, 41, rfl, tbe, hA, by decide, fun Hf ff tbf => ?_⟩
    have gf := ge.trans ff
    obtain ⟨h1, h2, h3, hC, hA⟩ := st gf
    refine ⟨_, rfl, vc, cc, 41, rfl, tbf, hC, by decide, fun Hg fg tbg => ?_⟩
    have gg := gf.trans fg
    obtain ⟨h1, h2, h3, hC, hA⟩ := st gg
    refine ⟨_, _, rfl, rfl, _, rfl, u, c1, 20, rfl, tbg, h1, by decide, fun Hh fh tbh => ?_⟩
    have gh := gg.trans fh
    obtain ⟨h1, h2, h3, hC, hA⟩ := st gh
    have sum2 : spanSum ca + spanSum cc = spanSum c1 := by
      have z : spanSum c1 + spanSum [] = spanSum ca + spanSum cc := held_sums hA.can hC.can h1.can can_nil hA.ok hC.ok h1.ok (fun s hs => nomatch hs) (fun x => by
        simp only [mc, ma, bothP, lessP]
        by_cases a : Mem c1 x <;> by_cases b : Mem c2 x <;> simp [a, b]) (fun x => by
        simp only [mc, ma, bothP, lessP]
        by_cases a : Mem c1 x <;> by_cases b : Mem c2 x <;> simp [a, b, mem_nil])
      have z0 : spanSum [] = 0 := rfl
      omega
    refine ⟨rfl, _, rfl, iteNS (congrArg V.int sum2) ?_⟩
    -- less(together, other) == alone
    refine ⟨_, rfl, _, rfl, t, v, c3, c2, 20, 20, rfl, tbh, h3, h2, by decide, by decide, fun Hi pi di fi tbi ki mi => ?_⟩
    have gi := gh.trans fi
    obtain ⟨h1, h2, h3, hC, hA⟩ := st gi
    refine ⟨_, rfl, _, _, ki.dp, hA.dp, shaped_spans _, shaped_spans _, ?_⟩
    rw [eqv_spans, decide_eq_true (can_ext ki.can hA.can fun x => by
      simp only [mi, ma, m3, lessP]
      by_cases a : Mem c1 x <;> by_cases b : Mem c2 x <;> simp [a, b])]
    refine ⟨true, rfl, iteT ?_⟩
    -- less(one, alone) == common
    refine ⟨_, rfl, _, rfl, u, va, c1, ca, 20, 41, rfl, tbi, h1, hA, by decide, by decide, fun Hj pj dj fj tbj kj mj => ?_⟩
    have gj := gi.trans fj
    obtain ⟨h1, h2, h3, hC, hA⟩ := st gj
    refine ⟨_, rfl, _, _, kj.dp, hC.dp, shaped_spans _, shaped_spans _, ?_⟩
    rw [eqv_spans, decide_eq_true (can_ext kj.can hC.can fun x => by
      simp only [mj, ma, mc, lessP, bothP]
      by_cases a : Mem c1 x <;> by_cases b : Mem c2 x <;> simp [a, b])]
    refine ⟨true, rfl, iteT ?_⟩
    -- less(common, one) == []
    refine ⟨_, rfl, _, rfl, vc, u, cc, c1, 41, 20, rfl, tbj, hC, h1, by decide, by decide, fun Hk pk dk fk tbk kk mk => ?_⟩
    have gk := gj.trans fk
    refine ⟨Nat.zero_le _, fun l n => ?_⟩
    obtain ⟨gl, sl⟩ := upd_at (o := .lst []) n
    refine ⟨_, _, (kk.same sl).dp, .lst (SqL.of gl) .nil, shaped_spans _, shaped_nil, ?_⟩
    rw [eqv_spans_nil, decide_eq_true (can_ext kk.can can_nil fun x => by
      simp only [mk, mc, bothP, lessP]
      by_cases a : Mem c1 x <;> by_cases b : Mem c2 x <;> simp [a, b, mem_nil])]
    exact q _ (e12.trans (gk.trans (Chg.of_same sl))) (tbk.same sl)
end
section
variable {P : Program} {w : World} {K : PySem.W.Frag} {mg : Str → Option Value} {base : Heap}
def spThreeRight (T : Tx K mg) : Sp := fun vs H Q _ => ∃ (u v t : V) (c1 c2 c3 : List Span), vs = [u, v, t] ∧ Tb T.tabs H ∧ Cv H u c1 20 ∧ Cv H v c2 20 ∧ Cv H t c3 20 ∧ ∀ H', Chg T.tabs H H' → Tb T.tabs H' → Q (.bl true) H'
theorem ok_three_right (T : Tx K mg) (B : Tbs T base) : FnOk P w K mg base CX0 (9) T.f_l_three_right T.fd_l_three_right ["_law_a", "_law_b", "_law_c"] (spThreeRight T) := by
  have G_both : FnOk P w K mg base (L2.CX P w) _ _ _ _ _ := two_v (ok_both T B)
  have G_either : FnOk P w K mg base (L2.CX P w) _ _ _ _ _ := two_v (ok_either T B)
  have G_less : FnOk P w K mg base (L2.CX P w) _ _ _ _ _ := two_v (ok_less T B)
  refine T.F_l_three_right.ok sc_l_three_right (fun vs H Q E h => ?_) (fun cdv A outer s H vs Q E hr h => ?_)
  · obtain ⟨u, v, t, c1, c2, c3, rfl, _⟩ := h
    rfl
  · obtain ⟨u, v, t, c1, c2, c3, rfl, tb, h1, h2, h3, q⟩ := h
    refine ⟨_, (pss_cons (ps_if (pt_cmpR (op_neD hr.units) (pe_call G_both (hr.mono (by decide)) (by rfl) T.g_both T.F_both.kp T.b_both .nil passL (pa_cons (pv 0) (pa_cons (pe_call G_either (hr.mono (by decide)) (by rfl) T.g_either T.F_either.kp T.b_either .nil passL (pa_cons (pv 1) (pa_cons (pv 2) pa_nil))) pa_nil))) (pe_call G_either (hr.mono (by decide)) (by rfl) T.g_either T.F_either.kp T.b_either .nil passL (pa_cons (pe_call G_both (hr.mono (by decide)) (by rfl) T.g_both T.F_both.kp T.b_both .nil passL (pa_cons (pv 0) (pa_cons (pv 1) pa_nil))) (pa_cons (pe_call G_both (hr.mono (by decide)) (by rfl) T.g_both T.F_both.kp T.b_both .nil passL (pa_cons (pv 0) (pa_cons (pv 2) pa_nil))) pa_nil))) (nomark _)) (pss_one (ps_ret pe_bl)) pss_nil)
      (pss_cons (ps_if (pt_cmpR (op_neD hr.units) (pe_call G_either (hr.mono (by decide)) (by rfl) T.g_either T.F_either.kp T.b_either .nil passL (pa_cons (pv 0) (pa_cons (pe_call G_both (hr.mono (by decide)) (by rfl) T.g_both T.F_both.kp T.b_both .nil passL (pa_cons (pv 1) (pa_cons (pv 2) pa_nil))) pa_nil))) (pe_call G_both (hr.mono (by decide)) (by rfl) T.g_both T.F_both.kp T.b_both .nil passL (pa_cons (pe_call G_either (hr.mono (by decide)) (by rfl) T.g_either T.F_either.kp T.b_either .nil passL (pa_cons (pv 0) (pa_cons (pv 1) pa_nil))) (pa_cons (pe_call G_either (hr.mono (by decide)) (by rfl) T.g_either T.F_either.kp T.b_either .nil passL (pa_cons (pv 0) (pa_cons (pv 2) pa_nil))) pa_nil))) (nomark _)) (pss_one (ps_ret pe_bl)) pss_nil)
      (pss_cons (ps_if (PW.pt (pw_or (pt_cmpR (op_neD hr.units) (pe_call G_less (hr.mono (by decide)) (by rfl) T.g_less T.F_less.kp T.b_less .nil passL (pa_cons (pv 0) (pa_cons (pe_call G_either (hr.mono (by decide)) (by rfl) T.g_either T.F_either.kp T.b_either .nil passL (pa_cons (pv 1) (pa_cons (pv 2) pa_nil))) pa_nil))) (pe_call G_less (hr.mono (by decide)) (by rfl) T.g_less T.F_less.kp T.b_less .nil passL (pa_cons (pe_call G_less (hr.mono (by decide)) (by rfl) T.g_less T.F_less.kp T.b_less .nil passL (pa_cons (pv 0) (pa_cons (pv 1) pa_nil))) (pa_cons (pv 2) pa_nil))) (nomark _)) (pw_or1 (pt_cmpR (op_neD hr.units) (pe_call G_less (hr.mono (by decide)) (by rfl) T.g_less T.F_less.kp T.b_less .nil passL (pa_cons (pv 0) (pa_cons (pe_call G_both (hr.mono (by decide)) (by rfl) T.g_both T.F_both.kp T.b_both .nil passL (pa_cons (pv 1) (pa_cons (pv 2) pa_nil))) pa_nil))) (pe_call G_either (hr.mono (by decide)) (by rfl) T.g_either T.F_either.kp T.b_either .nil passL (pa_cons (pe_call G_less (hr.mono (by decide)) (by rfl) T.g_less T.F_less.kp T.b_less .nil passL (pa_cons (pv 0) (pa_cons (pv 1) pa_nil))) (pa_cons (pe_call G_less (hr.mono (by decide)) (by rfl) T.g_less T.F_less.kp T.b_less .nil passL (pa_cons (pv 0) (pa_cons (pv 2) pa_nil))) pa_nil))) (nomark _))))) (pss_one (ps_ret pe_bl)) pss_nil)
      (pss_one (ps_ret (pe_and (pe_cmpR (op_eqD hr.units) (pe_call G_both (hr.mono (by decide)) (by rfl) T.g_both T.F_both.kp T.b_both .nil passL (pa_cons (pe_call G_both (hr.mono (by decide)) (by rfl) T.g_both T.F_both.kp T.b_both .nil passL (pa_cons (pv 0) (pa_cons (pv 1) pa_nil))) (pa_cons (pv 2) pa_nil))) (pe_call G_both (hr.mono (by decide)) (by rfl) T.g_both T.F_both.kp T.b_both .nil passL (pa_cons (pv 0) (pa_cons (pe_call G_both (hr.mono (by decide)) (by rfl) T.g_both T.F_both.kp T.b_both .nil passL (pa_cons (pv 1) (pa_cons (pv 2) pa_nil))) pa_nil))) (nomark _)) (pe_one (pe_cmpR (op_eqD hr.units) (pe_call G_either (hr.mono (by decide)) (by rfl) T.g_either T.F_either.kp T.b_either .nil passL (pa_cons (pe_call G_either (hr.mono (by decide)) (by rfl) T.g_either T.F_either.kp T.b_either .nil passL (pa_cons (pv 0) (pa_cons (pv 1) pa_nil))) (pa_cons (pv 2) pa_nil))) (pe_call G_either (hr.mono (by decide)) (by rfl) T.g_either T.F_either.kp T.b_either .nil passL (pa_cons (pv 0) (pa_cons (pe_call G_either (hr.mono (by decide)) (by rfl) T.g_either T.F_either.kp T.b_either .nil passL (pa_cons (pv 1) (pa_cons (pv 2) pa_nil))) pa_nil))) (nomark _))))))))), ?_⟩
    have st : ∀ {X : Hp}, Chg T.tabs H X → Cv X u c1 20 ∧ Cv X v c2 20 ∧ Cv X t c3 20 := fun {X} e => ⟨h1.chg tb e, h2.chg tb e, h3.chg tb e⟩
    -- if
    refine ⟨_, rfl, _, rfl, _, rfl, v, t, c2, c3, 20, 20, rfl, tb, h2, h3, by decide, by decide, fun H1 p1 d1 f1 tb1 k1 m1 => ?_⟩
    have g1 := f1
    obtain ⟨h1, h2, h3⟩ := st g1
    refine ⟨u, p1, c1, d1, 20, 41, rfl, tb1, h1, k1, by decide, by decide, fun H2 p2 d2 f2 tb2 k2 m2 => ?_⟩
    have k1 := k1.chg tb1 f2
    have g2 := g1.trans f2
    obtain ⟨h1, h2, h3⟩ := st g2
    refine ⟨_, rfl, _, rfl, u, v, c1, c2, 20, 20, rfl, tb2, h1, h2, by decide, by decide, fun H3 p3 d3 f3 tb3 k3 m3 => ?_⟩
    have k1 := k1.chg tb2 f3
    have k2 := k2.chg tb2 f3
    have g3 := g2.trans f3
    obtain ⟨h1, h2, h3⟩ := st g3
    refine ⟨_, rfl, _, rfl, u, t, c1, c3, 20, 20, rfl, tb3, h1, h3, by decide, by decide, fun H4 p4 d4 f4 tb4 k4 m4 => ?_⟩
    have k1 := k1.chg tb3 f4
    have k2 := k2.chg tb3 f4
    have k3 := k3.chg tb3 f4
    have g4 := g3.trans f4
    obtain ⟨h1, h2, h3⟩ := st g4
    refine ⟨p3, p4, d3, d4, 41, 41, rfl, tb4, k3, k4, by decide, by decide, fun H5 p5 d5 f5 tb5 k5 m5 => ?_⟩
    have k1 := k1.chg tb4 f5
    have k2 := k2.chg tb4 f5
    have k3 := k3.chg tb4 f5
    have k4 := k4.chg tb4 f5
    have g5 := g4.trans f5
    obtain ⟨h1, h2, h3⟩ := st g5
    refine ⟨_, _, k2.dp, k5.dp, shaped_spans _, shaped_spans _, _, rfl, ?_⟩
    rw [eqv_spans, decide_eq_true (can_ext k2.can k5.can fun x => by
      simp only [m1, m2, m3, m4, m5, bothP, eitherP, lessP]
      by_cases a : Mem c1 x <;> by_cases b : Mem c2 x <;> by_cases c : Mem c3 x <;> simp [a, b, c])]
    refine iteF ?_
    -- if
    refine ⟨_, rfl, _, rfl, _, rfl, v, t, c2, c3, 20, 20, rfl, tb5, h2, h3, by decide, by decide, fun H6 p6 d6 f6 tb6 k6 m6 => ?_⟩
    have g6 := g5.trans f6
    obtain ⟨h1, h2, h3⟩ := st g6
    refine ⟨u, p6, c1, d6, 20, 41, rfl, tb6, h1, k6, by decide, by decide, fun H7 p7 d7 f7 tb7 k7 m7 => ?_⟩
    have k6 := k6.chg tb6 f7
    have g7 := g6.trans f7
    obtain ⟨h1, h2, h3⟩ := st g7
    refine ⟨_, rfl, _, rfl, u, v, c1, c2, 20, 20, rfl, tb7, h1, h2, by decide, by decide, fun H8 p8 d8 f8 tb8 k8 m8 => ?_⟩
    have k6 := k6.chg tb7 f8
    have k7 := k7.chg tb7 f8
    have g8 := g7.trans f8
    obtain ⟨h1, h2, h3⟩ := st g8
    refine ⟨_, rfl, _, rfl, u, t, c1, c3, 20, 20, rfl, tb8, h1, h3, by decide, by decide, fun H9 p9 d9 f9 tb9 k9 m9 => ?_⟩
    have k6 := k6.chg tb8 f9
    have k7 := k7.chg tb8 f9
    have k8 := k8.chg tb8 f9
    have g9 := g8.trans f9
    obtain ⟨h1, h2, h3⟩ := st g9
    refine ⟨p8, p9, d8, d9, 41, 41, rfl, tb9, k8, k9, by decide, by decide, fun H10 p10 d10 f10 tb10 k10 m10 => ?_⟩
    have k6 := k6.chg tb9 f10
    have k7 := k7.chg tb9 f10
    have k8 := k8.chg tb9 f10
    have k9 := k9.chg tb9 f10
    have g10 := g9.trans f10
    obtain ⟨h1, h2, h3⟩ := st g10
    refine ⟨_, _, k7.dp, k10.dp, shaped_spans _, shaped_spans _, _, rfl, ?_⟩
    rw [eqv_spans, decide_eq_true (can_ext k7.can k10.can fun x => by
      simp only [m6, m7, m8, m9, m10, bothP, eitherP, lessP]
      by_cases a : Mem c1 x <;> by_cases b : Mem c2 x <;> by_cases c : Mem c3 x <;> simp [a, b, c])]
    refine iteF ?_
    -- if
    refine ⟨_, rfl, _, rfl, _, rfl, v, t, c2, c3, 20, 20, rfl, tb10, h2, h3, by decide, by decide, fun H11 p11 d11 f11 tb11 k11 m11 => ?_⟩
    have g11 := g10.trans f11
    obtain ⟨h1, h2, h3⟩ := st g11
    refine ⟨u, p11, c1, d11, 20, 41, rfl, tb11, h1, k11, by decide, by decide, fun H12 p12 d12 f12 tb12 k12 m12 => ?_⟩
    have k11 := k11.chg tb11 f12
    have g12 := g11.trans f12
    obtain ⟨h1, h2, h3⟩ := st g12
    refine ⟨_, rfl, _, rfl, u, v, c1, c2, 20, 20, rfl, tb12, h1, h2, by decide, by decide, fun H13 p13 d13 f13 tb13 k13 m13 => ?_⟩
    have k11 := k11.chg tb12 f13
    have k12 := k12.chg tb12 f13
    have g13 := g12.trans f13
    obtain ⟨h1, h2, h3⟩ := st g13
    refine ⟨_, rfl, p13, t, d13, c3, 41, 20, rfl, tb13, k13, h3, by decide, by decide, fun H14 p14 d14 f14 tb14 k14 m14 => ?_⟩
    have k11 := k11.chg tb13 f14
    have k12 := k12.chg tb13 f14
    have k13 := k13.chg tb13 f14
    have g14 := g13.trans f14
    obtain ⟨h1, h2, h3⟩ := st g14
    refine ⟨_, _, k12.dp, k14.dp, shaped_spans _, shaped_spans _, _, rfl, ?_⟩
    rw [eqv_spans, decide_eq_true (can_ext k12.can k14.can fun x => by
      simp only [m11, m12, m13, m14, bothP, eitherP, lessP]
      by_cases a : Mem c1 x <;> by_cases b : Mem c2 x <;> by_cases c : Mem c3 x <;> simp [a, b, c])]
    refine iteF ?_
    -- if
    refine ⟨_, rfl, _, rfl, _, rfl, v, t, c2, c3, 20, 20, rfl, tb14, h2, h3, by decide, by decide, fun H15 p15 d15 f15 tb15 k15 m15 => ?_⟩
    have g15 := g14.trans f15
    obtain ⟨h1, h2, h3⟩ := st g15
    refine ⟨u, p15, c1, d15, 20, 41, rfl, tb15, h1, k15, by decide, by decide, fun H16 p16 d16 f16 tb16 k16 m16 => ?_⟩
    have k15 := k15.chg tb15 f16
    have g16 := g15.trans f16
    obtain ⟨h1, h2, h3⟩ := st g16
    refine ⟨_, rfl, _, rfl, u, v, c1, c2, 20, 20, rfl, tb16, h1, h2, by decide, by decide, fun H17 p17 d17 f17 tb17 k17 m17 => ?_⟩
    have k15 := k15.chg tb16 f17
    have k16 := k16.chg tb16 f17
    have g17 := g16.trans f17
    obtain ⟨h1, h2, h3⟩ := st g17
    refine ⟨_, rfl, _, rfl, u, t, c1, c3, 20, 20, rfl, tb17, h1, h3, by decide, by decide, fun H18 p18 d18 f18 tb18 k18 m18 => ?_⟩
    have k15 := k15.chg tb17 f18
    have k16 := k16.chg tb17 f18
    have k17 := k17.chg tb17 f18
    have g18 := g17.trans f18
    obtain ⟨h1, h2, h3⟩ := st g18
    refine ⟨p17, p18, d17, d18, 41, 41, rfl, tb18, k17, k18, by decide, by decide, fun H19 p19 d19 f19 tb19 k19 m19 => ?_⟩
    have k15 := k15.chg tb18 f19
    have k16 := k16.chg tb18 f19
    have k17 := k17.chg tb18 f19
    have k18 := k18.chg tb18 f19
    have g19 := g18.trans f19
    obtain ⟨h1, h2, h3⟩ := st g19
    refine ⟨_, _, k16.dp, k19.dp, shaped_spans _, shaped_spans _, _, rfl, ?_⟩
    rw [eqv_spans, decide_eq_true (can_ext k16.can k19.can fun x => by
      simp only [m15, m16, m17, m18, m19, bothP, eitherP, lessP]
      by_cases a : Mem c1 x <;> by_cases b : Mem c2 x <;> by_cases c : Mem c3 x <;> simp [a, b, c])]
    refine iteF ?_
    -- and
    refine ⟨_, rfl, _, rfl, u, v, c1, c2, 20, 20, rfl, tb19, h1, h2, by decide, by decide, fun H20 p20 d20 f20 tb20 k20 m20 => ?_⟩
    have g20 := g19.trans f20
    obtain ⟨h1, h2, h3⟩ := st g20
    refine ⟨_, rfl, p20, t, d20, c3, 41, 20, rfl, tb20, k20, h3, by decide, by decide, fun H21 p21 d21 f21 tb21 k21 m21 => ?_⟩
    have k20 := k20.chg tb20 f21
    have g21 := g20.trans f21
    obtain ⟨h1, h2, h3⟩ := st g21
    refine ⟨_, rfl, _, rfl, _, rfl, v, t, c2, c3, 20, 20, rfl, tb21, h2, h3, by decide, by decide, fun H22 p22 d22 f22 tb22 k22 m22 => ?_⟩
    have k20 := k20.chg tb21 f22
    have k21 := k21.chg tb21 f22
    have g22 := g21.trans f22
    obtain ⟨h1, h2, h3⟩ := st g22
    refine ⟨u, p22, c1, d22, 20, 41, rfl, tb22, h1, k22, by decide, by decide, fun H23 p23 d23 f23 tb23 k23 m23 => ?_⟩
    have k20 := k20.chg tb22 f23
    have k21 := k21.chg tb22 f23
    have k22 := k22.chg tb22 f23
    have g23 := g22.trans f23
    obtain ⟨h1, h2, h3⟩ := st g23
    refine ⟨_, _, k21.dp, k23.dp, shaped_spans _, shaped_spans _, ?_⟩
    rw [eqv_spans, decide_eq_true (can_ext k21.can k23.can fun x => by
      simp only [m20, m21, m22, m23, bothP, eitherP, lessP]
      by_cases a : Mem c1 x <;> by_cases b : Mem c2 x <;> by_cases c : Mem c3 x <;> simp [a, b, c])]
    refine ⟨true, rfl, iteT ?_⟩
    -- last
    refine ⟨_, rfl, _, rfl, u, v, c1, c2, 20, 20, rfl, tb23, h1, h2, by decide, by decide, fun H24 p24 d24 f24 tb24 k24 m24 => ?_⟩
    have g24 := g23.trans f24
    obtain ⟨h1, h2, h3⟩ := st g24
    refine ⟨_, rfl, p24, t, d24, c3, 41, 20, rfl, tb24, k24, h3, by decide, by decide, fun H25 p25 d25 f25 tb25 k25 m25 => ?_⟩
    have k24 := k24.chg tb24 f25
    have g25 := g24.trans f25
    obtain ⟨h1, h2, h3⟩ := st g25
    refine ⟨_, rfl, _, rfl, _, rfl, v, t, c2, c3, 20, 20, rfl, tb25, h2, h3, by decide, by decide, fun H26 p26 d26 f26 tb26 k26 m26 => ?_⟩
    have k24 := k24.chg tb25 f26
    have k25 := k25.chg tb25 f26
    have g26 := g25.trans f26
    obtain ⟨h1, h2, h3⟩ := st g26
    refine ⟨u, p26, c1, d26, 20, 41, rfl, tb26, h1, k26, by decide, by decide, fun H27 p27 d27 f27 tb27 k27 m27 => ?_⟩
    have k24 := k24.chg tb26 f27
    have k25 := k25.chg tb26 f27
    have k26 := k26.chg tb26 f27
    have g27 := g26.trans f27
    obtain ⟨h1, h2, h3⟩ := st g27
    refine ⟨_, _, k25.dp, k27.dp, shaped_spans _, shaped_spans _, ?_⟩
    rw [eqv_spans, decide_eq_true (can_ext k25.can k27.can fun x => by
      simp only [m24, m25, m26, m27, bothP, eitherP, lessP]
      by_cases a : Mem c1 x <;> by_cases b : Mem c2 x <;> by_cases c : Mem c3 x <;> simp [a, b, c])]
    exact q _ g27 tb27
end
section
variable {P : Program} {w : World} {K : PySem.W.Frag} {mg : Str → Option Value} {base : Heap}
/-- v is a list of at most eight spans -/
structure Li (H : Hp) (v : V) (ss : List Span) : Prop where
  ex : ∃ l us, v = .ref l ∧ H l = some (.lst us) ∧ Sps H us ss
  ok : ∀ s ∈ ss, isSpan s = true
  len : ss.length ≤ 8
theorem Li.same {H H' : Hp} {v : V} {ss : List Span} (h : Li H v ss) (e : Same H H') : Li H' v ss := by
  obtain ⟨⟨l, us, h1, h2, h3⟩, ok, len⟩ := h
  exact ⟨⟨l, us, h1, e _ _ h2, h3.same e⟩, ok, len⟩
theorem Li.chg {H H' : Hp} {v : V} {ss : List Span} {Ps : List Addr} (h : Li H v ss) (e : Chg Ps H H') (n : ∀ l, v = .ref l → l ∉ Ps) (t : Lsts Ps H) : Li H' v ss := by
  obtain ⟨⟨l, us, h1, h2, h3⟩, ok, len⟩ := h
  exact ⟨⟨l, us, h1, e _ _ (n l h1) h2, h3.chg e t⟩, ok, len⟩
theorem Li.tb {H H' : Hp} {v : V} {ss : List Span} {Ps : List Addr} (h : Li H v ss) (t : Tb Ps H) (e : Chg Ps H H') : Li H' v ss := by
  obtain ⟨⟨l, us, h1, h2, h3⟩, ok, len⟩ := h
  exact ⟨⟨l, us, h1, e _ _ (t.out h2 (fun ps z => by cases z)) h2, h3.chg e t.lsts⟩, ok, len⟩
theorem look3 (z : Int) (h1 : -3 ≤ z) (h2 : z < 3) : ∃ j, j < 3 ∧ ∀ {α : Type} (xs : List α), xs.length = 3 → atI xs z = xs[j]? := by
  obtain rfl | rfl | rfl | rfl | rfl | rfl : z = -3 ∨ z = -2 ∨ z = -1 ∨ z = 0 ∨ z = 1 ∨ z = 2 := by omega
  · exact ⟨0, by decide, fun xs h => by unfold atI; rw [h]; rfl⟩
  · exact ⟨1, by decide, fun xs h => by unfold atI; rw [h]; rfl⟩
  · exact ⟨2, by decide, fun xs h => by unfold atI; rw [h]; rfl⟩
  · exact ⟨0, by decide, fun xs h => by unfold atI; rw [h]; rfl⟩
  · exact ⟨1, by decide, fun xs h => by unfold atI; rw [h]; rfl⟩
  · exact ⟨2, by decide, fun xs h => by unfold atI; rw [h]; rfl⟩
theorem snoc_get {α : Type} {l : List α} {x y : α} {i : Nat} (h : (l ++ [x])[i]? = some y) : l[i]? = some y ∨ (i = l.length ∧ y = x) := by
  by_cases hi : i < l.length
  · rw [List.getElem?_append_left hi] at h
    exact .inl h
  · rw [List.getElem?_append_right (by omega)] at h
    cases e : i - l.length with
    | zero =>
      rw [e] at h
      exact .inr ⟨by omega, (Option.some.inj h).symm⟩
    | succ n =>
      rw [e] at h
      simp at h
def spLaw (T : Tx K mg) : Sp := fun vs H Q _ => ∃ (a : Addr) (ns : List Int), vs = [.ref a] ∧ SqL K H a (ns.map V.int) ∧ ns.length ≤ 63 ∧ Tb T.tabs H ∧ ∀ H', Q (.bl true) H'
theorem ok_law (T : Tx K mg) (B : Tbs T base) {f : Addr} {fd : FuncData} (F : Fun K "law" "law" s_law f fd) : FnOk P w K mg base CX0 (10) f fd ["_law_script"] (spLaw T) := by
  have G_l_purse : FnOk P w K mg base CX0 _ _ _ _ _ := ok_purse T
  have G_l_spans : FnOk P w K mg base CX0 _ _ _ _ _ := ok_spans T
  have G_l_two_right : FnOk P w K mg base CX0 _ _ _ _ _ := ok_two_right T B
  have G_l_three_right : FnOk P w K mg base CX0 _ _ _ _ _ := ok_three_right T B
  have G_cover_of : FnOk P w K mg base (L2.CX P w) _ _ _ _ _ := ok_cover_of T
  have G_both : FnOk P w K mg base (L2.CX P w) _ _ _ _ _ := two_v (ok_both T B)
  have G_either : FnOk P w K mg base (L2.CX P w) _ _ _ _ _ := two_v (ok_either T B)
  have G_less : FnOk P w K mg base (L2.CX P w) _ _ _ _ _ := two_v (ok_less T B)
  refine F.ok sc_law (fun vs H Q E h => ?_) (fun cdv A outer s H vs Q E hr h => ?_)
  · obtain ⟨a, ns, rfl, _⟩ := h
    rfl
  · obtain ⟨a, ns, rfl, hS, hlen, tb, q⟩ := h
    refine ⟨_, (pss_cons (ps_set (i := 1) sc_law.nd rfl (Or.inr rfl) (pe_call G_l_purse (hr.mono (by decide)) (by rfl) T.g_l_purse T.F_l_purse.kp T.b_l_purse .nil pass0 (pa_cons (pv 0) (pa_cons pe_int pa_nil))))
      (pss_cons (ps_set (i := 2) sc_law.nd rfl (Or.inr rfl) (pe_lst (pa_cons pe_int pa_nil)))
      (pss_cons (ps_setLc (i := 4) (own := [("_law_k", 3)]) (g := (gName 3)) (by rfl) sc_law.nd rfl rfl (sw_true rfl rfl rfl (by decide +kernel)) (pi_range1 (by rfl) T.m_range (pa_cons pe_int pa_nil)) (blkOk_by (own := [("_law_k", 3)]) (N := N_law) (sc := defScope s_law) (by decide +kernel)) (fun _ _ _ _ _ => (pg_name (i := 3) sc_law.nd rfl (Or.inl rfl))) (fun _ _ _ _ _ => pts_nil) (fun _ _ _ _ _ => (pe_call G_l_spans (hr.mono (by decide)) (by rfl) T.g_l_spans T.F_l_spans.kp T.b_l_spans .nil pass0 (pa_cons (pv 1) (pa_cons (pv 2) (pa_cons pe_int pa_nil))))))
      (pss_cons (ps_setLc (i := 5) (own := [("_law_spans_here", 7)]) (g := (gName 7)) (by rfl) sc_law.nd rfl rfl (sw_true rfl rfl rfl (by decide +kernel)) (pi_list (pv 4)) (blkOk_by (own := [("_law_spans_here", 7)]) (N := N_law) (sc := defScope s_law) (by decide +kernel)) (fun _ _ _ _ _ => (pg_name (i := 7) sc_law.nd rfl (Or.inl rfl))) (fun _ _ _ _ _ => pts_nil) (fun _ _ _ _ _ => (pe_call G_cover_of (hr.mono (by decide)) (by rfl) T.g_cover_of T.F_cover_of.kp T.b_cover_of .nil passL (pa_cons (pv 7) pa_nil))))
      (pss_cons (ps_for PassesOwn.never (by rfl) (pi_range1 (by rfl) T.m_range (pa_cons pe_int pa_nil)) (pg_name (i := 3) sc_law.nd rfl (Or.inl rfl))
        (pss_cons (ps_set (i := 6) sc_law.nd rfl (Or.inl rfl) (pe_call G_cover_of (hr.mono (by decide)) (by rfl) T.g_cover_of T.F_cover_of.kp T.b_cover_of .nil passL (pa_cons (pe_op op_cat (pe_ix ix_list (pv 4) (pv 3) (fun _ _ => rfl)) (pe_ix ix_list (pv 4) (pe_op op_sub (pv 3) pe_int) (fun _ _ => rfl))) pa_nil)))
      (pss_cons (ps_if (pt_not (pt_val (pe_call G_l_two_right (hr.mono (by decide)) (by rfl) T.g_l_two_right T.F_l_two_right.kp T.b_l_two_right .nil pass0 (pa_cons (pe_ix ix_list (pv 5) (pv 3) (fun _ _ => rfl)) (pa_cons (pe_ix ix_list (pv 5) (pe_op op_sub (pv 3) pe_int) (fun _ _ => rfl)) (pa_cons (pv 6) pa_nil)))))) (pss_one (ps_ret pe_bl)) pss_nil)
      (pss_cons (ps_if (pt_not (pt_val (pe_call G_l_two_right (hr.mono (by decide)) (by rfl) T.g_l_two_right T.F_l_two_right.kp T.b_l_two_right .nil pass0 (pa_cons (pe_ix ix_list (pv 5) (pv 3) (fun _ _ => rfl)) (pa_cons (pe_ix ix_list (pv 5) (pv 3) (fun _ _ => rfl)) (pa_cons (pe_ix ix_list (pv 5) (pv 3) (fun _ _ => rfl)) pa_nil)))))) (pss_one (ps_ret pe_bl)) pss_nil)
      (pss_cons (ps_if (pt_not (pt_val (pe_call G_l_three_right (hr.mono (by decide)) (by rfl) T.g_l_three_right T.F_l_three_right.kp T.b_l_three_right .nil pass0 (pa_cons (pe_ix ix_list (pv 5) (pv 3) (fun _ _ => rfl)) (pa_cons (pe_ix ix_list (pv 5) (pe_op op_sub (pv 3) pe_int) (fun _ _ => rfl)) (pa_cons (pe_ix ix_list (pv 5) (pe_op op_sub (pv 3) pe_int) (fun _ _ => rfl)) pa_nil)))))) (pss_one (ps_ret pe_bl)) pss_nil)
      (pss_one (ps_if (PW.pt (pw_or (pt_cmpR (op_neD hr.units) (pe_call G_both (hr.mono (by decide)) (by rfl) T.g_both T.F_both.kp T.b_both .nil passL (pa_cons (pe_ix ix_list (pv 5) (pv 3) (fun _ _ => rfl)) (pa_cons (pe_lst pa_nil) pa_nil))) (pe_lst pa_nil) (nomark _)) (pw_or (pt_cmpR (op_neD hr.units) (pe_call G_either (hr.mono (by decide)) (by rfl) T.g_either T.F_either.kp T.b_either .nil passL (pa_cons (pe_ix ix_list (pv 5) (pv 3) (fun _ _ => rfl)) (pa_cons (pe_lst pa_nil) pa_nil))) (pe_ix ix_list (pv 5) (pv 3) (fun _ _ => rfl)) (nomark _)) (pw_or1 (pt_cmpR (op_neD hr.units) (pe_call G_less (hr.mono (by decide)) (by rfl) T.g_less T.F_less.kp T.b_less .nil passL (pa_cons (pe_lst pa_nil) (pa_cons (pe_ix ix_list (pv 5) (pv 3) (fun _ _ => rfl)) pa_nil))) (pe_lst pa_nil) (nomark _)))))) (pss_one (ps_ret pe_bl)) pss_nil)))))))
      (pss_one (ps_ret pe_bl))))))), ?_⟩
    refine ⟨_, rfl, a, ns, 0, rfl, hS, by decide, by decide, fun H1 p s1 np p1 => ?_⟩
    have tb1 := tb.same s1
    have pT : p ∉ T.tabs := tb.new np
    refine ⟨small_le (by simp), fun e ne => ?_⟩
    obtain ⟨ge, s2⟩ := upd_at (o := .lst [.int 0]) ne
    have eT : e ∉ T.tabs := tb1.new ne
    have tb2 := tb1.same s2
    have nep : e ≠ p := (p1.ne ne).symm
    have p2 := p1.same s2
    revert ge tb2 p2
    generalize upd H1 e (.lst [.int 0]) = H2
    intro ge tb2 p2
    have out : ∀ P ∈ T.tabs, P ∉ [p, e] := fun P hP => nmem2 (fun z => pT (z ▸ hP)) (fun z => eT (z ▸ hP))
    -- the lists
    refine ⟨_, rfl, by decide, by decide, fun D nD => ?_⟩
    have nDp : D ≠ p := (p2.ne nD).symm
    have nDe : D ≠ e := (ne_of_none ge nD).symm
    have DT : D ∉ T.tabs := tb2.new nD
    refine lc_range (lo := 0) (n := (3 : Int).toNat) (fun j H' => ∃ (vs : List V) (sss : List (List Span)) (zs : List Int), Chg [p, e] H2 H' ∧ Pu H' p (63000 + 171 * j) ∧ H' e = some (.lst (zs.map V.int)) ∧ zs.length ≤ 1 + 16 * j ∧ H' D = some (.lst vs) ∧ vs.length = j ∧ sss.length = j ∧ Tb T.tabs H' ∧ (∀ (i : Nat) v ss, vs[i]? = some v → sss[i]? = some ss → Li H' v ss) ∧ ∀ v ∈ vs, ∀ l, v = .ref l → l ≠ p ∧ l ≠ e ∧ l ≠ D)
      ⟨[], [], [0], Chg.of_same (same_upd nD), p2.same (same_upd nD), same_upd nD _ _ ge, by decide, upd_same, rfl, rfl, tb2.same (same_upd nD), (fun i v ss h => by simp at h), (fun v hv => nomatch hv)⟩ ?_ ?_
    · rintro j H' hj ⟨vs, sss, zs, cc, pu, he, hz, hD, lv, ls, tb', li, far⟩
      have hj : j < 3 := hj
      refine ⟨rfl, ?_⟩
      unfold tYes
      refine iteT ⟨_, rfl, _, rfl, p, e, 8, 63000 + 171 * j, zs, rfl, pu, by omega, he, nep, by omega, by decide, fun H3 f us ss zs' c3 p3 he3 hz3 nf hf hss ok sl => ?_⟩
      have lp : Lsts [p, e] H' := pu.lsts.two (Lsts.of1 he)
      have hD3 := c3 _ _ (nmem2 nDp nDe) hD
      have cD : Chg [D] H3 (upd H3 D (.lst (vs ++ [.ref f]))) := Chg.upd List.mem_cons_self
      have lD : Lsts [D] H3 := Lsts.of1 hD3
      have nfp : f ≠ p := (pu.ne nf).symm
      have nfe : f ≠ e := (ne_of_none he nf).symm
      have nfD : f ≠ D := (ne_of_none hD nf).symm
      refine ⟨vs, hD3, small_lt (by omega), vs ++ [.ref f], sss ++ [ss], zs', ?_, (p3.chg cD (nmem1 nDp.symm)).mono (by omega), cD _ _ (nmem1 nDe.symm) he3, by omega, upd_same, by simp [lv], by simp [ls], (tb'.chg c3 out).chg cD (fun P hP => nmem1 fun z => DT (z ▸ hP)), fun i v s0 hv hs => ?_, fun v hv l hl => ?_⟩
      · intro b o nb hb
        have h3 := (cc.trans c3) b o nb hb
        rw [upd_ne (ne_of_none hb nD)]
        exact h3
      · rcases snoc_get hv with hv | ⟨e1, e2⟩
        · rcases snoc_get hs with hs | ⟨e3, _⟩
          · have fv := far v (List.mem_of_getElem? hv)
            exact ((li i v s0 hv hs).chg c3 (fun l hl => nmem2 (fv l hl).1 (fv l hl).2.1) lp).chg cD (fun l hl => nmem1 (fv l hl).2.2) lD
          · have := (List.getElem?_eq_some_iff.mp hv).1
            omega
        · rcases snoc_get hs with hs | ⟨_, e4⟩
          · have := (List.getElem?_eq_some_iff.mp hs).1
            omega
          · rw [e2, e4]
            exact ⟨⟨f, us, rfl, cD _ _ (nmem1 nfD) hf, hss.chg cD lD⟩, ok, sl⟩
      · rcases List.mem_append.mp hv with h | h
        · exact far v h l hl
        · rw [List.mem_singleton.mp h] at hl
          cases hl
          exact ⟨nfp, nfe, nfD⟩
    · rintro H3 ⟨vs, sss, zs, cc, pu, he, hz, hD, lv, ls, tb3, li, far⟩
      have lv : vs.length = 3 := lv
      have ls : sss.length = 3 := ls
      clear cc pu he hz far
      -- the covers
      refine ⟨_, rfl, D, rfl, ⟨_, SqL.of hD⟩, fun C nC => ?_⟩
      have CT : C ∉ T.tabs := tb3.new nC
      refine lc_list (K := K) (a := D) (xs := vs) (fun j H' => Same H3 H' ∧ ∃ (cs : List V) (ccs : List (List Span)), H' C = some (.lst cs) ∧ cs.length = j ∧ ccs.length = j ∧ ∀ (i : Nat) v c, cs[i]? = some v → ccs[i]? = some c → Cv H' v c 8 ∧ (∀ l, v = .ref l → l ≠ C) ∧ ∀ ss, sss[i]? = some ss → ∀ x, Mem c x ↔ Mem ss x)
        ⟨same_upd nC, [], [], upd_same, rfl, rfl, (fun i v c h => by simp at h)⟩ (fun j H' _ h => SqL.of (h.1 _ _ hD)) ?_ ?_
      · rintro j v H' hj ⟨sm, cs, ccs, hC, l1, l2, cv⟩
        have jl := (List.getElem?_eq_some_iff.mp hj).1
        obtain ⟨ss, hss⟩ : ∃ ss, sss[j]? = some ss := ⟨_, List.getElem?_eq_getElem (by omega)⟩
        have lj := li j v ss hj hss
        obtain ⟨⟨l, us, rfl, hl, hs⟩, ok, len⟩ := lj.same sm
        refine ⟨rfl, ?_⟩
        unfold tYes
        have allok : ss.all isSpan = true := List.all_eq_true.mpr ok
        refine iteT ⟨_, rfl, l, us, ss, rfl, hl, hs, by omega, fun z => ?_, fun _ H4 g gs c s4 ng hg hgs can mem cl => ?_⟩
        · rw [allok] at z
          cases z
        have hC4 := s4 _ _ hC
        have cC : Chg [C] H4 (upd H4 C (.lst (cs ++ [.ref g]))) := Chg.upd List.mem_cons_self
        have lC : Lsts [C] H4 := Lsts.of1 hC4
        have ngC : g ≠ C := (ne_of_none hC ng).symm
        refine ⟨cs, hC4, small_lt (by omega), same_more (sm.trans s4) nC, cs ++ [.ref g], ccs ++ [c], upd_same, by simp [l1], by simp [l2], fun i v c0 hv hc => ?_⟩
        rcases snoc_get hv with hv | ⟨e1, e2⟩
        · rcases snoc_get hc with hc | ⟨e3, _⟩
          · obtain ⟨k1, k2, k3⟩ := cv i v c0 hv hc
            obtain ⟨⟨l', us', h1, h2, h3⟩, kc, ko, kl⟩ := k1.same s4
            exact ⟨⟨⟨l', us', h1, cC _ _ (nmem1 (k2 l' h1)) h2, h3.chg cC lC⟩, kc, ko, kl⟩, k2, k3⟩
          · have := (List.getElem?_eq_some_iff.mp hv).1
            omega
        · rcases snoc_get hc with hc | ⟨_, e4⟩
          · have := (List.getElem?_eq_some_iff.mp hc).1
            omega
          · rw [e2, e4]
            refine ⟨⟨⟨g, gs, rfl, cC _ _ (nmem1 ngC) hg, hgs.chg cC lC⟩, can, can_spans can (fun x => (mem x).mp) ok, by omega⟩, fun l' hl' => ?_, fun s0 hs0 x => ?_⟩
            · cases hl'
              exact ngC
            · rw [e1, l1, hss] at hs0
              cases hs0
              exact mem x
      · rintro H4 ⟨sm, cs, ccs, hC, l1, l2, cv⟩
        have l1 : cs.length = 3 := l1.trans lv
        have l2 : ccs.length = 3 := l2.trans lv
        have tb4 := tb3.same sm
        have hD4 := sm _ _ hD
        have li4 : ∀ (i : Nat) v ss, vs[i]? = some v → sss[i]? = some ss → Li H4 v ss := fun i v ss h1 h2 => (li i v ss h1 h2).same sm
        have cv4 : ∀ (i : Nat), i < 3 → ∃ v c ss u, cs[i]? = some v ∧ vs[i]? = some u ∧ Cv H4 v c 20 ∧ Li H4 u ss ∧ ∀ x, Mem c x ↔ Mem ss x := fun i hi => by
          have e1 : cs[i]? = some cs[i] := List.getElem?_eq_getElem (by omega)
          have e2 : ccs[i]? = some ccs[i] := List.getElem?_eq_getElem (by omega)
          have e3 : vs[i]? = some vs[i] := List.getElem?_eq_getElem (by omega)
          have e4 : sss[i]? = some sss[i] := List.getElem?_eq_getElem (by omega)
          obtain ⟨k1, _, k3⟩ := cv i _ _ e1 e2
          exact ⟨_, _, _, _, e1, e3, ⟨k1.ex, k1.can, k1.ok, by have := k1.len; omega⟩, li4 i _ _ e3 e4, k3 _ e4⟩
        clear cv li4 li
        refine ⟨_, rfl, by decide, by decide, ?_⟩
        refine for_range (lo := 0) (n := (3 : Int).toNat) (fun i σ H' => ∃ (y3 y6 : Option V), σ = [some (.ref a), some (.ref p), some (.ref e), y3, some (.ref D), some (.ref C), y6, none] ∧ Chg T.tabs H4 H' ∧ Tb T.tabs H') ⟨_, _, rfl, Chg.refl _ _, tb4⟩ ?_ ?_
        · rintro k σ H5 hk ⟨y3, y6, rfl, c5, tb5⟩
          have hk : k < 3 := hk
          rw [Int.zero_add]
          have hD5 := c5 _ _ DT hD4
          have hC5 := c5 _ _ CT hC
          obtain ⟨j0, b0, at0⟩ := look3 (k : Int) (by omega) (by omega)
          obtain ⟨j1, b1, at1⟩ := look3 ((k : Int) - 1) (by omega) (by omega)
          obtain ⟨j2, b2, at2⟩ := look3 ((k : Int) - 2) (by omega) (by omega)
          obtain ⟨v0, d0, ss0, u0, x0, w0, cv0, li0, m0⟩ := cv4 j0 b0
          obtain ⟨v1, d1, ss1, u1, x1, w1, cv1, li1, m1⟩ := cv4 j1 b1
          obtain ⟨v2, d2, ss2, u2, x2, w2, cv2, li2, m2⟩ := cv4 j2 b2
          have i0 := (at0 vs lv).trans w0
          have i1 := (at1 vs lv).trans w1
          have t0 := (at0 cs l1).trans x0
          have t1 := (at1 cs l1).trans x1
          have t2 := (at2 cs l1).trans x2
          have st : ∀ {X : Hp}, Chg T.tabs H4 X → Cv X v0 d0 20 ∧ Cv X v1 d1 20 ∧ Cv X v2 d2 20 ∧ SqL K X C cs := fun {X} z => ⟨cv0.chg tb4 z, cv1.chg tb4 z, cv2.chg tb4 z, SqL.of (z _ _ CT hC)⟩
          obtain ⟨⟨r0, us0, rfl, hr0, hs0⟩, ok0, len0⟩ := li0.tb tb4 c5
          obtain ⟨⟨r1, us1, rfl, hr1, hs1⟩, ok1, len1⟩ := li1.tb tb4 c5
          have ul0 := hs0.len
          have ul1 := hs1.len
          -- together
          refine ⟨_, rfl, _, rfl, D, _, _, _, rfl, rfl, SqL.of hD5, i0, _, rfl, _, rfl, _, _, rfl, rfl, D, _, _, _, rfl, rfl, SqL.of hD5, i1, r0, r1, us0, us1, rfl, rfl, hr0, hr1, small_le (by omega), fun j nj => ?_⟩
          obtain ⟨gj, sj⟩ := upd_at (o := .lst (us0 ++ us1)) nj
          have ok01 : ∀ s ∈ ss0 ++ ss1, isSpan s = true := fun s hs => (List.mem_append.mp hs).elim (ok0 s) (ok1 s)
          have all01 : (ss0 ++ ss1).all isSpan = true := List.all_eq_true.mpr ok01
          refine ⟨j, us0 ++ us1, ss0 ++ ss1, rfl, gj, (hs0.app hs1).same sj, by rw [List.length_append]; omega, fun z => ?_, fun _ H6 g gs c s6 ng hg hgs can mem cl => ?_⟩
          · rw [all01] at z
            cases z
          rw [List.length_append] at cl
          have c6 : Chg T.tabs H4 H6 := c5.trans (Chg.of_same (sj.trans s6))
          have tb6 := (tb5.same sj).same s6
          have tg : Cv H6 (.ref g) c 20 := ⟨⟨g, gs, rfl, hg, hgs⟩, can, can_spans can (fun x => (mem x).mp) ok01, by omega⟩
          have mt : ∀ x, Mem c x ↔ Mem d0 x ∨ Mem d1 x := fun x => by
            rw [mem x, mem_app, m0 x, m1 x]
          -- two_right
          obtain ⟨a0, a1, a2, aC⟩ := st c6
          refine ⟨_, rfl, _, rfl, C, _, _, _, rfl, rfl, aC, t0, _, rfl, _, rfl, _, _, rfl, rfl, C, _, _, _, rfl, rfl, aC, t1, _, rfl, v0, v1, .ref g, d0, d1, c, rfl, tb6, a0, a1, tg, mt, fun H7 e7 tb7 => ⟨true, rfl, iteF ?_⟩⟩
          have c7 := c6.trans e7
          obtain ⟨a0, a1, a2, aC⟩ := st c7
          refine ⟨_, rfl, _, rfl, C, _, _, _, rfl, rfl, aC, t0, _, rfl, _, rfl, C, _, _, _, rfl, rfl, aC, t0, _, rfl, _, rfl, C, _, _, _, rfl, rfl, aC, t0, v0, v0, v0, d0, d0, d0, rfl, tb7, a0, a0, a0, fun x => ⟨.inl, fun h => h.elim id id⟩, fun H8 e8 tb8 => ⟨true, rfl, iteF ?_⟩⟩
          have c8 := c7.trans e8
          obtain ⟨a0, a1, a2, aC⟩ := st c8
          refine ⟨_, rfl, _, rfl, C, _, _, _, rfl, rfl, aC, t0, _, rfl, _, rfl, _, _, rfl, rfl, C, _, _, _, rfl, rfl, aC, t1, _, rfl, _, rfl, _, _, rfl, rfl, C, _, _, _, rfl, rfl, aC, t2, v0, v1, v2, d0, d1, d2, rfl, tb8, a0, a1, a2, fun H9 e9 tb9 => ⟨true, rfl, iteF ?_⟩⟩
          have c9 := c8.trans e9
          obtain ⟨a0, a1, a2, aC⟩ := st c9
          -- with nothing
          have nilv : ∀ {X : Hp} {l : Addr}, X l = some (.lst []) → Cv X (.ref l) [] 0 := fun {X l} h => ⟨⟨l, [], rfl, h, .nil⟩, can_nil, (fun s hs => nomatch hs), Nat.le_refl _⟩
          refine ⟨_, rfl, _, rfl, C, _, _, _, rfl, rfl, aC, t0, Nat.zero_le _, fun l4 n4 => ?_⟩
          obtain ⟨gl4, sl4⟩ := upd_at (o := .lst []) n4
          refine ⟨v0, .ref l4, d0, [], 20, 0, rfl, tb9.same sl4, a0.same sl4, nilv gl4, by decide, by decide, fun Ha pa da fa tba ka ma => ?_⟩
          have ca := (c9.trans (Chg.of_same sl4)).trans fa
          refine ⟨Nat.zero_le _, fun l5 n5 => ?_⟩
          obtain ⟨gl5, sl5⟩ := upd_at (o := .lst []) n5
          refine ⟨_, _, (ka.same sl5).dp, .lst (SqL.of gl5) .nil, shaped_spans _, shaped_nil, _, rfl, ?_⟩
          rw [eqv_spans_nil, decide_eq_true (can_ext ka.can can_nil fun x => by
            simp only [ma, bothP]
            simp [mem_nil])]
          refine iteF ?_
          have cb := ca.trans (Chg.of_same sl5)
          have tbb := tba.same sl5
          revert cb tbb
          generalize upd Ha l5 (.lst []) = Hb
          intro cb tbb
          obtain ⟨a0, a1, a2, aC⟩ := st cb
          refine ⟨_, rfl, _, rfl, C, _, _, _, rfl, rfl, aC, t0, Nat.zero_le _, fun l6 n6 => ?_⟩
          obtain ⟨gl6, sl6⟩ := upd_at (o := .lst []) n6
          refine ⟨v0, .ref l6, d0, [], 20, 0, rfl, tbb.same sl6, a0.same sl6, nilv gl6, by decide, by decide, fun Hc pc dc fc tbc kc mc => ?_⟩
          have cc := (cb.trans (Chg.of_same sl6)).trans fc
          obtain ⟨a0, a1, a2, aC⟩ := st cc
          refine ⟨_, rfl, _, rfl, C, _, _, _, rfl, rfl, aC, t0, _, _, kc.dp, a0.dp, shaped_spans _, shaped_spans _, _, rfl, ?_⟩
          rw [eqv_spans, decide_eq_true (can_ext kc.can a0.can fun x => by
            simp only [mc, eitherP]
            simp [mem_nil])]
          refine iteF ?_
          refine ⟨Nat.zero_le _, fun l7 n7 => ?_⟩
          obtain ⟨gl7, sl7⟩ := upd_at (o := .lst []) n7
          have aC' : SqL K (upd Hc l7 (.lst [])) C cs := sl7.seq aC
          refine ⟨_, rfl, _, rfl, C, _, _, _, rfl, rfl, aC', t0, .ref l7, v0, [], d0, 0, 20, rfl, tbc.same sl7, nilv gl7, a0.same sl7, by decide, by decide, fun Hd pd dd fd' tbd kd md => ?_⟩
          have cd := (cc.trans (Chg.of_same sl7)).trans fd'
          refine ⟨Nat.zero_le _, fun l8 n8 => ?_⟩
          obtain ⟨gl8, sl8⟩ := upd_at (o := .lst []) n8
          refine ⟨_, _, (kd.same sl8).dp, .lst (SqL.of gl8) .nil, shaped_spans _, shaped_nil, _, rfl, ?_⟩
          rw [eqv_spans_nil, decide_eq_true (can_ext kd.can can_nil fun x => by
            simp only [md, lessP]
            simp [mem_nil])]
          exact iteF ⟨_, _, rfl, cd.trans (Chg.of_same sl8), tbd.same sl8⟩
        · rintro σ H' ⟨y3, y6, rfl, c5, tb5⟩
          exact q _
end
theorem all_mk {l : PySem.W.OpenLaw} {w : World} {K : PySem.W.Frag} {h : Heap} {mg : Str → Option Value} {fa : Addr} (X : K.In h) (G : h.Ns mainGlobals mg) (hfa : mg "law" = some (.ref fa))
    {f_is_whole : Addr} {od_is_whole an_is_whole : Option Addr} {sl_is_whole : Array (Option Value)} {oc_is_whole kV_is_whole dc_is_whole pm_is_whole cd_is_whole ct_is_whole : Value}
    {f_is_place : Addr} {od_is_place an_is_place : Option Addr} {sl_is_place : Array (Option Value)} {oc_is_place kV_is_place dc_is_place pm_is_place cd_is_place ct_is_place : Value}
    {f_is_span : Addr} {od_is_span an_is_span : Option Addr} {sl_is_span : Array (Option Value)} {oc_is_span kV_is_span dc_is_span pm_is_span cd_is_span ct_is_span : Value}
    {f_check_span : Addr} {od_check_span an_check_span : Option Addr} {sl_check_span : Array (Option Value)} {oc_check_span kV_check_span dc_check_span pm_check_span cd_check_span ct_check_span : Value}
    {f_check_spans : Addr} {od_check_spans an_check_spans : Option Addr} {sl_check_spans : Array (Option Value)} {oc_check_spans kV_check_spans dc_check_spans pm_check_spans cd_check_spans ct_check_spans : Value}
    {f_is_cover : Addr} {od_is_cover an_is_cover : Option Addr} {sl_is_cover : Array (Option Value)} {oc_is_cover kV_is_cover dc_is_cover pm_is_cover ct_is_cover ec_is_cover : Value} {cA_is_cover pA_is_cover : Addr} {dd_is_cover : Option Addr} {vc_is_cover : Array Value} {sc_t_is_cover : Array (Option Value)}
    {f_check_cover : Addr} {od_check_cover an_check_cover : Option Addr} {sl_check_cover : Array (Option Value)} {oc_check_cover kV_check_cover dc_check_cover pm_check_cover cd_check_cover ct_check_cover : Value}
    {f_check_covers : Addr} {od_check_covers an_check_covers : Option Addr} {sl_check_covers : Array (Option Value)} {oc_check_covers kV_check_covers dc_check_covers pm_check_covers cd_check_covers ct_check_covers : Value}
    {f_joined : Addr} {od_joined an_joined : Option Addr} {sl_joined : Array (Option Value)} {oc_joined kV_joined dc_joined pm_joined cd_joined ct_joined : Value}
    {f_common : Addr} {od_common an_common : Option Addr} {sl_common : Array (Option Value)} {oc_common kV_common dc_common pm_common cd_common ct_common : Value}
    {f_gaps_of : Addr} {od_gaps_of an_gaps_of : Option Addr} {sl_gaps_of : Array (Option Value)} {oc_gaps_of kV_gaps_of dc_gaps_of pm_gaps_of cd_gaps_of ct_gaps_of : Value}
    {f_cover_of : Addr} {od_cover_of an_cover_of : Option Addr} {sl_cover_of : Array (Option Value)} {oc_cover_of kV_cover_of dc_cover_of pm_cover_of cd_cover_of ct_cover_of : Value}
    {f_both : Addr} {od_both an_both : Option Addr} {sl_both : Array (Option Value)} {oc_both kV_both dc_both pm_both cd_both ct_both : Value}
    {f_either : Addr} {od_either an_either : Option Addr} {sl_either : Array (Option Value)} {oc_either kV_either dc_either pm_either cd_either ct_either : Value}
    {f_less : Addr} {od_less an_less : Option Addr} {sl_less : Array (Option Value)} {oc_less kV_less dc_less pm_less cd_less ct_less : Value}
    {f_held : Addr} {od_held an_held : Option Addr} {sl_held : Array (Option Value)} {oc_held kV_held dc_held pm_held ct_held ec_held : Value} {cA_held pA_held : Addr} {dd_held : Option Addr} {vc_held : Array Value} {sc_t_held : Array (Option Value)}
    {f_l_at : Addr} {od_l_at an_l_at : Option Addr} {sl_l_at : Array (Option Value)} {oc_l_at kV_l_at dc_l_at pm_l_at cd_l_at ct_l_at : Value}
    {f_l_mixed : Addr} {od_l_mixed an_l_mixed : Option Addr} {sl_l_mixed : Array (Option Value)} {oc_l_mixed kV_l_mixed dc_l_mixed pm_l_mixed cd_l_mixed ct_l_mixed : Value}
    {f_l_purse : Addr} {od_l_purse an_l_purse : Option Addr} {sl_l_purse : Array (Option Value)} {oc_l_purse kV_l_purse dc_l_purse pm_l_purse cd_l_purse ct_l_purse : Value}
    {f_l_draw : Addr} {od_l_draw an_l_draw : Option Addr} {sl_l_draw : Array (Option Value)} {oc_l_draw kV_l_draw dc_l_draw pm_l_draw cd_l_draw ct_l_draw : Value}
    {f_l_number : Addr} {od_l_number an_l_number : Option Addr} {sl_l_number : Array (Option Value)} {oc_l_number kV_l_number dc_l_number pm_l_number cd_l_number ct_l_number : Value}
    {f_l_end : Addr} {od_l_end an_l_end : Option Addr} {sl_l_end : Array (Option Value)} {oc_l_end kV_l_end dc_l_end pm_l_end cd_l_end ct_l_end : Value}
    {f_l_span : Addr} {od_l_span an_l_span : Option Addr} {sl_l_span : Array (Option Value)} {oc_l_span kV_l_span dc_l_span pm_l_span cd_l_span ct_l_span : Value}
    {f_l_spans : Addr} {od_l_spans an_l_spans : Option Addr} {sl_l_spans : Array (Option Value)} {oc_l_spans kV_l_spans dc_l_spans pm_l_spans cd_l_spans ct_l_spans : Value}
    {f_l_two_right : Addr} {od_l_two_right an_l_two_right : Option Addr} {sl_l_two_right : Array (Option Value)} {oc_l_two_right kV_l_two_right dc_l_two_right pm_l_two_right cd_l_two_right ct_l_two_right : Value}
    {f_l_three_right : Addr} {od_l_three_right an_l_three_right : Option Addr} {sl_l_three_right : Array (Option Value)} {oc_l_three_right kV_l_three_right dc_l_three_right pm_l_three_right cd_l_three_right ct_l_three_right : Value}
    {f_law : Addr} {od_law an_law : Option Addr} {sl_law : Array (Option Value)} {oc_law kV_law dc_law pm_law cd_law ct_law : Value}
    {tc_LEAST_PLACE : Tok}
    {tc_GREATEST_PLACE : Tok}
    {tc_MOST_SPANS : Tok}
    {C_ShelfError : Addr}
    {C_NoSpan : Addr}
    {C_NoCover : Addr}
    (a_is_whole : PySem.W.nsIn K mainGlobals "is_whole" = some (some (.ref f_is_whole)))
    (l_is_whole : K.lookup f_is_whole = some ⟨oc_is_whole, od_is_whole, .func (PySem.W.fnOf "is_whole" "is_whole" (defArgs s_is_whole) (defBody s_is_whole) (defScope s_is_whole) .none kV_is_whole dc_is_whole pm_is_whole an_is_whole cd_is_whole ct_is_whole), sl_is_whole⟩)
    (c_is_whole : PySem.W.codeIn K cd_is_whole "is_whole" = true)
    (k_is_whole : PySem.W.keepIn K (.ref f_is_whole) = true)
    (a_is_place : PySem.W.nsIn K mainGlobals "is_place" = some (some (.ref f_is_place)))
    (l_is_place : K.lookup f_is_place = some ⟨oc_is_place, od_is_place, .func (PySem.W.fnOf "is_place" "is_place" (defArgs s_is_place) (defBody s_is_place) (defScope s_is_place) .none kV_is_place dc_is_place pm_is_place an_is_place cd_is_place ct_is_place), sl_is_place⟩)
    (c_is_place : PySem.W.codeIn K cd_is_place "is_place" = true)
    (k_is_place : PySem.W.keepIn K (.ref f_is_place) = true)
    (a_is_span : PySem.W.nsIn K mainGlobals "is_span" = some (some (.ref f_is_span)))
    (l_is_span : K.lookup f_is_span = some ⟨oc_is_span, od_is_span, .func (PySem.W.fnOf "is_span" "is_span" (defArgs s_is_span) (defBody s_is_span) (defScope s_is_span) .none kV_is_span dc_is_span pm_is_span an_is_span cd_is_span ct_is_span), sl_is_span⟩)
    (c_is_span : PySem.W.codeIn K cd_is_span "is_span" = true)
    (k_is_span : PySem.W.keepIn K (.ref f_is_span) = true)
    (a_check_span : PySem.W.nsIn K mainGlobals "check_span" = some (some (.ref f_check_span)))
    (l_check_span : K.lookup f_check_span = some ⟨oc_check_span, od_check_span, .func (PySem.W.fnOf "check_span" "check_span" (defArgs s_check_span) (defBody s_check_span) (defScope s_check_span) .none kV_check_span dc_check_span pm_check_span an_check_span cd_check_span ct_check_span), sl_check_span⟩)
    (c_check_span : PySem.W.codeIn K cd_check_span "check_span" = true)
    (k_check_span : PySem.W.keepIn K (.ref f_check_span) = true)
    (a_check_spans : PySem.W.nsIn K mainGlobals "check_spans" = some (some (.ref f_check_spans)))
    (l_check_spans : K.lookup f_check_spans = some ⟨oc_check_spans, od_check_spans, .func (PySem.W.fnOf "check_spans" "check_spans" (defArgs s_check_spans) (defBody s_check_spans) (defScope s_check_spans) .none kV_check_spans dc_check_spans pm_check_spans an_check_spans cd_check_spans ct_check_spans), sl_check_spans⟩)
    (c_check_spans : PySem.W.codeIn K cd_check_spans "check_spans" = true)
    (k_check_spans : PySem.W.keepIn K (.ref f_check_spans) = true)
    (a_is_cover : PySem.W.nsIn K mainGlobals "is_cover" = some (some (.ref f_is_cover)))
    (l_is_cover : K.lookup f_is_cover = some ⟨oc_is_cover, od_is_cover, .func (PySem.W.fnOf "is_cover" "is_cover" (defArgs s_is_cover) (defBody s_is_cover) (defScope s_is_cover) .none kV_is_cover dc_is_cover pm_is_cover an_is_cover (.ref cA_is_cover) ct_is_cover), sl_is_cover⟩)
    (c_is_cover : PySem.W.codeIn K (.ref cA_is_cover) "is_cover" = true)
    (k_is_cover : PySem.W.keepIn K (.ref f_is_cover) = true)
    (y1_is_cover : K.lookup cA_is_cover = some ⟨ec_is_cover, dd_is_cover, .fields vc_is_cover, sc_t_is_cover⟩)
    (y2_is_cover : vc_is_cover[11]? = some (.ref pA_is_cover))
    (y3_is_cover : K.lookup pA_is_cover = none)
    (a_check_cover : PySem.W.nsIn K mainGlobals "check_cover" = some (some (.ref f_check_cover)))
    (l_check_cover : K.lookup f_check_cover = some ⟨oc_check_cover, od_check_cover, .func (PySem.W.fnOf "check_cover" "check_cover" (defArgs s_check_cover) (defBody s_check_cover) (defScope s_check_cover) .none kV_check_cover dc_check_cover pm_check_cover an_check_cover cd_check_cover ct_check_cover), sl_check_cover⟩)
    (c_check_cover : PySem.W.codeIn K cd_check_cover "check_cover" = true)
    (k_check_cover : PySem.W.keepIn K (.ref f_check_cover) = true)
    (a_check_covers : PySem.W.nsIn K mainGlobals "check_covers" = some (some (.ref f_check_covers)))
    (l_check_covers : K.lookup f_check_covers = some ⟨oc_check_covers, od_check_covers, .func (PySem.W.fnOf "check_covers" "check_covers" (defArgs s_check_covers) (defBody s_check_covers) (defScope s_check_covers) .none kV_check_covers dc_check_covers pm_check_covers an_check_covers cd_check_covers ct_check_covers), sl_check_covers⟩)
    (c_check_covers : PySem.W.codeIn K cd_check_covers "check_covers" = true)
    (k_check_covers : PySem.W.keepIn K (.ref f_check_covers) = true)
    (a_joined : PySem.W.nsIn K mainGlobals "joined" = some (some (.ref f_joined)))
    (l_joined : K.lookup f_joined = some ⟨oc_joined, od_joined, .func (PySem.W.fnOf "joined" "joined" (defArgs s_joined) (defBody s_joined) (defScope s_joined) .none kV_joined dc_joined pm_joined an_joined cd_joined ct_joined), sl_joined⟩)
    (c_joined : PySem.W.codeIn K cd_joined "joined" = true)
    (k_joined : PySem.W.keepIn K (.ref f_joined) = true)
    (a_common : PySem.W.nsIn K mainGlobals "common" = some (some (.ref f_common)))
    (l_common : K.lookup f_common = some ⟨oc_common, od_common, .func (PySem.W.fnOf "common" "common" (defArgs s_common) (defBody s_common) (defScope s_common) .none kV_common dc_common pm_common an_common cd_common ct_common), sl_common⟩)
    (c_common : PySem.W.codeIn K cd_common "common" = true)
    (k_common : PySem.W.keepIn K (.ref f_common) = true)
    (a_gaps_of : PySem.W.nsIn K mainGlobals "gaps_of" = some (some (.ref f_gaps_of)))
    (l_gaps_of : K.lookup f_gaps_of = some ⟨oc_gaps_of, od_gaps_of, .func (PySem.W.fnOf "gaps_of" "gaps_of" (defArgs s_gaps_of) (defBody s_gaps_of) (defScope s_gaps_of) .none kV_gaps_of dc_gaps_of pm_gaps_of an_gaps_of cd_gaps_of ct_gaps_of), sl_gaps_of⟩)
    (c_gaps_of : PySem.W.codeIn K cd_gaps_of "gaps_of" = true)
    (k_gaps_of : PySem.W.keepIn K (.ref f_gaps_of) = true)
    (a_cover_of : PySem.W.nsIn K mainGlobals "cover_of" = some (some (.ref f_cover_of)))
    (l_cover_of : K.lookup f_cover_of = some ⟨oc_cover_of, od_cover_of, .func (PySem.W.fnOf "cover_of" "cover_of" (defArgs s_cover_of) (defBody s_cover_of) (defScope s_cover_of) .none kV_cover_of dc_cover_of pm_cover_of an_cover_of cd_cover_of ct_cover_of), sl_cover_of⟩)
    (c_cover_of : PySem.W.codeIn K cd_cover_of "cover_of" = true)
    (k_cover_of : PySem.W.keepIn K (.ref f_cover_of) = true)
    (a_both : PySem.W.nsIn K mainGlobals "both" = some (some (.ref f_both)))
    (l_both : K.lookup f_both = some ⟨oc_both, od_both, .func (PySem.W.fnOf "both" "both" (defArgs s_both) (defBody s_both) (defScope s_both) .none kV_both dc_both pm_both an_both cd_both ct_both), sl_both⟩)
    (c_both : PySem.W.codeIn K cd_both "both" = true)
    (k_both : PySem.W.keepIn K (.ref f_both) = true)
    (a_either : PySem.W.nsIn K mainGlobals "either" = some (some (.ref f_either)))
    (l_either : K.lookup f_either = some ⟨oc_either, od_either, .func (PySem.W.fnOf "either" "either" (defArgs s_either) (defBody s_either) (defScope s_either) .none kV_either dc_either pm_either an_either cd_either ct_either), sl_either⟩)
    (c_either : PySem.W.codeIn K cd_either "either" = true)
    (k_either : PySem.W.keepIn K (.ref f_either) = true)
    (a_less : PySem.W.nsIn K mainGlobals "less" = some (some (.ref f_less)))
    (l_less : K.lookup f_less = some ⟨oc_less, od_less, .func (PySem.W.fnOf "less" "less" (defArgs s_less) (defBody s_less) (defScope s_less) .none kV_less dc_less pm_less an_less cd_less ct_less), sl_less⟩)
    (c_less : PySem.W.codeIn K cd_less "less" = true)
    (k_less : PySem.W.keepIn K (.ref f_less) = true)
    (a_held : PySem.W.nsIn K mainGlobals "held" = some (some (.ref f_held)))
    (l_held : K.lookup f_held = some ⟨oc_held, od_held, .func (PySem.W.fnOf "held" "held" (defArgs s_held) (defBody s_held) (defScope s_held) .none kV_held dc_held pm_held an_held (.ref cA_held) ct_held), sl_held⟩)
    (c_held : PySem.W.codeIn K (.ref cA_held) "held" = true)
    (k_held : PySem.W.keepIn K (.ref f_held) = true)
    (y1_held : K.lookup cA_held = some ⟨ec_held, dd_held, .fields vc_held, sc_t_held⟩)
    (y2_held : vc_held[11]? = some (.ref pA_held))
    (y3_held : K.lookup pA_held = none)
    (a_l_at : PySem.W.nsIn K mainGlobals "_law_at" = some (some (.ref f_l_at)))
    (l_l_at : K.lookup f_l_at = some ⟨oc_l_at, od_l_at, .func (PySem.W.fnOf "_law_at" "_law_at" (defArgs s_l_at) (defBody s_l_at) (defScope s_l_at) .none kV_l_at dc_l_at pm_l_at an_l_at cd_l_at ct_l_at), sl_l_at⟩)
    (c_l_at : PySem.W.codeIn K cd_l_at "_law_at" = true)
    (k_l_at : PySem.W.keepIn K (.ref f_l_at) = true)
    (a_l_mixed : PySem.W.nsIn K mainGlobals "_law_mixed" = some (some (.ref f_l_mixed)))
    (l_l_mixed : K.lookup f_l_mixed = some ⟨oc_l_mixed, od_l_mixed, .func (PySem.W.fnOf "_law_mixed" "_law_mixed" (defArgs s_l_mixed) (defBody s_l_mixed) (defScope s_l_mixed) .none kV_l_mixed dc_l_mixed pm_l_mixed an_l_mixed cd_l_mixed ct_l_mixed), sl_l_mixed⟩)
    (c_l_mixed : PySem.W.codeIn K cd_l_mixed "_law_mixed" = true)
    (k_l_mixed : PySem.W.keepIn K (.ref f_l_mixed) = true)
    (a_l_purse : PySem.W.nsIn K mainGlobals "_law_purse" = some (some (.ref f_l_purse)))
    (l_l_purse : K.lookup f_l_purse = some ⟨oc_l_purse, od_l_purse, .func (PySem.W.fnOf "_law_purse" "_law_purse" (defArgs s_l_purse) (defBody s_l_purse) (defScope s_l_purse) .none kV_l_purse dc_l_purse pm_l_purse an_l_purse cd_l_purse ct_l_purse), sl_l_purse⟩)
    (c_l_purse : PySem.W.codeIn K cd_l_purse "_law_purse" = true)
    (k_l_purse : PySem.W.keepIn K (.ref f_l_purse) = true)
    (a_l_draw : PySem.W.nsIn K mainGlobals "_law_draw" = some (some (.ref f_l_draw)))
    (l_l_draw : K.lookup f_l_draw = some ⟨oc_l_draw, od_l_draw, .func (PySem.W.fnOf "_law_draw" "_law_draw" (defArgs s_l_draw) (defBody s_l_draw) (defScope s_l_draw) .none kV_l_draw dc_l_draw pm_l_draw an_l_draw cd_l_draw ct_l_draw), sl_l_draw⟩)
    (c_l_draw : PySem.W.codeIn K cd_l_draw "_law_draw" = true)
    (k_l_draw : PySem.W.keepIn K (.ref f_l_draw) = true)
    (a_l_number : PySem.W.nsIn K mainGlobals "_law_number" = some (some (.ref f_l_number)))
    (l_l_number : K.lookup f_l_number = some ⟨oc_l_number, od_l_number, .func (PySem.W.fnOf "_law_number" "_law_number" (defArgs s_l_number) (defBody s_l_number) (defScope s_l_number) .none kV_l_number dc_l_number pm_l_number an_l_number cd_l_number ct_l_number), sl_l_number⟩)
    (c_l_number : PySem.W.codeIn K cd_l_number "_law_number" = true)
    (k_l_number : PySem.W.keepIn K (.ref f_l_number) = true)
    (a_l_end : PySem.W.nsIn K mainGlobals "_law_end" = some (some (.ref f_l_end)))
    (l_l_end : K.lookup f_l_end = some ⟨oc_l_end, od_l_end, .func (PySem.W.fnOf "_law_end" "_law_end" (defArgs s_l_end) (defBody s_l_end) (defScope s_l_end) .none kV_l_end dc_l_end pm_l_end an_l_end cd_l_end ct_l_end), sl_l_end⟩)
    (c_l_end : PySem.W.codeIn K cd_l_end "_law_end" = true)
    (k_l_end : PySem.W.keepIn K (.ref f_l_end) = true)
    (a_l_span : PySem.W.nsIn K mainGlobals "_law_span" = some (some (.ref f_l_span)))
    (l_l_span : K.lookup f_l_span = some ⟨oc_l_span, od_l_span, .func (PySem.W.fnOf "_law_span" "_law_span" (defArgs s_l_span) (defBody s_l_span) (defScope s_l_span) .none kV_l_span dc_l_span pm_l_span an_l_span cd_l_span ct_l_span), sl_l_span⟩)
    (c_l_span : PySem.W.codeIn K cd_l_span "_law_span" = true)
    (k_l_span : PySem.W.keepIn K (.ref f_l_span) = true)
    (a_l_spans : PySem.W.nsIn K mainGlobals "_law_spans" = some (some (.ref f_l_spans)))
    (l_l_spans : K.lookup f_l_spans = some ⟨oc_l_spans, od_l_spans, .func (PySem.W.fnOf "_law_spans" "_law_spans" (defArgs s_l_spans) (defBody s_l_spans) (defScope s_l_spans) .none kV_l_spans dc_l_spans pm_l_spans an_l_spans cd_l_spans ct_l_spans), sl_l_spans⟩)
    (c_l_spans : PySem.W.codeIn K cd_l_spans "_law_spans" = true)
    (k_l_spans : PySem.W.keepIn K (.ref f_l_spans) = true)
    (a_l_two_right : PySem.W.nsIn K mainGlobals "_law_two_right" = some (some (.ref f_l_two_right)))
    (l_l_two_right : K.lookup f_l_two_right = some ⟨oc_l_two_right, od_l_two_right, .func (PySem.W.fnOf "_law_two_right" "_law_two_right" (defArgs s_l_two_right) (defBody s_l_two_right) (defScope s_l_two_right) .none kV_l_two_right dc_l_two_right pm_l_two_right an_l_two_right cd_l_two_right ct_l_two_right), sl_l_two_right⟩)
    (c_l_two_right : PySem.W.codeIn K cd_l_two_right "_law_two_right" = true)
    (k_l_two_right : PySem.W.keepIn K (.ref f_l_two_right) = true)
    (a_l_three_right : PySem.W.nsIn K mainGlobals "_law_three_right" = some (some (.ref f_l_three_right)))
    (l_l_three_right : K.lookup f_l_three_right = some ⟨oc_l_three_right, od_l_three_right, .func (PySem.W.fnOf "_law_three_right" "_law_three_right" (defArgs s_l_three_right) (defBody s_l_three_right) (defScope s_l_three_right) .none kV_l_three_right dc_l_three_right pm_l_three_right an_l_three_right cd_l_three_right ct_l_three_right), sl_l_three_right⟩)
    (c_l_three_right : PySem.W.codeIn K cd_l_three_right "_law_three_right" = true)
    (k_l_three_right : PySem.W.keepIn K (.ref f_l_three_right) = true)
    (a_law : PySem.W.nsIn K mainGlobals "law" = some (some (.ref f_law)))
    (l_law : K.lookup f_law = some ⟨oc_law, od_law, .func (PySem.W.fnOf "law" "law" (defArgs s_law) (defBody s_law) (defScope s_law) .none kV_law dc_law pm_law an_law cd_law ct_law), sl_law⟩)
    (c_law : PySem.W.codeIn K cd_law "law" = true)
    (k_law : PySem.W.keepIn K (.ref f_law) = true)
    (n_LEAST_PLACE : PySem.W.nsIn K mainGlobals "LEAST_PLACE" = some (some (.int (-999999999999) tc_LEAST_PLACE)))
    (n_GREATEST_PLACE : PySem.W.nsIn K mainGlobals "GREATEST_PLACE" = some (some (.int (999999999999) tc_GREATEST_PLACE)))
    (n_MOST_SPANS : PySem.W.nsIn K mainGlobals "MOST_SPANS" = some (some (.int (200) tc_MOST_SPANS)))
    (a_ShelfError : PySem.W.nsIn K mainGlobals "ShelfError" = some (some (.ref C_ShelfError)))
    (x_ShelfError : PySem.W.excIn K C_ShelfError [.type "ValueError", .type "Exception", .type "BaseException", .type "object"] "ValueError.__new__" = true)
    (k_ShelfError : PySem.W.keepIn K (.ref C_ShelfError) = true)
    (b_ShelfError : PySem.W.subIn K (.ref C_ShelfError) (.type "BaseException") = some true)
    (t_ShelfError : PySem.W.typeIn K (.ref C_ShelfError) = some (.type "type"))
    (a_NoSpan : PySem.W.nsIn K mainGlobals "NoSpan" = some (some (.ref C_NoSpan)))
    (x_NoSpan : PySem.W.excIn K C_NoSpan [.type "ValueError", .type "Exception", .type "BaseException", .type "object"] "ValueError.__new__" = true)
    (k_NoSpan : PySem.W.keepIn K (.ref C_NoSpan) = true)
    (b_NoSpan : PySem.W.subIn K (.ref C_NoSpan) (.type "BaseException") = some true)
    (t_NoSpan : PySem.W.typeIn K (.ref C_NoSpan) = some (.type "type"))
    (a_NoCover : PySem.W.nsIn K mainGlobals "NoCover" = some (some (.ref C_NoCover)))
    (x_NoCover : PySem.W.excIn K C_NoCover [.type "ValueError", .type "Exception", .type "BaseException", .type "object"] "ValueError.__new__" = true)
    (k_NoCover : PySem.W.keepIn K (.ref C_NoCover) = true)
    (b_NoCover : PySem.W.subIn K (.ref C_NoCover) (.type "BaseException") = some true)
    (t_NoCover : PySem.W.typeIn K (.ref C_NoCover) = some (.type "type"))
    (z_all : PySem.W.nsIn K mainGlobals "all" = some none)
    (z_bool : PySem.W.nsIn K mainGlobals "bool" = some none)
    (z_int : PySem.W.nsIn K mainGlobals "int" = some none)
    (z_isinstance : PySem.W.nsIn K mainGlobals "isinstance" = some none)
    (z_len : PySem.W.nsIn K mainGlobals "len" = some none)
    (z_max : PySem.W.nsIn K mainGlobals "max" = some none)
    (z_min : PySem.W.nsIn K mainGlobals "min" = some none)
    (z_range : PySem.W.nsIn K mainGlobals "range" = some none)
    (z_sorted : PySem.W.nsIn K mainGlobals "sorted" = some none)
    (z_sum : PySem.W.nsIn K mainGlobals "sum" = some none)
    (z_tuple : PySem.W.nsIn K mainGlobals "tuple" = some none)
    (z_zip : PySem.W.nsIn K mainGlobals "zip" = some none)
    (R : ∀ nm ∈ (["is_cover", "held"] : List Str), TabRec h mg nm)
    : LamX.LawAtS l w K CX0 10 63 "_law_script" mg fa h := by
  have e := hfa.symm.trans (PySem.W.mg_of X G a_law)
  cases e
  have F_is_whole := fun_mk (st := s_is_whole) l_is_whole c_is_whole k_is_whole
  have b_is_whole := F_is_whole.binds (ps := ["number"]) fun _ _ _ _ _ _ us hl => match us, hl with | [_], _ => rfl
  have F_is_place := fun_mk (st := s_is_place) l_is_place c_is_place k_is_place
  have b_is_place := F_is_place.binds (ps := ["number"]) fun _ _ _ _ _ _ us hl => match us, hl with | [_], _ => rfl
  have F_is_span := fun_mk (st := s_is_span) l_is_span c_is_span k_is_span
  have b_is_span := F_is_span.binds (ps := ["span"]) fun _ _ _ _ _ _ us hl => match us, hl with | [_], _ => rfl
  have F_check_span := fun_mk (st := s_check_span) l_check_span c_check_span k_check_span
  have b_check_span := F_check_span.binds (ps := ["span"]) fun _ _ _ _ _ _ us hl => match us, hl with | [_], _ => rfl
  have F_check_spans := fun_mk (st := s_check_spans) l_check_spans c_check_spans k_check_spans
  have b_check_spans := F_check_spans.binds (ps := ["spans"]) fun _ _ _ _ _ _ us hl => match us, hl with | [_], _ => rfl
  have F_is_cover := fun_mk (st := s_is_cover) l_is_cover c_is_cover k_is_cover
  have b_is_cover := F_is_cover.binds (ps := ["spans"]) fun _ _ _ _ _ _ us hl => match us, hl with | [_], _ => rfl
  have F_check_cover := fun_mk (st := s_check_cover) l_check_cover c_check_cover k_check_cover
  have b_check_cover := F_check_cover.binds (ps := ["cover"]) fun _ _ _ _ _ _ us hl => match us, hl with | [_], _ => rfl
  have F_check_covers := fun_mk (st := s_check_covers) l_check_covers c_check_covers k_check_covers
  have b_check_covers := F_check_covers.binds (ps := ["one", "other"]) fun _ _ _ _ _ _ us hl => match us, hl with | [_, _], _ => rfl
  have F_joined := fun_mk (st := s_joined) l_joined c_joined k_joined
  have b_joined := F_joined.binds (ps := ["spans"]) fun _ _ _ _ _ _ us hl => match us, hl with | [_], _ => rfl
  have F_common := fun_mk (st := s_common) l_common c_common k_common
  have b_common := F_common.binds (ps := ["one", "other"]) fun _ _ _ _ _ _ us hl => match us, hl with | [_, _], _ => rfl
  have F_gaps_of := fun_mk (st := s_gaps_of) l_gaps_of c_gaps_of k_gaps_of
  have b_gaps_of := F_gaps_of.binds (ps := ["cover"]) fun _ _ _ _ _ _ us hl => match us, hl with | [_], _ => rfl
  have F_cover_of := fun_mk (st := s_cover_of) l_cover_of c_cover_of k_cover_of
  have b_cover_of := F_cover_of.binds (ps := ["spans"]) fun _ _ _ _ _ _ us hl => match us, hl with | [_], _ => rfl
  have F_both := fun_mk (st := s_both) l_both c_both k_both
  have b_both := F_both.binds (ps := ["one", "other"]) fun _ _ _ _ _ _ us hl => match us, hl with | [_, _], _ => rfl
  have F_either := fun_mk (st := s_either) l_either c_either k_either
  have b_either := F_either.binds (ps := ["one", "other"]) fun _ _ _ _ _ _ us hl => match us, hl with | [_, _], _ => rfl
  have F_less := fun_mk (st := s_less) l_less c_less k_less
  have b_less := F_less.binds (ps := ["one", "other"]) fun _ _ _ _ _ _ us hl => match us, hl with | [_, _], _ => rfl
  have F_held := fun_mk (st := s_held) l_held c_held k_held
  have b_held := F_held.binds (ps := ["cover"]) fun _ _ _ _ _ _ us hl => match us, hl with | [_], _ => rfl
  have F_l_at := fun_mk (st := s_l_at) l_l_at c_l_at k_l_at
  have b_l_at := F_l_at.binds (ps := ["_law_script", "_law_k"]) fun _ _ _ _ _ _ us hl => match us, hl with | [_, _], _ => rfl
  have F_l_mixed := fun_mk (st := s_l_mixed) l_l_mixed c_l_mixed k_l_mixed
  have b_l_mixed := F_l_mixed.binds (ps := ["_law_cell", "_law_k"]) fun _ _ _ _ _ _ us hl => match us, hl with | [_, _], _ => rfl
  have F_l_purse := fun_mk (st := s_l_purse) l_l_purse c_l_purse k_l_purse
  have b_l_purse := F_l_purse.binds (ps := ["_law_script", "_law_at_here"]) fun _ _ _ _ _ _ us hl => match us, hl with | [_, _], _ => rfl
  have F_l_draw := fun_mk (st := s_l_draw) l_l_draw c_l_draw k_l_draw
  have b_l_draw := F_l_draw.binds (ps := ["_law_purse_here", "_law_out_of"]) fun _ _ _ _ _ _ us hl => match us, hl with | [_, _], _ => rfl
  have F_l_number := fun_mk (st := s_l_number) l_l_number c_l_number k_l_number
  have b_l_number := F_l_number.binds (ps := ["_law_purse_here", "_law_most"]) fun _ _ _ _ _ _ us hl => match us, hl with | [_, _], _ => rfl
  have F_l_end := fun_mk (st := s_l_end) l_l_end c_l_end k_l_end
  have b_l_end := F_l_end.binds (ps := ["_law_purse_here", "_law_ends", "_law_most"]) fun _ _ _ _ _ _ us hl => match us, hl with | [_, _, _], _ => rfl
  have F_l_span := fun_mk (st := s_l_span) l_l_span c_l_span k_l_span
  have b_l_span := F_l_span.binds (ps := ["_law_purse_here", "_law_ends", "_law_most"]) fun _ _ _ _ _ _ us hl => match us, hl with | [_, _, _], _ => rfl
  have F_l_spans := fun_mk (st := s_l_spans) l_l_spans c_l_spans k_l_spans
  have b_l_spans := F_l_spans.binds (ps := ["_law_purse_here", "_law_ends", "_law_most"]) fun _ _ _ _ _ _ us hl => match us, hl with | [_, _, _], _ => rfl
  have F_l_two_right := fun_mk (st := s_l_two_right) l_l_two_right c_l_two_right k_l_two_right
  have b_l_two_right := F_l_two_right.binds (ps := ["_law_one", "_law_other", "_law_together"]) fun _ _ _ _ _ _ us hl => match us, hl with | [_, _, _], _ => rfl
  have F_l_three_right := fun_mk (st := s_l_three_right) l_l_three_right c_l_three_right k_l_three_right
  have b_l_three_right := F_l_three_right.binds (ps := ["_law_a", "_law_b", "_law_c"]) fun _ _ _ _ _ _ us hl => match us, hl with | [_, _, _], _ => rfl
  have F_law := fun_mk (st := s_law) l_law c_law k_law
  have b_law := F_law.binds (ps := ["_law_script"]) fun _ _ _ _ _ _ us hl => match us, hl with | [_], _ => rfl
  let T : Tx K mg := { f_is_whole := _, fd_is_whole := _, F_is_whole := F_is_whole, b_is_whole := b_is_whole, g_is_whole := PySem.W.mg_of X G a_is_whole, f_is_place := _, fd_is_place := _, F_is_place := F_is_place, b_is_place := b_is_place, g_is_place := PySem.W.mg_of X G a_is_place, f_is_span := _, fd_is_span := _, F_is_span := F_is_span, b_is_span := b_is_span, g_is_span := PySem.W.mg_of X G a_is_span, f_check_span := _, fd_check_span := _, F_check_span := F_check_span, b_check_span := b_check_span, g_check_span := PySem.W.mg_of X G a_check_span, f_check_spans := _, fd_check_spans := _, F_check_spans := F_check_spans, b_check_spans := b_check_spans, g_check_spans := PySem.W.mg_of X G a_check_spans, f_is_cover := _, fd_is_cover := _, F_is_cover := F_is_cover, b_is_cover := b_is_cover, g_is_cover := PySem.W.mg_of X G a_is_cover, cA_is_cover := cA_is_cover, pA_is_cover := pA_is_cover, FC_is_cover := ⟨⟨_, _, _, _, _, _, _, _, rfl, l_is_cover, c_is_cover⟩⟩, f_check_cover := _, fd_check_cover := _, F_check_cover := F_check_cover, b_check_cover := b_check_cover, g_check_cover := PySem.W.mg_of X G a_check_cover, f_check_covers := _, fd_check_covers := _, F_check_covers := F_check_covers, b_check_covers := b_check_covers, g_check_covers := PySem.W.mg_of X G a_check_covers, f_joined := _, fd_joined := _, F_joined := F_joined, b_joined := b_joined, g_joined := PySem.W.mg_of X G a_joined, f_common := _, fd_common := _, F_common := F_common, b_common := b_common, g_common := PySem.W.mg_of X G a_common, f_gaps_of := _, fd_gaps_of := _, F_gaps_of := F_gaps_of, b_gaps_of := b_gaps_of, g_gaps_of := PySem.W.mg_of X G a_gaps_of, f_cover_of := _, fd_cover_of := _, F_cover_of := F_cover_of, b_cover_of := b_cover_of, g_cover_of := PySem.W.mg_of X G a_cover_of, f_both := _, fd_both := _, F_both := F_both, b_both := b_both, g_both := PySem.W.mg_of X G a_both, f_either := _, fd_either := _, F_either := F_either, b_either := b_either, g_either := PySem.W.mg_of X G a_either, f_less := _, fd_less := _, F_less := F_less, b_less := b_less, g_less := PySem.W.mg_of X G a_less, f_held := _, fd_held := _, F_held := F_held, b_held := b_held, g_held := PySem.W.mg_of X G a_held, cA_held := cA_held, pA_held := pA_held, FC_held := ⟨⟨_, _, _, _, _, _, _, _, rfl, l_held, c_held⟩⟩, f_l_at := _, fd_l_at := _, F_l_at := F_l_at, b_l_at := b_l_at, g_l_at := PySem.W.mg_of X G a_l_at, f_l_mixed := _, fd_l_mixed := _, F_l_mixed := F_l_mixed, b_l_mixed := b_l_mixed, g_l_mixed := PySem.W.mg_of X G a_l_mixed, f_l_purse := _, fd_l_purse := _, F_l_purse := F_l_purse, b_l_purse := b_l_purse, g_l_purse := PySem.W.mg_of X G a_l_purse, f_l_draw := _, fd_l_draw := _, F_l_draw := F_l_draw, b_l_draw := b_l_draw, g_l_draw := PySem.W.mg_of X G a_l_draw, f_l_number := _, fd_l_number := _, F_l_number := F_l_number, b_l_number := b_l_number, g_l_number := PySem.W.mg_of X G a_l_number, f_l_end := _, fd_l_end := _, F_l_end := F_l_end, b_l_end := b_l_end, g_l_end := PySem.W.mg_of X G a_l_end, f_l_span := _, fd_l_span := _, F_l_span := F_l_span, b_l_span := b_l_span, g_l_span := PySem.W.mg_of X G a_l_span, f_l_spans := _, fd_l_spans := _, F_l_spans := F_l_spans, b_l_spans := b_l_spans, g_l_spans := PySem.W.mg_of X G a_l_spans, f_l_two_right := _, fd_l_two_right := _, F_l_two_right := F_l_two_right, b_l_two_right := b_l_two_right, g_l_two_right := PySem.W.mg_of X G a_l_two_right, f_l_three_right := _, fd_l_three_right := _, F_l_three_right := F_l_three_right, b_l_three_right := b_l_three_right, g_l_three_right := PySem.W.mg_of X G a_l_three_right, f_law := _, fd_law := _, F_law := F_law, b_law := b_law, g_law := PySem.W.mg_of X G a_law, tc_LEAST_PLACE := _, c_LEAST_PLACE := PySem.W.mg_of X G n_LEAST_PLACE, tc_GREATEST_PLACE := _, c_GREATEST_PLACE := PySem.W.mg_of X G n_GREATEST_PLACE, tc_MOST_SPANS := _, c_MOST_SPANS := PySem.W.mg_of X G n_MOST_SPANS, C_ShelfError := _, g_ShelfError := PySem.W.mg_of X G a_ShelfError, x_ShelfError := x_ShelfError, k_ShelfError := k_ShelfError, b_ShelfError := b_ShelfError, t_ShelfError := t_ShelfError, C_NoSpan := _, g_NoSpan := PySem.W.mg_of X G a_NoSpan, x_NoSpan := x_NoSpan, k_NoSpan := k_NoSpan, b_NoSpan := b_NoSpan, t_NoSpan := t_NoSpan, C_NoCover := _, g_NoCover := PySem.W.mg_of X G a_NoCover, x_NoCover := x_NoCover, k_NoCover := k_NoCover, b_NoCover := b_NoCover, t_NoCover := t_NoCover, m_all := PySem.W.mg_none_of X G z_all, m_bool := PySem.W.mg_none_of X G z_bool, m_int := PySem.W.mg_none_of X G z_int, m_isinstance := PySem.W.mg_none_of X G z_isinstance, m_len := PySem.W.mg_none_of X G z_len, m_max := PySem.W.mg_none_of X G z_max, m_min := PySem.W.mg_none_of X G z_min, m_range := PySem.W.mg_none_of X G z_range, m_sorted := PySem.W.mg_none_of X G z_sorted, m_sum := PySem.W.mg_none_of X G z_sum, m_tuple := PySem.W.mg_none_of X G z_tuple, m_zip := PySem.W.mg_none_of X G z_zip }
  have z_t0 := tab_of X (R "is_cover" (by simp)) (PySem.W.mg_of X G a_is_cover) l_is_cover rfl y1_is_cover y2_is_cover
  have z_t1 := tab_of X (R "held" (by simp)) (PySem.W.mg_of X G a_held) l_held rfl y1_held y2_held
  have e1 : ∀ p ∈ ([(cA_is_cover, pA_is_cover), (cA_held, pA_held)] : List (Addr × Addr)), h.get? p.2 = some { cls := .none, data := .fields #[] } ∧ K.lookup p.2 = none ∧ PySem.W.CodeHd h p.1 p.2 := fun p hp => by
    simp only [List.mem_cons, List.not_mem_nil, or_false] at hp
    rcases hp with rfl | rfl
    · exact ⟨z_t0.1, y3_is_cover, z_t0.2⟩
    · exact ⟨z_t1.1, y3_held, z_t1.2⟩
  refine ⟨PySem.W.fnOf "law" "law" (defArgs s_law) (defBody s_law) (defScope s_law) .none kV_law dc_law pm_law an_law cd_law ct_law, [(cA_is_cover, pA_is_cover), (cA_held, pA_held)], spLaw T, fun p hp => (e1 p hp).1, fun p hp => (e1 p hp).2.1, fun p hp => (e1 p hp).2.2, fun s v => .of_eq rfl, fun H a ns hl _ hT hS => ?_, fun base _ _ hB => ?_⟩
  · refine ⟨a, ns, rfl, hS, hl, fun P hP => ⟨#[], ?_, True.intro⟩, fun _ => rfl⟩
    have hP : P ∈ [pA_is_cover, pA_held] := hP
    simp only [List.mem_cons, List.not_mem_nil, or_false] at hP
    rcases hP with hP | hP
    · rw [hP]
      exact hT (cA_is_cover, pA_is_cover) (by simp)
    · rw [hP]
      exact hT (cA_held, pA_held) (by simp)
  · exact ok_law T { t_is_cover := ⟨(hB (cA_is_cover, pA_is_cover) (by simp)).code, (hB (cA_is_cover, pA_is_cover) (by simp)).bm, (hB (cA_is_cover, pA_is_cover) (by simp)).gP⟩, t_held := ⟨(hB (cA_held, pA_held) (by simp)).code, (hB (cA_held, pA_held) (by simp)).bm, (hB (cA_held, pA_held) (by simp)).gP⟩ } F_law
end Sp
open PySem PySem.W PyProof.Rows
set_option maxHeartbeats 0 in
theorem PySem.Challenge.cw_spanshelf_k06_whole_covers_of_three_holds : PySem.Challenge.rw_spanshelf_k06_whole_covers_of_three.Holds := by
  w_on; o_law; k_head; (case hw => w_witness2)
  k_fill
  refine Sp.walk_tabs (l := PySem.Challenge.rw_spanshelf_k06_whole_covers_of_three) (n := 63) (k := 10) (x := "_law_script") (CX := fun _ => L2.CX0) ["is_cover", "held"] rfl (by decide) rfl ⟨rfl, by decide, by decide⟩ (by first | rfl | decide +kernel) (fun w h Y => PySem.W.kIn_of Y) ?F (fun _ _ _ _ _ h => h)
  case F =>
    intro w mg fa h KX G hmg hR
    refine' Sp.all_mk KX G hmg ?a_is_whole ?l_is_whole ?c_is_whole ?k_is_whole ?a_is_place ?l_is_place ?c_is_place ?k_is_place ?a_is_span ?l_is_span ?c_is_span ?k_is_span ?a_check_span ?l_check_span ?c_check_span ?k_check_span ?a_check_spans ?l_check_spans ?c_check_spans ?k_check_spans ?a_is_cover ?l_is_cover ?c_is_cover ?k_is_cover ?y1_is_cover ?y2_is_cover ?y3_is_cover ?a_check_cover ?l_check_cover ?c_check_cover ?k_check_cover ?a_check_covers ?l_check_covers ?c_check_covers ?k_check_covers ?a_joined ?l_joined ?c_joined ?k_joined ?a_common ?l_common ?c_common ?k_common ?a_gaps_of ?l_gaps_of ?c_gaps_of ?k_gaps_of ?a_cover_of ?l_cover_of ?c_cover_of ?k_cover_of ?a_both ?l_both ?c_both ?k_both ?a_either ?l_either ?c_either ?k_either ?a_less ?l_less ?c_less ?k_less ?a_held ?l_held ?c_held ?k_held ?y1_held ?y2_held ?y3_held ?a_l_at ?l_l_at ?c_l_at ?k_l_at ?a_l_mixed ?l_l_mixed ?c_l_mixed ?k_l_mixed ?a_l_purse ?l_l_purse ?c_l_purse ?k_l_purse ?a_l_draw ?l_l_draw ?c_l_draw ?k_l_draw ?a_l_number ?l_l_number ?c_l_number ?k_l_number ?a_l_end ?l_l_end ?c_l_end ?k_l_end ?a_l_span ?l_l_span ?c_l_span ?k_l_span ?a_l_spans ?l_l_spans ?c_l_spans ?k_l_spans ?a_l_two_right ?l_l_two_right ?c_l_two_right ?k_l_two_right ?a_l_three_right ?l_l_three_right ?c_l_three_right ?k_l_three_right ?a_law ?l_law ?c_law ?k_law ?n_LEAST_PLACE ?n_GREATEST_PLACE ?n_MOST_SPANS ?a_ShelfError ?x_ShelfError ?k_ShelfError ?b_ShelfError ?t_ShelfError ?a_NoSpan ?x_NoSpan ?k_NoSpan ?b_NoSpan ?t_NoSpan ?a_NoCover ?x_NoCover ?k_NoCover ?b_NoCover ?t_NoCover ?z_all ?z_bool ?z_int ?z_isinstance ?z_len ?z_max ?z_min ?z_range ?z_sorted ?z_sum ?z_tuple ?z_zip hR
    (case a_is_whole => first | k_is | rfl)
    (case l_is_whole => first | k_is | rfl)
    (case c_is_whole => first | k_is | rfl)
    (case k_is_whole => first | k_is | rfl)
    (case a_is_place => first | k_is | rfl)
    (case l_is_place => first | k_is | rfl)
    (case c_is_place => first | k_is | rfl)
    (case k_is_place => first | k_is | rfl)
    (case a_is_span => first | k_is | rfl)
    (case l_is_span => first | k_is | rfl)
    (case c_is_span => first | k_is | rfl)
    (case k_is_span => first | k_is | rfl)
    (case a_check_span => first | k_is | rfl)
    (case l_check_span => first | k_is | rfl)
    (case c_check_span => first | k_is | rfl)
    (case k_check_span => first | k_is | rfl)
    (case a_check_spans => first | k_is | rfl)
    (case l_check_spans => first | k_is | rfl)
    (case c_check_spans => first | k_is | rfl)
    (case k_check_spans => first | k_is | rfl)
    (case a_is_cover => first | k_is | rfl)
    (case l_is_cover => first | k_is | rfl)
    (case c_is_cover => first | k_is | rfl)
    (case k_is_cover => first | k_is | rfl)
    (case y1_is_cover => first | k_is | rfl)
    (case y2_is_cover => rfl)
    (case y3_is_cover => first | k_is | kernel_rfl)
    (case a_check_cover => first | k_is | rfl)
    (case l_check_cover => first | k_is | rfl)
    (case c_check_cover => first | k_is | rfl)
    (case k_check_cover => first | k_is | rfl)
    (case a_check_covers => first | k_is | rfl)
    (case l_check_covers => first | k_is | rfl)
    (case c_check_covers => first | k_is | rfl)
    (case k_check_covers => first | k_is | rfl)
    (case a_joined => first | k_is | rfl)
    (case l_joined => first | k_is | rfl)
    (case c_joined => first | k_is | rfl)
    (case k_joined => first | k_is | rfl)
    (case a_common => first | k_is | rfl)
    (case l_common => first | k_is | rfl)
    (case c_common => first | k_is | rfl)
    (case k_common => first | k_is | rfl)
    (case a_gaps_of => first | k_is | rfl)
    (case l_gaps_of => first | k_is | rfl)
    (case c_gaps_of => first | k_is | rfl)
    (case k_gaps_of => first | k_is | rfl)
    (case a_cover_of => first | k_is | rfl)
    (case l_cover_of => first | k_is | rfl)
    (case c_cover_of => first | k_is | rfl)
    (case k_cover_of => first | k_is | rfl)
    (case a_both => first | k_is | rfl)
    (case l_both => first | k_is | rfl)
    (case c_both => first | k_is | rfl)
    (case k_both => first | k_is | rfl)
    (case a_either => first | k_is | rfl)
    (case l_either => first | k_is | rfl)
    (case c_either => first | k_is | rfl)
    (case k_either => first | k_is | rfl)
    (case a_less => first | k_is | rfl)
    (case l_less => first | k_is | rfl)
    (case c_less => first | k_is | rfl)
    (case k_less => first | k_is | rfl)
    (case a_held => first | k_is | rfl)
    (case l_held => first | k_is | rfl)
    (case c_held => first | k_is | rfl)
    (case k_held => first | k_is | rfl)
    (case y1_held => first | k_is | rfl)
    (case y2_held => rfl)
    (case y3_held => first | k_is | kernel_rfl)
    (case a_l_at => first | k_is | rfl)
    (case l_l_at => first | k_is | rfl)
    (case c_l_at => first | k_is | rfl)
    (case k_l_at => first | k_is | rfl)
    (case a_l_mixed => first | k_is | rfl)
    (case l_l_mixed => first | k_is | rfl)
    (case c_l_mixed => first | k_is | rfl)
    (case k_l_mixed => first | k_is | rfl)
    (case a_l_purse => first | k_is | rfl)
    (case l_l_purse => first | k_is | rfl)
    (case c_l_purse => first | k_is | rfl)
    (case k_l_purse => first | k_is | rfl)
    (case a_l_draw => first | k_is | rfl)
    (case l_l_draw => first | k_is | rfl)
    (case c_l_draw => first | k_is | rfl)
    (case k_l_draw => first | k_is | rfl)
    (case a_l_number => first | k_is | rfl)
    (case l_l_number => first | k_is | rfl)
    (case c_l_number => first | k_is | rfl)
    (case k_l_number => first | k_is | rfl)
    (case a_l_end => first | k_is | rfl)
    (case l_l_end => first | k_is | rfl)
    (case c_l_end => first | k_is | rfl)
    (case k_l_end => first | k_is | rfl)
    (case a_l_span => first | k_is | rfl)
    (case l_l_span => first | k_is | rfl)
    (case c_l_span => first | k_is | rfl)
    (case k_l_span => first | k_is | rfl)
    (case a_l_spans => first | k_is | rfl)
    (case l_l_spans => first | k_is | rfl)
    (case c_l_spans => first | k_is | rfl)
    (case k_l_spans => first | k_is | rfl)
    (case a_l_two_right => first | k_is | rfl)
    (case l_l_two_right => first | k_is | rfl)
    (case c_l_two_right => first | k_is | rfl)
    (case k_l_two_right => first | k_is | rfl)
    (case a_l_three_right => first | k_is | rfl)
    (case l_l_three_right => first | k_is | rfl)
    (case c_l_three_right => first | k_is | rfl)
    (case k_l_three_right => first | k_is | rfl)
    (case a_law => first | k_is | rfl)
    (case l_law => first | k_is | rfl)
    (case c_law => first | k_is | rfl)
    (case k_law => first | k_is | rfl)
    (case n_LEAST_PLACE => first | k_is | rfl)
    (case n_GREATEST_PLACE => first | k_is | rfl)
    (case n_MOST_SPANS => first | k_is | rfl)
    (case a_ShelfError => first | k_is | rfl)
    (case x_ShelfError => k_exc)
    (case k_ShelfError => first | k_is | rfl)
    (case b_ShelfError => first | k_is | rfl)
    (case t_ShelfError => first | k_is | rfl)
    (case a_NoSpan => first | k_is | rfl)
    (case x_NoSpan => k_exc)
    (case k_NoSpan => first | k_is | rfl)
    (case b_NoSpan => first | k_is | rfl)
    (case t_NoSpan => first | k_is | rfl)
    (case a_NoCover => first | k_is | rfl)
    (case x_NoCover => k_exc)
    (case k_NoCover => first | k_is | rfl)
    (case b_NoCover => first | k_is | rfl)
    (case t_NoCover => first | k_is | rfl)
    (case z_all => first | k_is | rfl)
    (case z_bool => first | k_is | rfl)
    (case z_int => first | k_is | rfl)
    (case z_isinstance => first | k_is | rfl)
    (case z_len => first | k_is | rfl)
    (case z_max => first | k_is | rfl)
    (case z_min => first | k_is | rfl)
    (case z_range => first | k_is | rfl)
    (case z_sorted => first | k_is | rfl)
    (case z_sum => first | k_is | rfl)
    (case z_tuple => first | k_is | rfl)
    (case z_zip => first | k_is | rfl)
